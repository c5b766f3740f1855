/- Layer 5: the walks of the reference's blank, digit, letter, name. -/
import Derived.Test.YtgpaeilnpeflaaaDoorP10
import Derived.Deep.QuietTactic
import Derived.BigQuiet
namespace Go.Proofs.YtgpaeilnpeflaaaDoor
open Go.RowKit

set_option maxHeartbeats 400000 in
theorem rblank_any (r : Int) (w : World) :
    Calls Tryd.prog 13 #[.int .u8 r] w fun e w' => e = .returned (.bool (blankR r)) ∧ w' = w := by
  go_enter Tryd.func13, Tryd.ntmps13
  go_wp2
  all_goals (go_ret; refine ⟨ret_bool ?_, rfl⟩; first | (subst_vars; rfl) | simp [blankR, Bool.or_assoc])
/-- Is there a digit at a place? -/
def dgB (s : ByteArray) (i : Nat) : Bool := decide (0 < dgLen ((bs s).drop i))
theorem dgB_at {s : ByteArray} {i : Nat} (h : i < s.size) : dgB s i = dig (s[i]'h) := by
  unfold dgB
  rw [bs_drop s i h, dg1]
  cases dig (s[i]'h) <;> simp
theorem dgB_end {s : ByteArray} {i : Nat} (h : ¬ i < s.size) : dgB s i = false := by
  unfold dgB
  rw [bs_end s i h]; rfl
set_option maxHeartbeats 1000000 in
theorem rdigit_any (s : ByteArray) (i : Nat) (w : World) :
    Calls Tryd.prog 25 #[.string s, .int .i64 i] w fun e w' => e = .returned (.bool (dgB s i)) ∧ w' = w := by
  by_cases h : i < s.size
  · have HD : Hid (dgB s i = dig (s[i]'h)) := dgB_at h
    have i1 : (i : Int) < s.size := by omega
    have i0 : (0 : Int) ≤ i := by omega
    go_enter Tryd.func25, Tryd.ntmps25
    go_wp2
    all_goals (go_ret; refine ⟨ret_bool ?_, rfl⟩; rw [HD.out, Bool.eq_iff_iff, dig_iff]; simp; omega)
  · have HD : Hid (dgB s i = false) := dgB_end h
    have i1 : ¬ (i : Int) < s.size := by omega
    go_enter Tryd.func25, Tryd.ntmps25
    go_wp2
    all_goals (go_ret; exact ⟨ret_bool HD.out.symm, rfl⟩)

theorem bs_piece (s : ByteArray) (i k : Nat) : bs (s.extract i (i + k)) = ((bs s).drop i).take k := by
  rw [bs_ext, List.drop_take, Nat.add_sub_cancel_left]
theorem name_one {t : ByteArray} {c : UInt8} (h : bs t = [c]) : nameB t = al c := by
  have hz : t.size = 1 := by rw [sz_bs, h]; rfl
  have h0 : 0 < t.size := by omega
  have hc : t[0]'h0 = c := by have := bs_drop t 0 h0; rw [List.drop_zero, h] at this; exact (List.cons.inj this).1.symm
  by_cases hl : c.toNat < 128
  · have hd := rune_low h0 (by rw [hc]; exact hl)
    rw [hc] at hd
    cases ha : al c
    · exact nameB_not h0 (by rw [hd, al_letter hl]; exact ha)
    · exact nameB_one h0 (by rw [hd, al_letter hl]; exact ha) (by rw [hd, hz])
  · rw [(al_high hl).1]
    exact nameB_not h0 (rune_no h0 (by rw [hc]; exact hl) (fun h1 => by omega)).1
theorem name_two {t : ByteArray} {c d : UInt8} (h : bs t = [c, d]) (ha : al c = false) : nameB t = gk c d := by
  have hz : t.size = 2 := by rw [sz_bs, h]; rfl
  have h0 : 0 < t.size := by omega
  have h1 : 0 + 1 < t.size := by omega
  have e := bs_drop t 0 h0
  rw [List.drop_zero, h] at e
  have hc : t[0]'h0 = c := (List.cons.inj e).1.symm
  have e1 := bs_drop t (0 + 1) h1
  rw [h] at e1
  have e2 : d :: [] = (t[0 + 1]'h1) :: _ := e1
  have hd : t[0 + 1]'h1 = d := (List.cons.inj e2).1.symm
  by_cases hl : c.toNat < 128
  · rw [gk_low hl]
    have hr := rune_low h0 (by rw [hc]; exact hl)
    rw [hc] at hr
    exact nameB_not h0 (by rw [hr, al_letter hl]; exact ha)
  · cases hg : gk c d
    · exact nameB_not h0 (rune_no h0 (by rw [hc]; exact hl) (fun _ => by rw [hc, hd]; exact hg)).1
    · have := rune_gk h0 h1 (by rw [hc, hd]; exact hg)
      exact nameB_one h0 this.2 (by rw [this.1, hz])

set_option maxRecDepth 100000 in
set_option maxHeartbeats 4000000 in
theorem rletterAt_any (s : ByteArray) (i : Nat) (w : World) (hs : s.size ≤ 20000) (hi : i ≤ s.size) :
    Calls Tryd.prog 21 #[.string s, .int .i64 i] w fun e w' => e = .returned (.int .i64 (lsz ((bs s).drop i) : Nat)) ∧ w' = w := by
  have i0 : (0 : Int) ≤ i := by omega
  have i1 : (i : Int) ≤ s.size := by omega
  have is : (s.size : Int) ≤ 20000 := by omega
  go_enter Tryd.func21, Tryd.ntmps21
  go_wp2
  go_loop [5] (fun kv => ∃ k : Nat, kv = .int .i64 k ∧ 1 ≤ k ∧ k ≤ 3 ∧ Hid ((2 ≤ k → ∀ c r, (bs s).drop i = c :: r → al c = false) ∧ (k = 3 → lsz ((bs s).drop i) = 0))) (fun kv => 3 - (intOf kv).toNat)
  case atStart => exact ⟨1, rfl, by omega, by omega, fun h => by omega, fun h => by omega⟩
  case round =>
    obtain ⟨k, rfl, k1, k3, HK⟩ := hrel
    have cs : k = 1 ∨ k = 2 ∨ k = 3 := by omega
    rcases cs with rfl | rfl | rfl
    · by_cases h : i < s.size
      · have n1 : (i : Int) + 1 ≤ s.size := by omega
        have HN : Hid (nameB (s.extract i (i + 1)) = al (s[i]'h)) := name_one (by rw [bs_piece, bs_drop s i h]; rfl)
        have HD := bs_drop s i h
        cases ha : al (s[i]'h)
        · have HL : Hid (∀ c r, (bs s).drop i = c :: r → al c = false) := fun c r e => by rw [HD] at e; rw [← (List.cons.inj e).1]; exact ha
          clear HD
          go_wp2_with (go_at_call 24; refine (rname_any _ _ (by simp; omega)).mono ?_; rintro e w' ⟨rfl, rfl⟩; rw [HN.out, ha])
          go_round
          case rel => exact ⟨2, rfl, by omega, by omega, fun _ => HL.out, fun h => by omega⟩
          case measure => simp [intOf]
        · have HL : Hid (lsz ((bs s).drop i) = 1) := by show lsz _ = 1; rw [HD]; unfold lsz; simp [ha]
          clear HD
          go_wp2_with (go_at_call 24; refine (rname_any _ _ (by simp; omega)).mono ?_; rintro e w' ⟨rfl, rfl⟩; rw [HN.out, ha])
          go_ret
          exact ⟨ret_int (by rw [HL.out]; rfl), rfl⟩
      · have n1 : ¬ (i : Int) + 1 ≤ s.size := by omega
        have HL : Hid (lsz ((bs s).drop i) = 0) := by show lsz _ = 0; rw [bs_end s i h]; rfl
        go_wp2
        go_ret
        exact ⟨ret_int (by rw [HL.out]; rfl), rfl⟩
    · by_cases h : i + 1 < s.size
      · have n1 : (i : Int) + 2 ≤ s.size := by omega
        have h' : i < s.size := by omega
        have HD := bs_drop s i h'
        have HD2 := bs_drop s (i + 1) h
        have ha : al (s[i]'h') = false := HK.out.1 (by omega) _ _ HD
        have HN : Hid (nameB (s.extract i (i + 2)) = gk (s[i]'h') (s[i + 1]'h)) := name_two (by rw [bs_piece, HD, HD2]; rfl) ha
        have HL : Hid (lsz ((bs s).drop i) = if gk (s[i]'h') (s[i + 1]'h) then 2 else 0) := by show lsz _ = _; rw [HD, HD2, lsz2, ha]; rfl
        clear HD HD2
        cases hg : gk (s[i]'h') (s[i + 1]'h)
        · go_wp2_with (go_at_call 24; refine (rname_any _ _ (by simp; omega)).mono ?_; rintro e w' ⟨rfl, rfl⟩; rw [HN.out, hg])
          go_round
          case rel => exact ⟨3, rfl, by omega, by omega, fun _ => HK.out.1 (by omega), fun _ => by rw [HL.out, hg]; rfl⟩
          case measure => simp [intOf]
        · go_wp2_with (go_at_call 24; refine (rname_any _ _ (by simp; omega)).mono ?_; rintro e w' ⟨rfl, rfl⟩; rw [HN.out, hg])
          go_ret
          exact ⟨ret_int (by rw [HL.out, hg]; rfl), rfl⟩
      · have n1 : ¬ (i : Int) + 2 ≤ s.size := by omega
        have HL : Hid (lsz ((bs s).drop i) = 0) := by
          show lsz _ = 0
          by_cases h' : i < s.size
          · have HD := bs_drop s i h'
            have ha := HK.out.1 (by omega) _ _ HD
            rw [HD, bs_end s (i + 1) h, lsz1, ha]; rfl
          · rw [bs_end s i h']; rfl
        go_wp2
        go_ret
        exact ⟨ret_int (by rw [HL.out]; rfl), rfl⟩
    · have HL : Hid (lsz ((bs s).drop i) = 0) := HK.out.2 rfl
      go_wp2
      go_ret
      exact ⟨ret_int (by rw [HL.out]; rfl), rfl⟩
theorem nm_stop {l : List UInt8} (h1 : lsz l = 0) (h2 : dgLen l = 0) : nmLen l = 0 := by
  match l with
  | [] => rfl
  | [c] =>
    rw [lsz1] at h1
    rw [dg1] at h2
    have ha : al c = false := by cases ha : al c; rfl; rw [ha] at h1; simp at h1
    have hd : dig c = false := by cases hd : dig c; rfl; rw [hd] at h2; simp at h2
    simp [nmLen, ha, hd]
  | c :: d :: r =>
    rw [lsz2] at h1
    rw [dg1] at h2
    have ha : al c = false := by cases ha : al c; rfl; rw [ha] at h1; simp at h1
    have hd : dig c = false := by cases hd : dig c; rfl; rw [hd] at h2; simp at h2
    have hg : gk c d = false := by cases hg : gk c d; rfl; rw [ha, hg] at h1; simp at h1
    rw [nm2, ha, hd, hg]; rfl
theorem nm_go {l : List UInt8} (h : 0 < lsz l ∨ 0 < dgLen l) : nmLen l = max (lsz l) 1 + nmLen (l.drop (max (lsz l) 1)) ∧ max (lsz l) 1 ≤ l.length := by
  match l with
  | [] => simp [lsz, dgLen] at h
  | [c] =>
    rw [lsz1, dg1] at h
    rw [lsz1]
    have hc : (al c || dig c) = true := by
      cases ha : al c
      · cases hd : dig c
        · rw [ha, hd] at h; simp at h
        · rfl
      · rfl
    have hm : max (if al c = true then 1 else 0) 1 = 1 := by split <;> rfl
    rw [hm]
    simp [nmLen, hc]
  | c :: d :: r =>
    rw [lsz2, dg1] at h
    rw [lsz2]
    cases ha : al c
    · cases hd : dig c
      · cases hg : gk c d
        · rw [ha, hd, hg] at h; simp at h
        · rw [nm2, ha, hd, hg]
          simp
          omega
      · have hg : gk c d = false := (dig_low hd).2 d
        rw [nm2, ha, hd, hg]
        simp
        omega
    · rw [nm2, ha]
      simp
      omega

set_option maxRecDepth 100000 in
set_option maxHeartbeats 4000000 in
theorem rnameEnd_any (s : ByteArray) (i : Nat) (w : World) (hs : s.size ≤ 20000) (hi : i ≤ s.size) :
    Calls Tryd.prog 22 #[.string s, .int .i64 i] w fun e w' => e = .returned (.int .i64 (i + nmLen ((bs s).drop i) : Nat)) ∧ w' = w := by
  go_enter Tryd.func22, Tryd.ntmps22
  go_wp2
  go_loop [1, 5] (fun pv _ => ∃ p : Nat, pv = .int .i64 p ∧ p ≤ s.size ∧ Hid (i + nmLen ((bs s).drop i) = p + nmLen ((bs s).drop p))) (fun pv _ => s.size - (intOf pv).toNat)
  case atStart => exact ⟨i, rfl, hi, rfl⟩
  case round =>
    obtain ⟨p, rfl, hp, HP⟩ := hrel
    by_cases h : p < s.size
    · have p1 : (p : Int) < s.size := by omega
      have HL := rletterAt_any s p w hs hp
      have HG := rdigit_any s p w
      unfold dgB at HG
      by_cases hz : lsz ((bs s).drop p) = 0
      · by_cases hd : dgLen ((bs s).drop p) = 0
        · have HE : Hid (i + nmLen ((bs s).drop i) = p) := HP.out.trans (by rw [nm_stop hz hd]; rfl)
          rw [hz] at HL
          rw [show decide (0 < dgLen ((bs s).drop p)) = false by simp [hd]] at HG
          clear HP
          go_wp2_with (first
            | (go_at_call 21; refine HL.mono ?_; rintro e w' ⟨rfl, rfl⟩)
            | (go_at_call 25; refine HG.mono ?_; rintro e w' ⟨rfl, rfl⟩))
          go_ret
          exact ⟨ret_int (by have := HE.out; omega), rfl⟩
        · have hgo := nm_go (l := (bs s).drop p) (Or.inr (by omega))
          rw [hz, show max 0 1 = 1 from rfl, List.drop_drop, List.length_drop, bs_len] at hgo
          have HE : Hid (i + nmLen ((bs s).drop i) = (p + 1) + nmLen ((bs s).drop (p + 1)) ∧ p + 1 ≤ s.size) := ⟨HP.out.trans (by omega), by omega⟩
          rw [hz] at HL
          rw [show decide (0 < dgLen ((bs s).drop p)) = true by simp; omega] at HG
          clear HP hgo
          go_wp2_with (first
            | (go_at_call 21; refine HL.mono ?_; rintro e w' ⟨rfl, rfl⟩)
            | (go_at_call 25; refine HG.mono ?_; rintro e w' ⟨rfl, rfl⟩))
          go_round
          case rel => exact ⟨p + 1, by go_num, HE.out.2, HE.out.1⟩
          case measure => simp [intOf]; omega
      · have hgo := nm_go (l := (bs s).drop p) (Or.inl (by omega))
        rw [List.drop_drop, List.length_drop, bs_len, show max (lsz ((bs s).drop p)) 1 = lsz ((bs s).drop p) by omega] at hgo
        have kz : ((lsz ((bs s).drop p) : Int) == 0) = false := by rw [beq_eq_false_iff_ne]; omega
        have HE : Hid (i + nmLen ((bs s).drop i) = (p + lsz ((bs s).drop p)) + nmLen ((bs s).drop (p + lsz ((bs s).drop p))) ∧ p + lsz ((bs s).drop p) ≤ s.size) := ⟨HP.out.trans (by omega), by omega⟩
        clear HP hgo HG
        generalize lsz ((bs s).drop p) = k at HL kz HE hz
        have k1 : (1 : Int) ≤ k := by omega
        have km : max (k : Int) 1 = k := by omega
        have pk : (p : Int) + k ≤ 20000 := by have := HE.out.2; omega
        go_wp2_with (go_at_call 21; refine HL.mono ?_; rintro e w' ⟨rfl, rfl⟩)
        go_round
        case rel => exact ⟨p + k, by go_num, HE.out.2, HE.out.1⟩
        case measure => simp [intOf]; omega
    · have e : p = s.size := by omega
      subst e
      have p1 : ¬ (s.size : Int) < s.size := by omega
      have HE : Hid (i + nmLen ((bs s).drop i) = s.size) := HP.out.trans (by rw [bs_end s s.size (by omega)]; rfl)
      go_wp2
      go_ret
      exact ⟨ret_int (by have := HE.out; omega), rfl⟩
end Go.Proofs.YtgpaeilnpeflaaaDoor

/- Layer 5: the walks of the reference's sign, number. -/
namespace Go.Proofs.YtgpaeilnpeflaaaDoor
open Go.RowKit

theorem piece_two {s : ByteArray} {i : Nat} (h : i + 1 < s.size) (a b : UInt8) : ((s.extract i (i + 2)).toList == [a, b]) = ((s[i]'(by omega)) == a && (s[i + 1]'h) == b) := by
  rw [toList_bs, bs_piece, bs_drop s i (by omega), bs_drop s (i + 1) h]
  show ([_, _] == [a, b]) = _
  rw [Bool.eq_iff_iff]
  simp
theorem lg_is (c d : UInt8) : lg c d = ((c == 61 && d == 61) || ((c == 61 && d == 62) || ((c == 45 && d == 62) || (c == 58 && d == 61)))) := by
  have e : ∀ (x : UInt8) (n : UInt8), (x.toNat == n.toNat) = (x == n) := fun x n => by
    rw [Bool.eq_iff_iff, beq_iff_eq, beq_iff_eq]; exact UInt8.toNat_inj
  unfold lg
  rw [← e c 61, ← e c 45, ← e c 58, ← e d 61, ← e d 62]
  rfl
/-- The first k signs don't have c. -/
theorem sg_from (c : UInt8) : sg c = decide (∃ k, k < 19 ∧ sgs[k]? = some c) := by
  rw [Bool.eq_iff_iff, decide_eq_true_eq]
  unfold sg
  rw [List.contains_iff_mem, List.mem_iff_getElem?]
  constructor
  · rintro ⟨k, hk⟩
    exact ⟨k, (List.getElem?_eq_some_iff.1 hk).1, hk⟩
  · rintro ⟨k, _, hk⟩; exact ⟨k, hk⟩

set_option maxRecDepth 100000 in
set_option maxHeartbeats 4000000 in
theorem rsign_any (s : ByteArray) (i : Nat) (w : World) (hs : s.size ≤ 20000) (hi : i < s.size) :
    Calls Tryd.prog 27 #[.string s, .int .i64 i] w fun e w' => e = .returned (.int .i64 (sgLen ((bs s).drop i) : Nat)) ∧ Below w.heap.size w w' := by
  have i0 : (0 : Int) ≤ i := by omega
  have i1 : (i : Int) < s.size := by omega
  have is : (s.size : Int) ≤ 20000 := by omega
  have HD := bs_drop s i hi
  by_cases h2 : i + 1 < s.size
  · have n1 : (i : Int) + 2 ≤ s.size := by omega
    have HL : Hid (sgLen ((bs s).drop i) = if lg (s[i]'hi) (s[i + 1]'h2) then 2 else if sg (s[i]'hi) then 1 else 0) := by show sgLen _ = _; rw [HD, bs_drop s (i + 1) h2, sg2]
    have p1 := piece_two h2 61 61
    have p2 := piece_two h2 61 62
    have p3 := piece_two h2 45 62
    have p4 := piece_two h2 58 61
    have hl := lg_is (s[i]'hi) (s[i + 1]'h2)
    generalize ((s[i]'hi) == 61 && (s[i + 1]'h2) == 61) = b1 at p1 hl
    generalize ((s[i]'hi) == 61 && (s[i + 1]'h2) == 62) = b2 at p2 hl
    generalize ((s[i]'hi) == 45 && (s[i + 1]'h2) == 62) = b3 at p3 hl
    generalize ((s[i]'hi) == 58 && (s[i + 1]'h2) == 61) = b4 at p4 hl
    clear HD
    cases hb : (b1 || (b2 || (b3 || b4)))
    · simp only [Bool.or_eq_false_iff] at hb
      obtain ⟨rfl, rfl, rfl, rfl⟩ := hb
      have HS : Hid (sgLen ((bs s).drop i) = if sg (s[i]'hi) then 1 else 0) := HL.out.trans (by rw [hl]; rfl)
      clear HL hl
      go_enter Tryd.func27, Tryd.ntmps27
      go_wp2
      go_loopw [7] (fun kv wr => ∃ k : Nat, kv = .int .i64 k ∧ k ≤ 19 ∧ Hid (∀ j, j < k → sgs[j]? ≠ some (s[i]'hi)) ∧ Hid (Below w.heap.size w wr)) (fun kv _ => 19 - (intOf kv).toNat)
      case atStart => exact ⟨0, rfl, by omega, fun j h => absurd h (Nat.not_lt_zero _), Below.refl _ _⟩
      case round =>
        obtain ⟨k, rfl, hk, HQ, HB⟩ := hrel
        by_cases hlt : k < 19
        · have k0 : (0 : Int) ≤ k := by omega
          have k1 : (k : Int) < 19 := by omega
          have hkl : k < (⟨#[40, 41, 91, 93, 123, 125, 60, 62, 44, 59, 58, 64, 33, 61, 43, 45, 42, 47, 37]⟩ : ByteArray).size := hlt
          have hgk : sgs[k]? = some ((⟨#[40, 41, 91, 93, 123, 125, 60, 62, 44, 59, 58, 64, 33, 61, 43, 45, 42, 47, 37]⟩ : ByteArray)[k]'hkl) := by
            have : sgs = bs (⟨#[40, 41, 91, 93, 123, 125, 60, 62, 44, 59, 58, 64, 33, 61, 43, 45, 42, 47, 37]⟩ : ByteArray) := rfl
            rw [this, List.getElem?_eq_getElem (by rw [bs_len]; exact hkl), bs_get]
          by_cases he : ((⟨#[40, 41, 91, 93, 123, 125, 60, 62, 44, 59, 58, 64, 33, 61, 43, 45, 42, 47, 37]⟩ : ByteArray)[k]'hkl) = s[i]'hi
          · have q : ((((⟨#[40, 41, 91, 93, 123, 125, 60, 62, 44, 59, 58, 64, 33, 61, 43, 45, 42, 47, 37]⟩ : ByteArray)[k]'hkl).toNat : Int) == ((s[i]'hi).toNat : Int)) = true := by rw [he]; simp
            have HG : Hid (sgLen ((bs s).drop i) = 1) := HS.out.trans (by rw [sg_from, decide_eq_true ⟨k, hlt, by rw [hgk, he]⟩]; rfl)
            clear hgk he
            go_wp2_with fail
            go_quiet (fail)
            go_wp2
            go_ret
            exact ⟨ret_int (by rw [HG.out]; rfl), below_drewN HB.out _⟩
          · have q : ((((⟨#[40, 41, 91, 93, 123, 125, 60, 62, 44, 59, 58, 64, 33, 61, 43, 45, 42, 47, 37]⟩ : ByteArray)[k]'hkl).toNat : Int) == ((s[i]'hi).toNat : Int)) = false := by
              rw [beq_eq_false_iff_ne]; intro h; exact he (UInt8.toNat_inj.1 (by omega))
            have HN : Hid (∀ j, j < k + 1 → sgs[j]? ≠ some (s[i]'hi)) := fun j hj => by
              by_cases e : j = k
              · subst e; rw [hgk]; intro h; exact he (Option.some.inj h)
              · exact HQ.out j (by omega)
            clear hgk he
            go_wp2_with fail
            go_quiet (fail)
            go_wp2
            go_roundw
            case rel => exact ⟨k + 1, by go_num, by omega, HN.out, below_drewN HB.out _⟩
            case measure => simp [intOf]; omega
        · have e : k = 19 := by omega
          subst e
          have HG : Hid (sgLen ((bs s).drop i) = 0) := HS.out.trans (by
            rw [sg_from, decide_eq_false (fun ⟨j, hj, h⟩ => HQ.out j hj h)]; rfl)
          go_wp2
          go_ret
          exact ⟨ret_int (by rw [HG.out]; rfl), HB.out⟩
    · have HS : Hid (sgLen ((bs s).drop i) = 2) := HL.out.trans (by rw [hl, hb]; rfl)
      clear HL hl
      go_enter Tryd.func27, Tryd.ntmps27
      cases b1 <;> cases b2 <;> cases b3 <;> cases b4
      all_goals first
        | (cases hb; done)
        | (go_wp2; go_ret; exact ⟨ret_int (by rw [HS.out]; rfl), Below.refl _ _⟩)
  · have n1 : ¬ (i : Int) + 2 ≤ s.size := by omega
    have HS : Hid (sgLen ((bs s).drop i) = if sg (s[i]'hi) then 1 else 0) := by show sgLen _ = _; rw [HD, bs_end s (i + 1) h2, sg1]
    clear HD
    go_enter Tryd.func27, Tryd.ntmps27
    go_wp2
    go_loopw [7] (fun kv wr => ∃ k : Nat, kv = .int .i64 k ∧ k ≤ 19 ∧ Hid (∀ j, j < k → sgs[j]? ≠ some (s[i]'hi)) ∧ Hid (Below w.heap.size w wr)) (fun kv _ => 19 - (intOf kv).toNat)
    case atStart => exact ⟨0, rfl, by omega, fun j h => absurd h (Nat.not_lt_zero _), Below.refl _ _⟩
    case round =>
      obtain ⟨k, rfl, hk, HQ, HB⟩ := hrel
      by_cases hlt : k < 19
      · have k0 : (0 : Int) ≤ k := by omega
        have k1 : (k : Int) < 19 := by omega
        have hkl : k < (⟨#[40, 41, 91, 93, 123, 125, 60, 62, 44, 59, 58, 64, 33, 61, 43, 45, 42, 47, 37]⟩ : ByteArray).size := hlt
        have hgk : sgs[k]? = some ((⟨#[40, 41, 91, 93, 123, 125, 60, 62, 44, 59, 58, 64, 33, 61, 43, 45, 42, 47, 37]⟩ : ByteArray)[k]'hkl) := by
          have : sgs = bs (⟨#[40, 41, 91, 93, 123, 125, 60, 62, 44, 59, 58, 64, 33, 61, 43, 45, 42, 47, 37]⟩ : ByteArray) := rfl
          rw [this, List.getElem?_eq_getElem (by rw [bs_len]; exact hkl), bs_get]
        by_cases he : ((⟨#[40, 41, 91, 93, 123, 125, 60, 62, 44, 59, 58, 64, 33, 61, 43, 45, 42, 47, 37]⟩ : ByteArray)[k]'hkl) = s[i]'hi
        · have q : ((((⟨#[40, 41, 91, 93, 123, 125, 60, 62, 44, 59, 58, 64, 33, 61, 43, 45, 42, 47, 37]⟩ : ByteArray)[k]'hkl).toNat : Int) == ((s[i]'hi).toNat : Int)) = true := by rw [he]; simp
          have HG : Hid (sgLen ((bs s).drop i) = 1) := HS.out.trans (by rw [sg_from, decide_eq_true ⟨k, hlt, by rw [hgk, he]⟩]; rfl)
          clear hgk he
          go_wp2_with fail
          go_quiet (fail)
          go_wp2
          go_ret
          exact ⟨ret_int (by rw [HG.out]; rfl), below_drewN HB.out _⟩
        · have q : ((((⟨#[40, 41, 91, 93, 123, 125, 60, 62, 44, 59, 58, 64, 33, 61, 43, 45, 42, 47, 37]⟩ : ByteArray)[k]'hkl).toNat : Int) == ((s[i]'hi).toNat : Int)) = false := by
            rw [beq_eq_false_iff_ne]; intro h; exact he (UInt8.toNat_inj.1 (by omega))
          have HN : Hid (∀ j, j < k + 1 → sgs[j]? ≠ some (s[i]'hi)) := fun j hj => by
            by_cases e : j = k
            · subst e; rw [hgk]; intro h; exact he (Option.some.inj h)
            · exact HQ.out j (by omega)
          clear hgk he
          go_wp2_with fail
          go_quiet (fail)
          go_wp2
          go_roundw
          case rel => exact ⟨k + 1, by go_num, by omega, HN.out, below_drewN HB.out _⟩
          case measure => simp [intOf]; omega
      · have e : k = 19 := by omega
        subst e
        have HG : Hid (sgLen ((bs s).drop i) = 0) := HS.out.trans (by
          rw [sg_from, decide_eq_false (fun ⟨j, hj, h⟩ => HQ.out j hj h)]; rfl)
        go_wp2
        go_ret
        exact ⟨ret_int (by rw [HG.out]; rfl), HB.out⟩
end Go.Proofs.YtgpaeilnpeflaaaDoor

/- Layer 5: the walk of the reference's number. -/
namespace Go.Proofs.YtgpaeilnpeflaaaDoor
open Go.RowKit

theorem numF_cons (a : Nat) (c : UInt8) (r : List UInt8) : numF a (c :: r) = numF (10 * a + (c.toNat - 48)) r := by conv => lhs; unfold numF
theorem dg_all {s : ByteArray} (hd : dgLen (bs s) = s.size) : ∀ k (h : k < s.size), 48 ≤ (s[k]'h).toNat ∧ (s[k]'h).toNat ≤ 57 := by
  intro k h
  have key : ∀ (l : List UInt8) (k : Nat) (hk : k < l.length), dgLen l = l.length → dig l[k] = true := by
    intro l
    induction l with
    | nil => intro k hk; exact absurd hk (Nat.not_lt_zero _)
    | cons c r ih =>
      intro k hk e
      rw [dg1] at e
      split at e
      · rename_i hc
        cases k with
        | zero => exact hc
        | succ k => exact ih k (by simpa using hk) (by simp only [List.length_cons] at e; omega)
      · simp at e
  have := key (bs s) k (by rw [bs_len]; exact h) (by rw [bs_len]; exact hd)
  rw [bs_get s k h] at this
  exact (dig_iff _).1 this

/-- What number answers. -/
def RNum (s : ByteArray) (e : Ending) : Prop := ∃ n ok, e = .returned (.tuple #[.int .i64 n, .bool ok]) ∧ (ok = true ↔ numV (bs s) ≤ 9223372036854775807 ∧ (s.size = 1 ∨ (bs s).head? ≠ some 48)) ∧ (ok = true → n = (numV (bs s) : Nat))
theorem RNum.no {s : ByteArray} (n : Int) (h : ¬ (numV (bs s) ≤ 9223372036854775807 ∧ (s.size = 1 ∨ (bs s).head? ≠ some 48))) : RNum s (.returned (.tuple #[.int .i64 n, .bool false])) :=
  ⟨n, false, rfl, ⟨fun h => (by cases h), fun h' => absurd h' h⟩, fun h => (by cases h)⟩
theorem RNum.yes {s : ByteArray} {n : Int} (hn : n = (numV (bs s) : Nat)) (h : numV (bs s) ≤ 9223372036854775807 ∧ (s.size = 1 ∨ (bs s).head? ≠ some 48)) : RNum s (.returned (.tuple #[.int .i64 n, .bool true])) :=
  ⟨n, true, rfl, ⟨fun _ => h, fun _ => rfl⟩, fun _ => hn⟩

set_option maxRecDepth 100000 in
set_option maxHeartbeats 4000000 in
theorem rnumber_any (s : ByteArray) (w : World) (h0 : 0 < s.size) (hs : s.size ≤ 20000) (hd : dgLen (bs s) = s.size) :
    Calls Tryd.prog 26 #[.string s] w fun e w' => RNum s e ∧ Below w.heap.size w w' := by
  have HA : Hid (∀ k (h : k < s.size), 48 ≤ (s[k]'h).toNat ∧ (s[k]'h).toNat ≤ 57) := dg_all hd
  have is : (s.size : Int) ≤ 20000 := by omega
  have hh : (bs s).head? = some (s[0]'h0) := by
    have := bs_drop s 0 h0
    rw [List.drop_zero] at this; rw [this]; rfl
  have HH : Hid ((bs s).head? = some (s[0]'h0)) := hh
  clear hd hh
  go_enter Tryd.func26, Tryd.ntmps26
  go_wp2
  go_loop [4, 5, 6] (fun nv iv _ => ∃ (k : Nat) (a : Int), nv = .int .i64 a ∧ iv = .int .i64 k ∧ k ≤ s.size ∧ Hid (0 ≤ a ∧ a ≤ 9223372036854775807 ∧ numV (bs s) = numF a.toNat ((bs s).drop k))) (fun _ iv _ => s.size - (intOf iv).toNat)
  case atStart => exact ⟨0, 0, rfl, rfl, by omega, by omega, by omega, rfl⟩
  case round =>
    obtain ⟨k, a, rfl, rfl, hk, HN⟩ := hrel
    by_cases hlt : k < s.size
    · have k0 : (0 : Int) ≤ k := by omega
      have k1 : (k : Int) < s.size := by omega
      obtain ⟨d0, d1⟩ := HA.out k hlt
      have HS : Hid (numV (bs s) = numF (10 * a.toNat + ((s[k]'hlt).toNat - 48)) ((bs s).drop (k + 1))) := HN.out.2.2.trans ((congrArg (numF a.toNat) (bs_drop s k hlt)).trans (numF_cons _ _ _))
      obtain ⟨ci, hci⟩ : ∃ ci : Int, ((s[k]'hlt).toNat : Int) = ci := ⟨_, rfl⟩
      have c0 : (48 : Int) ≤ ci := by omega
      have c1 : ci ≤ 57 := by omega
      obtain ⟨a0, a1, _⟩ := HN.out
      by_cases hbig : 922337203685477580 < a ∨ (a = 922337203685477580 ∧ 7 < ci - 48)
      · have HF : Hid (¬ numV (bs s) ≤ 9223372036854775807) := fun h => by
          have := numF_le ((bs s).drop (k + 1)) (10 * a.toNat + ((s[k]'hlt).toNat - 48))
          rw [← HS.out] at this
          rcases hbig with hbig | hbig <;> omega
        have HB : Hid (RNum s (.returned (.tuple #[.int .i64 0, .bool false]))) := RNum.no 0 (fun h => HF.out h.1)
        clear HS HF HN
        rcases hbig with g1 | ⟨g1, g2⟩
        · go_wp2
          refine bodyPost_ret (v := .tuple #[.int .i64 0, .bool false]) (by simp [results, Tryd.results26, go_sem]) rfl ⟨HB.out, Below.refl _ _⟩
        · have g3 : ¬ 922337203685477580 < a := by omega
          go_wp2
          refine bodyPost_ret (v := .tuple #[.int .i64 0, .bool false]) (by simp [results, Tryd.results26, go_sem]) rfl ⟨HB.out, Below.refl _ _⟩
      · have g1 : a ≤ 922337203685477580 := by omega
        have g3 : ¬ 922337203685477580 < a := by omega
        have HC : Hid (0 ≤ 10 * a + (ci - 48) ∧ 10 * a + (ci - 48) ≤ 9223372036854775807 ∧ numV (bs s) = numF (10 * a + (ci - 48)).toNat ((bs s).drop (k + 1))) := ⟨by omega, by omega, by rw [HS.out]; congr 1; omega⟩
        have r1 : 10 * a + (ci - 48) ≤ 9223372036854775807 := HC.out.2.1
        have r2 : 10 * a ≤ 9223372036854775800 := by omega
        have g4 : a = 922337203685477580 → ci - 48 ≤ 7 := fun h => by omega
        clear HS HN hbig
        by_cases g5 : a = 922337203685477580
        · have g6 := g4 g5
          go_wp2
          go_round
          case rel => exact ⟨k + 1, _, rfl, by go_num, by omega, by rw [show (9223372036854775800 : Int) + (ci - 48) = 10 * a + (ci - 48) by omega]; exact HC.out⟩
          case measure => simp [intOf]; omega
        · go_wp2
          go_round
          case rel => exact ⟨k + 1, _, rfl, by go_num, by omega, HC.out⟩
          case measure => simp [intOf]; omega
    · have e : k = s.size := by omega
      subst e
      have k1 : ¬ (s.size : Int) < s.size := by omega
      have HV : Hid (a = (numV (bs s) : Nat) ∧ numV (bs s) ≤ 9223372036854775807) := by
        obtain ⟨a0, a1, hn⟩ := HN.out
        rw [bs_end s s.size (by omega)] at hn
        have : numV (bs s) = a.toNat := hn
        exact ⟨by omega, by omega⟩
      clear HN
      by_cases s1 : s.size = 1
      · have q1 : ((s.size : Int) == 1) = true := by rw [beq_iff_eq]; omega
        have HY : Hid (RNum s (.returned (.tuple #[.int .i64 a, .bool true]))) := RNum.yes HV.out.1 ⟨HV.out.2, Or.inl s1⟩
        clear HV s1
        go_wp2_with fail
        go_quiet (fail)
        go_wp2
        refine bodyPost_ret (v := .tuple #[.int .i64 a, .bool true]) (by simp [results, Tryd.results26, go_sem]) rfl ⟨HY.out, below_drewN (Below.refl _ _) _⟩
      · have q1 : ((s.size : Int) == 1) = false := by rw [beq_eq_false_iff_ne]; omega
        by_cases h48 : (s[0]'h0).toNat = 48
        · have q2 : (((s[0]'h0).toNat : Int) != 48) = false := by rw [bne_eq_false_iff_eq]; omega
          have HY : Hid (RNum s (.returned (.tuple #[.int .i64 a, .bool false]))) := RNum.no a (fun h => by
            rcases h.2 with h | h
            · exact s1 h
            · exact h (by rw [HH.out]; congr 1; exact UInt8.toNat_inj.1 h48))
          clear HV s1 h48
          go_wp2_with fail
          go_quiet (fail)
          go_wp2
          refine bodyPost_ret (v := .tuple #[.int .i64 a, .bool false]) (by simp [results, Tryd.results26, go_sem]) rfl ⟨HY.out, below_drewN (Below.refl _ _) _⟩
        · have q2 : (((s[0]'h0).toNat : Int) != 48) = true := by rw [bne_iff_ne]; omega
          have HY : Hid (RNum s (.returned (.tuple #[.int .i64 a, .bool true]))) := RNum.yes HV.out.1 ⟨HV.out.2, Or.inr (fun h => by rw [HH.out] at h; exact h48 (by rw [Option.some.inj h]; rfl))⟩
          clear HV s1 h48
          go_wp2_with fail
          go_quiet (fail)
          go_wp2
          refine bodyPost_ret (v := .tuple #[.int .i64 a, .bool true]) (by simp [results, Tryd.results26, go_sem]) rfl ⟨HY.out, below_drewN (Below.refl _ _) _⟩
end Go.Proofs.YtgpaeilnpeflaaaDoor
