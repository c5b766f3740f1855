/- The walk of the reference's Name: it tells just what the program's Name tells. -/
import Derived.Test.YtbdhbgilaeldgaaGreatP1
import Derived.Test.YtbdhbgilaeldgaaGreatP3
namespace Go.Proofs.YtbdhbgilaeldgaaGreat
open Go.RowKit

set_option maxHeartbeats 400000 in
theorem rletter_any (r : Int) (w : World) :
    Calls Tryz.prog 111 #[.int .i32 r] w fun e w' => e = .returned (.bool (letterB r)) ∧ w' = w := by
  go_enter Tryz.func111, Tryz.ntmps111
  go_wp2
  all_goals (go_ret; exact ⟨ret_bool (by unfold letterB; rw [Bool.eq_iff_iff]; simp; omega), rfl⟩)

theorem rletter_is (r : Int) (b : Bool) (h : letterB r = b) (w : World) :
    Calls Tryz.prog 111 #[.int .i32 r] w fun e w' => e = .returned (.bool b) ∧ w' = w := by
  subst h; exact rletter_any r w
theorem digit_no {r : Int} (h : r < 48 ∨ 57 < r) : digitB r = false := by
  unfold digitB; rw [Bool.and_eq_false_iff, decide_eq_false_iff_not, decide_eq_false_iff_not]; omega
theorem letter_hi {r : Int} (h : 128 ≤ r) (h2 : r < 945) : letterB r = false := by
  unfold letterB
  simp only [Bool.or_eq_false_iff, Bool.and_eq_false_iff, decide_eq_false_iff_not]
  omega

theorem letter_gr {r : Int} (h : 945 ≤ r) (h2 : r ≤ 969) : letterB r = true := by
  unfold letterB
  simp only [Bool.or_eq_true, Bool.and_eq_true, decide_eq_true_eq]
  omega

theorem get_plain (s : ByteArray) (i : Nat) (h : i < s.size) : s.get! i = s[i]'h := get_at s i h

/-- The rest of a name, k runes being read. -/
def restB (s : ByteArray) (i k : Nat) : Bool := if k ≤ 16 then nameFrom s (17 - k) i k else false

theorem rest_bad {s : ByteArray} {i k : Nat} (hi : i < s.size) (h : badRune k (Utf8.decode s i).1 = true) : restB s i k = false := by
  unfold restB
  split
  · exact nameFrom_bad (by assumption) hi h
  · rfl
theorem rest_good {s : ByteArray} {i k : Nat} (hi : i < s.size) (h : letterB (Utf8.decode s i).1 = true ∨ (k ≠ 0 ∧ digitB (Utf8.decode s i).1 = true)) : restB s i k = restB s (i + (Utf8.decode s i).2) (k + 1) := by
  by_cases h16 : k < 16
  · have hb : badRune k (Utf8.decode s i).1 = false := by
      unfold badRune
      rw [beq_eq_false_iff_ne.2 (show k ≠ 16 by omega)]
      rcases h with h | ⟨hk, h⟩
      · rw [h]; rfl
      · rw [h, beq_eq_false_iff_ne.2 hk]; simp
    unfold restB
    rw [if_pos (by omega), if_pos (by omega)]
    exact nameFrom_good (by omega) hi hb
  · have e1 : restB s i k = false := by
      by_cases e : k = 16
      · subst e; exact rest_bad hi (by simp [badRune])
      · unfold restB; rw [if_neg (by omega)]
    have e2 : restB s (i + (Utf8.decode s i).2) (k + 1) = false := by unfold restB; rw [if_neg (by omega)]
    rw [e1, e2]
theorem rest_end {s : ByteArray} {i k : Nat} (hi : ¬ i < s.size) : restB s i k = (decide (1 ≤ k) && decide (k ≤ 16)) := by
  unfold restB
  by_cases h : k ≤ 16
  · rw [if_pos h, nameFrom_end h hi]; simp [h]; rfl
  · rw [if_neg h]; simp [h]

theorem bad_of {k : Nat} {r : Int} (h1 : letterB r = false) (h2 : k = 0 ∨ digitB r = false) : badRune k r = true := by
  unfold badRune
  rcases h2 with rfl | h2
  · simp [h1]
  · simp [h1, h2]

theorem decode_ge {s : ByteArray} {i : Nat} (hi : i < s.size) (hb : 128 ≤ (s[i]'hi).toNat) (h : ¬ (∃ h1 : i + 1 < s.size, ((s[i]'hi).toNat = 206 ∧ 177 ≤ (s[i + 1]'h1).toNat ∧ (s[i + 1]'h1).toNat ≤ 191) ∨ ((s[i]'hi).toNat = 207 ∧ 128 ≤ (s[i + 1]'h1).toNat ∧ (s[i + 1]'h1).toNat ≤ 137))) :
    letterB (Utf8.decode s i).1 = false ∧ digitB (Utf8.decode s i).1 = false := by
  have hr := (decode_high s i hi hb).1
  have hd : digitB ((Utf8.decode s i).1 : Nat) = false := by unfold digitB; rw [Bool.and_eq_false_iff, decide_eq_false_iff_not, decide_eq_false_iff_not]; omega
  refine ⟨?_, hd⟩
  have key : ¬ (945 ≤ (Utf8.decode s i).1 ∧ (Utf8.decode s i).1 ≤ 969) := by
    intro hc
    have e0 : (s.get! (i + 0)).toNat = (s[i]'hi).toNat := by rw [get_at s i hi]
    simp only [Utf8.decode, e0] at hc
    rw [if_neg (by omega)] at hc
    split at hc
    · rename_i hcond
      simp only [Bool.and_eq_true, decide_eq_true_eq, beq_iff_eq] at hcond
      obtain ⟨q1, q2, q3⟩ := hcond
      have e1 : (s.get! (i + 1)).toNat = (s[i + 1]'q2).toNat := by rw [get_plain s (i + 1) q2]
      rw [e1] at q3 hc
      split at hc
      · refine h ⟨q2, ?_⟩
        have := hc
        simp only at this
        omega
      · simp [Utf8.runeError] at hc
    · split at hc
      · split at hc
        · rename_i hcond
          simp only [Bool.and_eq_true, decide_eq_true_eq] at hcond
          simp only at hc
          omega
        · simp [Utf8.runeError] at hc
      · split at hc
        · split at hc
          · rename_i hcond
            simp only [Bool.and_eq_true, decide_eq_true_eq] at hcond
            simp only at hc
            omega
          · simp [Utf8.runeError] at hc
        · simp [Utf8.runeError] at hc
  unfold letterB
  simp only [Bool.or_eq_false_iff, Bool.and_eq_false_iff, decide_eq_false_iff_not]
  omega

theorem decode_greek {s : ByteArray} {i : Nat} (hi : i < s.size) (h1 : i + 1 < s.size) (h : ((s[i]'hi).toNat = 206 ∧ 177 ≤ (s[i + 1]'h1).toNat ∧ (s[i + 1]'h1).toNat ≤ 191) ∨ ((s[i]'hi).toNat = 207 ∧ 128 ≤ (s[i + 1]'h1).toNat ∧ (s[i + 1]'h1).toNat ≤ 137)) :
    Utf8.decode s i = (((s[i]'hi).toNat - 192) * 64 + ((s[i + 1]'h1).toNat - 128), 2) := by
  have e0 : (s.get! (i + 0)).toNat = (s[i]'hi).toNat := by rw [get_at s i hi]
  have e1 : (s.get! (i + 1)).toNat = (s[i + 1]'h1).toNat := by rw [get_plain s (i + 1) h1]
  simp only [Utf8.decode, e0, e1]
  rw [if_neg (by omega), if_pos (by simp only [Bool.and_eq_true, decide_eq_true_eq, beq_iff_eq]; omega), if_pos (by omega)]
  refine Prod.ext ?_ rfl
  show (s[i]'hi).toNat % 32 * 64 + (s[i + 1]'h1).toNat % 64 = _
  omega

set_option maxRecDepth 100000 in
set_option maxHeartbeats 2000000 in
theorem rname_any (s : ByteArray) (w : World) (hs : s.size ≤ 9223372036854775807) :
    Calls Tryz.prog 80 #[.string s] w fun e w' => e = .returned (.bool (nameB s)) ∧ w' = w := by
  go_enter Tryz.func80, Tryz.ntmps80
  go_wp2
  go_loop [3, 4] (fun n i => ∃ k j : Nat, j ≤ s.size ∧ k ≤ j ∧ (k = 0 → j = 0) ∧ n = .int .i64 k ∧ i = .int .i64 j ∧ nameB s = restB s j k) (fun _ i => s.size - (intOf i).toNat)
  case atStart => exact ⟨0, 0, Nat.zero_le _, Nat.le_refl _, fun _ => rfl, rfl, rfl, rfl⟩
  case round =>
    obtain ⟨k, j, hj, hkj, hz, rfl, rfl, hrest⟩ := hrel
    have HR : Hid (nameB s = restB s j k) := hrest
    have HZ : Hid (k = 0 → j = 0) := hz
    clear hrest hz
    by_cases hlt : j < s.size
    · have bl := (s[j]'hlt).toNat_lt
      by_cases hb : (s[j]'hlt).toNat < 128
      · have hd := decode_ascii s j hlt hb
        have HG : Hid (letterB ((s[j]'hlt).toNat : Nat) = true ∨ (k ≠ 0 ∧ digitB ((s[j]'hlt).toNat : Nat) = true) → nameB s = restB s (j + 1) (k + 1)) := fun h => by
          have := rest_good (k := k) hlt (by rw [hd]; exact h)
          rw [hd] at this
          exact HR.out.trans this
        have HB : Hid (letterB ((s[j]'hlt).toNat : Nat) = false → (k = 0 ∨ digitB ((s[j]'hlt).toNat : Nat) = false) → nameB s = false) := fun h1 h2 => HR.out.trans (rest_bad hlt (by rw [hd]; exact bad_of h1 h2))
        clear HR hd
        go_wp2_with (go_at_call 111; refine (rletter_any _ _).mono ?_; rintro e w' ⟨rfl, rfl⟩)
        · have t1 : letterB ((s[j]'hlt).toNat : Nat) = true := by assumption
          go_round
          case rel => exact ⟨k + 1, j + 1, by omega, by omega, fun h => by omega, by go_num, by go_num, HG.out (Or.inl t1)⟩
          case measure => simp [intOf]; omega
        · have t1 : ¬ letterB ((s[j]'hlt).toNat : Nat) = true := by assumption
          have t2 : j = 0 := by assumption
          go_ret
          exact ⟨ret_bool (HB.out (by simpa using t1) (Or.inl (by omega))).symm, rfl⟩
        · have t1 : ¬ letterB ((s[j]'hlt).toNat : Nat) = true := by assumption
          have t2 : (((j : Int) == 0) = true ∨ ((s[j]'hlt).toNat : Int) < 48) ∨ (57 : Int) < ((s[j]'hlt).toNat : Int) := by assumption
          have t3 : ¬ j = 0 := by assumption
          go_ret
          refine ⟨ret_bool (HB.out (by simpa using t1) (Or.inr (digit_no ?_))).symm, rfl⟩
          rcases t2 with (t2 | t2) | t2
          · exact absurd (by simpa using t2) t3
          · exact Or.inl t2
          · exact Or.inr t2
        · have t2 : (((j : Int) == 0) = false ∧ (48 : Int) ≤ ((s[j]'hlt).toNat : Int)) ∧ ((s[j]'hlt).toNat : Int) ≤ 57 := by assumption
          have t3 : ¬ j = 0 := by assumption
          go_round
          case rel => exact ⟨k + 1, j + 1, by omega, by omega, fun h => by omega, by go_num, by go_num, HG.out (Or.inr ⟨fun h => t3 (HZ.out h), by unfold digitB; rw [Bool.and_eq_true, decide_eq_true_eq, decide_eq_true_eq]; omega⟩)⟩
          case measure => simp [intOf]; omega
        · have t1 : ¬ letterB ((s[j]'hlt).toNat : Nat) = true := by assumption
          have t2 : ((s[j]'hlt).toNat : Int) < 48 := by assumption
          go_ret
          exact ⟨ret_bool (HB.out (by simpa using t1) (Or.inr (digit_no (Or.inl t2)))).symm, rfl⟩
      · by_cases hg : ∃ h1 : j + 1 < s.size, ((s[j]'hlt).toNat = 206 ∧ 177 ≤ (s[j + 1]'h1).toNat ∧ (s[j + 1]'h1).toNat ≤ 191) ∨ ((s[j]'hlt).toNat = 207 ∧ 128 ≤ (s[j + 1]'h1).toNat ∧ (s[j + 1]'h1).toNat ≤ 137)
        · obtain ⟨h1, hg⟩ := hg
          have hd := decode_greek hlt h1 hg
          have bl1 := (s[j + 1]'h1).toNat_lt
          rcases hg with ⟨q1, q2, q3⟩ | ⟨q1, q2, q3⟩
          · rw [q1] at hd
            have HG : Hid (nameB s = restB s (j + 2) (k + 1)) := by
              have := rest_good (k := k) hlt (Or.inl (by rw [hd]; exact letter_gr (by show (945 : Int) ≤ _; simp only; omega) (by simp only; omega)))
              rw [hd] at this
              exact HR.out.trans this
            have nl : letterB (896 + (((s[j + 1]'h1).toNat : Int) - 128)) = true := letter_gr (by omega) (by omega)
            clear HR hd
            go_wp2_with (go_at_call 111; refine (rletter_is _ true nl _).mono ?_; rintro e w' ⟨rfl, rfl⟩)
            go_round
            case rel => exact ⟨k + 1, j + 2, by omega, by omega, fun h => by omega, by go_num, by go_num, HG.out⟩
            case measure => simp [intOf]; omega
          · rw [q1] at hd
            have HG : Hid (nameB s = restB s (j + 2) (k + 1)) := by
              have := rest_good (k := k) hlt (Or.inl (by rw [hd]; exact letter_gr (by show (945 : Int) ≤ _; simp only; omega) (by simp only; omega)))
              rw [hd] at this
              exact HR.out.trans this
            have nl : letterB (960 + (((s[j + 1]'h1).toNat : Int) - 128)) = true := letter_gr (by omega) (by omega)
            clear HR hd
            go_wp2_with (go_at_call 111; refine (rletter_is _ true nl _).mono ?_; rintro e w' ⟨rfl, rfl⟩)
            go_round
            case rel => exact ⟨k + 1, j + 2, by omega, by omega, fun h => by omega, by go_num, by go_num, HG.out⟩
            case measure => simp [intOf]; omega
        · have hd := decode_ge hlt (by omega) hg
          have HN : Hid (nameB s = false) := HR.out.trans (rest_bad hlt (bad_of hd.1 (Or.inr hd.2)))
          have nl : letterB ((s[j]'hlt).toNat : Nat) = false := letter_hi (by omega) (by omega)
          clear HR hd
          by_cases h1 : j + 1 < s.size
          · have bl1 := (s[j + 1]'h1).toNat_lt
            have hg' : ¬ (((s[j]'hlt).toNat = 206 ∧ 177 ≤ (s[j + 1]'h1).toNat ∧ (s[j + 1]'h1).toNat ≤ 191) ∨ ((s[j]'hlt).toNat = 207 ∧ 128 ≤ (s[j + 1]'h1).toNat ∧ (s[j + 1]'h1).toNat ≤ 137)) := fun h => hg ⟨h1, h⟩
            clear hg
            have HG : Hid (¬ (((s[j]'hlt).toNat = 206 ∧ 177 ≤ (s[j + 1]'h1).toNat ∧ (s[j + 1]'h1).toNat ≤ 191) ∨ ((s[j]'hlt).toNat = 207 ∧ 128 ≤ (s[j + 1]'h1).toNat ∧ (s[j + 1]'h1).toNat ≤ 137))) := hg'
            clear hg'
            by_cases e6 : (s[j]'hlt).toNat = 206
            · have f7 : (s[j + 1]'h1).toNat < 177 ∨ 191 < (s[j + 1]'h1).toNat := by have := HG.out; omega
              have b6 : (((s[j]'hlt).toNat : Int) == 206) = true := beq_iff_eq.2 (by omega)
              have b7 : (((s[j]'hlt).toNat : Int) == 207) = false := beq_eq_false_iff_ne.2 (by omega)
              clear e6
              rcases f7 with f7 | f7
              all_goals
                go_wp2_with (go_at_call 111; refine (rletter_is _ false nl _).mono ?_; rintro e w' ⟨rfl, rfl⟩)
                all_goals (go_ret; exact ⟨ret_bool HN.out.symm, rfl⟩)
            · have b6 : (((s[j]'hlt).toNat : Int) == 206) = false := beq_eq_false_iff_ne.2 (by omega)
              by_cases e7 : (s[j]'hlt).toNat = 207
              · have f7 : (s[j + 1]'h1).toNat < 128 ∨ 137 < (s[j + 1]'h1).toNat := by have := HG.out; omega
                have b7 : (((s[j]'hlt).toNat : Int) == 207) = true := beq_iff_eq.2 (by omega)
                clear e6 e7
                rcases f7 with f7 | f7
                all_goals
                  go_wp2_with (go_at_call 111; refine (rletter_is _ false nl _).mono ?_; rintro e w' ⟨rfl, rfl⟩)
                  all_goals (go_ret; exact ⟨ret_bool HN.out.symm, rfl⟩)
              · have b7 : (((s[j]'hlt).toNat : Int) == 207) = false := beq_eq_false_iff_ne.2 (by omega)
                clear e6 e7
                go_wp2_with (go_at_call 111; refine (rletter_is _ false nl _).mono ?_; rintro e w' ⟨rfl, rfl⟩)
                all_goals (go_ret; exact ⟨ret_bool HN.out.symm, rfl⟩)
          · clear hg
            go_wp2
            go_ret
            exact ⟨ret_bool HN.out.symm, rfl⟩
    · have HE : Hid (nameB s = (decide (1 ≤ k) && decide (k ≤ 16))) := HR.out.trans (rest_end hlt)
      go_wp2
      · have t : (1 : Int) ≤ k := by assumption
        go_ret
        exact ⟨ret_bool (by rw [HE.out, decide_eq_true (show 1 ≤ k by omega), Bool.true_and]; exact decide_eq_decide.2 (by omega)), rfl⟩
      · have t : (k : Int) < 1 := by assumption
        go_ret
        exact ⟨ret_bool (by rw [HE.out, decide_eq_false (show ¬ 1 ≤ k by omega)]; rfl), rfl⟩
end Go.Proofs.YtbdhbgilaeldgaaGreat

/- The walks of the reference's above, below, join, meet. -/
namespace Go.Proofs.YtbdhbgilaeldgaaGreat
open Go.RowKit

/-- Names and a square table of as many rows. -/
structure SqAt (n : Strs) (g : Grid) (w : World) : Prop where
  nat : n.At w
  gat : g.At w
  pos : 0 < n.len
  le8 : n.len ≤ 8
  len : g.len = n.len
  L : ∀ r, r < n.len → g.L r = n.len
theorem SqAt.kept {n : Strs} {g : Grid} {w w' : World} (h : SqAt n g w) (hb : Below w.heap.size w w') : SqAt n g w' := ⟨h.nat.kept hb, h.gat.kept hb, h.pos, h.le8, h.len, h.L⟩
theorem SqAt.ao {n : Strs} {g : Grid} {w : World} (h : SqAt n g w) : g.ao = some ⟨g.gb, g.go, none⟩ := h.gat.nil (by have := h.len; have := h.pos; omega)
theorem SqAt.row {n : Strs} {g : Grid} {w : World} (h : SqAt n g w) {r : Nat} (hr : r < n.len) : w.cell? ⟨g.gb, g.go + r, none⟩ = some (.slice (some ⟨g.AB r, g.AO r, none⟩) n.len (g.C r)) := by
  have h1 := h.gat.row r (by have := h.len; omega)
  have h2 := h.gat.adr r (by have := h.len; omega) (by rw [h.L r hr]; exact h.pos)
  rw [h1, h2, h.L r hr]
theorem SqAt.cell {n : Strs} {g : Grid} {w : World} (h : SqAt n g w) {r c : Nat} (hr : r < n.len) (hc : c < n.len) : w.cell? ⟨g.AB r, g.AO r + c, none⟩ = some (.bool (g.B r c)) :=
  h.gat.cell r (by have := h.len; omega) c (by rw [h.L r hr]; exact hc)

/-- above, below: of three labels. -/
def abvB (n : Strs) (g : Grid) (a b c : Nat) : Bool := (g.B a c && g.B b c) && decide (∀ d, d < n.len → (g.B a d && g.B b d && !g.B c d) = false)
def blwB (n : Strs) (g : Grid) (a b c : Nat) : Bool := (g.B c a && g.B c b) && decide (∀ d, d < n.len → (g.B d a && g.B d b && !g.B d c) = false)

set_option maxRecDepth 100000 in
set_option maxHeartbeats 2000000 in
theorem above_any (n : Strs) (g : Grid) (w : World) (a b c : Nat) (h : SqAt n g w) (ha : a < n.len) (hb : b < n.len) (hc : c < n.len) :
    Calls Tryz.prog 81 #[.agg #[.slice n.ao n.len n.cap, .slice g.ao g.len g.cap], .int .i64 a, .int .i64 b, .int .i64 c] w fun e w' => e = .returned (.bool (abvB n g a b c)) ∧ Below w.heap.size w w' := by
  rw [h.ao, h.len]
  have B0 := Box2.start w (.slice n.ao n.len n.cap) (.slice (some ⟨g.gb, g.go, none⟩) n.len g.cap) 25
  have h1 := h.kept B0.bl
  have l8 := h.le8
  have ia : (a : Int) < n.len := by omega
  have ib : (b : Int) < n.len := by omega
  have ic : (c : Int) < n.len := by omega
  have ra := h1.row ha
  have rb := h1.row hb
  have rc := h1.row hc
  have cac := h1.cell ha hc
  have cbc := h1.cell hb hc
  cases v1 : g.B a c
  · rw [v1] at cac
    go_enter Tryz.func81, Tryz.ntmps81
    go_wp2
    go_ret
    exact ⟨ret_bool (by simp [abvB, v1]), B0.bl⟩
  cases v2 : g.B b c
  · rw [v1] at cac
    rw [v2] at cbc
    go_enter Tryz.func81, Tryz.ntmps81
    go_wp2
    go_ret
    exact ⟨ret_bool (by simp [abvB, v2]), B0.bl⟩
  rw [v1] at cac
  rw [v2] at cbc
  go_enter Tryz.func81, Tryz.ntmps81
  go_wp2
  generalize w.alloc (.cells #[.slice n.ao n.len n.cap, .slice (some ⟨g.gb, g.go, none⟩) n.len g.cap] 25) = W0 at *
  have x0 := B0.c0
  have x1 := B0.c1
  clear cac cbc
  go_loop [9] (fun i => ∃ d : Nat, d ≤ n.len ∧ i = .int .i64 d ∧ ∀ x, x < d → (g.B a x && g.B b x && !g.B c x) = false) (fun i => n.len - (intOf i).toNat)
  case atStart => exact ⟨0, Nat.zero_le _, rfl, fun _ h => absurd h (Nat.not_lt_zero _)⟩
  case round =>
    obtain ⟨d, hd, rfl, hdone⟩ := hrel
    have HD : Hid (∀ x, x < d → (g.B a x && g.B b x && !g.B c x) = false) := hdone
    clear hdone
    by_cases hlt : d < n.len
    · have fa := h1.cell ha hlt
      have fb := h1.cell hb hlt
      have fc := h1.cell hc hlt
      have id : (d : Int) < n.len := by omega
      have next : (g.B a d && g.B b d && !g.B c d) = false → ∀ x, x < d + 1 → (g.B a x && g.B b x && !g.B c x) = false := fun hh x hx => by
        rcases Nat.lt_succ_iff_lt_or_eq.1 hx with h | h
        · exact HD.out x h
        · subst h; exact hh
      have HN : Hid ((g.B a d && g.B b d && !g.B c d) = false → ∀ x, x < d + 1 → (g.B a x && g.B b x && !g.B c x) = false) := next
      clear next
      cases u1 : g.B a d
      · rw [u1] at fa
        go_wp2
        go_round
        case rel => exact ⟨d + 1, by omega, by go_num, HN.out (by simp [u1])⟩
        case measure => simp [intOf]; omega
      cases u2 : g.B b d
      · rw [u1] at fa
        rw [u2] at fb
        go_wp2
        go_round
        case rel => exact ⟨d + 1, by omega, by go_num, HN.out (by simp [u2])⟩
        case measure => simp [intOf]; omega
      cases u3 : g.B c d
      · rw [u1] at fa
        rw [u2] at fb
        rw [u3] at fc
        go_wp2
        go_ret
        refine ⟨ret_bool (Eq.symm ?_), B0.bl⟩
        unfold abvB
        rw [Bool.and_eq_false_iff, decide_eq_false_iff_not]
        right
        intro hh
        have := hh d hlt
        simp [u1, u2, u3] at this
      · rw [u1] at fa
        rw [u2] at fb
        rw [u3] at fc
        go_wp2
        go_round
        case rel => exact ⟨d + 1, by omega, by go_num, HN.out (by simp [u3])⟩
        case measure => simp [intOf]; omega
    · have HE : Hid (abvB n g a b c = true) := by
        show abvB n g a b c = true
        unfold abvB
        rw [v1, v2, decide_eq_true (fun x hx => HD.out x (by omega))]; rfl
      go_wp2
      go_ret
      exact ⟨ret_bool HE.out.symm, B0.bl⟩
set_option maxRecDepth 100000 in
set_option maxHeartbeats 2000000 in
theorem below_any (n : Strs) (g : Grid) (w : World) (a b c : Nat) (h : SqAt n g w) (ha : a < n.len) (hb : b < n.len) (hc : c < n.len) :
    Calls Tryz.prog 82 #[.agg #[.slice n.ao n.len n.cap, .slice g.ao g.len g.cap], .int .i64 a, .int .i64 b, .int .i64 c] w fun e w' => e = .returned (.bool (blwB n g a b c)) ∧ Below w.heap.size w w' := by
  rw [h.ao, h.len]
  have B0 := Box2.start w (.slice n.ao n.len n.cap) (.slice (some ⟨g.gb, g.go, none⟩) n.len g.cap) 25
  have h1 := h.kept B0.bl
  have l8 := h.le8
  have ia : (a : Int) < n.len := by omega
  have ib : (b : Int) < n.len := by omega
  have ic : (c : Int) < n.len := by omega
  have rc := h1.row hc
  have cac := h1.cell hc ha
  have cbc := h1.cell hc hb
  cases v1 : g.B c a
  · rw [v1] at cac
    go_enter Tryz.func82, Tryz.ntmps82
    go_wp2
    go_ret
    exact ⟨ret_bool (by simp [blwB, v1]), B0.bl⟩
  cases v2 : g.B c b
  · rw [v1] at cac
    rw [v2] at cbc
    go_enter Tryz.func82, Tryz.ntmps82
    go_wp2
    go_ret
    exact ⟨ret_bool (by simp [blwB, v2]), B0.bl⟩
  rw [v1] at cac
  rw [v2] at cbc
  go_enter Tryz.func82, Tryz.ntmps82
  go_wp2
  generalize w.alloc (.cells #[.slice n.ao n.len n.cap, .slice (some ⟨g.gb, g.go, none⟩) n.len g.cap] 25) = W0 at *
  have x0 := B0.c0
  have x1 := B0.c1
  clear cac cbc
  go_loop [9] (fun i => ∃ d : Nat, d ≤ n.len ∧ i = .int .i64 d ∧ ∀ x, x < d → (g.B x a && g.B x b && !g.B x c) = false) (fun i => n.len - (intOf i).toNat)
  case atStart => exact ⟨0, Nat.zero_le _, rfl, fun _ h => absurd h (Nat.not_lt_zero _)⟩
  case round =>
    obtain ⟨d, hd, rfl, hdone⟩ := hrel
    have HD : Hid (∀ x, x < d → (g.B x a && g.B x b && !g.B x c) = false) := hdone
    clear hdone
    by_cases hlt : d < n.len
    · have fa := h1.cell hlt ha
      have fb := h1.cell hlt hb
      have fc := h1.cell hlt hc
      have id : (d : Int) < n.len := by omega
      have rd := h1.row hlt
      have next : (g.B d a && g.B d b && !g.B d c) = false → ∀ x, x < d + 1 → (g.B x a && g.B x b && !g.B x c) = false := fun hh x hx => by
        rcases Nat.lt_succ_iff_lt_or_eq.1 hx with h | h
        · exact HD.out x h
        · subst h; exact hh
      have HN : Hid ((g.B d a && g.B d b && !g.B d c) = false → ∀ x, x < d + 1 → (g.B x a && g.B x b && !g.B x c) = false) := next
      clear next
      cases u1 : g.B d a
      · rw [u1] at fa
        go_wp2
        go_round
        case rel => exact ⟨d + 1, by omega, by go_num, HN.out (by simp [u1])⟩
        case measure => simp [intOf]; omega
      cases u2 : g.B d b
      · rw [u1] at fa
        rw [u2] at fb
        go_wp2
        go_round
        case rel => exact ⟨d + 1, by omega, by go_num, HN.out (by simp [u2])⟩
        case measure => simp [intOf]; omega
      cases u3 : g.B d c
      · rw [u1] at fa
        rw [u2] at fb
        rw [u3] at fc
        go_wp2
        go_ret
        refine ⟨ret_bool (Eq.symm ?_), B0.bl⟩
        unfold blwB
        rw [Bool.and_eq_false_iff, decide_eq_false_iff_not]
        right
        intro hh
        have := hh d hlt
        simp [u1, u2, u3] at this
      · rw [u1] at fa
        rw [u2] at fb
        rw [u3] at fc
        go_wp2
        go_round
        case rel => exact ⟨d + 1, by omega, by go_num, HN.out (by simp [u3])⟩
        case measure => simp [intOf]; omega
    · have HE : Hid (blwB n g a b c = true) := by
        show blwB n g a b c = true
        unfold blwB
        rw [v1, v2, decide_eq_true (fun x hx => HD.out x (by omega))]; rfl
      go_wp2
      go_ret
      exact ⟨ret_bool HE.out.symm, B0.bl⟩

/-- The first c from k on with p, or -1. -/
def findI (p : Nat → Bool) : Nat → Nat → Int
  | 0, _ => -1
  | f + 1, k => if p k then k else findI p f (k + 1)
theorem findI_hit {p : Nat → Bool} {N k : Nat} (hk : k < N) (h : p k = true) : findI p (N - k) k = k := by
  obtain ⟨m, hm⟩ : ∃ m, N - k = m + 1 := ⟨N - k - 1, by omega⟩
  rw [hm, findI, if_pos h]
theorem findI_miss {p : Nat → Bool} {N k : Nat} (hk : k < N) (h : p k = false) : findI p (N - k) k = findI p (N - (k + 1)) (k + 1) := by
  obtain ⟨m, hm⟩ : ∃ m, N - k = m + 1 := ⟨N - k - 1, by omega⟩
  rw [hm, findI, if_neg (by rw [h]; simp), show N - (k + 1) = m by omega]
theorem findI_end {p : Nat → Bool} {N k : Nat} (hk : ¬ k < N) : findI p (N - k) k = -1 := by
  rw [show N - k = 0 by omega]; rfl

set_option maxHeartbeats 2000000 in
theorem rjoin_any (n : Strs) (g : Grid) (w : World) (a b : Nat) (h : SqAt n g w) (ha : a < n.len) (hb : b < n.len) :
    Calls Tryz.prog 48 #[.agg #[.slice n.ao n.len n.cap, .slice g.ao g.len g.cap], .int .i64 a, .int .i64 b] w fun e w' => e = .returned (.int .i64 (findI (abvB n g a b) n.len 0)) ∧ Below w.heap.size w w' := by
  have B0 := Box2.start w (.slice n.ao n.len n.cap) (.slice g.ao g.len g.cap) 25
  have l8 := h.le8
  go_enter Tryz.func48, Tryz.ntmps48
  go_wp2
  go_loopw [7] (fun i wr => ∃ c : Nat, c ≤ n.len ∧ i = .int .i64 c ∧ findI (abvB n g a b) n.len 0 = findI (abvB n g a b) (n.len - c) c ∧ Box2 w wr (.slice n.ao n.len n.cap) (.slice g.ao g.len g.cap)) (fun i _ => n.len - (intOf i).toNat)
  case atStart => exact ⟨0, Nat.zero_le _, rfl, rfl, B0⟩
  case round =>
    obtain ⟨c, hc, rfl, hdone, hB⟩ := hrel
    clear B0
    have HD : Hid (findI (abvB n g a b) n.len 0 = findI (abvB n g a b) (n.len - c) c) := hdone
    clear hdone
    have x0 := hB.c0
    have x1 := hB.c1
    by_cases hlt : c < n.len
    · go_wp2_with fail
      refine (above_any n g _ a b c (h.kept hB.bl) ha hb hlt).mono ?_
      rintro e w1 ⟨rfl, hb1⟩
      have B1 := hB.step hb1
      clear hb1 x0 x1
      cases hv : abvB n g a b c
      · go_wp2
        go_roundw
        case rel => exact ⟨c + 1, by omega, by go_num, HD.out.trans (findI_miss hlt hv), B1⟩
        case measure => simp [intOf]; omega
      · go_wp2
        go_ret
        exact ⟨ret_int (HD.out.trans (findI_hit hlt hv)).symm, B1.bl⟩
    · go_wp2
      go_ret
      exact ⟨ret_int (HD.out.trans (findI_end hlt)).symm, hB.bl⟩

set_option maxHeartbeats 2000000 in
theorem rmeet_any (n : Strs) (g : Grid) (w : World) (a b : Nat) (h : SqAt n g w) (ha : a < n.len) (hb : b < n.len) :
    Calls Tryz.prog 49 #[.agg #[.slice n.ao n.len n.cap, .slice g.ao g.len g.cap], .int .i64 a, .int .i64 b] w fun e w' => e = .returned (.int .i64 (findI (blwB n g a b) n.len 0)) ∧ Below w.heap.size w w' := by
  have B0 := Box2.start w (.slice n.ao n.len n.cap) (.slice g.ao g.len g.cap) 25
  have l8 := h.le8
  go_enter Tryz.func49, Tryz.ntmps49
  go_wp2
  go_loopw [7] (fun i wr => ∃ c : Nat, c ≤ n.len ∧ i = .int .i64 c ∧ findI (blwB n g a b) n.len 0 = findI (blwB n g a b) (n.len - c) c ∧ Box2 w wr (.slice n.ao n.len n.cap) (.slice g.ao g.len g.cap)) (fun i _ => n.len - (intOf i).toNat)
  case atStart => exact ⟨0, Nat.zero_le _, rfl, rfl, B0⟩
  case round =>
    obtain ⟨c, hc, rfl, hdone, hB⟩ := hrel
    clear B0
    have HD : Hid (findI (blwB n g a b) n.len 0 = findI (blwB n g a b) (n.len - c) c) := hdone
    clear hdone
    have x0 := hB.c0
    have x1 := hB.c1
    by_cases hlt : c < n.len
    · go_wp2_with fail
      refine (below_any n g _ a b c (h.kept hB.bl) ha hb hlt).mono ?_
      rintro e w1 ⟨rfl, hb1⟩
      have B1 := hB.step hb1
      clear hb1 x0 x1
      cases hv : blwB n g a b c
      · go_wp2
        go_roundw
        case rel => exact ⟨c + 1, by omega, by go_num, HD.out.trans (findI_miss hlt hv), B1⟩
        case measure => simp [intOf]; omega
      · go_wp2
        go_ret
        exact ⟨ret_int (HD.out.trans (findI_hit hlt hv)).symm, B1.bl⟩
    · go_wp2
      go_ret
      exact ⟨ret_int (HD.out.trans (findI_end hlt)).symm, hB.bl⟩

end Go.Proofs.YtbdhbgilaeldgaaGreat

/- The walk of the reference's shaped: it tells just what the program's two questions tell. -/
namespace Go.Proofs.YtbdhbgilaeldgaaGreat
open Go.RowKit

def shpRow (n : Strs) (g : Grid) (i : Nat) : Bool := (nameB (n.s i) && (g.L i == n.len)) && !holdsB n.s i (n.s i)
theorem shp_no {n : Strs} {g : Grid} {k : Nat} (hk : k < n.len) (hg : g.len = n.len) (h : shpRow n g k = false) : (namesB n && squareB g n.len) = false := by
  cases h1 : (namesB n && squareB g n.len)
  · rfl
  · exfalso
    rw [Bool.and_eq_true] at h1
    have h2 := (squareB_len h1.2).2 k (by omega)
    have h3 := h1.1
    unfold namesB at h3
    rw [Bool.and_eq_true, decide_eq_true_eq, decide_eq_true_eq] at h3
    have h4 := h3.2 k hk
    rw [Bool.and_eq_true] at h4
    unfold shpRow at h
    rw [h4.1, h4.2, h2] at h
    simp at h
theorem shp_yes {n : Strs} {g : Grid} (h0 : 0 < n.len) (h8 : n.len ≤ 8) (hg : g.len = n.len) (h : ∀ k, k < n.len → shpRow n g k = true) : (namesB n && squareB g n.len) = true := by
  rw [Bool.and_eq_true]
  constructor
  · unfold namesB
    rw [Bool.and_eq_true, decide_eq_true_eq, decide_eq_true_eq]
    refine ⟨⟨h0, h8⟩, fun i hi => ?_⟩
    have := h i hi
    unfold shpRow at this
    rw [Bool.and_eq_true, Bool.and_eq_true] at this
    rw [this.1.1, this.2]; rfl
  · unfold squareB
    rw [Bool.and_eq_true, decide_eq_true_eq, beq_iff_eq]
    refine ⟨hg, fun r hr => ?_⟩
    have := h r (by omega)
    unfold shpRow at this
    rw [Bool.and_eq_true, Bool.and_eq_true, beq_iff_eq] at this
    exact this.1.2

theorem holds_no {s : Nat → ByteArray} {k : Nat} (h : ∀ x, x < k → ((s x).toList == (s k).toList) = false) : holdsB s k (s k) = false := by
  unfold holdsB
  rw [decide_eq_false_iff_not]
  rintro ⟨i, hi, h1⟩
  have := h i hi
  rw [beq_eq_false_iff_ne] at this
  exact this (by simpa using (beq_iff_eq.1 h1).symm)
theorem holds_yes {s : Nat → ByteArray} {k x : Nat} (hx : x < k) (h : ((s x).toList == (s k).toList) = true) : holdsB s k (s k) = true := by
  unfold holdsB
  rw [decide_eq_true_eq]
  exact ⟨x, hx, by rw [beq_iff_eq] at h ⊢; exact h.symm⟩

set_option maxRecDepth 100000 in
set_option maxHeartbeats 2000000 in
theorem shaped_any (n : Strs) (g : Grid) (w : World) (hn : n.At w) (hg : g.At w) :
    Calls Tryz.prog 47 #[.agg #[.slice n.ao n.len n.cap, .slice g.ao g.len g.cap]] w fun e w' => e = .returned (.bool (namesB n && squareB g n.len)) ∧ Below w.heap.size w w' := by
  have hnb := hn.bound
  have hgb := hg.bound
  by_cases h0 : n.len < 1
  · have B0 := Box2.start w (.slice n.ao n.len n.cap) (.slice g.ao g.len g.cap) 25
    have HF : Hid ((namesB n && squareB g n.len) = false) := by show (namesB n && squareB g n.len) = false; simp [namesB, show ¬ 0 < n.len by omega]
    go_enter Tryz.func47, Tryz.ntmps47
    go_wp2
    go_ret
    exact ⟨ret_bool HF.out.symm, B0.bl⟩
  by_cases h8 : 8 < n.len
  · have B0 := Box2.start w (.slice n.ao n.len n.cap) (.slice g.ao g.len g.cap) 25
    have HF : Hid ((namesB n && squareB g n.len) = false) := by show (namesB n && squareB g n.len) = false; simp [namesB, show ¬ n.len ≤ 8 by omega]
    go_enter Tryz.func47, Tryz.ntmps47
    go_wp2
    go_ret
    exact ⟨ret_bool HF.out.symm, B0.bl⟩
  by_cases hl : g.len = n.len
  · have bl : ((n.len : Int) != n.len) = false := by simp
    rw [hg.nil (by omega), hn.nil (by omega), hl]
    have B0 := Box2.start w (.slice (some ⟨n.b, n.o, none⟩) n.len n.cap) (.slice (some ⟨g.gb, g.go, none⟩) n.len g.cap) 25
    have HL : Hid (g.len = n.len) := hl
    clear hl
    go_enter Tryz.func47, Tryz.ntmps47
    go_wp2
    go_loopw [4] (fun i wr => ∃ k : Nat, k ≤ n.len ∧ i = .int .i64 k ∧ (∀ x, x < k → shpRow n g x = true) ∧ Box2 w wr (.slice (some ⟨n.b, n.o, none⟩) n.len n.cap) (.slice (some ⟨g.gb, g.go, none⟩) n.len g.cap)) (fun i _ => n.len - (intOf i).toNat)
    case atStart => exact ⟨0, Nat.zero_le _, rfl, fun _ h => absurd h (Nat.not_lt_zero _), B0⟩
    case round =>
      obtain ⟨k, hk, rfl, hdone, hB⟩ := hrel
      clear B0
      have HD : Hid (∀ x, x < k → shpRow n g x = true) := hdone
      clear hdone
      have c0 := hB.c0
      have c1 := hB.c1
      by_cases hlt : k < n.len
      · have r1 := (hn.kept hB.bl).cell k hlt
        have ik : (k : Int) < n.len := by omega
        have HNO : Hid (shpRow n g k = false → (namesB n && squareB g n.len) = false) := fun h => shp_no hlt HL.out h
        go_wp2_with fail
        refine (rname_any (n.s k) _ (hn.sz k hlt)).mono ?_
        rintro e w1 ⟨rfl, rfl⟩
        cases hnm : nameB (n.s k)
        · go_wp2
          go_ret
          exact ⟨ret_bool (HNO.out (by simp [shpRow, hnm])).symm, hB.bl⟩
        · have r2 := (hg.kept hB.bl).row k (by have := HL.out; omega)
          have lb := hg.lbound k (by have := HL.out; omega)
          by_cases hL : g.L k = n.len
          · have bL : ((g.L k : Int) != n.len) = false := by simp [hL]
            have HLk : Hid (g.L k = n.len) := hL
            clear hL
            go_wp2
            clear c0 c1 r1 r2 bL
            go_loopw [5] (fun i wr => ∃ j : Nat, j ≤ k ∧ i = .int .i64 j ∧ (∀ x, x < j → ((n.s x).toList == (n.s k).toList) = false) ∧ Box2 w wr (.slice (some ⟨n.b, n.o, none⟩) n.len n.cap) (.slice (some ⟨g.gb, g.go, none⟩) n.len g.cap)) (fun i _ => k - (intOf i).toNat)
            case atStart => exact ⟨0, Nat.zero_le _, rfl, fun _ h => absurd h (Nat.not_lt_zero _), hB⟩
            case round =>
              obtain ⟨j, hj, rfl, hdone2, hB2⟩ := hrel
              clear hB
              have HD2 : Hid (∀ x, x < j → ((n.s x).toList == (n.s k).toList) = false) := hdone2
              clear hdone2
              by_cases hjk : j < k
              · have ne : Nonempty (Cls w (.slice (some ⟨n.b, n.o, none⟩) n.len n.cap) (.slice (some ⟨g.gb, g.go, none⟩) n.len g.cap)) := ⟨⟨_, hB2⟩⟩
                have d0 := fun x : Cls w (.slice (some ⟨n.b, n.o, none⟩) n.len n.cap) (.slice (some ⟨g.gb, g.go, none⟩) n.len g.cap) => x.box.c0
                have d1 := fun x : Cls w (.slice (some ⟨n.b, n.o, none⟩) n.len n.cap) (.slice (some ⟨g.gb, g.go, none⟩) n.len g.cap) => x.box.c1
                have d2 := fun x : Cls w (.slice (some ⟨n.b, n.o, none⟩) n.len n.cap) (.slice (some ⟨g.gb, g.go, none⟩) n.len g.cap) => (hn.kept x.box.bl).cell j (by omega)
                have d3 := fun x : Cls w (.slice (some ⟨n.b, n.o, none⟩) n.len n.cap) (.slice (some ⟨g.gb, g.go, none⟩) n.len g.cap) => (hn.kept x.box.bl).cell k hlt
                have ij : (j : Int) < n.len := by omega
                cases hv : ((n.s j).toList == (n.s k).toList)
                · go_wp2
                  refine wp_region_cls hB2 (by kernel_rfl) (by kernel_rfl) ?_
                  repeat (first | go_big_quiet_step (fail))
                  refine wpQuiet_nil ?_
                  rintro w4 ⟨x4, rfl⟩
                  have B4 := x4.box
                  generalize x4.w = w4 at B4 ⊢
                  clear x4 d0 d1 d2 d3
                  go_wp2
                  go_roundw
                  case rel =>
                    refine ⟨j + 1, by omega, by go_num, fun x hx => ?_, B4⟩
                    rcases Nat.lt_succ_iff_lt_or_eq.1 hx with h | h
                    · exact HD2.out x h
                    · subst h; exact hv
                  case measure => simp [intOf]; omega
                · have HY := holds_yes hjk hv
                  have HH : Hid (shpRow n g k = false) := by show shpRow n g k = false; simp [shpRow, HY]
                  clear HY
                  go_wp2
                  refine wp_region_cls hB2 (by kernel_rfl) (by kernel_rfl) ?_
                  repeat (first | go_big_quiet_step (fail))
                  refine wpQuiet_nil ?_
                  rintro w4 ⟨x4, rfl⟩
                  have B4 := x4.box
                  generalize x4.w = w4 at B4 ⊢
                  clear x4 d0 d1 d2 d3
                  go_wp2
                  go_ret
                  exact ⟨ret_bool (HNO.out HH.out).symm, B4.bl⟩
              · have e : j = k := by omega
                subst e
                have HH : Hid (shpRow n g j = true) := by
                  show shpRow n g j = true
                  unfold shpRow
                  rw [hnm, holds_no HD2.out, HLk.out]; simp
                go_wp2
                go_roundw
                case rel =>
                  refine ⟨j + 1, by omega, by go_num, fun x hx => ?_, hB2⟩
                  rcases Nat.lt_succ_iff_lt_or_eq.1 hx with h | h
                  · exact HD.out x h
                  · subst h; exact HH.out
                case measure => simp [intOf]; omega
          · have bL : ((g.L k : Int) != n.len) = true := by rw [bne_iff_ne]; omega
            go_wp2
            go_ret
            exact ⟨ret_bool (HNO.out (by simp [shpRow, beq_eq_false_iff_ne.2 hL])).symm, hB.bl⟩
      · have HY : Hid ((namesB n && squareB g n.len) = true) := shp_yes (by omega) (by omega) HL.out (fun x hx => HD.out x (by omega))
        go_wp2
        go_ret
        exact ⟨ret_bool HY.out.symm, hB.bl⟩
  · have B0 := Box2.start w (.slice n.ao n.len n.cap) (.slice g.ao g.len g.cap) 25
    have bl : ((g.len : Int) != n.len) = true := by rw [bne_iff_ne]; omega
    have HF : Hid ((namesB n && squareB g n.len) = false) := by show (namesB n && squareB g n.len) = false; simp [squareB, beq_eq_false_iff_ne.2 hl]
    go_enter Tryz.func47, Tryz.ntmps47
    go_wp2
    go_ret
    exact ⟨ret_bool HF.out.symm, B0.bl⟩
end Go.Proofs.YtbdhbgilaeldgaaGreat
