/- Layer 5: the walk of lex.sign. -/
import Derived.Test.YtcoeefckldkbeaaGreatDoorP22
import Derived.Deep.RegionHeld3
import Derived.Deep.AppendLies
import Derived.Lib.TrimUEq
import Derived.Lib.IndexBytes
namespace Go.Proofs.YtcoeefckldkbeaaGreatDoor
open Go.RowKit

theorem idx_mem : ∀ (l : List UInt8) (c : UInt8), decide (0 ≤ Lib.indexByte l c) = l.contains c
  | [], c => rfl
  | b :: l, c => by
    have ih := idx_mem l c
    have hge := Lib.indexByte_ge l c
    unfold Lib.indexByte
    rw [List.contains_cons, ← ih]
    by_cases h : b = c
    · subst h; simp
    · rw [if_neg (by simpa using h)]
      have h' : (c == b) = false := by simpa using fun e => h e.symm
      rw [h', Bool.false_or]
      by_cases h1 : Lib.indexByte l c = -1
      · rw [h1]; rfl
      · rw [if_neg (by simpa using h1)]
        exact decide_eq_decide.2 (by omega)
/-- Whether one of the first k long signs begins the text. -/
def lgK (l : List UInt8) (k : Nat) : Bool := (decide (0 < k) && [61, 61].isPrefixOf l) || ((decide (1 < k) && [61, 62].isPrefixOf l) || ((decide (2 < k) && [45, 62].isPrefixOf l) || (decide (3 < k) && [58, 61].isPrefixOf l)))
theorem lgK_len {l : List UInt8} {k : Nat} (h : lgK l k = true) : 2 ≤ l.length := by
  match l with
  | [] => simp [lgK] at h
  | [c] => simp [lgK] at h
  | c :: d :: r => simp
theorem lgK_lg (c d : UInt8) (r : List UInt8) : lgK (c :: d :: r) 4 = lg c d := by
  have e : ∀ (x : UInt8) (n : Nat), n < 256 → (x = UInt8.ofNat n ↔ x.toNat = n) := fun x n hn => by
    rw [← UInt8.toNat_inj, u8, Nat.mod_eq_of_lt hn]
  have e1 := e c 61 (by omega); have e2 := e c 45 (by omega); have e3 := e c 58 (by omega)
  have e4 := e d 61 (by omega); have e5 := e d 62 (by omega)
  rw [Bool.eq_iff_iff]
  unfold lgK lg
  simp only [List.isPrefixOf, Bool.or_eq_true, Bool.and_eq_true, beq_iff_eq, Bool.and_true, decide_eq_true_eq]
  have f1 : (61 : UInt8) = c ↔ c.toNat = 61 := ⟨fun h => e1.1 h.symm, fun h => (e1.2 h).symm⟩
  have f2 : (45 : UInt8) = c ↔ c.toNat = 45 := ⟨fun h => e2.1 h.symm, fun h => (e2.2 h).symm⟩
  have f3 : (58 : UInt8) = c ↔ c.toNat = 58 := ⟨fun h => e3.1 h.symm, fun h => (e3.2 h).symm⟩
  have f4 : (61 : UInt8) = d ↔ d.toNat = 61 := ⟨fun h => e4.1 h.symm, fun h => (e4.2 h).symm⟩
  have f5 : (62 : UInt8) = d ↔ d.toNat = 62 := ⟨fun h => e5.1 h.symm, fun h => (e5.2 h).symm⟩
  rw [f1, f2, f3, f4, f5]
  omega
def szK (l : List UInt8) (k : Nat) : Nat := if lgK l k then 2 else 1
theorem szK_step (l : List UInt8) (k : Nat) (p : List UInt8) (hk : k < 4) (hp : [[61, 61], [61, 62], [45, 62], [58, 61]][k]? = some p) : szK l (k + 1) = if p.isPrefixOf l then 2 else szK l k := by
  have e : lgK l (k + 1) = (p.isPrefixOf l || lgK l k) := by
    match k, hk with
    | 0, _ => cases hp; simp [lgK]
    | 1, _ => cases hp; simp [lgK, Bool.or_comm]
    | 2, _ => cases hp; unfold lgK; simp only [Nat.reduceLT, decide_true, decide_false, Bool.true_and, Bool.false_and, Bool.or_false]; cases List.isPrefixOf [61, 61] l <;> cases List.isPrefixOf [61, 62] l <;> cases List.isPrefixOf [45, 62] l <;> rfl
    | 3, _ => cases hp; unfold lgK; simp only [Nat.reduceLT, decide_true, decide_false, Bool.true_and, Bool.false_and, Bool.or_false]; cases List.isPrefixOf [61, 61] l <;> cases List.isPrefixOf [61, 62] l <;> cases List.isPrefixOf [45, 62] l <;> cases List.isPrefixOf [58, 61] l <;> rfl
  unfold szK
  rw [e]
  cases p.isPrefixOf l <;> simp

theorem ix_at (v0 v1 v2 v3 : Value) (w : World) :
    (Instr.index 102 (.agg #[v0, v1, v2, v3]) (.int .i64 0)).run Tryz.prog w = .ok v0 w ∧ (Instr.index 102 (.agg #[v0, v1, v2, v3]) (.int .i64 1)).run Tryz.prog w = .ok v1 w ∧ (Instr.index 102 (.agg #[v0, v1, v2, v3]) (.int .i64 2)).run Tryz.prog w = .ok v2 w ∧ (Instr.index 102 (.agg #[v0, v1, v2, v3]) (.int .i64 3)).run Tryz.prog w = .ok v3 w := by
  have h : Tryz.prog.underlying 102 = some (.array 4 9) := by kernel_rfl
  refine ⟨?_, ?_, ?_, ?_⟩ <;> simp [Instr.index, run_underlying h, asIntOf, go_sem]
set_option maxRecDepth 100000 in
set_option maxHeartbeats 2000000 in
theorem lsign_any (s : ByteArray) (w : World) (hv : Vs w) (h0 : 0 < s.size) :
    Calls Tryz.prog 37 #[.string s] w fun e w' => e = .returned (.tuple #[tkV 4 (s.extract 0 (szK (bs s) 4)) 0 0, .bool (sg (s[0]'h0))]) ∧ Below w.heap.size w w' := by
  have B0 := B4.new w (.int .i64 0) (.string ⟨#[]⟩) (.int .i64 0) (.int .i64 0) 62
  have hb0 := below_alloc w (.cells #[.int .i64 0, .string ⟨#[]⟩, .int .i64 0, .int .i64 0] 62)
  obtain ⟨_, l0, l1, l2, l3⟩ := hv.kept hb0
  have ix := ix_at (.string ⟨#[61, 61]⟩) (.string ⟨#[61, 62]⟩) (.string ⟨#[45, 62]⟩) (.string ⟨#[58, 61]⟩) (w.alloc (.cells #[.int .i64 0, .string ⟨#[]⟩, .int .i64 0, .int .i64 0] 62))
  obtain ⟨i0, i1, i2, i3⟩ := ix
  have HL : Hid (∀ k, lgK (bs s) k = true → 2 ≤ s.size) := fun k h => by have := lgK_len h; rwa [bs_len] at this
  go_enter Tryz.func37, Tryz.ntmps37
  go_wp2
  clear l0 l1 l2 l3
  go_loop [4, 8] (fun z i => ∃ k n : Nat, k ≤ 4 ∧ Hid (n = szK (bs s) k) ∧ z = .int .i64 n ∧ i = .int .i64 k) (fun _ i => 4 - (intOf i).toNat)
  case atStart => exact ⟨0, 1, by omega, by simp [Hid, szK, lgK], rfl, rfl⟩
  case round =>
    obtain ⟨k, n, hk, HN, rfl, rfl⟩ := hrel
    by_cases h4 : k < 4
    · have cs : k = 0 ∨ k = 1 ∨ k = 2 ∨ k = 3 := by omega
      rcases cs with rfl | rfl | rfl | rfl
      · go_wp2_with (go_at_call 49; refine (Tryz.strings_HasPrefix _ _ _).mono ?_; rintro e w' ⟨rfl, rfl⟩)
        · have t : Lib.hasPrefix s.data.toList [61, 61] = true := by assumption
          exact ⟨⟨1, 2, by omega, by show 2 = szK (bs s) 1; rw [szK_step (bs s) 0 [61, 61] (by omega) rfl]; exact (if_pos t).symm, rfl, rfl⟩, by simp [intOf]⟩
        · have t : Lib.hasPrefix s.data.toList [61, 61] = false := by assumption
          exact ⟨⟨1, n, by omega, by show n = szK (bs s) 1; rw [szK_step (bs s) 0 [61, 61] (by omega) rfl, if_neg (fun h => by rw [show List.isPrefixOf [61, 61] (bs s) = false from t] at h; cases h)]; exact HN.out, rfl, rfl⟩, by simp [intOf]⟩
      · go_wp2_with (go_at_call 49; refine (Tryz.strings_HasPrefix _ _ _).mono ?_; rintro e w' ⟨rfl, rfl⟩)
        · have t : Lib.hasPrefix s.data.toList [61, 62] = true := by assumption
          exact ⟨⟨2, 2, by omega, by show 2 = szK (bs s) 2; rw [szK_step (bs s) 1 [61, 62] (by omega) rfl]; exact (if_pos t).symm, rfl, rfl⟩, by simp [intOf]⟩
        · have t : Lib.hasPrefix s.data.toList [61, 62] = false := by assumption
          exact ⟨⟨2, n, by omega, by show n = szK (bs s) 2; rw [szK_step (bs s) 1 [61, 62] (by omega) rfl, if_neg (fun h => by rw [show List.isPrefixOf [61, 62] (bs s) = false from t] at h; cases h)]; exact HN.out, rfl, rfl⟩, by simp [intOf]⟩
      · go_wp2_with (go_at_call 49; refine (Tryz.strings_HasPrefix _ _ _).mono ?_; rintro e w' ⟨rfl, rfl⟩)
        · have t : Lib.hasPrefix s.data.toList [45, 62] = true := by assumption
          exact ⟨⟨3, 2, by omega, by show 2 = szK (bs s) 3; rw [szK_step (bs s) 2 [45, 62] (by omega) rfl]; exact (if_pos t).symm, rfl, rfl⟩, by simp [intOf]⟩
        · have t : Lib.hasPrefix s.data.toList [45, 62] = false := by assumption
          exact ⟨⟨3, n, by omega, by show n = szK (bs s) 3; rw [szK_step (bs s) 2 [45, 62] (by omega) rfl, if_neg (fun h => by rw [show List.isPrefixOf [45, 62] (bs s) = false from t] at h; cases h)]; exact HN.out, rfl, rfl⟩, by simp [intOf]⟩
      · go_wp2_with (go_at_call 49; refine (Tryz.strings_HasPrefix _ _ _).mono ?_; rintro e w' ⟨rfl, rfl⟩)
        · have t : Lib.hasPrefix s.data.toList [58, 61] = true := by assumption
          exact ⟨⟨4, 2, by omega, by show 2 = szK (bs s) 4; rw [szK_step (bs s) 3 [58, 61] (by omega) rfl]; exact (if_pos t).symm, rfl, rfl⟩, by simp [intOf]⟩
        · have t : Lib.hasPrefix s.data.toList [58, 61] = false := by assumption
          exact ⟨⟨4, n, by omega, by show n = szK (bs s) 4; rw [szK_step (bs s) 3 [58, 61] (by omega) rfl, if_neg (fun h => by rw [show List.isPrefixOf [58, 61] (bs s) = false from t] at h; cases h)]; exact HN.out, rfl, rfl⟩, by simp [intOf]⟩
    · have e4 : k = 4 := by omega
      subst e4
      have n0 : (0 : Int) ≤ n := by omega
      have n1 : (n : Int) ≤ s.size := by
        have h := HN.out
        unfold szK at h
        split at h
        · have := HL.out 4 (by assumption); omega
        · omega
      have HI : Hid (decide (0 ≤ Lib.indexByte sgs (s[0]'h0)) = sg (s[0]'h0)) := idx_mem sgs (s[0]'h0)
      have HC : Hid (((s[0]'h0).toNat : Int).toNat.toUInt8 = s[0]'h0) := by show ((s[0]'h0).toNat : Int).toNat.toUInt8 = s[0]'h0; simp
      obtain ⟨c0, c1, c2, c3, f0, f1, f2, f3⟩ := B0
      clear i0 i1 i2 i3
      go_wp2_with fail
      have hS : True := trivial
      go_region_held3 (fun _ : World => True) (first | exact trivial) ((go_at_call 50; refine (Tryz.strings_IndexByte _ _ _).mono ?_; rintro e w' ⟨rfl, rfl⟩))
      go_wp2
      refine bodyPost_ret (v := .tuple #[tkV 4 (s.extract 0 n) 0 0, .bool (decide (0 ≤ Lib.indexByte sgs (s[0]'h0)))]) (by simp [results, Tryz.results37, go_sem, tkV, sgs] <;> congr) rfl ⟨by rw [HI.out, ← HN.out], (below_alloc _ _).drew⟩
end Go.Proofs.YtcoeefckldkbeaaGreatDoor

/- Layer 5: the walk of lex.first. -/
namespace Go.Proofs.YtcoeefckldkbeaaGreatDoor
open Go.RowKit

theorem bs_ext (s : ByteArray) (a b : Nat) : bs (s.extract a b) = ((bs s).take b).drop a := by
  unfold bs
  rw [ByteArray.data_extract, Array.toList_extract, List.extract_eq_take_drop]
  rw [List.drop_take]
theorem bs_take (s : ByteArray) (b : Nat) : bs (s.extract 0 b) = (bs s).take b := by rw [bs_ext, List.drop_zero]
theorem toList_mk (l : List UInt8) : (⟨l.toArray⟩ : ByteArray).toList = l := by simp
theorem toList_bs (s : ByteArray) : s.toList = bs s := by
  obtain ⟨d⟩ := s
  have h := toList_mk d.toList
  rw [Array.toArray_toList] at h
  exact h
theorem sz_bs (s : ByteArray) : s.size = (bs s).length := (bs_len s).symm

/-- What a word at the beginning of s is told as. -/
def FP (l : List UInt8) (k : Int) (t : ByteArray) (n : Int) (ok : Bool) : Prop :=
  match nextW l with
  | none => ok = false
  | some (k', m, n') => ok = true ∧ k = (k' : Nat) ∧ t = str (l.take m) ∧ n = (n' : Nat)

theorem kw_cnt : ∀ x ∈ kws, nmCnt x ≤ 16 := by decide
theorem fp_name (s : ByteArray) (h : 0 < lsz (bs s)) : FP (bs s) (if kw (bs (s.extract 0 (nmLen (bs s)))) then 2 else 1) (s.extract 0 (nmLen (bs s))) 0 (kw (bs (s.extract 0 (nmLen (bs s)))) || nameB (s.extract 0 (nmLen (bs s)))) := by
  have hl := lsz_nm _ h
  have hle := nm_le (bs s)
  have e := bs_take s (nmLen (bs s))
  have hsplit : (bs s).take (nmLen (bs s)) ++ (bs s).drop (nmLen (bs s)) = bs s := List.take_append_drop _ _
  have tl : ((bs s).take (nmLen (bs s))).length = nmLen (bs s) := by rw [List.length_take]; omega
  obtain ⟨h1, h2⟩ := nm_app' ((bs s).take (nmLen (bs s))) ((bs s).drop (nmLen (bs s))) (by rw [hsplit, tl])
  have hc : nmCnt ((bs s).take (nmLen (bs s))) = nmCnt (bs s) := by
    have := (nm_app _ ((bs s).drop (nmLen (bs s))) h1).2
    rw [hsplit, cnt_zero h2] at this; omega
  have hz : lsz ((bs s).take (nmLen (bs s))) = lsz (bs s) := by
    have := lsz_app _ ((bs s).drop (nmLen (bs s))) (by intro e0; rw [e0] at tl; simp at tl; omega) h1
    rw [hsplit] at this; exact this.symm
  have hn : nameB (s.extract 0 (nmLen (bs s))) = decide (nmCnt (bs s) ≤ 16) := by
    rw [name_cnt _ (by rw [e, hz]; exact h) (by rw [e, h1, tl, sz_bs, e, tl]), e, hc]
  rw [hn, e]
  unfold FP nextW
  rw [if_pos h]
  by_cases h16 : nmCnt (bs s) ≤ 16
  · rw [if_pos h16]
    refine ⟨by simp [h16], ?_, ?_, rfl⟩
    · split <;> rfl
    · rw [← e, str_bs]
  · rw [if_neg h16]
    show (kw _ || decide _) = false
    have : kw ((bs s).take (nmLen (bs s))) = false := by
      rw [← Bool.not_eq_true]
      intro hk
      have hm : (bs s).take (nmLen (bs s)) ∈ kws := by simpa [kw] using hk
      have := kw_cnt _ hm
      omega
    rw [this, decide_eq_false h16]; rfl
theorem fp_num {s : ByteArray} {n : Int} {ok : Bool} (h : ¬ 0 < lsz (bs s)) (hd : 0 < dgLen (bs s)) (hok : ok = true ↔ numV ((bs s).take (dgLen (bs s))) ≤ 9223372036854775807 ∧ (dgLen (bs s) = 1 ∨ (bs s).head? ≠ some 48))
    (hn : ok = true → n = (numV ((bs s).take (dgLen (bs s))) : Nat)) : FP (bs s) 3 (s.extract 0 (dgLen (bs s))) n ok := by
  unfold FP nextW
  rw [if_neg h, if_pos hd]
  by_cases hc : numV ((bs s).take (dgLen (bs s))) ≤ 9223372036854775807 ∧ (dgLen (bs s) = 1 ∨ (bs s).head? ≠ some 48)
  · rw [if_pos hc]
    exact ⟨hok.2 hc, rfl, by rw [← bs_take, str_bs], hn (hok.2 hc)⟩
  · rw [if_neg hc]
    show ok = false
    rw [← Bool.not_eq_true]
    exact fun h => hc (hok.1 h)
theorem fp_sign {s : ByteArray} (h0 : 0 < s.size) (h : ¬ 0 < lsz (bs s)) (hd : ¬ 0 < dgLen (bs s)) : FP (bs s) 4 (s.extract 0 (szK (bs s) 4)) 0 (sg (s[0]'h0)) := by
  have e : bs s = (s[0]'h0) :: (bs s).drop 1 := by have := bs_drop s 0 h0; simpa using this
  have ht : s.extract 0 (szK (bs s) 4) = str ((bs s).take (szK (bs s) 4)) := by rw [← bs_take, str_bs]
  rw [ht]
  unfold FP nextW
  rw [if_neg h, if_neg hd]
  generalize s[0]'h0 = c at e ⊢
  generalize (bs s).drop 1 = r at e
  rw [e]
  match r with
  | [] =>
    rw [sg1]
    have hz : szK [c] 4 = 1 := by unfold szK; rw [if_neg (fun h => by have := lgK_len h; simp at this)]
    rw [hz]
    cases hs : sg c
    · simp
    · simp
  | d :: r =>
    rw [sg2]
    have hz : szK (c :: d :: r) 4 = if lg c d then 2 else 1 := by unfold szK; rw [lgK_lg]
    rw [hz]
    cases hl : lg c d
    · cases hs : sg c
      · simp
      · simp
    · simp [lg_sg hl]

theorem lnum_any (s : ByteArray) (w : World) (hv : Vs w) (h0 : 0 < s.size) (hs : s.size ≤ 281474976710656) (hd : dgLen (bs s) = s.size) :
    Calls Tryz.prog 36 #[.string s] w fun e w' => (∃ n ok, e = .returned (.tuple #[tkV 3 s n 0, .bool ok]) ∧ (ok = true ↔ numV (bs s) ≤ 9223372036854775807 ∧ (s.size = 1 ∨ (bs s).head? ≠ some 48)) ∧ (ok = true → n = (numV (bs s) : Nat))) ∧ Below w.heap.size w w' := by
  have hp := parseI (bs s) (by rw [bs_len]; exact hd) (by intro e; have := bs_len s; rw [e] at this; simp at this; omega)
  have hh : (bs s).head? = some (s[0]'h0) := by
    have := bs_drop s 0 h0
    rw [List.drop_zero] at this; rw [this]; rfl
  by_cases hn : numV (bs s) ≤ 9223372036854775807
  · rw [if_pos hn] at hp
    cases hz : (s.toList == [48])
    · refine (lnum_nz s w h0 (by omega) hp hz).mono ?_
      rintro e w' ⟨rfl, hb⟩
      refine ⟨⟨_, _, rfl, ?_, fun _ => rfl⟩, hb⟩
      have hne : s.size = 1 → (s[0]'h0) ≠ 48 := fun h1 h2 => by
        rw [toList_bs] at hz
        have e1 := bs_drop s 0 h0
        rw [bs_end s 1 (by omega), List.drop_zero, h2] at e1
        rw [e1] at hz; cases hz
      rw [hh]
      simp only [bne_iff_ne, ne_eq, Option.some.injEq]
      have hc : (s[0]'h0).toNat = 48 ↔ s[0]'h0 = 48 := ⟨fun h => UInt8.toNat_inj.1 h, fun h => by rw [h]; rfl⟩
      constructor
      · intro h; exact ⟨hn, Or.inr (fun h2 => h (by rw [hc.2 h2]; rfl))⟩
      · rintro ⟨_, h⟩ h3
        have h4 := hc.1 (by omega)
        rcases h with h | h
        · exact hne h h4
        · exact h h4
    · refine (lnum_z s w h0 (by omega) hp hz).mono ?_
      rintro e w' ⟨rfl, hb⟩
      refine ⟨⟨_, _, rfl, ?_, fun _ => rfl⟩, hb⟩
      have hl : bs s = [48] := by rw [toList_bs] at hz; simpa using hz
      have : s.size = 1 := by rw [sz_bs, hl]; rfl
      simp [hn, this]
  · rw [if_neg hn] at hp
    refine (lnum_big s w h0 hs hp hv).mono ?_
    rintro e w' ⟨⟨n, rfl⟩, hb⟩
    exact ⟨⟨n, _, rfl, by simp [hn], fun h => by cases h⟩, hb⟩

set_option maxHeartbeats 2000000 in
theorem first_name (s : ByteArray) (w : World) (h0 : 0 < s.size) (hl : 0 < lsz (bs s)) :
    Calls Tryz.prog 26 #[.string s, .int .i32 (Utf8.decode s 0).1] w fun e w' => (∃ k t n ok, e = .returned (.tuple #[tkV k t n 0, .bool ok]) ∧ FP (bs s) k t n ok) ∧ Below w.heap.size w w' := by
  have hr : letterB (Utf8.decode s 0).1 = true := by rw [lsz_rune s 0 h0]; simpa using hl
  have B0 := B4.new w (.int .i64 0) (.string ⟨#[]⟩) (.int .i64 0) (.int .i64 0) 62
  have hb0 := below_alloc w (.cells #[.int .i64 0, .string ⟨#[]⟩, .int .i64 0, .int .i64 0] 62)
  have HF : Hid (FP (bs s) (if kw (bs (s.extract 0 (nmLen (bs s)))) then 2 else 1) (s.extract 0 (nmLen (bs s))) 0 (kw (bs (s.extract 0 (nmLen (bs s)))) || nameB (s.extract 0 (nmLen (bs s))))) := fp_name s hl
  have m1 : (nmLen (bs s) : Int) ≤ s.size := by have := nm_le (bs s); rw [bs_len] at this; omega
  have m0 : (0 : Int) ≤ nmLen (bs s) := by omega
  have HS : Hid (spn nameR s (s.size + 1) 0 = nmLen (bs s)) := name_spn s
  clear hl
  go_enter Tryz.func26, Tryz.ntmps26
  go_wp2_with fail
  refine (lletter_any _ _).mono ?_
  rintro e w1 ⟨rfl, hb⟩
  rw [hr]
  have B1 := B0.kept hb
  have hb1 := nxt hb0 hb
  clear hr hb B0 hb0
  go_wp2_with fail
  refine (span_name _ _).mono ?_
  rintro e w2 ⟨rfl, hb⟩
  rw [HS.out]
  have B2 := B1.kept hb
  have hb2 := nxt hb1 hb
  clear HS hb B1 hb1
  generalize nmLen (bs s) = m at HF m0 m1 ⊢
  go_wp2_with fail
  refine (lname_any _ _).mono ?_
  rintro e w3 ⟨rfl, hb⟩
  obtain ⟨c0, c1, c2, c3, f0, f1, f2, f3⟩ := B2.kept hb
  have hb3 := nxt hb2 hb
  clear hb B2 hb2
  generalize kw (bs (s.extract 0 m)) = kb at HF ⊢
  generalize (kb || nameB (s.extract 0 m)) = ok at HF ⊢
  generalize (if kb = true then (2 : Int) else 1) = kk at HF ⊢
  unfold tkV
  go_wp2
  refine bodyPost_ret (v := .tuple #[tkV kk (s.extract 0 m) 0 0, .bool ok]) (by simp [results, Tryz.results26, go_sem, tkV, c0, c1, c2, c3]) rfl ⟨⟨_, _, _, _, rfl, HF.out⟩, put4_below (Nat.le_refl _) hb3 _ _ _ _⟩
set_option maxHeartbeats 2000000 in
theorem first_num (s : ByteArray) (w : World) (hv : Vs w) (h0 : 0 < s.size) (hs : s.size ≤ 281474976710656) (hl : ¬ 0 < lsz (bs s)) (hd : 0 < dgLen (bs s)) :
    Calls Tryz.prog 26 #[.string s, .int .i32 (Utf8.decode s 0).1] w fun e w' => (∃ k t n ok, e = .returned (.tuple #[tkV k t n 0, .bool ok]) ∧ FP (bs s) k t n ok) ∧ Below w.heap.size w w' := by
  have hr : letterB (Utf8.decode s 0).1 = false := by rw [lsz_rune s 0 h0]; simpa using hl
  have hr2 : digitB (Utf8.decode s 0).1 = true := by rw [dg_rune s 0 h0]; simpa using hd
  have B0 := B4.new w (.int .i64 0) (.string ⟨#[]⟩) (.int .i64 0) (.int .i64 0) 62
  have hb0 := below_alloc w (.cells #[.int .i64 0, .string ⟨#[]⟩, .int .i64 0, .int .i64 0] 62)
  have HF : Hid (∀ (n : Int) (ok : Bool), (ok = true ↔ numV ((bs s).take (dgLen (bs s))) ≤ 9223372036854775807 ∧ (dgLen (bs s) = 1 ∨ (bs s).head? ≠ some 48)) → (ok = true → n = (numV ((bs s).take (dgLen (bs s))) : Nat)) → FP (bs s) 3 (s.extract 0 (dgLen (bs s))) n ok) := fun n ok h1 h2 => fp_num hl hd h1 h2
  have hle := dg_le (bs s)
  have m1 : (dgLen (bs s) : Int) ≤ s.size := by rw [bs_len] at hle; omega
  have m0 : (0 : Int) ≤ dgLen (bs s) := by omega
  have HS : Hid (spn digitB s (s.size + 1) 0 = dgLen (bs s)) := dig_spn s
  have e := bs_take s (dgLen (bs s))
  have tl : ((bs s).take (dgLen (bs s))).length = dgLen (bs s) := by rw [List.length_take]; omega
  have ts : (s.extract 0 (dgLen (bs s))).size = dgLen (bs s) := by rw [sz_bs, e, tl]
  have hdt : dgLen (bs (s.extract 0 (dgLen (bs s)))) = (s.extract 0 (dgLen (bs s))).size := by
    rw [ts, e]
    have := (dg_app' ((bs s).take (dgLen (bs s))) ((bs s).drop (dgLen (bs s))) (by rw [List.take_append_drop, tl])).1
    rw [this, tl]
  have HN : Hid (∀ W : World, Vs W → Calls Tryz.prog 36 #[.string (s.extract 0 (dgLen (bs s)))] W fun e w' => (∃ n ok, e = .returned (.tuple #[tkV 3 (s.extract 0 (dgLen (bs s))) n 0, .bool ok]) ∧ FP (bs s) 3 (s.extract 0 (dgLen (bs s))) n ok) ∧ Below W.heap.size W w') := fun W hW => by
    refine (lnum_any _ W hW (by omega) (by omega) hdt).mono ?_
    rintro e' w' ⟨⟨n, ok, rfl, h1, h2⟩, hb⟩
    refine ⟨⟨n, ok, rfl, HF.out n ok ?_ ?_⟩, hb⟩
    · rw [h1, e, ts]
      have hh : ((bs s).take (dgLen (bs s))).head? = (bs s).head? := by
        rw [List.head?_take, if_neg (by omega)]
      rw [hh]
    · rw [e] at h2; exact h2
  clear HF hle hdt ts tl e hd hl
  go_enter Tryz.func26, Tryz.ntmps26
  go_wp2_with fail
  refine (lletter_any _ _).mono ?_
  rintro e w1 ⟨rfl, hb⟩
  rw [hr]
  have B1 := B0.kept hb
  have hb1 := nxt hb0 hb
  clear hr hb B0 hb0
  go_wp2_with fail
  refine (ldigit_any _ _).mono ?_
  rintro e w1' ⟨rfl, rfl⟩
  rw [hr2]
  clear hr2
  go_wp2_with fail
  refine (span_digit _ _).mono ?_
  rintro e w2 ⟨rfl, hb⟩
  rw [HS.out]
  have B2 := B1.kept hb
  have hb2 := nxt hb1 hb
  clear HS hb B1 hb1
  have V2 := hv.kept hb2
  generalize dgLen (bs s) = m at HN m0 m1 ⊢
  go_wp2_with fail
  refine (HN.out _ V2).mono ?_
  rintro e w3 ⟨⟨n, ok, rfl, hF⟩, hb⟩
  have HF : Hid (FP (bs s) 3 (s.extract 0 m) n ok) := hF
  obtain ⟨c0, c1, c2, c3, f0, f1, f2, f3⟩ := B2.kept hb
  have hb3 := nxt hb2 hb
  clear hb B2 hb2 V2 hF HN
  unfold tkV
  go_wp2
  refine bodyPost_ret (v := .tuple #[tkV 3 (s.extract 0 m) n 0, .bool ok]) (by simp [results, Tryz.results26, go_sem, tkV, c0, c1, c2, c3]) rfl ⟨⟨_, _, _, _, rfl, HF.out⟩, put4_below (Nat.le_refl _) hb3 _ _ _ _⟩
set_option maxHeartbeats 2000000 in
theorem first_sign (s : ByteArray) (w : World) (hv : Vs w) (h0 : 0 < s.size) (hl : ¬ 0 < lsz (bs s)) (hd : ¬ 0 < dgLen (bs s)) :
    Calls Tryz.prog 26 #[.string s, .int .i32 (Utf8.decode s 0).1] w fun e w' => (∃ k t n ok, e = .returned (.tuple #[tkV k t n 0, .bool ok]) ∧ FP (bs s) k t n ok) ∧ Below w.heap.size w w' := by
  have hr : letterB (Utf8.decode s 0).1 = false := by rw [lsz_rune s 0 h0]; simpa using hl
  have hr2 : digitB (Utf8.decode s 0).1 = false := by rw [dg_rune s 0 h0]; simpa using hd
  have B0 := B4.new w (.int .i64 0) (.string ⟨#[]⟩) (.int .i64 0) (.int .i64 0) 62
  have hb0 := below_alloc w (.cells #[.int .i64 0, .string ⟨#[]⟩, .int .i64 0, .int .i64 0] 62)
  have HF : Hid (FP (bs s) 4 (s.extract 0 (szK (bs s) 4)) 0 (sg (s[0]'h0))) := fp_sign h0 hl hd
  clear hd hl
  go_enter Tryz.func26, Tryz.ntmps26
  go_wp2_with fail
  refine (lletter_any _ _).mono ?_
  rintro e w1 ⟨rfl, hb⟩
  rw [hr]
  have B1 := B0.kept hb
  have hb1 := nxt hb0 hb
  clear hr hb B0 hb0
  go_wp2_with fail
  refine (ldigit_any _ _).mono ?_
  rintro e w1' ⟨rfl, rfl⟩
  rw [hr2]
  clear hr2
  have V1 := hv.kept hb1
  go_wp2_with fail
  refine (lsign_any _ _ V1 h0).mono ?_
  rintro e w3 ⟨rfl, hb⟩
  obtain ⟨c0, c1, c2, c3, f0, f1, f2, f3⟩ := B1.kept hb
  have hb3 := nxt hb1 hb
  clear hb B1 hb1 V1
  generalize s.extract 0 (szK (bs s) 4) = tx at HF ⊢
  generalize sg (s[0]'h0) = ok at HF ⊢
  unfold tkV
  go_wp2
  refine bodyPost_ret (v := .tuple #[tkV 4 tx 0 0, .bool ok]) (by simp [results, Tryz.results26, go_sem, tkV, c0, c1, c2, c3]) rfl ⟨⟨_, _, _, _, rfl, HF.out⟩, put4_below (Nat.le_refl _) hb3 _ _ _ _⟩
theorem first_any (s : ByteArray) (w : World) (hv : Vs w) (h0 : 0 < s.size) (hs : s.size ≤ 281474976710656) :
    Calls Tryz.prog 26 #[.string s, .int .i32 (Utf8.decode s 0).1] w fun e w' => (∃ k t n ok, e = .returned (.tuple #[tkV k t n 0, .bool ok]) ∧ FP (bs s) k t n ok) ∧ Below w.heap.size w w' := by
  by_cases hl : 0 < lsz (bs s)
  · exact first_name s w h0 hl
  · by_cases hd : 0 < dgLen (bs s)
    · exact first_num s w hv h0 hs hl hd
    · exact first_sign s w hv h0 hl hd
end Go.Proofs.YtcoeefckldkbeaaGreatDoor

/- Layer 5: rows of words; runes between two places. -/
namespace Go.Proofs.YtcoeefckldkbeaaGreatDoor
open Go.RowKit

theorem Tryz.infoTok : (Tryz.prog.info? 62).map (fun i => (i.zero, i.size, i.bytes)) = some (some (.agg #[.int .i64 0, .string ⟨#[]⟩, .int .i64 0, .int .i64 0]), 4, 40) := by kernel_rfl
def tv (t : Tk) : List Value := [.int .i64 t.k, .string (str t.t), .int .i64 t.n, .int .i64 t.a]
def flat : List Tk → List Value
  | [] => []
  | t :: ts => tv t ++ flat ts
theorem flat_len : ∀ ts : List Tk, (flat ts).length = ts.length * 4
  | [] => rfl
  | t :: ts => by
    show (tv t ++ flat ts).length = _
    rw [List.length_append, flat_len ts, List.length_cons]
    show 4 + _ = _
    omega
theorem flat_app : ∀ ts us : List Tk, flat (ts ++ us) = flat ts ++ flat us
  | [], us => rfl
  | t :: ts, us => by
    show tv t ++ flat (ts ++ us) = (tv t ++ flat ts) ++ flat us
    rw [flat_app ts us, List.append_assoc]
theorem flat_get : ∀ (ts : List Tk) (i q : Nat) (h : i < ts.length), q < 4 → (flat ts)[i * 4 + q]? = (tv ts[i])[q]?
  | t :: ts, 0, q, _, hq => by
    show (tv t ++ flat ts)[0 * 4 + q]? = (tv t)[q]?
    rw [Nat.zero_mul, Nat.zero_add, List.getElem?_append_left (by show q < 4; exact hq)]
  | t :: ts, i + 1, q, h, hq => by
    show (tv t ++ flat ts)[(i + 1) * 4 + q]? = _
    rw [List.getElem?_append_right (by show 4 ≤ _; omega)]
    have e : (i + 1) * 4 + q - (tv t).length = i * 4 + q := by show (i + 1) * 4 + q - 4 = _; omega
    rw [e, flat_get ts i q (by simpa using h) hq]
    rfl

theorem ow_ge {w : World} {base : Nat} {e : TypeId} {size : Nat} {v : Value} {n : Nat} {xs : List Value} (h : w.ownsRow base e size v n xs) {b : Nat} (hb : v.ownBlock = some b) : base ≤ b ∧ b < w.heap.size := by
  obtain ⟨_, ⟨rfl, _⟩ | ⟨g, cap, cur, rfl, hg, hh, _⟩⟩ := h
  · cases hb
  · have : g = b := by simpa [Value.ownBlock] using hb
    subst this
    exact ⟨hg, (Array.getElem?_eq_some_iff.1 hh).1⟩
theorem ow_block {w w' : World} {base : Nat} {e : TypeId} {size : Nat} {v : Value} {n : Nat} {xs : List Value} (h : w.ownsRow base e size v n xs) (hb : ∀ b, v.ownBlock = some b → w'.heap[b]? = w.heap[b]?) : w'.ownsRow base e size v n xs := by
  obtain ⟨hl, h⟩ := h
  refine ⟨hl, ?_⟩
  rcases h with ⟨rfl, hn⟩ | ⟨g, cap, cur, rfl, hg, hh, hr⟩
  · exact Or.inl ⟨rfl, hn⟩
  · exact Or.inr ⟨g, cap, cur, rfl, hg, (hb g rfl).trans hh, hr⟩
theorem ow_kept {w w' : World} {base : Nat} {e : TypeId} {size : Nat} {v : Value} {n : Nat} {xs : List Value} (h : w.ownsRow base e size v n xs) (hb : Below w.heap.size w w') : w'.ownsRow base e size v n xs :=
  ow_block h fun b e => hb.block b (ow_ge h e).2

/-- A slice of words. -/
def KAt (w : World) (v : Value) (ts : List Tk) : Prop :=
  ∃ (ao : Option Addr) (b cap : Nat), v = .slice ao ts.length cap ∧ ts.length ≤ cap ∧ (0 < ts.length → ao = some ⟨b, 0, none⟩) ∧ ∀ i (h : i < ts.length) q, q < 4 → w.cell? ⟨b, i * 4 + q, none⟩ = (tv ts[i])[q]?
theorem KAt.of_own {w : World} {base : Nat} {e : TypeId} {v : Value} {ts : List Tk} (h : w.ownsRow base e 4 v ts.length (flat ts)) : KAt w v ts := by
  obtain ⟨hl, hh⟩ := h
  rcases hh with ⟨rfl, hn⟩ | ⟨g, cap, cur, rfl, hg, hh, hc, hr⟩
  · exact ⟨none, 0, 0, by rw [hn], by omega, fun h => by omega, fun i h => by omega⟩
  · refine ⟨_, g, cap, rfl, hc, fun _ => rfl, fun i h q hq => ?_⟩
    have ho : w.ownsRow base e 4 (.slice (some ⟨g, 0, none⟩) ts.length cap) ts.length (flat ts) := ⟨hl, Or.inr ⟨g, cap, cur, rfl, hg, hh, hc, hr⟩⟩
    rw [ho.cellAt (i * 4 + q) (by omega), flat_get ts i q h hq]
theorem KAt.kept {w w' : World} {v : Value} {ts : List Tk} (h : KAt w v ts) (hb : Below w.heap.size w w') : KAt w' v ts := by
  obtain ⟨ao, b, cap, rfl, hc, hn, hcell⟩ := h
  refine ⟨ao, b, cap, rfl, hc, hn, fun i h q hq => ?_⟩
  have e := hcell i h q hq
  have : ∃ x, (tv ts[i])[q]? = some x := ⟨_, List.getElem?_eq_getElem (by show q < 4; exact hq)⟩
  obtain ⟨x, hx⟩ := this
  rw [hx] at e ⊢
  exact up hb e

/-- From one place to another rune by rune. -/
inductive Rn (s : ByteArray) : Nat → Nat → Prop
  | refl (i : Nat) : Rn s i i
  | step {i j : Nat} (h : i < s.size) (hj : Rn s (i + (Utf8.decode s i).2) j) : Rn s i j
theorem Rn.le {s : ByteArray} {i j : Nat} (h : Rn s i j) : i ≤ j := by
  induction h with
  | refl => exact Nat.le_refl _
  | step _ _ ih => omega
theorem Rn.next {s : ByteArray} {i j : Nat} (h : Rn s i j) (hlt : i < j) : Rn s (i + (Utf8.decode s i).2) j := by
  cases h with
  | refl => omega
  | step _ h => exact h
theorem spn_Rn {p : Int → Bool} {s : ByteArray} : ∀ (f i : Nat), i ≤ s.size → s.size + 1 ≤ f + i → 1 ≤ f → Rn s i (spn p s f i)
  | 0, i, _, _, h => by omega
  | f + 1, i, hle, hf, _ => by
    by_cases hi : i < s.size
    · cases hp : p (Utf8.decode s i).1 with
      | false => rw [spn_no (by omega) hi hp]; exact Rn.refl i
      | true =>
        rw [spn_yes (by omega) hi hp]
        have := dec_pos hi
        have := dec_le hi
        exact Rn.step hi (spn_Rn f _ (by omega) (by omega) (by omega))
    · rw [spn_end (by omega) hi]
      have : i = s.size := by omega
      rw [this]; exact Rn.refl _
theorem Rn_line (s : ByteArray) (i : Nat) (h : i ≤ s.size) : Rn s i (i + remLen ((bs s).drop i)) := by
  have := spn_Rn (p := lineR) (s := s) (s.size + 1) i h (by omega) (by omega)
  rwa [spn_line s _ i h (by omega) (by omega)] at this
theorem Rn_name (s : ByteArray) (i : Nat) (h : i ≤ s.size) : Rn s i (i + nmLen ((bs s).drop i)) := by
  have := spn_Rn (p := nameR) (s := s) (s.size + 1) i h (by omega) (by omega)
  rwa [spn_name s _ i h (by omega) (by omega)] at this
theorem Rn_dig (s : ByteArray) (i : Nat) (h : i ≤ s.size) : Rn s i (i + dgLen ((bs s).drop i)) := by
  have := spn_Rn (p := digitB) (s := s) (s.size + 1) i h (by omega) (by omega)
  rwa [spn_dig s _ i h (by omega) (by omega)] at this
theorem Rn_word {s : ByteArray} {i k m n : Nat} (hi : i < s.size) (h : nextW ((bs s).drop i) = some (k, m, n)) : Rn s i (i + m) := by
  unfold nextW at h
  split at h
  · split at h
    · simp only [Option.some.injEq, Prod.mk.injEq] at h
      obtain ⟨_, rfl, _⟩ := h
      exact Rn_name s i (by omega)
    · cases h
  · split at h
    · split at h
      · simp only [Option.some.injEq, Prod.mk.injEq] at h
        obtain ⟨_, rfl, _⟩ := h
        exact Rn_dig s i (by omega)
      · cases h
    · split at h
      · rename_i hs
        simp only [Option.some.injEq, Prod.mk.injEq] at h
        obtain ⟨_, rfl, _⟩ := h
        have e := bs_drop s i hi
        have hc := sg_head (by rw [e] at hs; exact hs)
        have hl := (sg_low hc).2.2.2.2
        have hd := rune_low hi hl
        by_cases h1 : i + 1 < s.size
        · rw [e, bs_drop s (i + 1) h1, sg2]
          cases hg : lg (s[i]'hi) (s[i + 1]'h1)
          · rw [hc]
            exact Rn.step hi (by rw [hd]; exact Rn.refl _)
          · have hl2 : (s[i + 1]'h1).toNat < 128 := by
              unfold lg at hg
              simp only [Bool.or_eq_true, Bool.and_eq_true, beq_iff_eq] at hg
              omega
            have hd2 := rune_low h1 hl2
            exact Rn.step hi (by rw [hd]; exact Rn.step h1 (by rw [hd2]; exact Rn.refl _))
        · rw [e, bs_end s (i + 1) h1, sg1, hc]
          exact Rn.step hi (by rw [hd]; exact Rn.refl _)
      · cases h
theorem bs_rest (s : ByteArray) (i : Nat) : bs (s.extract i s.size) = (bs s).drop i := Lib.extract_to_end s i
theorem dec_rest (s : ByteArray) (i : Nat) : Utf8.decode (s.extract i s.size) 0 = Utf8.decode s i := by
  rw [← Lib.decodeL_drop s i, ← Lib.decodeL_drop (s.extract i s.size) 0, Lib.extract_to_end, List.drop_zero]
end Go.Proofs.YtcoeefckldkbeaaGreatDoor
