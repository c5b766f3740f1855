/- The walk of the statement LatticeNames. -/
import Derived.Test.YtkaeenholpmpdaaRefSame
import Derived.Test.YtkaeenholpmpdaaBelowW
import Derived.Test.YtkaeenholpmpdaaLawLeast
namespace Go.Proofs.Ytkaeenholpmpdaa
open Go.RowKit

theorem same_is (n : Strs) (g : Grid) (n2 : Strs) (g2 : Grid) (w : World) (hn : n.At w) (hg : g.At w) (hn2 : n2.At w) (hg2 : g2.At w) (r : Bool) (h : sameB n g n2 g2 = r) :
    Calls Try.prog 33 #[.agg #[.slice n.ao n.len n.cap, .slice g.ao g.len g.cap], .agg #[.slice n2.ao n2.len n2.cap, .slice g2.ao g2.len g2.cap]] w fun e w' => e = .returned (.bool r) ∧ Below w.heap.size w w' := by
  subst h; exact same_any n g n2 g2 w hn hg hn2 hg2
theorem same_refl (n : Strs) (g : Grid) : sameB n g n g = true := by
  unfold sameB eqSB eqGB eqRB
  simp
theorem find_is (n : Strs) (g : Grid) (s : ByteArray) (w : World) (hn : n.At w) (hg : g.At w) (r : Int) (h : findN n g s = r) :
    Calls Try.prog 34 #[.agg #[.slice n.ao n.len n.cap, .slice g.ao g.len g.cap], .string s] w fun e w' => e = .returned (.int .i64 r) ∧ Below w.heap.size w w' := by
  subst h; exact find_any n g s w hn hg

theorem idx_first (s : Nat → ByteArray) (v : ByteArray) (j : Nat) (hj : (v.toList == (s j).toList) = true) : ∀ k i, i ≤ j → j < i + k → (∀ x, i ≤ x → x < j → (v.toList == (s x).toList) = false) → idxFrom s v k i = (j : Int)
  | 0, i, h1, h2, _ => by omega
  | k + 1, i, h1, h2, h3 => by
    unfold idxFrom
    by_cases e : i = j
    · subst e; rw [hj, if_pos rfl]
    · rw [h3 i (Nat.le_refl _) (by omega), if_neg (by simp)]
      exact idx_first s v j hj k (i + 1) (by omega) (by omega) (fun x hx1 hx2 => h3 x (by omega) hx2)
theorem idx_neg (s : Nat → ByteArray) (v : ByteArray) : ∀ k i, idxFrom s v k i = -1 ∨ 0 ≤ idxFrom s v k i
  | 0, _ => Or.inl rfl
  | k + 1, i => by
    unfold idxFrom
    split
    · exact Or.inr (by omega)
    · exact idx_neg s v k (i + 1)

theorem names_apart {n : Strs} {g : Grid} (hF : formedB n g = true) {a x : Nat} (ha : a < n.len) (hx : x < a) : ((n.s a).toList == (n.s x).toList) = false := by
  unfold formedB at hF
  rw [Bool.and_eq_true, Bool.and_eq_true] at hF
  have h := hF.1.1
  unfold namesB at h
  rw [Bool.and_eq_true, decide_eq_true_eq, decide_eq_true_eq] at h
  have h2 := h.2 a ha
  rw [Bool.and_eq_true] at h2
  have h3 : holdsB n.s a (n.s a) = false := by simpa using h2.2
  unfold holdsB at h3
  rw [decide_eq_false_iff_not] at h3
  cases h4 : ((n.s a).toList == (n.s x).toList)
  · rfl
  · exact absurd ⟨x, hx, h4⟩ h3
theorem find_name {n : Strs} {g : Grid} (hF : formedB n g = true) {a : Nat} (ha : a < n.len) : findN n g (n.s a) = (a : Int) := by
  unfold findN
  rw [if_pos hF]
  exact idx_first n.s (n.s a) a (by simp) n.len 0 (Nat.zero_le _) (by omega) (fun x _ hx => names_apart hF ha hx)
theorem find_held {n : Strs} {g : Grid} (hF : formedB n g = true) (s : ByteArray) : (findN n g s != -1) = holdsB n.s n.len s := by
  unfold findN
  rw [if_pos hF, ← holds_idx]
  rcases idx_neg n.s s n.len 0 with h | h
  · rw [h]; rfl
  · rw [decide_eq_true h, bne_iff_ne]; omega
theorem holds_succ (s : Nat → ByteArray) (k : Nat) (v : ByteArray) : holdsB s (k + 1) v = (holdsB s k v || ((s k).toList == v.toList)) := by
  unfold holdsB
  rw [Bool.eq_iff_iff, Bool.or_eq_true, decide_eq_true_eq, decide_eq_true_eq]
  constructor
  · rintro ⟨i, hi, h⟩
    rcases Nat.lt_succ_iff_lt_or_eq.1 hi with h1 | h1
    · exact Or.inl ⟨i, h1, h⟩
    · subst h1; exact Or.inr (by rw [beq_iff_eq] at h ⊢; exact h.symm)
  · rintro (⟨i, hi, h⟩ | h)
    · exact ⟨i, by omega, h⟩
    · exact ⟨k, by omega, by rw [beq_iff_eq] at h ⊢; exact h.symm⟩

/-- Names that lie somewhere. -/
abbrev mkN (b o len cap : Nat) (f : Nat → ByteArray) : Strs := ⟨some ⟨b, o, none⟩, b, o, len, cap, f⟩

theorem belL_nat {n : Strs} {g : Grid} (hF : formedB n g = true) {a : Nat} (ha : a < n.len) : belL n g a = belTo g a n.len := by
  unfold belL
  rw [if_pos (by rw [lab_yes ha, hF]; rfl)]; rfl

theorem bel_split (g : Grid) (a b N : Nat) (hb : b < N) (h : g.B b a = true) : (belTo g a b).length < (belTo g a N).length ∧ (belTo g a N).getD (belTo g a b).length 0 = b := by
  have e : List.range N = List.range b ++ b :: (List.range (N - b - 1)).map (b + 1 + ·) := by
    have h1 := List.range_add (n := b) (m := N - b)
    rw [show b + (N - b) = N by omega] at h1
    rw [h1, show N - b = (N - b - 1) + 1 by omega, List.range_succ_eq_map, List.map_cons, List.map_map, Nat.add_zero]
    congr 2
    exact List.map_congr_left (fun x _ => by simp only [Function.comp]; omega)
  have e2 : belTo g a N = belTo g a b ++ (b :: ((List.range (N - b - 1)).map (b + 1 + ·)).filter (fun b => g.B b a)) := by
    unfold belTo
    rw [e, List.filter_append, List.filter_cons, h]; rfl
  rw [e2]
  constructor
  · simp
  · simp [List.getD]

set_option maxRecDepth 100000 in
set_option maxHeartbeats 8000000 in
theorem latticeNames_nf (n : Strs) (g : Grid) (n2 : Strs) (g2 : Grid) (s : ByteArray) (w : World) (hF : formedB n g = false) (hn : n.At w) (hg : g.At w) (hn2 : n2.At w) (hg2 : g2.At w) :
    Calls Try.prog 7 #[.agg #[.slice n.ao n.len n.cap, .slice g.ao g.len g.cap], .agg #[.slice n2.ao n2.len n2.cap, .slice g2.ao g2.len g2.cap], .string s] w fun e w' => e = .returned (.bool true) ∧ Below w.heap.size w w' := by
  have T0 := Two.start w (.slice n.ao n.len n.cap) (.slice g.ao g.len g.cap) (.slice n2.ao n2.len n2.cap) (.slice g2.ao g2.len g2.cap) 25 25
  go_enter Try.func7, Try.ntmps7
  go_wp2_with fail
  refine (awake_any _).mono ?_
  rintro e w1 ⟨rfl, hb1⟩
  have T1 := T0.step hb1
  clear hb1 T0
  have c0 := T1.c0
  have c1 := T1.c1
  have c2 := T1.c2
  have c3 := T1.c3
  go_wp2_with fail
  refine (small_any n g _ (hn.kept T1.bl) (hg.kept T1.bl)).mono ?_
  rintro e w2 ⟨rfl, hb2⟩
  have T2 := T1.step hb2
  clear hb2 c0 c1 c2 c3
  have c0 := T2.c0
  have c1 := T2.c1
  have c2 := T2.c2
  have c3 := T2.c3
  cases hsm : smallB n g
  · go_wp2_with fail
    refine (awake_any _).mono ?_
    rintro e w3 ⟨rfl, hb3⟩
    go_wp2
    go_ret
    exact ⟨rfl, (T2.step hb3).bl⟩
  go_wp2_with fail
  refine (small_any n2 g2 _ (hn2.kept T2.bl) (hg2.kept T2.bl)).mono ?_
  rintro e w3 ⟨rfl, hb3⟩
  have T3 := T2.step hb3
  clear hb3 c0 c1 c2 c3
  cases hsm2 : smallB n2 g2
  · go_wp2_with fail
    refine (awake_any _).mono ?_
    rintro e w4 ⟨rfl, hb4⟩
    go_wp2
    go_ret
    exact ⟨rfl, (T3.step hb4).bl⟩
  clear T1 T2 hsm hsm2
  have ne : Nonempty (Cls2 w (.slice n.ao n.len n.cap) (.slice g.ao g.len g.cap) (.slice n2.ao n2.len n2.cap) (.slice g2.ao g2.len g2.cap)) := ⟨⟨_, T3⟩⟩
  have d0 := fun x : Cls2 w (.slice n.ao n.len n.cap) (.slice g.ao g.len g.cap) (.slice n2.ao n2.len n2.cap) (.slice g2.ao g2.len g2.cap) => x.box.c0
  have d1 := fun x : Cls2 w (.slice n.ao n.len n.cap) (.slice g.ao g.len g.cap) (.slice n2.ao n2.len n2.cap) (.slice g2.ao g2.len g2.cap) => x.box.c1
  have d2 := fun x : Cls2 w (.slice n.ao n.len n.cap) (.slice g.ao g.len g.cap) (.slice n2.ao n2.len n2.cap) (.slice g2.ao g2.len g2.cap) => x.box.c2
  have d3 := fun x : Cls2 w (.slice n.ao n.len n.cap) (.slice g.ao g.len g.cap) (.slice n2.ao n2.len n2.cap) (.slice g2.ao g2.len g2.cap) => x.box.c3
  have SR : Hid (sameB n g n g = true) := same_refl n g
  go_wp2
  refine wp_region_cls2 T3 (by kernel_rfl) (by kernel_rfl) ?_
  repeat (first | go_big_quiet_step ((first
    | (go_at_call 32; exact Calls.cls2 _ (rsame_any n g n2 g2 _ (hn.kept (Cls2.box _).bl) (hg.kept (Cls2.box _).bl) (hn2.kept (Cls2.box _).bl) (hg2.kept (Cls2.box _).bl)))
    | (go_at_call_of 33 (Value.agg #[.slice n2.ao n2.len n2.cap, .slice g2.ao g2.len g2.cap]); exact Calls.cls2 _ (same_any n g n2 g2 _ (hn.kept (Cls2.box _).bl) (hg.kept (Cls2.box _).bl) (hn2.kept (Cls2.box _).bl) (hg2.kept (Cls2.box _).bl)))
    | (go_at_call 33; exact Calls.cls2 _ (same_is n g n g _ (hn.kept (Cls2.box _).bl) (hg.kept (Cls2.box _).bl) (hn.kept (Cls2.box _).bl) (hg.kept (Cls2.box _).bl) true SR.out)))))
  refine wpQuiet_nil ?_
  rintro w4 ⟨x4, rfl⟩
  have T4 := x4.box
  generalize x4.w = w4 at T4 ⊢
  clear x4 T3
  have c0 := T4.c0
  have c1 := T4.c1
  go_wp2_with fail
  refine (formed_any n g _ (hn.kept T4.bl) (hg.kept T4.bl)).mono ?_
  rw [hF]
  rintro e w5 ⟨rfl, hb5⟩
  have T5 := T4.step hb5
  clear hb5 c0 c1 T4
  have c0 := T5.c0
  have c1 := T5.c1
  clear d0 d1 d2 d3
  go_wp2_with fail
  refine (find_is n g s _ (hn.kept T5.bl) (hg.kept T5.bl) (-1) (by unfold findN; rw [hF]; rfl)).mono ?_
  rintro e w6 ⟨rfl, hb6⟩
  go_wp2
  go_ret
  exact ⟨rfl, (T5.step hb6).bl⟩

set_option maxRecDepth 100000 in
set_option maxHeartbeats 8000000 in
theorem latticeNames_pos (b o len cap : Nat) (f : Nat → ByteArray) (g : Grid) (n2 : Strs) (g2 : Grid) (s : ByteArray) (w : World) (hF : formedB (mkN b o len cap f) g = true) (hn : (mkN b o len cap f).At w) (hg : g.At w) (hn2 : n2.At w) (hg2 : g2.At w) :
    Calls Try.prog 7 #[.agg #[.slice (some ⟨b, o, none⟩) len cap, .slice g.ao g.len g.cap], .agg #[.slice n2.ao n2.len n2.cap, .slice g2.ao g2.len g2.cap], .string s] w fun e w' => e = .returned (.bool true) ∧ Below w.heap.size w w' := by
  have T0 := Two.start w (.slice (some ⟨b, o, none⟩) len cap) (.slice g.ao g.len g.cap) (.slice n2.ao n2.len n2.cap) (.slice g2.ao g2.len g2.cap) 25 25
  go_enter Try.func7, Try.ntmps7
  go_wp2_with fail
  refine (awake_any _).mono ?_
  rintro e w1 ⟨rfl, hb1⟩
  have T1 := T0.step hb1
  clear hb1 T0
  have c0 := T1.c0
  have c1 := T1.c1
  have c2 := T1.c2
  have c3 := T1.c3
  go_wp2_with fail
  refine (small_any (mkN b o len cap f) g _ (hn.kept T1.bl) (hg.kept T1.bl)).mono ?_
  rintro e w2 ⟨rfl, hb2⟩
  have T2 := T1.step hb2
  clear hb2 c0 c1 c2 c3
  have c0 := T2.c0
  have c1 := T2.c1
  have c2 := T2.c2
  have c3 := T2.c3
  cases hsm : smallB (mkN b o len cap f) g
  · go_wp2_with fail
    refine (awake_any _).mono ?_
    rintro e w3 ⟨rfl, hb3⟩
    go_wp2
    go_ret
    exact ⟨rfl, (T2.step hb3).bl⟩
  go_wp2_with fail
  refine (small_any n2 g2 _ (hn2.kept T2.bl) (hg2.kept T2.bl)).mono ?_
  rintro e w3 ⟨rfl, hb3⟩
  have T3 := T2.step hb3
  clear hb3 c0 c1 c2 c3
  cases hsm2 : smallB n2 g2
  · go_wp2_with fail
    refine (awake_any _).mono ?_
    rintro e w4 ⟨rfl, hb4⟩
    go_wp2
    go_ret
    exact ⟨rfl, (T3.step hb4).bl⟩
  clear T1 T2 hsm hsm2
  have ne : Nonempty (Cls2 w (.slice (some ⟨b, o, none⟩) len cap) (.slice g.ao g.len g.cap) (.slice n2.ao n2.len n2.cap) (.slice g2.ao g2.len g2.cap)) := ⟨⟨_, T3⟩⟩
  have d0 := fun x : Cls2 w (.slice (some ⟨b, o, none⟩) len cap) (.slice g.ao g.len g.cap) (.slice n2.ao n2.len n2.cap) (.slice g2.ao g2.len g2.cap) => x.box.c0
  have d1 := fun x : Cls2 w (.slice (some ⟨b, o, none⟩) len cap) (.slice g.ao g.len g.cap) (.slice n2.ao n2.len n2.cap) (.slice g2.ao g2.len g2.cap) => x.box.c1
  have d2 := fun x : Cls2 w (.slice (some ⟨b, o, none⟩) len cap) (.slice g.ao g.len g.cap) (.slice n2.ao n2.len n2.cap) (.slice g2.ao g2.len g2.cap) => x.box.c2
  have d3 := fun x : Cls2 w (.slice (some ⟨b, o, none⟩) len cap) (.slice g.ao g.len g.cap) (.slice n2.ao n2.len n2.cap) (.slice g2.ao g2.len g2.cap) => x.box.c3
  have SR : Hid (sameB (mkN b o len cap f) g (mkN b o len cap f) g = true) := same_refl (mkN b o len cap f) g
  go_wp2
  refine wp_region_cls2 T3 (by kernel_rfl) (by kernel_rfl) ?_
  repeat (first | go_big_quiet_step ((first
    | (go_at_call 32; exact Calls.cls2 _ (rsame_any (mkN b o len cap f) g n2 g2 _ (hn.kept (Cls2.box _).bl) (hg.kept (Cls2.box _).bl) (hn2.kept (Cls2.box _).bl) (hg2.kept (Cls2.box _).bl)))
    | (go_at_call_of 33 (Value.agg #[.slice n2.ao n2.len n2.cap, .slice g2.ao g2.len g2.cap]); exact Calls.cls2 _ (same_any (mkN b o len cap f) g n2 g2 _ (hn.kept (Cls2.box _).bl) (hg.kept (Cls2.box _).bl) (hn2.kept (Cls2.box _).bl) (hg2.kept (Cls2.box _).bl)))
    | (go_at_call 33; exact Calls.cls2 _ (same_is (mkN b o len cap f) g (mkN b o len cap f) g _ (hn.kept (Cls2.box _).bl) (hg.kept (Cls2.box _).bl) (hn.kept (Cls2.box _).bl) (hg.kept (Cls2.box _).bl) true SR.out)))))
  refine wpQuiet_nil ?_
  rintro w4 ⟨x4, rfl⟩
  have T4 := x4.box
  generalize x4.w = w4 at T4 ⊢
  clear x4 T3
  have c0 := T4.c0
  have c1 := T4.c1
  go_wp2_with fail
  refine (formed_any (mkN b o len cap f) g _ (hn.kept T4.bl) (hg.kept T4.bl)).mono ?_
  rw [hF]
  rintro e w5 ⟨rfl, hb5⟩
  have T5 := T4.step hb5
  clear hb5 c0 c1 T4
  have c0 := T5.c0
  have c1 := T5.c1
  have HF : Hid (formedB (mkN b o len cap f) g = true) := hF
  have hf := formed_parts hF
  have l8 : len ≤ 8 := hf.2.2.1
  have n0 : 0 < len := hf.2.1
  clear hF hf
  go_wp2
  clear c0 c1
  go_loopw [7, 8] (fun h i wr => ∃ a : Nat, a ≤ len ∧ i = .int .i64 a ∧ h = .bool (holdsB f a s) ∧ Two w wr (.slice (some ⟨b, o, none⟩) len cap) (.slice g.ao g.len g.cap) (.slice n2.ao n2.len n2.cap) (.slice g2.ao g2.len g2.cap)) (fun _ i _ => len - (intOf i).toNat)
  case atStart => exact ⟨0, Nat.zero_le _, rfl, by simp [holdsB], T5⟩
  case round =>
    obtain ⟨a, ha, rfl, rfl, hT⟩ := hrel
    clear T5
    have c0 := hT.c0
    have c1 := hT.c1
    by_cases hlt : a < len
    · have d4 : ∀ x : Cls2 w (.slice (some ⟨b, o, none⟩) len cap) (.slice g.ao g.len g.cap) (.slice n2.ao n2.len n2.cap) (.slice g2.ao g2.len g2.cap), x.w.cell? ⟨b, o + a, none⟩ = some (.string (f a)) := fun x => (hn.kept x.box.bl).cell a hlt
      have ia : (a : Int) < len := by omega
      have FN : Hid (findN (mkN b o len cap f) g (f a) = (a : Int)) := find_name (n := mkN b o len cap f) HF.out hlt
      have HS : Hid (holdsB f (a + 1) s = (holdsB f a s || ((f a).toList == s.toList))) := holds_succ f a s
      go_wp2
      refine wp_region_cls2 hT (by kernel_rfl) (by kernel_rfl) ?_
      repeat (first | go_big_quiet_step ((go_at_call 34; exact Calls.cls2 _ (find_is (mkN b o len cap f) g (f a) _ (hn.kept (Cls2.box _).bl) (hg.kept (Cls2.box _).bl) a FN.out))))
      refine wpQuiet_nil ?_
      rintro w6 ⟨x6, rfl⟩
      have T6 := x6.box
      generalize x6.w = w6 at T6 ⊢
      clear x6 hT c0 c1 FN d0 d1 d2 d3 d4
      have c0 := T6.c0
      have c1 := T6.c1
      have f1 : w6.cell? ⟨b, o + a, none⟩ = some (.string (f a)) := (hn.kept T6.bl).cell a hlt
      cases hv : holdsB f a s
      all_goals cases he : ((f a).toList == s.toList)
      all_goals
        go_wp2_with fail
        refine (Below_any (mkN b o len cap f) g a _ (hn.kept T6.bl) (hg.kept T6.bl)).mono ?_
        rintro e w7 ⟨q, rfl, hq, hql, hqx, hb7⟩
        have T7 := T6.step hb7
        have hbl := belL_nat (n := mkN b o len cap f) (g := g) HF.out hlt
        rw [hbl] at hql hqx
        obtain ⟨ao', qb, qo, ql, qc, qx⟩ := q
        dsimp only at hql hqx
        subst hql
        have hpos : 0 < (belTo g a len).length := Nat.lt_of_le_of_lt (Nat.zero_le _) (bel_split g a a len hlt (lq_refl HF.out hlt)).1
        have hao : ao' = some ⟨qb, qo, none⟩ := hq.nil hpos
        subst hao
        have HQ : Hid (∀ i, i < (belTo g a len).length → w7.cell? ⟨qb, qo + i, none⟩ = some (.int .i64 ((belTo g a len).getD i 0 : Nat))) := fun i hi => by rw [← hqx i]; exact hq.cell i hi
        have hql8 : (belTo g a len).length ≤ 8 := Nat.le_trans (belTo_len g a len) l8
        clear hqx hq hb7 c0 c1 f1 hbl T6
        have c0 := T7.c0
        have c1 := T7.c1
        go_wp2
        clear c0 c1
        go_loopw [10, 11] (fun i j wr => ∃ k : Nat, k ≤ len ∧ j = .int .i64 k ∧ i = .int .i64 ((belTo g a k).length : Nat) ∧ Two w wr (.slice (some ⟨b, o, none⟩) len cap) (.slice g.ao g.len g.cap) (.slice n2.ao n2.len n2.cap) (.slice g2.ao g2.len g2.cap) ∧ Below w7.heap.size w7 wr) (fun _ j _ => len - (intOf j).toNat)
        case atStart => exact ⟨0, Nat.zero_le _, rfl, rfl, T7, Below.refl _ _⟩
        case round =>
          obtain ⟨k, hk, rfl, rfl, hT8, hbl8⟩ := hrel
          clear T7
          have c0 := hT8.c0
          have c1 := hT8.c1
          by_cases hltk : k < len
          · have L8 := belTo_len g a k
            cases hbit : g.B k a
            · have HB : Hid ((belTo g a (k + 1)).length = (belTo g a k).length) := by show _ = _; rw [belTo_no g a k hbit]
              go_wp2_with fail
              refine (leq_is (mkN b o len cap f) g k a _ (hn.kept hT8.bl) (hg.kept hT8.bl) false ((leqB_nat (n := mkN b o len cap f) HF.out hltk hlt).trans hbit)).mono ?_
              rintro e w9 ⟨rfl, hb9⟩
              have T9 := hT8.step hb9
              have hbl9 := hbl8.trans (hb9.mono hbl8.size)
              clear hb9 c0 c1
              go_wp2
              go_roundw
              case rel => exact ⟨k + 1, by omega, by go_num, by rw [HB.out], T9, hbl9⟩
              case measure => simp [intOf]; omega
            · have HB : Hid ((belTo g a (k + 1)).length = (belTo g a k).length + 1) := by show _ = _; rw [belTo_yes g a k hbit, List.length_append]; rfl
              obtain ⟨s1, s2⟩ := bel_split g a k len hltk hbit
              have hcl := HQ.out _ s1
              rw [s2] at hcl
              have HCL : Hid (w7.cell? ⟨qb, qo + (belTo g a k).length, none⟩ = some (.int .i64 (k : Nat))) := hcl
              clear s2 hcl
              go_wp2_with fail
              refine (leq_is (mkN b o len cap f) g k a _ (hn.kept hT8.bl) (hg.kept hT8.bl) true ((leqB_nat (n := mkN b o len cap f) HF.out hltk hlt).trans hbit)).mono ?_
              rintro e w9 ⟨rfl, hb9⟩
              have T9 := hT8.step hb9
              have hbl9 := hbl8.trans (hb9.mono hbl8.size)
              have f9 : w9.cell? ⟨qb, qo + (belTo g a k).length, none⟩ = some (.int .i64 (k : Nat)) := (hbl9.cell (p := ⟨qb, qo + (belTo g a k).length, none⟩) (cell_lt HCL.out)).trans HCL.out
              have i9 : ((belTo g a k).length : Int) < ((belTo g a len).length : Int) := by omega
              clear hb9 c0 c1
              go_wp2
              go_roundw
              case rel => exact ⟨k + 1, by omega, by go_num, by rw [HB.out]; go_num, T9, hbl9⟩
              case measure => simp [intOf]; omega
          · have e : k = len := by omega
            subst e
            have en : (((belTo g a k).length : Int) != ((belTo g a k).length : Int)) = false := by simp
            go_wp2
            go_roundw
            case rel => exact ⟨a + 1, by omega, by go_num, by rw [HS.out, hv, he]; rfl, hT8⟩
            case measure => simp [intOf]; omega
    · have e : a = len := by omega
      subst e
      have HH : Hid ((findN (mkN b o a cap f) g s != -1) = holdsB f a s) := find_held (n := mkN b o a cap f) HF.out s
      clear d0 d1 d2 d3
      go_wp2_with fail
      refine (find_any (mkN b o a cap f) g s _ (hn.kept hT.bl) (hg.kept hT.bl)).mono ?_
      rintro e w9 ⟨rfl, hb9⟩
      have T9 := hT.step hb9
      have hh := HH.out
      go_wp2
      go_ret
      refine ⟨ret_bool ?_, T9.bl⟩
      first
        | (rw [hh]; simp)
        | simp
end Go.Proofs.Ytkaeenholpmpdaa
