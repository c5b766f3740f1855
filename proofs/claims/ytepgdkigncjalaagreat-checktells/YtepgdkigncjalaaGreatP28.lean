/- Layer 7: the walk of the statement CheckTells. -/
import Derived.Test.YtepgdkigncjalaaGreatP27
import Derived.Test.YtepgdkigncjalaaGreatP1
import Derived.ProofKit
import Derived.Deep.Grids
import Derived.Lib.SmallJoins
import Derived.OpenShut
namespace Go.Proofs.YtepgdkigncjalaaGreat
open Go Go.RowKit

def Stop (p : Prop) : Prop := p
theorem Stop.go {p : Prop} (h : Stop p) : p := h
theorem Stop.mk {p : Prop} (h : p) : Stop p := h
set_option maxRecDepth 100000 in
set_option maxHeartbeats 8000000 in
theorem checkTells_any (n : Strs) (g : Grid) (a b m : Int) (w : World) (hn : n.At w) (hg : g.At w) :
    Calls Tryz.prog 5 #[.agg #[.slice n.ao n.len n.cap, .slice g.ao g.len g.cap], .agg #[.int .i64 a, .int .i64 b, .int .i64 m]] w fun e w' => e = .returned (.bool true) ∧ Below w.heap.size w w' := by
  have H := allocs_heap [.cells #[.slice n.ao n.len n.cap, .slice g.ao g.len g.cap] 25, .cells #[.int .i64 a, .int .i64 b, .int .i64 m] 55] w
  have B0 := allocs_below [.cells #[.slice n.ao n.len n.cap, .slice g.ao g.len g.cap] 25, .cells #[.int .i64 a, .int .i64 b, .int .i64 m] 55] w
  simp only [List.foldl] at H B0
  have bA : Blk _ w.heap.size [.slice n.ao n.len n.cap, .slice g.ao g.len g.cap] 25 := H 0 (by simp)
  have bT : Blk _ (w.heap.size + 1) [.int .i64 a, .int .i64 b, .int .i64 m] 55 := H 1 (by simp)
  clear H
  go_enter Tryz.func5, Tryz.ntmps5
  go_wp2_with fail
  generalize ((w.alloc (.cells #[.slice n.ao n.len n.cap, .slice g.ao g.len g.cap] 25)).alloc (.cells #[.int .i64 a, .int .i64 b, .int .i64 m] 55)) = W at *
  have t0 := fun z => Gr.cell z (bT.cell 0 rfl)
  have t1 := fun z => Gr.cell z (bT.cell 1 rfl)
  have t2 := fun z => Gr.cell z (bT.cell 2 rfl)
  have hNE : Nonempty (Gr W) := ⟨⟨_, Below.refl _ _⟩⟩
  refine wp_region_gr (by kernel_rfl) (by kernel_rfl) ?_
  repeat (first | go_big_quiet_step (fail))
  refine wpQuiet_nil ?_
  rintro w1 ⟨x1, rfl⟩
  have B1 := Below.next B0 x1.bl
  have A1 := bA.kept x1.bl
  generalize x1.w = w1 at B1 A1 ⊢
  clear x1 hNE t0 t1 t2 bT bA B0
  have HN : Hid (n.At w ∧ g.At w) := ⟨hn, hg⟩
  clear hn hg
  go_wp2_with fail
  refine (awake7_any _).mono ?_
  rintro _ w2 ⟨rfl, h⟩
  have A2 := A1.kept h
  have B2 := Below.next B1 h
  clear A1 B1 h
  have a0 := A2.cell 0 rfl
  have a1 := A2.cell 1 rfl
  have hc := small_any n g w2 (HN.out.1.kept B2) (HN.out.2.kept B2)
  cases hq2 : smallB n g
  · rw [hq2] at hc
    go_wp2_with fail
    refine hc.mono ?_
    rintro _ w9 ⟨rfl, h⟩
    have B9 := Below.next B2 h
    clear A2 B2 h a0 a1 hc
    go_wp2_with fail
    refine (awake7_any _).mono ?_
    rintro _ w10 ⟨rfl, h⟩
    go_wp2
    go_ret
    exact ⟨rfl, Below.next B9 h⟩
  rw [hq2] at hc
  go_wp2_with fail
  refine hc.mono ?_
  rintro _ w3 ⟨rfl, h⟩
  have A3 := A2.kept h
  have B3 := Below.next B2 h
  have HQ2 : Hid (smallB n g = true) := hq2
  clear A2 B2 h a0 a1 hc hq2
  have a0 := A3.cell 0 rfl
  have a1 := A3.cell 1 rfl
  have hc := formed_any n g w3 (HN.out.1.kept B3) (HN.out.2.kept B3)
  cases hq3 : formedB n g
  · rw [hq3] at hc
    go_wp2_with fail
    refine hc.mono ?_
    rintro _ w9 ⟨rfl, h⟩
    have B9 := Below.next B3 h
    clear A3 B3 h a0 a1 hc
    go_wp2_with fail
    refine (awake7_any _).mono ?_
    rintro _ w10 ⟨rfl, h⟩
    go_wp2
    go_ret
    exact ⟨rfl, Below.next B9 h⟩
  rw [hq3] at hc
  go_wp2_with fail
  refine hc.mono ?_
  rintro _ w4 ⟨rfl, h⟩
  have A4 := A3.kept h
  have B4 := Below.next B3 h
  have HQ3 : Hid (formedB n g = true) := hq3
  clear A3 B3 h a0 a1 hc hq3
  have a0 := A4.cell 0 rfl
  have a1 := A4.cell 1 rfl
  have hc := label_any n g a w4
  cases hq4 : labB n a
  · rw [hq4] at hc
    go_wp2_with fail
    refine hc.mono ?_
    rintro _ w9 ⟨rfl, h⟩
    have B9 := Below.next B4 h
    clear A4 B4 h a0 a1 hc
    go_wp2_with fail
    refine (awake7_any _).mono ?_
    rintro _ w10 ⟨rfl, h⟩
    go_wp2
    go_ret
    exact ⟨rfl, Below.next B9 h⟩
  rw [hq4] at hc
  go_wp2_with fail
  refine hc.mono ?_
  rintro _ w5 ⟨rfl, h⟩
  have A5 := A4.kept h
  have B5 := Below.next B4 h
  have HQ4 : Hid (labB n a = true) := hq4
  clear A4 B4 h a0 a1 hc hq4
  have a0 := A5.cell 0 rfl
  have a1 := A5.cell 1 rfl
  have hc := label_any n g b w5
  cases hq5 : labB n b
  · rw [hq5] at hc
    go_wp2_with fail
    refine hc.mono ?_
    rintro _ w9 ⟨rfl, h⟩
    have B9 := Below.next B5 h
    clear A5 B5 h a0 a1 hc
    go_wp2_with fail
    refine (awake7_any _).mono ?_
    rintro _ w10 ⟨rfl, h⟩
    go_wp2
    go_ret
    exact ⟨rfl, Below.next B9 h⟩
  rw [hq5] at hc
  go_wp2_with fail
  refine hc.mono ?_
  rintro _ w6 ⟨rfl, h⟩
  have A6 := A5.kept h
  have B6 := Below.next B5 h
  have HQ5 : Hid (labB n b = true) := hq5
  clear A5 B5 h a0 a1 hc hq5
  have a0 := A6.cell 0 rfl
  have a1 := A6.cell 1 rfl
  have hc := label_any n g m w6
  cases hq6 : labB n m
  · rw [hq6] at hc
    go_wp2_with fail
    refine hc.mono ?_
    rintro _ w9 ⟨rfl, h⟩
    have B9 := Below.next B6 h
    clear A6 B6 h a0 a1 hc
    go_wp2_with fail
    refine (awake7_any _).mono ?_
    rintro _ w10 ⟨rfl, h⟩
    go_wp2
    go_ret
    exact ⟨rfl, Below.next B9 h⟩
  rw [hq6] at hc
  go_wp2_with fail
  refine hc.mono ?_
  rintro _ w7 ⟨rfl, h⟩
  have A7 := A6.kept h
  have B7 := Below.next B6 h
  have HQ6 : Hid (labB n m = true) := hq6
  clear A6 B6 h a0 a1 hc hq6
  obtain ⟨a, rfl, ha⟩ := lab_n HQ4.out
  obtain ⟨b, rfl, hb⟩ := lab_n HQ5.out
  obtain ⟨m, rfl, hm⟩ := lab_n HQ6.out
  have HF : Hid (formedB n g = true ∧ a < n.len ∧ b < n.len ∧ m < n.len) := ⟨HQ3.out, ha, hb, hm⟩
  clear HQ2 HQ3 HQ4 HQ5 HQ6 ha hb hm
  have H := allocs_heap [.cells #[.string ⟨#[97]⟩, .int .i64 1, .int .i64 a, .slice none 0 0, .int .i64 0, .int .i64 0, .string ⟨#[98]⟩, .int .i64 2, .int .i64 b, .slice none 0 0, .int .i64 0, .int .i64 0] 47, .cells zEx.toArray 37, .cells zEx.toArray 37] w7
  have D := allocs_below [.cells #[.string ⟨#[97]⟩, .int .i64 1, .int .i64 a, .slice none 0 0, .int .i64 0, .int .i64 0, .string ⟨#[98]⟩, .int .i64 2, .int .i64 b, .slice none 0 0, .int .i64 0, .int .i64 0] 47, .cells zEx.toArray 37, .cells zEx.toArray 37] w7
  simp only [List.foldl] at H D
  have e7 : Blk _ w7.heap.size (evL (env2 a b)) 47 := H 0 (by simp)
  have x7 : Blk _ (w7.heap.size + 1) zEx 37 := H 1 (by simp)
  have y7 : Blk _ (w7.heap.size + 2) zEx 37 := H 2 (by simp)
  have lL := A7.lt
  have l7 := A7.kept D
  have B8 := Below.next B7 D
  have lw := B7.size
  clear H D A7 B7
  go_wp2_with (first
    | (refine wpList_build rfl 37 #[(0, .const (.int .i64 3)), (3, .const (.string ⟨#[97]⟩))] rfl _ (by kernel_rfl) (run_build_nm sA _) ?_)
    | (refine wpList_build rfl 37 #[(0, .const (.int .i64 3)), (3, .const (.string ⟨#[98]⟩))] rfl _ (by kernel_rfl) (run_build_nm sB _) ?_)
    | (refine wpList_store_blk rfl rfl 37 (.tmp 9) (.tmp 79) rfl (w7.heap.size + 1) (nmE sA).vs (by kernel_rfl) (by kernel_rfl) rfl x7 rfl (by kernel_rfl) ?_; intro w8 W8; have y8 := W8.keep y7 (by omega))
    | (refine wpList_store_blk rfl rfl 37 (.tmp 10) (.tmp 80) rfl (w7.heap.size + 2) (nmE sB).vs (by kernel_rfl) (by kernel_rfl) rfl y8 rfl (by kernel_rfl) ?_; intro w9 W9; have x9 := W9.keep W8.blk (by omega); have y9 := W9.blk; have e9 := W9.keep (W8.keep e7 (by omega)) (by omega); have l9 := W9.keep (W8.keep l7 (by omega)) (by omega); have B9 := W9.below (by omega) (W8.below (by omega) B8); clear x7 y7 y8 e7 l7 B8 W8 W9)
    | (refine wpList_build rfl 37 #[(0, .const (.int .i64 1)), (1, .const (.int .i64 1))] rfl _ (by kernel_rfl) (run_build_one _) ?_)
    | (refine new_ex rfl rfl rfl (.tmp 11) (.tmp 81) rfl rfl (by kernel_rfl) oneE (by kernel_rfl) ?_; intro w10 o10 k; have x10 := x9.kept k; have y10 := y9.kept k; have e10 := e9.kept k; have l10 := l9.kept k; have B10 := Below.next B9 k; clear x9 y9 e9 l9 B9 k)
    | (refine wpList_load_ex rfl (.tmp 9) rfl (w7.heap.size + 1) 0 (by kernel_rfl) (nmE sA) (C17.of_range x10.range) ?_)
    | (refine new_slice1 rfl (.tmp 83) rfl (nmE sA) (by kernel_rfl) ?_; intro w11 s11 k; have x11 := x10.kept k; have y11 := y10.kept k; have e11 := e10.kept k; have l11 := l10.kept k; have o11 := o10.kept k; have B11 := Below.next B10 k; clear x10 y10 e10 l10 o10 B10 k)
    | (refine wpList_build rfl 37 #[(0, .const (.int .i64 14)), (1, .tmp 82), (7, .tmp 84)] rfl _ (by kernel_rfl) (run_build_out m w10.heap.size (nmE sA) _) ?_)
    | (refine new_ex rfl rfl rfl (.tmp 12) (.tmp 85) rfl rfl (by kernel_rfl) (outE m w10.heap.size (nmE sA)) (by kernel_rfl) ?_; intro w12 u12 k; have x12 := x11.kept k; have y12 := y11.kept k; have e12 := e11.kept k; have l12 := l11.kept k; have o12 := o11.kept k; have s12 := s11.kept k; have B12 := Below.next B11 k; clear x11 y11 e11 l11 o11 s11 B11 k)
    | (refine wpList_load_ex rfl (.tmp 10) rfl (w7.heap.size + 2) 0 (by kernel_rfl) (nmE sB) (C17.of_range y12.range) ?_)
    | (refine wpList_load_ex rfl (.tmp 12) rfl w11.heap.size 0 (by kernel_rfl) (outE m w10.heap.size (nmE sA)) (C17.of_range u12.range) ?_)
    | (refine wpList_load_ex rfl (.tmp 11) rfl w9.heap.size 0 (by kernel_rfl) oneE (C17.of_range o12.range) ?_)
    | (refine new_slice3 rfl (.tmp 86) (.tmp 87) (.tmp 88) rfl (nmE sB) (outE m w10.heap.size (nmE sA)) oneE (by kernel_rfl) ?_; intro w13 t13 k; have x13 := x12.kept k; have y13 := y12.kept k; have e13 := e12.kept k; have l13 := l12.kept k; have o13 := o12.kept k; have s13 := s12.kept k; have u13 := u12.kept k; have B13 := Below.next B12 k; clear x12 y12 e12 l12 o12 s12 u12 B12 k)
    | (refine wpList_build rfl 37 #[(0, .const (.int .i64 5)), (7, .tmp 89)] rfl _ (by kernel_rfl) (run_build_if w12.heap.size (nmE sB) (outE m w10.heap.size (nmE sA)) oneE _) ?_)
    | (refine new_ex rfl rfl rfl (.tmp 13) (.tmp 90) rfl rfl (by kernel_rfl) (ifE w12.heap.size (nmE sB) (outE m w10.heap.size (nmE sA)) oneE) (by kernel_rfl) ?_; intro w14 c14 k; have HC : Hid (w.heap.size < w13.heap.size ∧ w7.heap.size < w13.heap.size ∧ w7.heap.size + 1 < w13.heap.size ∧ w7.heap.size + 2 < w13.heap.size ∧ w9.heap.size < w13.heap.size) := ⟨l13.lt, e13.lt, x13.lt, y13.lt, o13.lt⟩; have HS : Hid (S9 n g a b m w.heap.size w7.heap.size (w7.heap.size + 1) (w7.heap.size + 2) w9.heap.size w10.heap.size w11.heap.size w12.heap.size w13.heap.size w14) := ⟨l13.kept k, e13.kept k, x13.kept k, y13.kept k, o13.kept k, s13.kept k, u13.kept k, t13.kept k, c14⟩; have B14 := Below.next B13 k; clear x13 y13 e13 l13 o13 s13 u13 t13 c14 B13 k lL lw; have a0 := HS.out.l.cell 0 rfl; have a1 := HS.out.l.cell 1 rfl))
  obtain ⟨z, hz, hzl, hzle⟩ := bot_is HF.out.1
  obtain ⟨q, hq, hql, _, hbq⟩ := ji_le HF.out.1 HF.out.2.1 HF.out.2.2.1
  have HZ : Hid (z < n.len ∧ ∀ c, c < n.len → Lq g z c) := ⟨hzl, hzle⟩
  have HJ : Hid (joinI n g a b = (q : Int) ∧ q < n.len ∧ Lq g b q) := ⟨hq, hql, hbq⟩
  obtain ⟨v1, hv1⟩ : ∃ v, leqB n g a m = v := ⟨_, rfl⟩
  obtain ⟨v2, hv2⟩ : ∃ v, leqB n g q m = v := ⟨_, rfl⟩
  have HV1 : Hid (leqB n g a m = v1) := hv1
  have HV2 : Hid (leqB n g q m = v2) := hv2
  have hc := Bottom_any n g w14 (HN.out.1.kept B14) (HN.out.2.kept B14)
  rw [hz] at hc
  clear hz hzl hzle hq hql hbq hv1 hv2
  refine hc.mono ?_
  rintro _ w15 ⟨rfl, h⟩
  have HT : Hid (S9 n g a b m w.heap.size w7.heap.size (w7.heap.size + 1) (w7.heap.size + 2) w9.heap.size w10.heap.size w11.heap.size w12.heap.size w13.heap.size w15) := HS.out.kept h
  have B15 := Below.next B14 h
  have E15 : Hid (Ev n g a b z w7.heap.size w15) := ⟨HN.out.1.kept B15, HN.out.2.kept B15, HF.out.1, HT.out.e, HF.out.2.1, HF.out.2.2.1, HZ.out.1, HZ.out.2⟩
  clear HS B14 a0 a1 hc h
  have a0 := HT.out.l.cell 0 rfl
  have a1 := HT.out.l.cell 1 rfl
  have hJ := (j_out E15.out HF.out.2.2.2 (lie_out HT.out.s (lie_nm _ sA (by decide)))).one
  rw [HV1.out] at hJ
  go_wp2_with (refine wpList_load_ex rfl (.tmp 12) rfl w11.heap.size 0 (by kernel_rfl) (outE m w10.heap.size (nmE sA)) (C17.of_range HT.out.v.range) ?_)
  refine hJ.mono ?_
  rintro _ w16 ⟨k1, l1, ao1, cap1, x1, pl1, c1, rfl, e1, _, h⟩
  have HE1 : Hid ((c1 == 0) = v1) := e1
  have D := Below.next h (below_alloc w16 (.cells #[.int .i64 k1, .int .i64 l1, .slice ao1 0 cap1, .int .i64 0, .int .i64 0] 34))
  have HU : Hid (S9 n g a b m w.heap.size w7.heap.size (w7.heap.size + 1) (w7.heap.size + 2) w9.heap.size w10.heap.size w11.heap.size w12.heap.size w13.heap.size (w16.alloc (.cells #[.int .i64 k1, .int .i64 l1, .slice ao1 0 cap1, .int .i64 0, .int .i64 0] 34))) := HT.out.kept D
  have E16 : Hid (Ev n g a b z w7.heap.size (w16.alloc (.cells #[.int .i64 k1, .int .i64 l1, .slice ao1 0 cap1, .int .i64 0, .int .i64 0] 34))) := E15.out.kept D
  have B16 := Below.next B15 D
  clear HT E15 B15 a0 a1 hJ h D e1
  have a0 := HU.out.l.cell 0 rfl
  have a1 := HU.out.l.cell 1 rfl
  have hJ := (j_cond E16.out HJ.out.1 HJ.out.2.1 HJ.out.2.2 HF.out.2.2.2 (lie_if HU.out.t (lie_nm _ sB (by decide)) (lie_out HU.out.s (lie_nm _ sA (by decide))) (lie_one _))).one
  rw [HV2.out] at hJ
  go_wp2_with (refine wpList_load_ex rfl (.tmp 13) rfl w13.heap.size 0 (by kernel_rfl) (ifE w12.heap.size (nmE sB) (outE m w10.heap.size (nmE sA)) oneE) (C17.of_range HU.out.c.range) ?_)
  refine hJ.mono ?_
  rintro _ w17 ⟨k2, l2, ao2, cap2, x2, pl2, c2, rfl, e2, f2, h⟩
  have HE2 : Hid ((c2 == 0) = v2 ∧ (v2 = true → l2 = b ∧ x2 = -1)) := ⟨e2, f2⟩
  have D := Below.next h (below_alloc w17 (.cells #[.int .i64 k2, .int .i64 l2, .slice ao2 0 cap2, .int .i64 0, .int .i64 0] 34))
  have T18 : Blk (w17.alloc (.cells #[.int .i64 k2, .int .i64 l2, .slice ao2 0 cap2, .int .i64 0, .int .i64 0] 34)) w17.heap.size [.int .i64 k2, .int .i64 l2, .slice ao2 0 cap2, .int .i64 0, .int .i64 0] 34 := Blk.new _ _ _
  have HT : Hid (S9 n g a b m w.heap.size w7.heap.size (w7.heap.size + 1) (w7.heap.size + 2) w9.heap.size w10.heap.size w11.heap.size w12.heap.size w13.heap.size (w17.alloc (.cells #[.int .i64 k2, .int .i64 l2, .slice ao2 0 cap2, .int .i64 0, .int .i64 0] 34))) := HU.out.kept D
  have E18 : Hid (Ev n g a b z w7.heap.size (w17.alloc (.cells #[.int .i64 k2, .int .i64 l2, .slice ao2 0 cap2, .int .i64 0, .int .i64 0] 34))) := E16.out.kept D
  have B18 := Below.next B16 D
  clear HU E16 B16 a0 a1 hJ h D e2 f2
  go_wp2_with fail
  generalize w17.alloc (.cells #[.int .i64 k2, .int .i64 l2, .slice ao2 0 cap2, .int .i64 0, .int .i64 0] 34) = w18 at *
  have a0 := fun z => Gr.cell z (HT.out.l.cell 0 rfl)
  have a1 := fun z => Gr.cell z (HT.out.l.cell 1 rfl)
  have H1 : ∀ u, Below w18.heap.size w18 u → Calls Tryz.prog 9 #[.agg #[.slice n.ao n.len n.cap, .slice g.ao g.len g.cap], .int .i64 a, .int .i64 m] u fun e w' => e = .returned (.bool v1) ∧ Below u.heap.size u w' := fun u hu => by
    have := leq_any n g a m u (E18.out.hn.kept hu) (E18.out.hg.kept hu)
    rwa [HV1.out] at this
  have H2 : ∀ u, Below w18.heap.size w18 u → Calls Tryz.prog 19 #[.agg #[.slice n.ao n.len n.cap, .slice g.ao g.len g.cap], .int .i64 a, .int .i64 b] u fun e w' => e = .returned (.int .i64 q) ∧ Below u.heap.size u w' := fun u hu => by
    have := Join_any n g a b u (E18.out.hn.kept hu) (E18.out.hg.kept hu)
    rwa [HJ.out.1] at this
  have H3 : ∀ u, Below w18.heap.size w18 u → Calls Tryz.prog 9 #[.agg #[.slice n.ao n.len n.cap, .slice g.ao g.len g.cap], .int .i64 q, .int .i64 m] u fun e w' => e = .returned (.bool v2) ∧ Below u.heap.size u w' := fun u hu => by
    have := leq_any n g q m u (E18.out.hn.kept hu) (E18.out.hg.kept hu)
    rwa [HV2.out] at this
  have hNE : Nonempty (Gr w18) := ⟨⟨_, Below.refl _ _⟩⟩
  refine wp_region_gr (by kernel_rfl) (by kernel_rfl) ?_
  repeat (first | go_big_quiet_step ((first | (go_at_call 9; with_reducible exact Calls.gr _ (H1 _ (Gr.bl _))) | (go_at_call 9; with_reducible exact Calls.gr _ (H3 _ (Gr.bl _))) | (go_at_call 19; with_reducible exact Calls.gr _ (H2 _ (Gr.bl _))))))
  refine wpQuiet_nil ?_
  rintro w19 ⟨x19, rfl⟩
  have HU : Hid (S9 n g a b m w.heap.size w7.heap.size (w7.heap.size + 1) (w7.heap.size + 2) w9.heap.size w10.heap.size w11.heap.size w12.heap.size w13.heap.size x19.w) := HT.out.kept x19.bl
  have E19 : Hid (Ev n g a b z w7.heap.size x19.w) := E18.out.kept x19.bl
  have T19 := T18.kept x19.bl
  have B19 := Below.next B18 x19.bl
  generalize x19.w = w19 at HU E19 T19 B19 ⊢
  clear x19 hNE a0 a1 H1 H2 H3 HT E18 T18 B18
  have HP : Hid (w13.heap.size < w19.heap.size) := HU.out.c.lt
  have e1 := HE1.out
  obtain ⟨e2, f2⟩ := HE2.out
  clear HE1 HE2
  cases v2
  · clear f2
    have a0 := HU.out.l.cell 0 rfl
    have a1 := HU.out.l.cell 1 rfl
    have t1 := T19.cell 1 rfl
    go_wp2_with (refine wpList_load_ex rfl (.tmp 9) rfl (w7.heap.size + 1) 0 (by kernel_rfl) (nmE sA) (C17.of_range HU.out.x.range) ?_; refine Stop.go ?_)
    refine Stop.mk ?_
    refine new_slice1 rfl (.tmp 148) rfl (nmE sA) (by kernel_rfl) ?_
    intro w20 s20 k
    have HA : Hid (S9 n g a b m w.heap.size w7.heap.size (w7.heap.size + 1) (w7.heap.size + 2) w9.heap.size w10.heap.size w11.heap.size w12.heap.size w13.heap.size w20) := HU.out.kept k
    have B20 := Below.next B19 k
    clear HU B19 k E19 T19 a0 a1 t1
    refine wpList_build rfl 37 #[(0, .const (.int .i64 15)), (5, .tmp 147), (7, .tmp 149)] rfl _ (by kernel_rfl) (run_build_raise z w19.heap.size (nmE sA) _) ?_
    refine new_ex rfl rfl rfl (.tmp 25) (.tmp 150) rfl rfl (by kernel_rfl) (raiseE z w19.heap.size (nmE sA)) (by kernel_rfl) ?_
    intro w21 r21 k
    have s21 := s20.kept k
    have HB : Hid (S9 n g a b m w.heap.size w7.heap.size (w7.heap.size + 1) (w7.heap.size + 2) w9.heap.size w10.heap.size w11.heap.size w12.heap.size w13.heap.size w21) := HA.out.kept k
    have B21 := Below.next B20 k
    clear HA B20 s20 k
    go_wp2_with (refine wpList_load_ex rfl (.tmp 10) rfl (w7.heap.size + 2) 0 (by kernel_rfl) (nmE sB) (C17.of_range HB.out.y.range) ?_; refine Stop.go ?_)
    refine Stop.mk ?_
    refine wpList_load_ex rfl (.tmp 25) rfl w20.heap.size 0 (by kernel_rfl) (raiseE z w19.heap.size (nmE sA)) (C17.of_range r21.range) ?_
    refine wpList_load_ex rfl (.tmp 11) rfl w9.heap.size 0 (by kernel_rfl) oneE (C17.of_range HB.out.o.range) ?_
    refine new_slice3 rfl (.tmp 151) (.tmp 152) (.tmp 153) rfl (nmE sB) (raiseE z w19.heap.size (nmE sA)) oneE (by kernel_rfl) ?_
    intro w22 t22 k
    have HP2 : Hid (w13.heap.size < w21.heap.size) := HB.out.c.lt
    have s22 := s21.kept k
    have HD : Hid (S9 n g a b m w.heap.size w7.heap.size (w7.heap.size + 1) (w7.heap.size + 2) w9.heap.size w10.heap.size w11.heap.size w12.heap.size w13.heap.size w22) := HB.out.kept k
    have B22 := Below.next B21 k
    clear HB B21 s21 r21 k
    refine wpList_build rfl 37 #[(0, .const (.int .i64 5)), (7, .tmp 154)] rfl _ (by kernel_rfl) (run_build_if w21.heap.size (nmE sB) (raiseE z w19.heap.size (nmE sA)) oneE _) ?_
    refine wpList_store_blk rfl rfl 37 (.tmp 13) (.tmp 155) rfl w13.heap.size (ifE w21.heap.size (nmE sB) (raiseE z w19.heap.size (nmE sA)) oneE).vs (by kernel_rfl) (by kernel_rfl) rfl HD.out.c rfl (by kernel_rfl) ?_; intro w23 W23; have l23 := W23.keep HD.out.l (by have := HC.out; omega); have e23 := W23.keep HD.out.e (by have := HC.out; omega); have o23 := W23.keep HD.out.o (by have := HC.out; omega); have s23 := W23.keep s22 (by have := HP.out; omega); have t23 := W23.keep t22 (by have := HP2.out; omega); have c23 := W23.blk; have B23 := W23.below (by have := HC.out; omega) B22; clear HD s22 t22 B22 W23 HC HP HP2; have a0 := l23.cell 0 rfl; have a1 := l23.cell 1 rfl
    go_wp2_with (refine wpList_load_ex rfl (.tmp 13) rfl w13.heap.size 0 (by kernel_rfl) (ifE w21.heap.size (nmE sB) (raiseE z w19.heap.size (nmE sA)) oneE) (C17.of_range c23.range) ?_)
    clear a0 a1
    have E23 : Ev n g a b z w7.heap.size w23 := ⟨HN.out.1.kept B23, HN.out.2.kept B23, HF.out.1, e23, HF.out.2.1, HF.out.2.2.1, HZ.out.1, HZ.out.2⟩
    refine ((j_cond2 E23 HJ.out.1 HJ.out.2.1 HJ.out.2.2 (lie_if t23 (lie_nm _ sB (by decide)) (lie_raise s23 (lie_nm _ sA (by decide))) (lie_one _))).one).mono ?_
    rintro _ w24 ⟨k3, l3, ao3, cap3, x3, pl3, c3, rfl, e3, f3, h⟩
    obtain ⟨rfl, rfl⟩ := f3 rfl
    have e3' : c3 = 0 := by simpa using e3
    subst e3'
    have D := Below.next h (below_alloc w24 (.cells #[.int .i64 k3, .int .i64 q, .slice ao3 0 cap3, .int .i64 0, .int .i64 0] 34))
    have l25 := l23.kept D
    have e25 := e23.kept D
    have o25 := o23.kept D
    have s25 := s23.kept D
    have c25 := c23.kept D
    have t25 := t23.kept D
    have B25 := Below.next B23 D
    clear l23 e23 o23 s23 c23 t23 B23 E23 h D e3 f3
    have a0 := l25.cell 0 rfl
    have a1 := l25.cell 1 rfl
    go_wp2_with (refine wpList_load_ex rfl (.tmp 13) rfl w13.heap.size 0 (by kernel_rfl) (ifE w21.heap.size (nmE sB) (raiseE z w19.heap.size (nmE sA)) oneE) (C17.of_range c25.range) ?_; refine Stop.go ?_)
    refine Stop.mk ?_
    go_wp2_with (refine wpList_load_ex rfl (.tmp 11) rfl w9.heap.size 0 (by kernel_rfl) oneE (C17.of_range o25.range) ?_; refine Stop.go ?_)
    refine Stop.mk ?_
    refine new_slice1 rfl (.tmp 169) rfl oneE (by kernel_rfl) ?_; intro w26 d26 k; have l26 := l25.kept k; have e26 := e25.kept k; have s26 := s25.kept k; have t26 := t25.kept k; have B26 := Below.next B25 k; clear l25 e25 o25 c25 s25 t25 B25 k a0 a1
    refine wpList_build rfl 37 #[(0, .const (.int .i64 14)), (1, .tmp 168), (7, .tmp 170)] rfl _ (by kernel_rfl) (run_build_out m (w24.alloc (.cells #[.int .i64 k3, .int .i64 q, .slice ao3 0 cap3, .int .i64 0, .int .i64 0] 34)).heap.size oneE _) ?_
    refine new_slice2 rfl (.tmp 167) (.tmp 171) rfl (ifE w21.heap.size (nmE sB) (raiseE z w19.heap.size (nmE sA)) oneE) (outE m (w24.alloc (.cells #[.int .i64 k3, .int .i64 q, .slice ao3 0 cap3, .int .i64 0, .int .i64 0] 34)).heap.size oneE) (by kernel_rfl) ?_; intro w27 g27 k; have l27 := l26.kept k; have e27 := e26.kept k; have s27 := s26.kept k; have t27 := t26.kept k; have d27 := d26.kept k; have B27 := Below.next B26 k; clear l26 e26 s26 t26 d26 B26 k
    refine wpList_build rfl 37 #[(0, .const (.int .i64 17)), (7, .tmp 172)] rfl _ (by kernel_rfl) (run_build_seq w26.heap.size (ifE w21.heap.size (nmE sB) (raiseE z w19.heap.size (nmE sA)) oneE) (outE m (w24.alloc (.cells #[.int .i64 k3, .int .i64 q, .slice ao3 0 cap3, .int .i64 0, .int .i64 0] 34)).heap.size oneE) _) ?_
    refine new_ex rfl rfl rfl (.tmp 30) (.tmp 173) rfl rfl (by kernel_rfl) (seqE w26.heap.size (ifE w21.heap.size (nmE sB) (raiseE z w19.heap.size (nmE sA)) oneE) (outE m (w24.alloc (.cells #[.int .i64 k3, .int .i64 q, .slice ao3 0 cap3, .int .i64 0, .int .i64 0] 34)).heap.size oneE)) (by kernel_rfl) ?_; intro w28 j28 k; have l28 := l27.kept k; have e28 := e27.kept k; have s28 := s27.kept k; have t28 := t27.kept k; have d28 := d27.kept k; have g28 := g27.kept k; have B28 := Below.next B27 k; clear l27 e27 s27 t27 d27 g27 B27 k; have a0 := l28.cell 0 rfl; have a1 := l28.cell 1 rfl
    go_wp2_with (refine wpList_load_ex rfl (.tmp 30) rfl w27.heap.size 0 (by kernel_rfl) (seqE w26.heap.size (ifE w21.heap.size (nmE sB) (raiseE z w19.heap.size (nmE sA)) oneE) (outE m (w24.alloc (.cells #[.int .i64 k3, .int .i64 q, .slice ao3 0 cap3, .int .i64 0, .int .i64 0] 34)).heap.size oneE)) (C17.of_range j28.range) ?_)
    clear a0 a1
    have E28 : Ev n g a b z w7.heap.size w28 := ⟨HN.out.1.kept B28, HN.out.2.kept B28, HF.out.1, e28, HF.out.2.1, HF.out.2.2.1, HZ.out.1, HZ.out.2⟩
    have hJ := (j_later E28 HJ.out.1 HJ.out.2.1 HJ.out.2.2 HF.out.2.2.2 (lie_seq g28 (lie_if t28 (lie_nm _ sB (by decide)) (lie_raise s28 (lie_nm _ sA (by decide))) (lie_one _)) (lie_out d28 (lie_one _)))).one
    rw [HV2.out] at hJ
    refine hJ.mono ?_
    rintro _ w29 ⟨k4, l4, ao4, cap4, x4, pl4, c4, rfl, e4, -, h⟩
    have D := Below.next h (below_alloc w29 (.cells #[.int .i64 k4, .int .i64 l4, .slice ao4 0 cap4, .int .i64 0, .int .i64 0] 34))
    have l30 := l28.kept D
    have B30 := Below.next B28 D
    clear l28 e28 s28 t28 d28 g28 j28 B28 E28 h D hJ
    have a0 := l30.cell 0 rfl
    have a1 := l30.cell 1 rfl
    have hc := Join_any n g a b _ (HN.out.1.kept B30) (HN.out.2.kept B30)
    rw [HJ.out.1] at hc
    go_wp2_with fail
    refine hc.mono ?_
    rintro _ w31 ⟨rfl, h⟩
    go_wp2
    go_ret
    exact ⟨rfl, Below.next B30 h⟩
  · obtain ⟨rfl, _⟩ := f2 rfl
    have e2' : c2 = 0 := by simpa using e2
    subst e2'
    clear f2 e2
    have a0 := HU.out.l.cell 0 rfl
    have a1 := HU.out.l.cell 1 rfl
    have t1 := T19.cell 1 rfl
    go_wp2_with (refine wpList_load_ex rfl (.tmp 9) rfl (w7.heap.size + 1) 0 (by kernel_rfl) (nmE sA) (C17.of_range HU.out.x.range) ?_; refine Stop.go ?_)
    refine Stop.mk ?_
    refine new_slice1 rfl (.tmp 148) rfl (nmE sA) (by kernel_rfl) ?_
    intro w20 s20 k
    have HA : Hid (S9 n g a b m w.heap.size w7.heap.size (w7.heap.size + 1) (w7.heap.size + 2) w9.heap.size w10.heap.size w11.heap.size w12.heap.size w13.heap.size w20) := HU.out.kept k
    have B20 := Below.next B19 k
    clear HU B19 k E19 T19 a0 a1 t1
    refine wpList_build rfl 37 #[(0, .const (.int .i64 15)), (5, .tmp 147), (7, .tmp 149)] rfl _ (by kernel_rfl) (run_build_raise z w19.heap.size (nmE sA) _) ?_
    refine new_ex rfl rfl rfl (.tmp 25) (.tmp 150) rfl rfl (by kernel_rfl) (raiseE z w19.heap.size (nmE sA)) (by kernel_rfl) ?_
    intro w21 r21 k
    have s21 := s20.kept k
    have HB : Hid (S9 n g a b m w.heap.size w7.heap.size (w7.heap.size + 1) (w7.heap.size + 2) w9.heap.size w10.heap.size w11.heap.size w12.heap.size w13.heap.size w21) := HA.out.kept k
    have B21 := Below.next B20 k
    clear HA B20 s20 k
    go_wp2_with (refine wpList_load_ex rfl (.tmp 10) rfl (w7.heap.size + 2) 0 (by kernel_rfl) (nmE sB) (C17.of_range HB.out.y.range) ?_; refine Stop.go ?_)
    refine Stop.mk ?_
    refine wpList_load_ex rfl (.tmp 25) rfl w20.heap.size 0 (by kernel_rfl) (raiseE z w19.heap.size (nmE sA)) (C17.of_range r21.range) ?_
    refine wpList_load_ex rfl (.tmp 11) rfl w9.heap.size 0 (by kernel_rfl) oneE (C17.of_range HB.out.o.range) ?_
    refine new_slice3 rfl (.tmp 151) (.tmp 152) (.tmp 153) rfl (nmE sB) (raiseE z w19.heap.size (nmE sA)) oneE (by kernel_rfl) ?_
    intro w22 t22 k
    have HP2 : Hid (w13.heap.size < w21.heap.size) := HB.out.c.lt
    have s22 := s21.kept k
    have HD : Hid (S9 n g a b m w.heap.size w7.heap.size (w7.heap.size + 1) (w7.heap.size + 2) w9.heap.size w10.heap.size w11.heap.size w12.heap.size w13.heap.size w22) := HB.out.kept k
    have B22 := Below.next B21 k
    clear HB B21 s21 r21 k
    refine wpList_build rfl 37 #[(0, .const (.int .i64 5)), (7, .tmp 154)] rfl _ (by kernel_rfl) (run_build_if w21.heap.size (nmE sB) (raiseE z w19.heap.size (nmE sA)) oneE _) ?_
    refine wpList_store_blk rfl rfl 37 (.tmp 13) (.tmp 155) rfl w13.heap.size (ifE w21.heap.size (nmE sB) (raiseE z w19.heap.size (nmE sA)) oneE).vs (by kernel_rfl) (by kernel_rfl) rfl HD.out.c rfl (by kernel_rfl) ?_; intro w23 W23; have l23 := W23.keep HD.out.l (by have := HC.out; omega); have e23 := W23.keep HD.out.e (by have := HC.out; omega); have o23 := W23.keep HD.out.o (by have := HC.out; omega); have s23 := W23.keep s22 (by have := HP.out; omega); have t23 := W23.keep t22 (by have := HP2.out; omega); have c23 := W23.blk; have B23 := W23.below (by have := HC.out; omega) B22; clear HD s22 t22 B22 W23 HC HP HP2; have a0 := l23.cell 0 rfl; have a1 := l23.cell 1 rfl
    go_wp2_with (refine wpList_load_ex rfl (.tmp 13) rfl w13.heap.size 0 (by kernel_rfl) (ifE w21.heap.size (nmE sB) (raiseE z w19.heap.size (nmE sA)) oneE) (C17.of_range c23.range) ?_)
    clear a0 a1
    have E23 : Ev n g a b z w7.heap.size w23 := ⟨HN.out.1.kept B23, HN.out.2.kept B23, HF.out.1, e23, HF.out.2.1, HF.out.2.2.1, HZ.out.1, HZ.out.2⟩
    refine ((j_cond2 E23 HJ.out.1 HJ.out.2.1 HJ.out.2.2 (lie_if t23 (lie_nm _ sB (by decide)) (lie_raise s23 (lie_nm _ sA (by decide))) (lie_one _))).one).mono ?_
    rintro _ w24 ⟨k3, l3, ao3, cap3, x3, pl3, c3, rfl, e3, f3, h⟩
    obtain ⟨rfl, rfl⟩ := f3 rfl
    have e3' : c3 = 0 := by simpa using e3
    subst e3'
    have D := Below.next h (below_alloc w24 (.cells #[.int .i64 k3, .int .i64 q, .slice ao3 0 cap3, .int .i64 0, .int .i64 0] 34))
    have l25 := l23.kept D
    have e25 := e23.kept D
    have o25 := o23.kept D
    have s25 := s23.kept D
    have c25 := c23.kept D
    have t25 := t23.kept D
    have B25 := Below.next B23 D
    clear l23 e23 o23 s23 c23 t23 B23 E23 h D e3 f3
    have a0 := l25.cell 0 rfl
    have a1 := l25.cell 1 rfl
    go_wp2_with (refine wpList_load_ex rfl (.tmp 13) rfl w13.heap.size 0 (by kernel_rfl) (ifE w21.heap.size (nmE sB) (raiseE z w19.heap.size (nmE sA)) oneE) (C17.of_range c25.range) ?_; refine Stop.go ?_)
    refine Stop.mk ?_
    go_wp2_with (refine wpList_load_ex rfl (.tmp 11) rfl w9.heap.size 0 (by kernel_rfl) oneE (C17.of_range o25.range) ?_; refine Stop.go ?_)
    refine Stop.mk ?_
    refine new_slice1 rfl (.tmp 169) rfl oneE (by kernel_rfl) ?_; intro w26 d26 k; have l26 := l25.kept k; have e26 := e25.kept k; have s26 := s25.kept k; have t26 := t25.kept k; have B26 := Below.next B25 k; clear l25 e25 o25 c25 s25 t25 B25 k a0 a1
    refine wpList_build rfl 37 #[(0, .const (.int .i64 14)), (1, .tmp 168), (7, .tmp 170)] rfl _ (by kernel_rfl) (run_build_out m (w24.alloc (.cells #[.int .i64 k3, .int .i64 q, .slice ao3 0 cap3, .int .i64 0, .int .i64 0] 34)).heap.size oneE _) ?_
    refine new_slice2 rfl (.tmp 167) (.tmp 171) rfl (ifE w21.heap.size (nmE sB) (raiseE z w19.heap.size (nmE sA)) oneE) (outE m (w24.alloc (.cells #[.int .i64 k3, .int .i64 q, .slice ao3 0 cap3, .int .i64 0, .int .i64 0] 34)).heap.size oneE) (by kernel_rfl) ?_; intro w27 g27 k; have l27 := l26.kept k; have e27 := e26.kept k; have s27 := s26.kept k; have t27 := t26.kept k; have d27 := d26.kept k; have B27 := Below.next B26 k; clear l26 e26 s26 t26 d26 B26 k
    refine wpList_build rfl 37 #[(0, .const (.int .i64 17)), (7, .tmp 172)] rfl _ (by kernel_rfl) (run_build_seq w26.heap.size (ifE w21.heap.size (nmE sB) (raiseE z w19.heap.size (nmE sA)) oneE) (outE m (w24.alloc (.cells #[.int .i64 k3, .int .i64 q, .slice ao3 0 cap3, .int .i64 0, .int .i64 0] 34)).heap.size oneE) _) ?_
    refine new_ex rfl rfl rfl (.tmp 30) (.tmp 173) rfl rfl (by kernel_rfl) (seqE w26.heap.size (ifE w21.heap.size (nmE sB) (raiseE z w19.heap.size (nmE sA)) oneE) (outE m (w24.alloc (.cells #[.int .i64 k3, .int .i64 q, .slice ao3 0 cap3, .int .i64 0, .int .i64 0] 34)).heap.size oneE)) (by kernel_rfl) ?_; intro w28 j28 k; have l28 := l27.kept k; have e28 := e27.kept k; have s28 := s27.kept k; have t28 := t27.kept k; have d28 := d27.kept k; have g28 := g27.kept k; have B28 := Below.next B27 k; clear l27 e27 s27 t27 d27 g27 B27 k; have a0 := l28.cell 0 rfl; have a1 := l28.cell 1 rfl
    go_wp2_with (refine wpList_load_ex rfl (.tmp 30) rfl w27.heap.size 0 (by kernel_rfl) (seqE w26.heap.size (ifE w21.heap.size (nmE sB) (raiseE z w19.heap.size (nmE sA)) oneE) (outE m (w24.alloc (.cells #[.int .i64 k3, .int .i64 q, .slice ao3 0 cap3, .int .i64 0, .int .i64 0] 34)).heap.size oneE)) (C17.of_range j28.range) ?_)
    clear a0 a1
    have E28 : Ev n g a b z w7.heap.size w28 := ⟨HN.out.1.kept B28, HN.out.2.kept B28, HF.out.1, e28, HF.out.2.1, HF.out.2.2.1, HZ.out.1, HZ.out.2⟩
    have hJ := (j_later E28 HJ.out.1 HJ.out.2.1 HJ.out.2.2 HF.out.2.2.2 (lie_seq g28 (lie_if t28 (lie_nm _ sB (by decide)) (lie_raise s28 (lie_nm _ sA (by decide))) (lie_one _)) (lie_out d28 (lie_one _)))).one
    rw [HV2.out] at hJ
    refine hJ.mono ?_
    rintro _ w29 ⟨k4, l4, ao4, cap4, x4, pl4, c4, rfl, e4, -, h⟩
    have D := Below.next h (below_alloc w29 (.cells #[.int .i64 k4, .int .i64 l4, .slice ao4 0 cap4, .int .i64 0, .int .i64 0] 34))
    have l30 := l28.kept D
    have B30 := Below.next B28 D
    clear l28 e28 s28 t28 d28 g28 j28 B28 E28 h D hJ
    have a0 := l30.cell 0 rfl
    have a1 := l30.cell 1 rfl
    have hc := Join_any n g a b _ (HN.out.1.kept B30) (HN.out.2.kept B30)
    rw [HJ.out.1] at hc
    go_wp2_with fail
    refine hc.mono ?_
    rintro _ w31 ⟨rfl, h⟩
    go_wp2
    go_ret
    exact ⟨rfl, Below.next B30 h⟩
end Go.Proofs.YtepgdkigncjalaaGreat

/- A lattice that comes in, opened into its names and its table. -/
namespace Go.Proofs.YtepgdkigncjalaaGreat
open Go.ChangeShapes Go.WideShapes Go.ChangeAt Go.RowKit Go.Deep Go.Joins

theorem Tryz.own : ownKnob Tryz.prog.godebug = none := by kernel_rfl
theorem Tryz.laidOut : laidOutB Tryz.prog = true := by kernel_rfl
theorem Tryz.cellsString : Tryz.prog.cellsOf 9 = 1 := by kernel_rfl
theorem Tryz.cellsBool : Tryz.prog.cellsOf 4 = 1 := by kernel_rfl
theorem Tryz.cellsRow : Tryz.prog.cellsOf 75 = 1 := by kernel_rfl
theorem Tryz.cellsLat : Tryz.prog.cellsOf 25 = 2 := by kernel_rfl
theorem addr_plain (b off i : Nat) : (⟨b, off, none⟩ : Addr).add i = ⟨b, off + i, none⟩ := by unfold Addr.add; split <;> simp_all

section
variable {H : Type} {enc : TypeId × Value → H} {W : World} {base : Nat}

set_option maxRecDepth 100000 in
theorem open_strs {fuel : Nat} {v : Value} {x : DataW H × List MemPlace} (h : DataW.trod enc Tryz.prog W base (fun _ => true) true fuel 22 [v] = some x) :
    ∃ n : Strs, v = .slice n.ao n.len n.cap ∧ n.At W := by
  rcases open_strings Tryz.underlying22 Tryz.underlying9 Tryz.cellsString h with ⟨hcs, _⟩ | ⟨a, len, cap, ss, hcs, _, hl, hm, hz, _, hcell, hws⟩
  · exact ⟨⟨none, 0, 0, 0, 0, fun _ => ByteArray.empty⟩, by simpa using hcs, ⟨Nat.le_refl _, fun h => absurd h (Nat.lt_irrefl _), Nat.zero_le _, fun _ h => absurd h (Nat.not_lt_zero _), fun _ h => absurd h (Nat.not_lt_zero _)⟩⟩
  · have hv : v = .slice (some a) len cap := by simpa using hcs
    simp only [if_true] at hz
    unfold maxLen at hm hws
    refine ⟨⟨some a, a.block, a.off, len, cap, fun i => ss.getD i ByteArray.empty⟩, hv, ⟨hl, fun hp => ?_, Nat.le_trans hl hm, fun i hi => ?_, fun i hi => ?_⟩⟩
    · have hp' : 0 < len := hp
      have hs := World.cell?_spot (hcell 0 (by omega))
      obtain ⟨ab, ao, asp⟩ := a
      have : asp = none := by simpa [Addr.add] using hs
      subst this; rfl
    · have hi' : i < len := hi
      have hs := World.cell?_spot (hcell 0 (by omega))
      obtain ⟨ab, ao, asp⟩ := a
      have : asp = none := by simpa [Addr.add] using hs
      subst this
      have := hcell i (by omega)
      rw [addr_plain] at this
      exact this
    · have hi' : i < len := hi
      have hmem : ss.getD i ByteArray.empty ∈ ss := by
        rw [List.getD_eq_getElem?_getD, List.getElem?_eq_getElem (by omega)]
        exact List.getElem_mem _
      exact hws _ hmem

set_option maxRecDepth 100000 in
theorem open_grid {fuel : Nat} {v : Value} {x : DataW H × List MemPlace} (h : DataW.trod enc Tryz.prog W base (fun _ => true) true fuel 23 [v] = some x) :
    ∃ g : Grid, v = .slice g.ao g.len g.cap ∧ g.At W := by
  rcases open_bool_rows Tryz.underlying23 Tryz.underlying75 Tryz.underlying4 Tryz.cellsRow Tryz.cellsBool h with ⟨hcs, _⟩ | ⟨a, len, cap, A, L, C, B, hcs, _, hl, hm, _, hrows⟩
  · exact ⟨⟨none, 0, 0, 0, 0, fun _ => none, fun _ => 0, fun _ => 0, fun _ => 0, fun _ => 0, fun _ _ => false⟩, by simpa using hcs,
      ⟨Nat.le_refl _, fun h => absurd h (Nat.lt_irrefl _), Nat.zero_le _, fun _ h => absurd h (Nat.not_lt_zero _), fun _ h => absurd h (Nat.not_lt_zero _), fun _ h => absurd h (Nat.not_lt_zero _), fun _ h => absurd h (Nat.not_lt_zero _)⟩⟩
  · have hv : v = .slice (some a) len cap := by simpa using hcs
    unfold maxLen at hm
    have hadr : ∀ r, r < len → 0 < L r → A r = some ⟨((A r).getD default).block, ((A r).getD default).off, none⟩ ∧ ∀ c, c < L r → W.cell? ⟨((A r).getD default).block, ((A r).getD default).off + c, none⟩ = some (.bool (B r c)) := fun r hr hp => by
      obtain ⟨_, h1, _, h3, h4⟩ := hrows r (by omega)
      cases hA : A r with
      | none => have := h3 hA; omega
      | some a' =>
        obtain ⟨ab, ao, asp⟩ := a'
        obtain ⟨_, hcell⟩ := h4 _ hA
        have has : asp = none := by simpa [Addr.add] using World.cell?_spot (hcell 0 (by omega))
        subst has
        exact ⟨rfl, fun c hc => by have := hcell c (by omega); rwa [addr_plain] at this⟩
    have hspot : 0 < len → a = ⟨a.block, a.off, none⟩ := fun hp => by
      have hs := World.cell?_spot (hrows 0 (by omega)).1
      obtain ⟨ab, ao, asp⟩ := a
      have : asp = none := by simpa [Addr.add] using hs
      subst this; rfl
    refine ⟨⟨some a, a.block, a.off, len, cap, A, L, C, fun r => ((A r).getD default).block, fun r => ((A r).getD default).off, B⟩, hv, ⟨hl, fun hp => congrArg some (hspot hp), Nat.le_trans hl hm, fun r hr => ?_, fun r hr => ?_, fun r hr hp => (hadr r hr hp).1, fun r hr c hc => (hadr r hr (Nat.lt_of_le_of_lt (Nat.zero_le _) hc)).2 c hc⟩⟩
    · have hr' : r < len := hr
      obtain ⟨_, h1, h2, _⟩ := hrows r (by omega)
      unfold maxLen at h2
      exact Nat.le_trans h1 h2
    · have hr' : r < len := hr
      have := (hrows r (by omega)).1
      rw [hspot (by omega), addr_plain] at this
      exact this

set_option maxRecDepth 100000 in
theorem open_lat {v : Value} {d : DataW H} {p : List MemPlace} {b0 : Nat} (hv : Value.okWide Tryz.prog W .any b0 25 v) (h : DataW.Trod enc Tryz.prog W base (fun _ => true) true 25 v d p) :
    ∃ (n : Strs) (g : Grid), v = .agg #[.slice n.ao n.len n.cap, .slice g.ao g.len g.cap] ∧ n.At W ∧ g.At W := by
  obtain ⟨c0, c1, y0, y1, m, rfl, _, _, hy0, hy1⟩ := open_agg2 Tryz.underlying25 (by kernel_rfl) Tryz.cellsLat hv h
  obtain ⟨n, rfl, hn⟩ := open_strs hy0
  obtain ⟨g, rfl, hg⟩ := open_grid hy1
  exact ⟨n, g, rfl, hn, hg⟩
end
end Go.Proofs.YtepgdkigncjalaaGreat

/- Three numbers that come in, opened. -/
namespace Go.Proofs.YtepgdkigncjalaaGreat
open Go.ChangeShapes Go.WideShapes Go.ChangeAt Go.RowKit Go.Deep Go.Joins

section
variable {H : Type} {enc : TypeId × Value → H} {W : World} {base : Nat}
theorem trod_array3 {P : Program} {spare : Nat → Bool} {held : Bool} {t e : TypeId} {fuel : Nat} {c0 c1 c2 : Value} {x : DataW H × List MemPlace} (ht : P.underlying t = some (.array 3 e)) (hce : P.cellsOf e = 1)
    (h : DataW.trod enc P W base spare held fuel t [c0, c1, c2] = some x) :
    ∃ y0 y1 y2 n, DataW.trod enc P W base spare held n e [c0] = some y0 ∧ DataW.trod enc P W base spare held n e [c1] = some y1 ∧ DataW.trod enc P W base spare held n e [c2] = some y2 := by
  cases fuel with
  | zero => simp [DataW.trod] at h
  | succ n =>
    unfold DataW.trod at h
    rw [ht] at h
    have r3 : List.range 3 = [0, 1, 2] := rfl
    simp [r3, hce] at h
    obtain ⟨_, h⟩ := h
    cases h0 : DataW.trod enc P W base spare held n e [c0] with
    | none => simp [h0] at h
    | some y0 =>
      cases h1 : DataW.trod enc P W base spare held n e [c1] with
      | none => simp [h0, h1] at h
      | some y1 =>
        cases h2 : DataW.trod enc P W base spare held n e [c2] with
        | none => simp [h0, h1, h2] at h
        | some y2 => exact ⟨y0, y1, y2, n, h0, h1, h2⟩
set_option maxRecDepth 100000 in
theorem Tryz.cellsInt3 : Tryz.prog.cellsOf 3 = 1 := by kernel_rfl
set_option maxRecDepth 100000 in
theorem Tryz.cellsThree : Tryz.prog.cellsOf 55 = 3 := by kernel_rfl
set_option maxRecDepth 100000 in
theorem open_three {v : Value} {d : DataW H} {p : List MemPlace} {b0 : Nat} (hv : Value.okWide Tryz.prog W .any b0 55 v) (h : DataW.Trod enc Tryz.prog W base (fun _ => true) true 55 v d p) :
    ∃ a b c : Int, v = .agg #[.int .i64 a, .int .i64 b, .int .i64 c] := by
  simp only [Value.okWide, Tryz.underlying55] at hv
  obtain ⟨⟨cs⟩, rfl, hsz, _⟩ := hv
  rw [Tryz.cellsThree] at hsz
  have hl : cs.length = 3 := hsz
  match cs, hl with
  | [c0, c1, c2], _ =>
    obtain ⟨fuel, hf⟩ := h
    have hf' : DataW.trod enc Tryz.prog W base (fun _ => true) true fuel 55 [c0, c1, c2] = some (d, p) := by simpa [Value.cells] using hf
    obtain ⟨y0, y1, y2, k, g0, g1, g2⟩ := trod_array3 Tryz.underlying55 Tryz.cellsInt3 hf'
    obtain ⟨x, q0, _⟩ := DataW.trod_int Tryz.underlying3 g0
    obtain ⟨y, q1, _⟩ := DataW.trod_int Tryz.underlying3 g1
    obtain ⟨z, q2, _⟩ := DataW.trod_int Tryz.underlying3 g2
    simp at q0 q1 q2
    subst q0 q1 q2
    exact ⟨x, y, z, rfl⟩
end
end Go.Proofs.YtepgdkigncjalaaGreat
