/- Layer 7: the rule of EIf. -/
import Derived.Test.YtepgdkigncjalaaGreatP19
import Derived.Test.YtepgdkigncjalaaGreatP23
import Derived.Defers
import Derived.Recover
namespace Go.Proofs.YtepgdkigncjalaaGreat
open Go Go.RowKit

/-- The judge, three judgements, a type. -/
def S6 (A G H1 H2 T : Nat) (n : Strs) (g : Grid) (vs v1 v2 ts : List Value) (q : World) : Prop := Blk q A [.slice n.ao n.len n.cap, .slice g.ao g.len g.cap] 92 ∧ q.rangeAt G 0 vs ∧ q.rangeAt H1 0 v1 ∧ q.rangeAt H2 0 v2 ∧ q.rangeAt T 0 ts
theorem wp_store_wrote {P : Program} {Q : Exit → Act → World → Prop} {o : Oper} {a : Act} {w : World} {K : Act → World → Prop} (t : TypeId) (p x : Operand) (ho : o.op = .store t p x) (hdst : o.dst = none) (B : Nat) (vs c : List Value) (hp : a.eval p = .pointer (some ⟨B, 0, none⟩)) (hx : a.eval x = .agg vs.toArray) (h1 : vs.all (·.oneCell') = true)
    (hb : Blk w B c t) (hl : c.length = vs.length) (hi : (P.info? t).map (·.size) = some vs.toArray.size) (h : ∀ w', WroteB w w' B vs t → K a w') : o.wp P a w K Q :=
  wp_store_blk t p x ho hdst B vs c hp hx h1 hb hl hi (h _ (wrote_setCells hb vs hl))
set_option maxRecDepth 100000 in
set_option maxHeartbeats 16000000 in
theorem choice_rule (okk : Bool) (n : Strs) (g : Grid) (e : Ex) (sb : Nat) (pc hp l0 x0 b0 k l1 x1 b1 l2 x2 b2 pl c : Int) (w : World) (hn : n.At w) (hg : g.At w) (hF : formedB n g = true) (he : e.At w) (h1 : e.len = 3) (hk : k = 1 ∨ k = 2) (hl0 : inR n.len l0 = true) (hl1 : inR n.len l1 = true) (hl2 : inR n.len l2 = true) (hlt : inR n.len (joinI n g l1 l2) = true)
    (hP : ∀ u, Below w.heap.size w u → NeedOk n g (e.ps 0) sb pc hp 2 l0 x0 b0 u) (hR : ∀ u, Below w.heap.size w u → ExprIf okk n g (e.ps 1) sb l0 hp k l1 x1 b1 pl c u) (hU : ∀ u, Below w.heap.size w u → ExprOk n g (e.ps 2) sb l0 hp k l2 x2 b2 u) :
    Calls Tryz.prog 92 #[.agg #[.slice n.ao n.len n.cap, .slice g.ao g.len g.cap], .agg e.va, .agg #[.pointer (some ⟨sb, 0, none⟩), .int .i64 pc, .int .i64 hp]] w fun r w' => ((okk = true ∧ ∃ ao cap, r = .returned (.tuple #[.agg #[.int .i64 k, .int .i64 (joinI n g (joinI n g l1 l2) l0), .slice ao 0 cap, .int .i64 0, .int .i64 0], .int .i64 (jfold n g [x0, x1, x2])])) ∨ (okk = false ∧ r = .panicked (fault pl c))) ∧ Below w.heap.size w w' := by
  have HF : Hid (formedB n g = true ∧ (k = 1 ∨ k = 2) ∧ inR n.len l0 = true ∧ inR n.len l1 = true ∧ inR n.len l2 = true ∧ inR n.len (joinI n g l1 l2) = true) := ⟨hF, hk, hl0, hl1, hl2, hlt⟩
  clear hF hk hl0 hl1 hl2 hlt
  have H := allocs_heap [.cells #[.slice n.ao n.len n.cap, .slice g.ao g.len g.cap] 92, .cells e.va 37, .cells #[.pointer (some ⟨sb, 0, none⟩), .int .i64 pc, .int .i64 hp] 73, .cells #[.int .i64 0, .int .i64 0, .slice none 0 0, .int .i64 0, .int .i64 0] 34] w
  have B0 := allocs_below [.cells #[.slice n.ao n.len n.cap, .slice g.ao g.len g.cap] 92, .cells e.va 37, .cells #[.pointer (some ⟨sb, 0, none⟩), .int .i64 pc, .int .i64 hp] 73, .cells #[.int .i64 0, .int .i64 0, .slice none 0 0, .int .i64 0, .int .i64 0] 34] w
  have SZ := allocs_size [.cells #[.slice n.ao n.len n.cap, .slice g.ao g.len g.cap] 92, .cells e.va 37, .cells #[.pointer (some ⟨sb, 0, none⟩), .int .i64 pc, .int .i64 hp] 73, .cells #[.int .i64 0, .int .i64 0, .slice none 0 0, .int .i64 0, .int .i64 0] 34] w
  simp only [List.foldl, List.length] at H B0 SZ
  have bA : Blk _ w.heap.size [.slice n.ao n.len n.cap, .slice g.ao g.len g.cap] 92 := H 0 (by simp)
  have bE : Blk _ (w.heap.size + 1) e.vs 37 := H 1 (by simp)
  have bW : Blk _ (w.heap.size + 2) [.pointer (some ⟨sb, 0, none⟩), .int .i64 pc, .int .i64 hp] 73 := H 2 (by simp)
  have bZ : Blk _ (w.heap.size + 3) [.int .i64 0, .int .i64 0, .slice none 0 0, .int .i64 0, .int .i64 0] 34 := H 3 (by simp)
  clear H
  have HSZ : Hid (((((w.alloc (.cells #[.slice n.ao n.len n.cap, .slice g.ao g.len g.cap] 92)).alloc (.cells e.va 37)).alloc (.cells #[.pointer (some ⟨sb, 0, none⟩), .int .i64 pc, .int .i64 hp] 73)).alloc (.cells #[.int .i64 0, .int .i64 0, .slice none 0 0, .int .i64 0, .int .i64 0] 34)).heap.size = w.heap.size + 4) := SZ
  clear SZ
  have ea : e.ao = some ⟨e.b, e.o, none⟩ := he.nil (by omega)
  have HI : Hid (_ ∧ _ ∧ _ ∧ _ ∧ _) := (⟨B0, bA, bE, bW, bZ⟩ : _ ∧ _ ∧ _ ∧ _ ∧ _)
  have HN : Hid (n.At w ∧ g.At w) := ⟨hn, hg⟩
  have HE : Hid (e.At w) := he
  have C0 := (he.kept B0).cells (i := 0) (by omega)
  simp only [Nat.zero_mul, Nat.add_zero] at C0
  have e15 := bE.cell 15 (v := .slice e.ao e.len e.cap) rfl
  rw [ea, h1] at e15
  have HH1 : Hid (e.len = 3) := h1
  clear h1
  clear ea hn hg he
  go_enter Tryz.func92, Tryz.ntmps92
  go_wp2
  have a0 := fun z => Gr.cell z (bA.cell 0 rfl)
  have a1 := fun z => Gr.cell z (bA.cell 1 rfl)
  have w0 := fun z => Gr.cell z (bW.cell 0 rfl)
  have w1 := fun z => Gr.cell z (bW.cell 1 rfl)
  have w2 := fun z => Gr.cell z (bW.cell 2 rfl)
  have y15 := fun z => Gr.cell z e15
  generalize ((((w.alloc (.cells #[.slice n.ao n.len n.cap, .slice g.ao g.len g.cap] 92)).alloc (.cells e.va 37)).alloc (.cells #[.pointer (some ⟨sb, 0, none⟩), .int .i64 pc, .int .i64 hp] 73)).alloc (.cells #[.int .i64 0, .int .i64 0, .slice none 0 0, .int .i64 0, .int .i64 0] 34)) = W at *
  have hC : ∀ u, (∃ x : Gr W, u = x.w) → C17 u e.b e.o (e.ps 0) := fun u ⟨x, hx⟩ => by rw [hx]; exact C0.kept x.bl
  have hNE : Nonempty (Gr W) := ⟨⟨_, Below.refl _ _⟩⟩
  clear bA bE bW bZ e15 C0
  refine wp_region_new 6 (by kernel_rfl) rfl (by kernel_rfl) (T := ⟨rfl, rfl, rfl, rfl, rfl, rfl, rfl, rfl, rfl, rfl, rfl, by kernel_rfl, by kernel_rfl, by kernel_rfl, by kernel_rfl, by kernel_rfl, by kernel_rfl, alloc_gv⟩) (Gvs 2 l0 x0 b0) (fun _ => False) (fun _ _ d _ _ h => by cases d <;> exact h) Gvs.good ?_
  simp only [List.take]
  iterate 4 go_big_quiet_step (fail)
  go_big_quiet_want
  refine quiet_load_ex (.tmp 16) rfl _ _ (by kernel_rfl) (e.ps 0) hC ?_
  simp only [Act.put, List.setIfInBounds_toArray, List.set_cons_succ, List.set_cons_zero]
  go_big_quiet_on
  iterate 1 go_big_quiet_step (fail)
  refine wpQuiet_nil ⟨105, #[.agg #[.slice n.ao n.len n.cap, .slice g.ao g.len g.cap], .int .i64 2, .agg (e.ps 0).va, .agg #[.pointer (some ⟨sb, 0, none⟩), .int .i64 pc, .int .i64 hp]], ?_, ?_, ?_, ?_, ?_, ?_, ?_⟩
  · intro u _
    go_simp
  · intro u v _
    simp only [Act.put, List.setIfInBounds_toArray, List.set_cons_succ, List.set_cons_zero]
    go_simp
  · intro v v'
    simp only [Act.put, List.setIfInBounds_toArray, List.set_cons_succ, List.set_cons_zero]
  · intro v v'
    simp only [Act.put, List.setIfInBounds_toArray, List.set_cons_succ, List.set_cons_zero]
    exact ⟨rfl, rfl⟩
  · intro u hu
    refine (hP u (Below.next B0 hu)).mono ?_
    rintro _ u' ⟨⟨ao, cap, rfl⟩, hb⟩
    exact ⟨hb, Or.inl ⟨_, rfl, ao, cap, rfl⟩⟩
  · intro _ _ _ h
    exact h.elim
  intro vals G u hg hu hG hr
  obtain ⟨ao, cap, rfl⟩ := hg
  simp only [Act.put, List.setIfInBounds_toArray, List.set_cons_succ, List.set_cons_zero]
  have HGS : Hid (w.heap.size + 4 ≤ G) := by show _ ≤ _; have := HSZ.out; omega
  have HJ : Hid (Below w.heap.size w u ∧ Blk u w.heap.size [.slice n.ao n.len n.cap, .slice g.ao g.len g.cap] 92 ∧ Blk u (w.heap.size + 1) e.vs 37 ∧ Blk u (w.heap.size + 2) [.pointer (some ⟨sb, 0, none⟩), .int .i64 pc, .int .i64 hp] 73 ∧ Blk u (w.heap.size + 3) [.int .i64 0, .int .i64 0, .slice none 0 0, .int .i64 0, .int .i64 0] 34 ∧ u.rangeAt G 0 [.int .i64 2, .int .i64 l0, .slice ao 0 cap, .int .i64 0, .int .i64 0, .int .i64 x0, .int .i64 b0]) := ⟨Below.next B0 hu, HI.out.2.1.kept hu, HI.out.2.2.1.kept hu, HI.out.2.2.2.1.kept hu, HI.out.2.2.2.2.kept hu, hr⟩
  clear a0 a1 w0 w1 w2 y15 hC hNE HI hr hu hP HSZ hG B0
  have w0 := HJ.out.2.2.2.1.cell 0 rfl
  have w1 := HJ.out.2.2.2.1.cell 1 rfl
  have w2 := HJ.out.2.2.2.1.cell 2 rfl
  have g1 : u.cell? ⟨G, 1, none⟩ = some (.int .i64 l0) := by have := HJ.out.2.2.2.2.2 1 _ rfl; rw [Nat.zero_add] at this; exact this
  go_wp2_with fail
  refine (jat sb pc hp l0 u).mono ?_
  rintro _ u1 ⟨rfl, bu1⟩
  have D1 := Below.next bu1 (below_alloc u1 (.cells #[.pointer (some ⟨sb, 0, none⟩), .int .i64 l0, .int .i64 hp] 73))
  have N1 : Blk (u1.alloc (.cells #[.pointer (some ⟨sb, 0, none⟩), .int .i64 l0, .int .i64 hp] 73)) u1.heap.size [.pointer (some ⟨sb, 0, none⟩), .int .i64 l0, .int .i64 hp] 73 := Blk.new u1 _ _
  have HXS : Hid (w.heap.size + 4 ≤ u1.heap.size) := by
    show _ ≤ _
    have h3 := HGS.out
    have h4 := range_lt HJ.out.2.2.2.2.2
    have := bu1.size
    omega
  clear w0 w1 w2 g1 bu1
  go_wp2
  generalize u1.heap.size = X at *
  generalize u1.alloc (.cells #[.pointer (some ⟨sb, 0, none⟩), .int .i64 l0, .int .i64 hp] 73) = v at *
  have HM : Hid (Below w.heap.size w v ∧ Blk v w.heap.size [.slice n.ao n.len n.cap, .slice g.ao g.len g.cap] 92 ∧ Blk v (w.heap.size + 1) e.vs 37 ∧ Blk v X [.pointer (some ⟨sb, 0, none⟩), .int .i64 l0, .int .i64 hp] 73 ∧ Blk v (w.heap.size + 3) [.int .i64 0, .int .i64 0, .slice none 0 0, .int .i64 0, .int .i64 0] 34 ∧ v.rangeAt G 0 [.int .i64 2, .int .i64 l0, .slice ao 0 cap, .int .i64 0, .int .i64 0, .int .i64 x0, .int .i64 b0]) := ⟨Below.next HJ.out.1 D1, HJ.out.2.1.kept D1, HJ.out.2.2.1.kept D1, N1, HJ.out.2.2.2.2.1.kept D1, range_of_block (D1.block _ (range_lt HJ.out.2.2.2.2.2)) HJ.out.2.2.2.2.2⟩
  clear HJ D1 N1
  have a0 := fun z => Gr.cell (w0 := v) z (HM.out.2.1.cell 0 rfl)
  have a1 := fun z => Gr.cell (w0 := v) z (HM.out.2.1.cell 1 rfl)
  have w0 := fun z => Gr.cell (w0 := v) z (HM.out.2.2.2.1.cell 0 rfl)
  have w1 := fun z => Gr.cell (w0 := v) z (HM.out.2.2.2.1.cell 1 rfl)
  have w2 := fun z => Gr.cell (w0 := v) z (HM.out.2.2.2.1.cell 2 rfl)
  have e15 := HM.out.2.2.1.cell 15 (v := .slice e.ao e.len e.cap) rfl
  rw [HE.out.nil (by have := HH1.out; omega), HH1.out] at e15
  have y15 := fun z => Gr.cell (w0 := v) z e15
  have C1 := (HE.out.kept HM.out.1).cells (i := 1) (by have := HH1.out; omega)
  simp only [Nat.one_mul] at C1
  have hC : ∀ q, (∃ x : Gr v, q = x.w) → C17 q e.b (e.o + 17) (e.ps 1) := fun q ⟨x, hx⟩ => by rw [hx]; exact C1.kept x.bl
  have hNE : Nonempty (Gr v) := ⟨⟨_, Below.refl _ _⟩⟩
  clear e15 C1
  refine wp_region_new 6 (by kernel_rfl) rfl (by kernel_rfl) (T := ⟨rfl, rfl, rfl, rfl, rfl, rfl, rfl, rfl, rfl, rfl, rfl, by kernel_rfl, by kernel_rfl, by kernel_rfl, by kernel_rfl, by kernel_rfl, by kernel_rfl, alloc_gv⟩) (fun vs => okk = true ∧ Gvs k l1 x1 b1 vs) (fun ch => okk = false ∧ ch = fault pl c) (fun _ _ d _ _ h => by cases d <;> exact h) (fun vs h => Gvs.good vs h.2) ?_
  simp only [List.take]
  iterate 4 go_big_quiet_step (fail)
  go_big_quiet_want
  refine quiet_load_ex (.tmp 28) rfl _ _ (by kernel_rfl) (e.ps 1) hC ?_
  simp only [Act.put, List.setIfInBounds_toArray, List.set_cons_succ, List.set_cons_zero]
  go_big_quiet_on
  iterate 1 go_big_quiet_step (fail)
  refine wpQuiet_nil ⟨40, #[.agg #[.slice n.ao n.len n.cap, .slice g.ao g.len g.cap], .agg (e.ps 1).va, .agg #[.pointer (some ⟨sb, 0, none⟩), .int .i64 l0, .int .i64 hp]], ?_, ?_, ?_, ?_, ?_, ?_, ?_⟩
  · intro u _
    go_simp
  · intro u v _
    simp only [Act.put, List.setIfInBounds_toArray, List.set_cons_succ, List.set_cons_zero]
    go_simp
  · intro v v'
    simp only [Act.put, List.setIfInBounds_toArray, List.set_cons_succ, List.set_cons_zero]
  · intro v v'
    simp only [Act.put, List.setIfInBounds_toArray, List.set_cons_succ, List.set_cons_zero]
    exact ⟨rfl, rfl⟩
  · intro q hq
    refine (hR q (Below.next HM.out.1 hq)).mono ?_
    rintro _ q' ⟨⟨hy, ao1, cap1, rfl⟩ | ⟨hy, rfl⟩, hb⟩
    · exact ⟨hb, Or.inl ⟨_, rfl, hy, ao1, cap1, rfl⟩⟩
    · exact ⟨hb, Or.inr ⟨_, rfl, hy, rfl⟩⟩
  · rintro _ a1 q ⟨hy, rfl⟩ hq hd
    exact ⟨hd, Or.inr ⟨hy, rfl⟩, Below.next HM.out.1 hq⟩
  intro vals H1 z1 hg hu hH hr
  obtain ⟨hy, ao1, cap1, rfl⟩ := hg
  simp only [Act.put, List.setIfInBounds_toArray, List.set_cons_succ, List.set_cons_zero]
  have HY : Hid (okk = true) := hy
  have HS1 : Hid (w.heap.size + 4 ≤ H1) := by
    show _ ≤ _
    have h3 := HXS.out
    have h4 := HM.out.2.2.2.1.lt
    omega
  have HO : Hid (Below w.heap.size w z1 ∧ Blk z1 w.heap.size [.slice n.ao n.len n.cap, .slice g.ao g.len g.cap] 92 ∧ Blk z1 (w.heap.size + 1) e.vs 37 ∧ Blk z1 X [.pointer (some ⟨sb, 0, none⟩), .int .i64 l0, .int .i64 hp] 73 ∧ Blk z1 (w.heap.size + 3) [.int .i64 0, .int .i64 0, .slice none 0 0, .int .i64 0, .int .i64 0] 34 ∧ z1.rangeAt G 0 [.int .i64 2, .int .i64 l0, .slice ao 0 cap, .int .i64 0, .int .i64 0, .int .i64 x0, .int .i64 b0] ∧ z1.rangeAt H1 0 [.int .i64 k, .int .i64 l1, .slice ao1 0 cap1, .int .i64 0, .int .i64 0, .int .i64 x1, .int .i64 b1]) := ⟨Below.next HM.out.1 hu, HM.out.2.1.kept hu, HM.out.2.2.1.kept hu, HM.out.2.2.2.1.kept hu, HM.out.2.2.2.2.1.kept hu, range_of_block (hu.block _ (range_lt HM.out.2.2.2.2.2)) HM.out.2.2.2.2.2, hr⟩
  clear a0 a1 w0 w1 w2 y15 hC hNE HM hr hu hR hH hy
  go_wp2
  have a0 := fun z => Gr.cell (w0 := z1) z (HO.out.2.1.cell 0 rfl)
  have a1 := fun z => Gr.cell (w0 := z1) z (HO.out.2.1.cell 1 rfl)
  have w0 := fun z => Gr.cell (w0 := z1) z (HO.out.2.2.2.1.cell 0 rfl)
  have w1 := fun z => Gr.cell (w0 := z1) z (HO.out.2.2.2.1.cell 1 rfl)
  have w2 := fun z => Gr.cell (w0 := z1) z (HO.out.2.2.2.1.cell 2 rfl)
  have e15 := HO.out.2.2.1.cell 15 (v := .slice e.ao e.len e.cap) rfl
  rw [HE.out.nil (by have := HH1.out; omega), HH1.out] at e15
  have y15 := fun z => Gr.cell (w0 := z1) z e15
  have C1 := (HE.out.kept HO.out.1).cells (i := 2) (by have := HH1.out; omega)
  simp only [Nat.reduceMul] at C1
  have hC : ∀ q, (∃ x : Gr z1, q = x.w) → C17 q e.b (e.o + 34) (e.ps 2) := fun q ⟨x, hx⟩ => by rw [hx]; exact C1.kept x.bl
  have hNE : Nonempty (Gr z1) := ⟨⟨_, Below.refl _ _⟩⟩
  clear e15 C1
  refine wp_region_new 6 (by kernel_rfl) rfl (by kernel_rfl) (T := ⟨rfl, rfl, rfl, rfl, rfl, rfl, rfl, rfl, rfl, rfl, rfl, by kernel_rfl, by kernel_rfl, by kernel_rfl, by kernel_rfl, by kernel_rfl, by kernel_rfl, alloc_gv⟩) (Gvs k l2 x2 b2) (fun _ => False) (fun _ _ d _ _ h => by cases d <;> exact h) Gvs.good ?_
  simp only [List.take]
  iterate 4 go_big_quiet_step (fail)
  go_big_quiet_want
  refine quiet_load_ex (.tmp 35) rfl _ _ (by kernel_rfl) (e.ps 2) hC ?_
  simp only [Act.put, List.setIfInBounds_toArray, List.set_cons_succ, List.set_cons_zero]
  go_big_quiet_on
  iterate 1 go_big_quiet_step (fail)
  refine wpQuiet_nil ⟨40, #[.agg #[.slice n.ao n.len n.cap, .slice g.ao g.len g.cap], .agg (e.ps 2).va, .agg #[.pointer (some ⟨sb, 0, none⟩), .int .i64 l0, .int .i64 hp]], ?_, ?_, ?_, ?_, ?_, ?_, ?_⟩
  · intro u _
    go_simp
  · intro u v _
    simp only [Act.put, List.setIfInBounds_toArray, List.set_cons_succ, List.set_cons_zero]
    go_simp
  · intro v v'
    simp only [Act.put, List.setIfInBounds_toArray, List.set_cons_succ, List.set_cons_zero]
  · intro v v'
    simp only [Act.put, List.setIfInBounds_toArray, List.set_cons_succ, List.set_cons_zero]
    exact ⟨rfl, rfl⟩
  · intro q hq
    refine (hU q (Below.next HO.out.1 hq)).mono ?_
    rintro _ q' ⟨⟨ao, cap, rfl⟩, hb⟩
    exact ⟨hb, Or.inl ⟨_, rfl, ao, cap, rfl⟩⟩
  · intro _ _ _ h
    exact h.elim
  intro vals H2 z2 hg hu hH hr
  obtain ⟨ao2, cap2, rfl⟩ := hg
  simp only [Act.put, List.setIfInBounds_toArray, List.set_cons_succ, List.set_cons_zero]
  have HS2 : Hid (w.heap.size + 4 ≤ H2) := by
    show _ ≤ _
    have h3 := HXS.out
    have h4 := HO.out.2.2.2.1.lt
    omega
  have HQ2 : Hid (Below w.heap.size w z2 ∧ Blk z2 w.heap.size [.slice n.ao n.len n.cap, .slice g.ao g.len g.cap] 92 ∧ Blk z2 (w.heap.size + 1) e.vs 37 ∧ Blk z2 (w.heap.size + 3) [.int .i64 0, .int .i64 0, .slice none 0 0, .int .i64 0, .int .i64 0] 34 ∧ z2.rangeAt G 0 [.int .i64 2, .int .i64 l0, .slice ao 0 cap, .int .i64 0, .int .i64 0, .int .i64 x0, .int .i64 b0] ∧ z2.rangeAt H1 0 [.int .i64 k, .int .i64 l1, .slice ao1 0 cap1, .int .i64 0, .int .i64 0, .int .i64 x1, .int .i64 b1] ∧ z2.rangeAt H2 0 [.int .i64 k, .int .i64 l2, .slice ao2 0 cap2, .int .i64 0, .int .i64 0, .int .i64 x2, .int .i64 b2]) := ⟨Below.next HO.out.1 hu, HO.out.2.1.kept hu, HO.out.2.2.1.kept hu, HO.out.2.2.2.2.1.kept hu, range_of_block (hu.block _ (range_lt HO.out.2.2.2.2.2.1)) HO.out.2.2.2.2.2.1, range_of_block (hu.block _ (range_lt HO.out.2.2.2.2.2.2)) HO.out.2.2.2.2.2.2, hr⟩
  clear a0 a1 w0 w1 w2 y15 hC hNE HO hr hu hU hH
  have a0 := HQ2.out.2.1.cell 0 rfl
  have a1 := HQ2.out.2.1.cell 1 rfl
  have X0 := C17.of_range HQ2.out.2.2.1.range
  have p0 : z2.cell? ⟨H1, 0, none⟩ = some (.int .i64 k) := by have := HQ2.out.2.2.2.2.2.1 0 _ rfl; rw [Nat.zero_add] at this; exact this
  have p1 : z2.cell? ⟨H1, 1, none⟩ = some (.int .i64 l1) := by have := HQ2.out.2.2.2.2.2.1 1 _ rfl; rw [Nat.zero_add] at this; exact this
  have p2 : z2.cell? ⟨H1, 2, none⟩ = some (.slice ao1 0 cap1) := by have := HQ2.out.2.2.2.2.2.1 2 _ rfl; rw [Nat.zero_add] at this; exact this
  have p3 : z2.cell? ⟨H1, 3, none⟩ = some (.int .i64 0) := by have := HQ2.out.2.2.2.2.2.1 3 _ rfl; rw [Nat.zero_add] at this; exact this
  have p4 : z2.cell? ⟨H1, 4, none⟩ = some (.int .i64 0) := by have := HQ2.out.2.2.2.2.2.1 4 _ rfl; rw [Nat.zero_add] at this; exact this
  have q0 : z2.cell? ⟨H2, 0, none⟩ = some (.int .i64 k) := by have := HQ2.out.2.2.2.2.2.2 0 _ rfl; rw [Nat.zero_add] at this; exact this
  have q1 : z2.cell? ⟨H2, 1, none⟩ = some (.int .i64 l2) := by have := HQ2.out.2.2.2.2.2.2 1 _ rfl; rw [Nat.zero_add] at this; exact this
  have q2 : z2.cell? ⟨H2, 2, none⟩ = some (.slice ao2 0 cap2) := by have := HQ2.out.2.2.2.2.2.2 2 _ rfl; rw [Nat.zero_add] at this; exact this
  have q3 : z2.cell? ⟨H2, 3, none⟩ = some (.int .i64 0) := by have := HQ2.out.2.2.2.2.2.2 3 _ rfl; rw [Nat.zero_add] at this; exact this
  have q4 : z2.cell? ⟨H2, 4, none⟩ = some (.int .i64 0) := by have := HQ2.out.2.2.2.2.2.2 4 _ rfl; rw [Nat.zero_add] at this; exact this
  have hEi := jeither n g e k l1 l2 ao1 ao2 cap1 cap2 z2 (HN.out.1.kept HQ2.out.1) (HN.out.2.kept HQ2.out.1) HF.out.1 HF.out.2.1 HF.out.2.2.2.1 HF.out.2.2.2.2.1
  go_wp2_with (refine wpList_load_ex rfl (.tmp 4) rfl _ _ rfl e X0 ?_)
  refine hEi.mono ?_
  rintro _ z3 ⟨⟨ao3, cap3, rfl⟩, bz3⟩
  have HLT : Hid (∃ lt, lt = joinI n g l1 l2) := ⟨_, rfl⟩
  obtain ⟨lt, hlt⟩ := HLT.out
  rw [← hlt]
  have HLT2 : Hid (lt = joinI n g l1 l2) := hlt
  have D3 := Below.next bz3 (below_alloc z3 (.cells #[.int .i64 k, .int .i64 lt, .slice ao3 0 cap3, .int .i64 0, .int .i64 0] 34))
  have N3 : Blk (z3.alloc (.cells #[.int .i64 k, .int .i64 lt, .slice ao3 0 cap3, .int .i64 0, .int .i64 0] 34)) z3.heap.size [.int .i64 k, .int .i64 lt, .slice ao3 0 cap3, .int .i64 0, .int .i64 0] 34 := Blk.new z3 _ _
  have HTS : Hid (w.heap.size + 4 ≤ z3.heap.size) := by
    show _ ≤ _
    have h3 := HS2.out
    have h4 := range_lt HQ2.out.2.2.2.2.2.2
    have := bz3.size
    omega
  clear hlt HLT hEi a0 a1 X0 p0 p1 p2 p3 p4 q0 q1 q2 q3 q4 bz3
  go_wp2
  generalize z3.heap.size = T at *
  generalize z3.alloc (.cells #[.int .i64 k, .int .i64 lt, .slice ao3 0 cap3, .int .i64 0, .int .i64 0] 34) = v at *
  have HM : Hid (Below w.heap.size w v ∧ (S6 w.heap.size G H1 H2 T n g [.int .i64 2, .int .i64 l0, .slice ao 0 cap, .int .i64 0, .int .i64 0, .int .i64 x0, .int .i64 b0] [.int .i64 k, .int .i64 l1, .slice ao1 0 cap1, .int .i64 0, .int .i64 0, .int .i64 x1, .int .i64 b1] [.int .i64 k, .int .i64 l2, .slice ao2 0 cap2, .int .i64 0, .int .i64 0, .int .i64 x2, .int .i64 b2] [.int .i64 k, .int .i64 lt, .slice ao3 0 cap3, .int .i64 0, .int .i64 0]) v ∧ Blk v (w.heap.size + 3) [.int .i64 0, .int .i64 0, .slice none 0 0, .int .i64 0, .int .i64 0] 34) := ⟨Below.next HQ2.out.1 D3, ⟨HQ2.out.2.1.kept D3, range_of_block (D3.block _ (range_lt HQ2.out.2.2.2.2.1)) HQ2.out.2.2.2.2.1, range_of_block (D3.block _ (range_lt HQ2.out.2.2.2.2.2.1)) HQ2.out.2.2.2.2.2.1, range_of_block (D3.block _ (range_lt HQ2.out.2.2.2.2.2.2)) HQ2.out.2.2.2.2.2.2, N3.range⟩, HQ2.out.2.2.2.1.kept D3⟩
  clear HQ2 D3 N3
  have key : ∀ u', (∀ k, k ≠ w.heap.size + 3 → k < v.heap.size → u'.heap[k]? = v.heap[k]?) → (S6 w.heap.size G H1 H2 T n g [.int .i64 2, .int .i64 l0, .slice ao 0 cap, .int .i64 0, .int .i64 0, .int .i64 x0, .int .i64 b0] [.int .i64 k, .int .i64 l1, .slice ao1 0 cap1, .int .i64 0, .int .i64 0, .int .i64 x1, .int .i64 b1] [.int .i64 k, .int .i64 l2, .slice ao2 0 cap2, .int .i64 0, .int .i64 0, .int .i64 x2, .int .i64 b2] [.int .i64 k, .int .i64 lt, .slice ao3 0 cap3, .int .i64 0, .int .i64 0]) u' := fun u' hu' => by
    obtain ⟨h1, h2, h3, h4, h5⟩ := HM.out.2.1
    have l1 := h1.lt
    have l2 := range_lt h2
    have l3 := range_lt h3
    have l4 := range_lt h4
    have l5 := range_lt h5
    have := HGS.out
    have := HS1.out
    have := HS2.out
    have := HTS.out
    exact ⟨by unfold Blk; rw [hu' _ (by omega) l1]; exact h1, range_of_block (hu' _ (by omega) l2) h2, range_of_block (hu' _ (by omega) l3) h3, range_of_block (hu' _ (by omega) l4) h4, range_of_block (hu' _ (by omega) l5) h5⟩
  refine wp_region_reads (S6 w.heap.size G H1 H2 T n g [.int .i64 2, .int .i64 l0, .slice ao 0 cap, .int .i64 0, .int .i64 0, .int .i64 x0, .int .i64 b0] [.int .i64 k, .int .i64 l1, .slice ao1 0 cap1, .int .i64 0, .int .i64 0, .int .i64 x1, .int .i64 b1] [.int .i64 k, .int .i64 l2, .slice ao2 0 cap2, .int .i64 0, .int .i64 0, .int .i64 x2, .int .i64 b2] [.int .i64 k, .int .i64 lt, .slice ao3 0 cap3, .int .i64 0, .int .i64 0]) [0, 1, 2, 3, 4, 6, 7, 8, 9, 10, 11, 12] 5 (by kernel_rfl) rfl (by kernel_rfl) (fun j hj => ?_) (fun _ _ d _ _ h => by cases d <;> exact h) (key _ (fun _ _ _ => rfl)) ?_
  · have hj4 : j < 12 := hj
    match j, hj4 with
    | 0, _ => exact ⟨_, rfl, rfl⟩
    | 1, _ => exact ⟨_, rfl, rfl⟩
    | 2, _ => exact ⟨_, rfl, rfl⟩
    | 3, _ => exact ⟨_, rfl, rfl⟩
    | 4, _ => exact ⟨_, rfl, rfl⟩
    | 5, _ => exact ⟨_, rfl, rfl⟩
    | 6, _ => exact ⟨_, rfl, rfl⟩
    | 7, _ => exact ⟨_, rfl, rfl⟩
    | 8, _ => exact ⟨_, rfl, rfl⟩
    | 9, _ => exact ⟨_, rfl, rfl⟩
    | 10, _ => exact ⟨_, rfl, rfl⟩
    | 11, _ => exact ⟨_, rfl, rfl⟩
  have a0 : ∀ z : Wd (S6 w.heap.size G H1 H2 T n g [.int .i64 2, .int .i64 l0, .slice ao 0 cap, .int .i64 0, .int .i64 0, .int .i64 x0, .int .i64 b0] [.int .i64 k, .int .i64 l1, .slice ao1 0 cap1, .int .i64 0, .int .i64 0, .int .i64 x1, .int .i64 b1] [.int .i64 k, .int .i64 l2, .slice ao2 0 cap2, .int .i64 0, .int .i64 0, .int .i64 x2, .int .i64 b2] [.int .i64 k, .int .i64 lt, .slice ao3 0 cap3, .int .i64 0, .int .i64 0]), z.w.cell? ⟨w.heap.size, 0, none⟩ = some (.slice n.ao n.len n.cap) := fun z => z.2.1.cell 0 rfl
  have a1 : ∀ z : Wd (S6 w.heap.size G H1 H2 T n g [.int .i64 2, .int .i64 l0, .slice ao 0 cap, .int .i64 0, .int .i64 0, .int .i64 x0, .int .i64 b0] [.int .i64 k, .int .i64 l1, .slice ao1 0 cap1, .int .i64 0, .int .i64 0, .int .i64 x1, .int .i64 b1] [.int .i64 k, .int .i64 l2, .slice ao2 0 cap2, .int .i64 0, .int .i64 0, .int .i64 x2, .int .i64 b2] [.int .i64 k, .int .i64 lt, .slice ao3 0 cap3, .int .i64 0, .int .i64 0]), z.w.cell? ⟨w.heap.size, 1, none⟩ = some (.slice g.ao g.len g.cap) := fun z => z.2.1.cell 1 rfl
  have g1 : ∀ z : Wd (S6 w.heap.size G H1 H2 T n g [.int .i64 2, .int .i64 l0, .slice ao 0 cap, .int .i64 0, .int .i64 0, .int .i64 x0, .int .i64 b0] [.int .i64 k, .int .i64 l1, .slice ao1 0 cap1, .int .i64 0, .int .i64 0, .int .i64 x1, .int .i64 b1] [.int .i64 k, .int .i64 l2, .slice ao2 0 cap2, .int .i64 0, .int .i64 0, .int .i64 x2, .int .i64 b2] [.int .i64 k, .int .i64 lt, .slice ao3 0 cap3, .int .i64 0, .int .i64 0]), z.w.cell? ⟨G, 1, none⟩ = some (.int .i64 l0) := fun z => by have := z.2.2.1 1 _ rfl; rw [Nat.zero_add] at this; exact this
  have g5 : ∀ z : Wd (S6 w.heap.size G H1 H2 T n g [.int .i64 2, .int .i64 l0, .slice ao 0 cap, .int .i64 0, .int .i64 0, .int .i64 x0, .int .i64 b0] [.int .i64 k, .int .i64 l1, .slice ao1 0 cap1, .int .i64 0, .int .i64 0, .int .i64 x1, .int .i64 b1] [.int .i64 k, .int .i64 l2, .slice ao2 0 cap2, .int .i64 0, .int .i64 0, .int .i64 x2, .int .i64 b2] [.int .i64 k, .int .i64 lt, .slice ao3 0 cap3, .int .i64 0, .int .i64 0]), z.w.cell? ⟨G, 5, none⟩ = some (.int .i64 x0) := fun z => by have := z.2.2.1 5 _ rfl; rw [Nat.zero_add] at this; exact this
  have p5 : ∀ z : Wd (S6 w.heap.size G H1 H2 T n g [.int .i64 2, .int .i64 l0, .slice ao 0 cap, .int .i64 0, .int .i64 0, .int .i64 x0, .int .i64 b0] [.int .i64 k, .int .i64 l1, .slice ao1 0 cap1, .int .i64 0, .int .i64 0, .int .i64 x1, .int .i64 b1] [.int .i64 k, .int .i64 l2, .slice ao2 0 cap2, .int .i64 0, .int .i64 0, .int .i64 x2, .int .i64 b2] [.int .i64 k, .int .i64 lt, .slice ao3 0 cap3, .int .i64 0, .int .i64 0]), z.w.cell? ⟨H1, 5, none⟩ = some (.int .i64 x1) := fun z => by have := z.2.2.2.1 5 _ rfl; rw [Nat.zero_add] at this; exact this
  have q5 : ∀ z : Wd (S6 w.heap.size G H1 H2 T n g [.int .i64 2, .int .i64 l0, .slice ao 0 cap, .int .i64 0, .int .i64 0, .int .i64 x0, .int .i64 b0] [.int .i64 k, .int .i64 l1, .slice ao1 0 cap1, .int .i64 0, .int .i64 0, .int .i64 x1, .int .i64 b1] [.int .i64 k, .int .i64 l2, .slice ao2 0 cap2, .int .i64 0, .int .i64 0, .int .i64 x2, .int .i64 b2] [.int .i64 k, .int .i64 lt, .slice ao3 0 cap3, .int .i64 0, .int .i64 0]), z.w.cell? ⟨H2, 5, none⟩ = some (.int .i64 x2) := fun z => by have := z.2.2.2.2.1 5 _ rfl; rw [Nat.zero_add] at this; exact this
  have t0 : ∀ z : Wd (S6 w.heap.size G H1 H2 T n g [.int .i64 2, .int .i64 l0, .slice ao 0 cap, .int .i64 0, .int .i64 0, .int .i64 x0, .int .i64 b0] [.int .i64 k, .int .i64 l1, .slice ao1 0 cap1, .int .i64 0, .int .i64 0, .int .i64 x1, .int .i64 b1] [.int .i64 k, .int .i64 l2, .slice ao2 0 cap2, .int .i64 0, .int .i64 0, .int .i64 x2, .int .i64 b2] [.int .i64 k, .int .i64 lt, .slice ao3 0 cap3, .int .i64 0, .int .i64 0]), z.w.cell? ⟨T, 0, none⟩ = some (.int .i64 k) := fun z => by have := z.2.2.2.2.2 0 _ rfl; rw [Nat.zero_add] at this; exact this
  have t1 : ∀ z : Wd (S6 w.heap.size G H1 H2 T n g [.int .i64 2, .int .i64 l0, .slice ao 0 cap, .int .i64 0, .int .i64 0, .int .i64 x0, .int .i64 b0] [.int .i64 k, .int .i64 l1, .slice ao1 0 cap1, .int .i64 0, .int .i64 0, .int .i64 x1, .int .i64 b1] [.int .i64 k, .int .i64 l2, .slice ao2 0 cap2, .int .i64 0, .int .i64 0, .int .i64 x2, .int .i64 b2] [.int .i64 k, .int .i64 lt, .slice ao3 0 cap3, .int .i64 0, .int .i64 0]), z.w.cell? ⟨T, 1, none⟩ = some (.int .i64 lt) := fun z => by have := z.2.2.2.2.2 1 _ rfl; rw [Nat.zero_add] at this; exact this
  have t2 : ∀ z : Wd (S6 w.heap.size G H1 H2 T n g [.int .i64 2, .int .i64 l0, .slice ao 0 cap, .int .i64 0, .int .i64 0, .int .i64 x0, .int .i64 b0] [.int .i64 k, .int .i64 l1, .slice ao1 0 cap1, .int .i64 0, .int .i64 0, .int .i64 x1, .int .i64 b1] [.int .i64 k, .int .i64 l2, .slice ao2 0 cap2, .int .i64 0, .int .i64 0, .int .i64 x2, .int .i64 b2] [.int .i64 k, .int .i64 lt, .slice ao3 0 cap3, .int .i64 0, .int .i64 0]), z.w.cell? ⟨T, 2, none⟩ = some (.slice ao3 0 cap3) := fun z => by have := z.2.2.2.2.2 2 _ rfl; rw [Nat.zero_add] at this; exact this
  have t3 : ∀ z : Wd (S6 w.heap.size G H1 H2 T n g [.int .i64 2, .int .i64 l0, .slice ao 0 cap, .int .i64 0, .int .i64 0, .int .i64 x0, .int .i64 b0] [.int .i64 k, .int .i64 l1, .slice ao1 0 cap1, .int .i64 0, .int .i64 0, .int .i64 x1, .int .i64 b1] [.int .i64 k, .int .i64 l2, .slice ao2 0 cap2, .int .i64 0, .int .i64 0, .int .i64 x2, .int .i64 b2] [.int .i64 k, .int .i64 lt, .slice ao3 0 cap3, .int .i64 0, .int .i64 0]), z.w.cell? ⟨T, 3, none⟩ = some (.int .i64 0) := fun z => by have := z.2.2.2.2.2 3 _ rfl; rw [Nat.zero_add] at this; exact this
  have t4 : ∀ z : Wd (S6 w.heap.size G H1 H2 T n g [.int .i64 2, .int .i64 l0, .slice ao 0 cap, .int .i64 0, .int .i64 0, .int .i64 x0, .int .i64 b0] [.int .i64 k, .int .i64 l1, .slice ao1 0 cap1, .int .i64 0, .int .i64 0, .int .i64 x1, .int .i64 b1] [.int .i64 k, .int .i64 l2, .slice ao2 0 cap2, .int .i64 0, .int .i64 0, .int .i64 x2, .int .i64 b2] [.int .i64 k, .int .i64 lt, .slice ao3 0 cap3, .int .i64 0, .int .i64 0]), z.w.cell? ⟨T, 4, none⟩ = some (.int .i64 0) := fun z => by have := z.2.2.2.2.2 4 _ rfl; rw [Nat.zero_add] at this; exact this
  have hNE : Nonempty (Wd (S6 w.heap.size G H1 H2 T n g [.int .i64 2, .int .i64 l0, .slice ao 0 cap, .int .i64 0, .int .i64 0, .int .i64 x0, .int .i64 b0] [.int .i64 k, .int .i64 l1, .slice ao1 0 cap1, .int .i64 0, .int .i64 0, .int .i64 x1, .int .i64 b1] [.int .i64 k, .int .i64 l2, .slice ao2 0 cap2, .int .i64 0, .int .i64 0, .int .i64 x2, .int .i64 b2] [.int .i64 k, .int .i64 lt, .slice ao3 0 cap3, .int .i64 0, .int .i64 0])) := ⟨⟨v, key v (fun _ _ _ => rfl)⟩⟩
  simp only [List.filterMap, List.getElem?_cons_zero, List.getElem?_cons_succ]
  repeat go_big_quiet_step (fail)
  refine wpQuiet_nil ?_
  clear a0 a1 g1 g5 p5 q5 t0 t1 t2 t3 t4 hNE
  refine wpAnyH_ready (rs := [5, 13]) (by kernel_rfl) (by simp) ?_
  refine AllReadyH.cons rfl (fun K hK => ?_) (AllReadyH.cons rfl (fun K hK => ?_) AllReadyH.nil)
  · rw [if_pos (by rfl)]
    go_simp
    have bd : Below v.heap.size v v.drew := (Below.refl _ _).drew
    have bb := Below.next HM.out.1 bd
    refine (jraise_fl n g k lt ao3 cap3 l0 v.drew (HN.out.1.kept bb) (HN.out.2.kept bb) HF.out.1 HF.out.2.1 (by rw [HLT2.out]; exact HF.out.2.2.2.2.2) HF.out.2.2.1).mono ?_
    rintro _ u ⟨ao4, cap4, rfl, bu⟩
    dsimp only
    generalize hjl : joinI n g lt l0 = jl
    have HJL : Hid (joinI n g lt l0 = jl) := hjl
    clear hjl
    have D0 := Below.next bd bu
    refine hK.out _ _ (key _ (fun k _ hk => D0.block k hk)) (fun hS0 => ?_)
    clear hK K hS0 bu bb bd
    try simp only [Act.put, List.setIfInBounds_toArray, List.set_cons_succ, List.set_cons_zero]
    refine wpAnyH_ready (rs := [13]) (by kernel_rfl) (by simp) ?_
    refine AllReadyH.cons rfl (fun K hK => ?_) AllReadyH.nil
    rw [if_pos (by rfl)]
    go_simp
    have D1 := Below.next D0 (below_alloc u (.cells #[.int .i64 x0, .int .i64 x1, .int .i64 x2] 3))
    have N1 : Blk (u.alloc (.cells #[.int .i64 x0, .int .i64 x1, .int .i64 x2] 3)) u.heap.size ([x0, x1, x2].map (Value.int .i64)) 3 := Blk.new u _ _
    refine hK.out _ _ (key _ (fun k _ hk => D1.block k hk)) (fun hS1 => ?_)
    clear hK K hS1 D0
    try simp only [Act.put, List.setIfInBounds_toArray, List.set_cons_succ, List.set_cons_zero]
    generalize u.heap.size = BX at N1 ⊢
    generalize u.alloc (.cells #[.int .i64 x0, .int .i64 x1, .int .i64 x2] 3) = u1 at D1 N1 ⊢
    refine wpAnyH_ready (rs := [14]) (by kernel_rfl) (by simp) ?_
    refine AllReadyH.cons rfl (fun K hK => ?_) AllReadyH.nil
    rw [if_pos (by rfl)]
    go_simp
    have b1 := Below.next HM.out.1 D1
    have hJn := jjoin n g [x0, x1, x2] BX u1 (HN.out.1.kept b1) (HN.out.2.kept b1) N1 (by simp) (by simp)
    simp only [List.length] at hJn
    refine hJn.mono ?_
    rintro _ y2 ⟨rfl, b2⟩
    dsimp only
    have D2 := Below.next D1 b2
    refine hK.out _ _ (key _ (fun k _ hk => D2.block k hk)) (fun hS2 => ?_)
    clear hK K hS2 hJn
    try simp only [Act.put, List.setIfInBounds_toArray, List.set_cons_succ, List.set_cons_zero]
    refine wpAnyH_ready (rs := [15]) (by kernel_rfl) (by simp) ?_
    refine AllReadyH.cons rfl (fun K hK => ?_) AllReadyH.nil
    rw [if_pos (by rfl)]
    have bZ2 := HM.out.2.2.kept D2
    refine wp_store_wrote 34 (.tmp 6) (.tmp 51) rfl rfl (w.heap.size + 3) [.int .i64 k, .int .i64 jl, .slice ao4 0 cap4, .int .i64 0, .int .i64 0] _ rfl rfl rfl bZ2 rfl (by kernel_rfl) (fun w9 W9 => ?_)
    have hB9 : Below w.heap.size w w9 := W9.below (by omega) (Below.next HM.out.1 D2)
    have hS9 : ∀ k, k ≠ w.heap.size + 3 → k < v.heap.size → w9.heap[k]? = v.heap[k]? := fun k hk hl => by
      rw [W9.other k hk, D2.block k hl]
    have HW9 := W9.blk
    clear W9
    refine hK.out _ _ (key _ hS9) (fun hS10 => ?_)
    clear hK K hS10
    refine wpAnyH_ready (rs := [16]) (by kernel_rfl) (by simp) ?_
    refine AllReadyH.cons rfl (fun K hK => ?_) AllReadyH.nil
    rw [if_pos (by rfl)]
    go_simp
    refine hK.out _ _ (key _ hS9) (fun hS11 => ?_)
    clear hK K hS11
    try simp only [Act.put, List.setIfInBounds_toArray, List.set_cons_succ, List.set_cons_zero]
    refine wpAnyH_done (by kernel_rfl) ?_ _
    go_wp2
    have c0 := HW9.cell 0 rfl
    have c1 := HW9.cell 1 rfl
    have c2 := HW9.cell 2 rfl
    have c3 := HW9.cell 3 rfl
    have c4 := HW9.cell 4 rfl
    refine bodyPost_ret (v := .tuple #[.agg #[.int .i64 k, .int .i64 jl, .slice ao4 0 cap4, .int .i64 0, .int .i64 0], .int .i64 (jfold n g [x0, x1, x2])]) (by simp [results, Tryz.results92, go_sem, c0, c1, c2, c3, c4]) rfl ⟨Or.inl ⟨HY.out, ao4, cap4, by rw [← HJL.out, HLT2.out]⟩, hB9⟩
  · skip
    rw [if_pos (by rfl)]
    go_simp
    have D1 : Below v.heap.size v (v.alloc (.cells #[.int .i64 x0, .int .i64 x1, .int .i64 x2] 3)).drew := (below_alloc _ _).drew
    have N1 : Blk (v.alloc (.cells #[.int .i64 x0, .int .i64 x1, .int .i64 x2] 3)).drew v.heap.size ([x0, x1, x2].map (Value.int .i64)) 3 := Blk.new v _ _
    refine hK.out _ _ (key _ (fun k _ hk => D1.block k hk)) (fun hS1 => ?_)
    clear hK K hS1
    try simp only [Act.put, List.setIfInBounds_toArray, List.set_cons_succ, List.set_cons_zero]
    generalize (v.alloc (.cells #[.int .i64 x0, .int .i64 x1, .int .i64 x2] 3)).drew = u1 at D1 N1 ⊢
    refine wpAnyH_ready (rs := [5]) (by kernel_rfl) (by simp) ?_
    refine AllReadyH.cons rfl (fun K hK => ?_) AllReadyH.nil
    rw [if_pos (by rfl)]
    go_simp
    have bb := Below.next HM.out.1 D1
    refine (jraise_fl n g k lt ao3 cap3 l0 u1 (HN.out.1.kept bb) (HN.out.2.kept bb) HF.out.1 HF.out.2.1 (by rw [HLT2.out]; exact HF.out.2.2.2.2.2) HF.out.2.2.1).mono ?_
    rintro _ u ⟨ao4, cap4, rfl, bu⟩
    dsimp only
    generalize hjl : joinI n g lt l0 = jl
    have HJL : Hid (joinI n g lt l0 = jl) := hjl
    clear hjl
    have D3 := Below.next D1 bu
    have N3 := N1.kept bu
    refine hK.out _ _ (key _ (fun k _ hk => D3.block k hk)) (fun hS0 => ?_)
    clear hK K hS0 bu bb D1 N1
    try simp only [Act.put, List.setIfInBounds_toArray, List.set_cons_succ, List.set_cons_zero]
    refine wpAnyH_ready (rs := [14]) (by kernel_rfl) (by simp) ?_
    refine AllReadyH.cons rfl (fun K hK => ?_) AllReadyH.nil
    rw [if_pos (by rfl)]
    go_simp
    have b1 := Below.next HM.out.1 D3
    have hJn := jjoin n g [x0, x1, x2] v.heap.size u (HN.out.1.kept b1) (HN.out.2.kept b1) N3 (by simp) (by simp)
    simp only [List.length] at hJn
    refine hJn.mono ?_
    rintro _ y2 ⟨rfl, b2⟩
    dsimp only
    have D2 := Below.next D3 b2
    refine hK.out _ _ (key _ (fun k _ hk => D2.block k hk)) (fun hS2 => ?_)
    clear hK K hS2 hJn
    try simp only [Act.put, List.setIfInBounds_toArray, List.set_cons_succ, List.set_cons_zero]
    refine wpAnyH_ready (rs := [15]) (by kernel_rfl) (by simp) ?_
    refine AllReadyH.cons rfl (fun K hK => ?_) AllReadyH.nil
    rw [if_pos (by rfl)]
    have bZ2 := HM.out.2.2.kept D2
    refine wp_store_wrote 34 (.tmp 6) (.tmp 51) rfl rfl (w.heap.size + 3) [.int .i64 k, .int .i64 jl, .slice ao4 0 cap4, .int .i64 0, .int .i64 0] _ rfl rfl rfl bZ2 rfl (by kernel_rfl) (fun w9 W9 => ?_)
    have hB9 : Below w.heap.size w w9 := W9.below (by omega) (Below.next HM.out.1 D2)
    have hS9 : ∀ k, k ≠ w.heap.size + 3 → k < v.heap.size → w9.heap[k]? = v.heap[k]? := fun k hk hl => by
      rw [W9.other k hk, D2.block k hl]
    have HW9 := W9.blk
    clear W9
    refine hK.out _ _ (key _ hS9) (fun hS10 => ?_)
    clear hK K hS10
    refine wpAnyH_ready (rs := [16]) (by kernel_rfl) (by simp) ?_
    refine AllReadyH.cons rfl (fun K hK => ?_) AllReadyH.nil
    rw [if_pos (by rfl)]
    go_simp
    refine hK.out _ _ (key _ hS9) (fun hS11 => ?_)
    clear hK K hS11
    try simp only [Act.put, List.setIfInBounds_toArray, List.set_cons_succ, List.set_cons_zero]
    refine wpAnyH_done (by kernel_rfl) ?_ _
    go_wp2
    have c0 := HW9.cell 0 rfl
    have c1 := HW9.cell 1 rfl
    have c2 := HW9.cell 2 rfl
    have c3 := HW9.cell 3 rfl
    have c4 := HW9.cell 4 rfl
    refine bodyPost_ret (v := .tuple #[.agg #[.int .i64 k, .int .i64 jl, .slice ao4 0 cap4, .int .i64 0, .int .i64 0], .int .i64 (jfold n g [x0, x1, x2])]) (by simp [results, Tryz.results92, go_sem, c0, c1, c2, c3, c4]) rfl ⟨Or.inl ⟨HY.out, ao4, cap4, by rw [← HJL.out, HLT2.out]⟩, hB9⟩
end Go.Proofs.YtepgdkigncjalaaGreat

/- Layer 7: what takes a fault that goes up. -/
namespace Go.Proofs.YtepgdkigncjalaaGreat
open Go Go.RowKit

theorem wrote_one {w : World} {B : Nat} {v : Value} {t : TypeId} (h : Blk w B [v] t) (v' : Value) : WroteB w (w.setCell ⟨B, 0, none⟩ v') B [v'] t := wrote_setCells h [v'] rfl
set_option maxHeartbeats 1000000 in
theorem catch_idle (p q r : Addr) (w : World) :
    CallsD Tryz.prog 39 #[.pointer (some p), .pointer (some q), .pointer (some r)] .returning w fun e u' w' => e = .returned (.tuple #[]) ∧ u' = .returning ∧ w' = w := by
  refine callsD_of_wpS Tryz.func39 rfl fun c₀ cs hu => ?_
  apply wpS_seq
  apply wpS_region
  simp [wpOpsS, go_sem, recoverD, hu, Tryz.ntmps39, Exit.thenS]
  apply wpS_seq
  apply wpS_seq
  apply wpS_region
  simp [wpOpsS, go_sem, Exit.thenS]
  refine wpS_cond (t := true) (by simp [Act.eval, Array.replicate]) ?_
  simp only [if_true]
  refine wpS_of_wp (wp_ret ?_)
  cases c₀
  simp_all [bodyPostS, results, Tryz.results39, Exit.thenS]
set_option maxRecDepth 100000 in
set_option maxHeartbeats 4000000 in
theorem catch_fault (X Y Z : Nat) (pl c x y z : Int) (w : World) (hX : Blk w X [.int .i64 x] 3) (hY : Blk w Y [.int .i64 y] 3) (hZ : Blk w Z [.int .i64 z] 40) (hxy : X < Y) (hyz : Y < Z) :
    CallsD Tryz.prog 39 #[.pointer (some ⟨X, 0, none⟩), .pointer (some ⟨Y, 0, none⟩), .pointer (some ⟨Z, 0, none⟩)] (.panicking (fault pl c)) w fun e u' w' => e = .returned (.tuple #[]) ∧ u' = .panicking [{ v := .iface 87 (.agg #[.int .i64 pl, .int .i64 c]), recovered := true }] ∧
      Blk w' X [.int .i64 (-1)] 3 ∧ Blk w' Y [.int .i64 pl] 3 ∧ Blk w' Z [.int .i64 c] 40 ∧ Below X w w' ∧ ∀ k, k < w.heap.size → k ≠ X → k ≠ Y → k ≠ Z → w'.heap[k]? = w.heap[k]? := by
  refine callsD_of_wpS Tryz.func39 rfl fun c₀ cs hu => ?_
  unfold fault at hu
  apply wpS_seq
  apply wpS_region
  simp [wpOpsS, go_sem, recoverD, hu, Tryz.ntmps39, Exit.thenS]
  apply wpS_seq
  apply wpS_seq
  apply wpS_region
  simp [wpOpsS, go_sem, Exit.thenS]
  refine wpS_cond (t := false) (by simp [Act.eval, Array.replicate]) ?_
  simp only [Bool.false_eq_true, if_false]
  refine wpS_of_wp (wp_skip ?_)
  simp only [Exit.thenS]
  refine wpS_of_wp ?_
  have HB : Hid (Blk w X [.int .i64 x] 3 ∧ Blk w Y [.int .i64 y] 3 ∧ Blk w Z [.int .i64 z] 40) := ⟨hX, hY, hZ⟩
  clear hX hY hZ
  have hta : ∀ u : World, (Instr.typeAssert (.iface 87 (.agg #[.int .i64 pl, .int .i64 c])) 20 87 true).run Tryz.prog u = .ok (.tuple #[.agg #[.int .i64 pl, .int .i64 c], .bool true]) u := fun _ => by kernel_rfl
  simp only [show (Array.replicate 18 undef : Array Value) = #[undef, undef, undef, undef, undef, undef, undef, undef, undef, undef, undef, undef, undef, undef, undef, undef, undef, undef] from by kernel_rfl, List.setIfInBounds_toArray, List.set_cons_succ, List.set_cons_zero, List.append_toArray, List.cons_append, List.nil_append]
  have BF := below_alloc w (.cells #[.int .i64 pl, .int .i64 c] 87)
  have NF : Blk (w.alloc (.cells #[.int .i64 pl, .int .i64 c] 87)) w.heap.size [.int .i64 pl, .int .i64 c] 87 := Blk.new w _ _
  go_wp2
  have HX : Hid (X < w.heap.size ∧ Y < w.heap.size ∧ Z < w.heap.size) := ⟨HB.out.1.lt, HB.out.2.1.lt, HB.out.2.2.lt⟩
  have HC : Hid (Below w.heap.size w (w.alloc (.cells #[.int .i64 pl, .int .i64 c] 87)) ∧ Blk (w.alloc (.cells #[.int .i64 pl, .int .i64 c] 87)) w.heap.size [.int .i64 pl, .int .i64 c] 87 ∧ Blk (w.alloc (.cells #[.int .i64 pl, .int .i64 c] 87)) X [.int .i64 x] 3 ∧ Blk (w.alloc (.cells #[.int .i64 pl, .int .i64 c] 87)) Y [.int .i64 y] 3 ∧ Blk (w.alloc (.cells #[.int .i64 pl, .int .i64 c] 87)) Z [.int .i64 z] 40) := ⟨BF, NF, HB.out.1.kept BF, HB.out.2.1.kept BF, HB.out.2.2.kept BF⟩
  clear BF NF HB hta
  generalize hF : w.heap.size = F at *
  have HF : Hid (w.heap.size = F) := hF
  clear hF
  generalize w.alloc (.cells #[.int .i64 pl, .int .i64 c] 87) = u at *
  refine wp_region_reads (fun q : World => Blk q F [.int .i64 pl, .int .i64 c] 87) [0, 1, 2, 3] 3 (by kernel_rfl) rfl (by kernel_rfl) (fun j hj => ?_) (fun _ _ d _ _ h => by cases d <;> exact h) HC.out.2.1 ?_
  · have hj4 : j < 4 := hj
    match j, hj4 with
    | 0, _ => exact ⟨_, rfl, rfl⟩
    | 1, _ => exact ⟨_, rfl, rfl⟩
    | 2, _ => exact ⟨_, rfl, rfl⟩
    | 3, _ => exact ⟨_, rfl, rfl⟩
  have f0 : ∀ q : Wd (fun q : World => Blk q F [.int .i64 pl, .int .i64 c] 87), q.w.cell? ⟨F, 0, none⟩ = some (.int .i64 pl) := fun q => Blk.cell q.2 0 rfl
  have f1 : ∀ q : Wd (fun q : World => Blk q F [.int .i64 pl, .int .i64 c] 87), q.w.cell? ⟨F, 1, none⟩ = some (.int .i64 c) := fun q => Blk.cell q.2 1 rfl
  have hNE : Nonempty (Wd (fun q : World => Blk q F [.int .i64 pl, .int .i64 c] 87)) := ⟨⟨u, HC.out.2.1⟩⟩
  simp only [List.filterMap, List.getElem?_cons_zero, List.getElem?_cons_succ]
  repeat go_big_quiet_step (fail)
  refine wpQuiet_nil ?_
  clear f0 f1 hNE
  have d0 : u.drew.cell? ⟨X, 0, none⟩ = some (.int .i64 x) := HC.out.2.2.1.cell 0 rfl
  have d1 : u.drew.frozen? ⟨X, 0, none⟩ = false := HC.out.2.2.1.frozen 0
  refine wpAnyH_ready (rs := [4]) (by kernel_rfl) (by simp) ?_
  refine AllReadyH.cons rfl (fun K hK => ?_) AllReadyH.nil
  rw [if_pos (by rfl)]
  go_simp
  have hx : Blk u.drew X [.int .i64 x] 3 := HC.out.2.2.1
  have W1 : WroteB u.drew (u.setCell ⟨X, 0, none⟩ (.int .i64 (-1))).drew X [.int .i64 (-1)] 3 := wrote_one hx (.int .i64 (-1))
  clear d0 d1
  generalize (u.setCell ⟨X, 0, none⟩ (.int .i64 (-1))).drew = u1 at W1 ⊢
  have h1 := HX.out
  have k1 : Blk u1 F [.int .i64 pl, .int .i64 c] 87 := W1.keep (show Blk u.drew F _ _ from HC.out.2.1) (by omega)
  have y1 : Blk u1 Y [.int .i64 y] 3 := W1.keep (show Blk u.drew Y _ _ from HC.out.2.2.2.1) (by omega)
  have z1 : Blk u1 Z [.int .i64 z] 40 := W1.keep (show Blk u.drew Z _ _ from HC.out.2.2.2.2) (by omega)
  refine hK.out _ _ k1 (fun _ => ?_)
  clear hK K
  try simp only [Act.put, List.setIfInBounds_toArray, List.set_cons_succ, List.set_cons_zero]
  have d0 := y1.cell 0 rfl
  have d1 := y1.frozen 0
  refine wpAnyH_ready (rs := [5]) (by kernel_rfl) (by simp) ?_
  refine AllReadyH.cons rfl (fun K hK => ?_) AllReadyH.nil
  rw [if_pos (by rfl)]
  go_simp
  have W2 := wrote_one y1 (.int .i64 pl)
  clear d0 d1
  generalize u1.setCell ⟨Y, 0, none⟩ (.int .i64 pl) = u2 at W2 ⊢
  have k2 := W2.keep k1 (by omega)
  have x2 := W2.keep W1.blk (by omega)
  have z2 := W2.keep z1 (by omega)
  refine hK.out _ _ k2 (fun _ => ?_)
  clear hK K
  try simp only [Act.put, List.setIfInBounds_toArray, List.set_cons_succ, List.set_cons_zero]
  have d0 := z2.cell 0 rfl
  have d1 := z2.frozen 0
  refine wpAnyH_ready (rs := [6]) (by kernel_rfl) (by simp) ?_
  refine AllReadyH.cons rfl (fun K hK => ?_) AllReadyH.nil
  rw [if_pos (by rfl)]
  go_simp
  have W3 := wrote_one z2 (.int .i64 c)
  clear d0 d1
  generalize u2.setCell ⟨Z, 0, none⟩ (.int .i64 c) = u3 at W3 ⊢
  have k3 := W3.keep k2 (by omega)
  have x3 := W3.keep x2 (by omega)
  have y3 := W3.keep W2.blk (by omega)
  refine hK.out _ _ k3 (fun _ => ?_)
  clear hK K
  try simp only [Act.put, List.setIfInBounds_toArray, List.set_cons_succ, List.set_cons_zero]
  refine wpAnyH_done (by kernel_rfl) ?_ _
  have hB3 : Below X w u3 := W3.below (by omega) (W2.below (by omega) (W1.below (Nat.le_refl _) (Below.drew (HC.out.1.mono (by omega)))))
  have hO3 : ∀ k, k < F → k ≠ X → k ≠ Y → k ≠ Z → u3.heap[k]? = w.heap[k]? := fun k hk a b d => by
    rw [W3.other k d, W2.other k b, W1.other k a]
    exact HC.out.1.block k (by omega)
  have hend : Blk u3 X [.int .i64 (-1)] 3 ∧ Blk u3 Y [.int .i64 pl] 3 ∧ Blk u3 Z [.int .i64 c] 40 ∧ Below X w u3 ∧ ∀ k, k < w.heap.size → k ≠ X → k ≠ Y → k ≠ Z → u3.heap[k]? = w.heap[k]? := ⟨x3, y3, W3.blk, hB3, by rw [HF.out]; exact hO3⟩
  clear W1 W2 W3 k1 k2 k3 x2 x3 y1 y3 z1 z2 hB3 hO3 HC HX h1 hx
  show bodyPostS Tryz.prog Tryz.f39 c₀ cs _ Exit.normal _ _ u3
  simp [bodyPostS, results, Tryz.results39]
  exact hend
end Go.Proofs.YtepgdkigncjalaaGreat
