/- Layer 7: the rule of ERaise. -/
import Derived.Test.YtepgdkigncjalaaGreatP18
import Derived.Test.YtepgdkigncjalaaGreatP9
namespace Go.Proofs.YtepgdkigncjalaaGreat
open Go Go.RowKit

theorem range_of_block {w w' : World} {B : Nat} {vs : List Value} (h : w'.heap[B]? = w.heap[B]?) (hr : w.rangeAt B 0 vs) : w'.rangeAt B 0 vs := fun j v hv => (World.cell?_of_block (w := w) h).trans (hr j v hv)
theorem range_lt {w : World} {B : Nat} {v : Value} {vs : List Value} (hr : w.rangeAt B 0 (v :: vs)) : B < w.heap.size := World.block_lt_of_cell? w ⟨B, 0 + 0, none⟩ (hr 0 v rfl)
/-- Three variables: the judge, the expression, a judgement. -/
def S3 (A E G : Nat) (n : Strs) (g : Grid) (e : Ex) (vs : List Value) (q : World) : Prop := Blk q A [.slice n.ao n.len n.cap, .slice g.ao g.len g.cap] 92 ∧ Blk q E e.vs 37 ∧ q.rangeAt G 0 vs
set_option maxRecDepth 100000 in
set_option maxHeartbeats 8000000 in
theorem raising_rule (n : Strs) (g : Grid) (e : Ex) (sb : Nat) (pc hp l x b tk tl : Int) (w : World) (hn : n.At w) (hg : g.At w) (he : e.At w) (h1 : e.len = 1) (ht : e.ty = leafT tk tl)
    (hP : ∀ u, Below w.heap.size w u → NeedOk n g (e.ps 0) sb pc hp 1 l x b u) :
    Calls Tryz.prog 101 #[.agg #[.slice n.ao n.len n.cap, .slice g.ao g.len g.cap], .agg e.va, .agg #[.pointer (some ⟨sb, 0, none⟩), .int .i64 pc, .int .i64 hp]] w fun r w' => (∃ ao cap, r = .returned (.tuple #[.agg #[.int .i64 tk, .int .i64 tl, .slice ao 0 cap, .int .i64 0, .int .i64 0], .int .i64 (jfold n g [x, l, b])])) ∧ Below w.heap.size w w' := by
  have H := allocs_heap [.cells #[.slice n.ao n.len n.cap, .slice g.ao g.len g.cap] 92, .cells e.va 37, .cells #[.pointer (some ⟨sb, 0, none⟩), .int .i64 pc, .int .i64 hp] 73, .cells #[.int .i64 0, .int .i64 0, .slice none 0 0, .int .i64 0, .int .i64 0] 34] w
  have B0 := allocs_below [.cells #[.slice n.ao n.len n.cap, .slice g.ao g.len g.cap] 92, .cells e.va 37, .cells #[.pointer (some ⟨sb, 0, none⟩), .int .i64 pc, .int .i64 hp] 73, .cells #[.int .i64 0, .int .i64 0, .slice none 0 0, .int .i64 0, .int .i64 0] 34] w
  have SZ := allocs_size [.cells #[.slice n.ao n.len n.cap, .slice g.ao g.len g.cap] 92, .cells e.va 37, .cells #[.pointer (some ⟨sb, 0, none⟩), .int .i64 pc, .int .i64 hp] 73, .cells #[.int .i64 0, .int .i64 0, .slice none 0 0, .int .i64 0, .int .i64 0] 34] w
  simp only [List.foldl, List.length] at H B0 SZ
  have bA : Blk _ w.heap.size [.slice n.ao n.len n.cap, .slice g.ao g.len g.cap] 92 := H 0 (by simp)
  have bE : Blk _ (w.heap.size + 1) e.vs 37 := H 1 (by simp)
  have bW : Blk _ (w.heap.size + 2) [.pointer (some ⟨sb, 0, none⟩), .int .i64 pc, .int .i64 hp] 73 := H 2 (by simp)
  have bZ : Blk _ (w.heap.size + 3) [.int .i64 0, .int .i64 0, .slice none 0 0, .int .i64 0, .int .i64 0] 34 := H 3 (by simp)
  clear H
  have HSZ : Hid (((((w.alloc (.cells #[.slice n.ao n.len n.cap, .slice g.ao g.len g.cap] 92)).alloc (.cells e.va 37)).alloc (.cells #[.pointer (some ⟨sb, 0, none⟩), .int .i64 pc, .int .i64 hp] 73)).alloc (.cells #[.int .i64 0, .int .i64 0, .slice none 0 0, .int .i64 0, .int .i64 0] 34)).heap.size = w.heap.size + 4) := SZ
  clear SZ
  have ea : e.ao = some ⟨e.b, e.o, none⟩ := he.nil (by omega)
  have HI : Hid (_ ∧ _ ∧ _ ∧ _ ∧ _) := (⟨B0, bA, bE, bW, bZ⟩ : _ ∧ _ ∧ _ ∧ _ ∧ _)
  have HN : Hid (n.At w ∧ g.At w) := ⟨hn, hg⟩
  have HE : Hid (e.At w) := he
  have C0 := (he.kept B0).cells (i := 0) (by omega)
  simp only [Nat.zero_mul, Nat.add_zero] at C0
  have e15 := bE.cell 15 (v := .slice e.ao e.len e.cap) rfl
  rw [ea, h1] at e15
  clear ea hn hg he
  go_enter Tryz.func101, Tryz.ntmps101
  go_wp2
  have a0 := fun z => Gr.cell z (bA.cell 0 rfl)
  have a1 := fun z => Gr.cell z (bA.cell 1 rfl)
  have w0 := fun z => Gr.cell z (bW.cell 0 rfl)
  have w1 := fun z => Gr.cell z (bW.cell 1 rfl)
  have w2 := fun z => Gr.cell z (bW.cell 2 rfl)
  have y15 := fun z => Gr.cell z e15
  generalize ((((w.alloc (.cells #[.slice n.ao n.len n.cap, .slice g.ao g.len g.cap] 92)).alloc (.cells e.va 37)).alloc (.cells #[.pointer (some ⟨sb, 0, none⟩), .int .i64 pc, .int .i64 hp] 73)).alloc (.cells #[.int .i64 0, .int .i64 0, .slice none 0 0, .int .i64 0, .int .i64 0] 34)) = W at *
  have hC : ∀ u, (∃ x : Gr W, u = x.w) → C17 u e.b e.o (e.ps 0) := fun u ⟨x, hx⟩ => by rw [hx]; exact C0.kept x.bl
  have hNE : Nonempty (Gr W) := ⟨⟨_, Below.refl _ _⟩⟩
  clear bA bE bW bZ e15 C0
  refine wp_region_new 6 (by kernel_rfl) rfl (by kernel_rfl) (T := ⟨rfl, rfl, rfl, rfl, rfl, rfl, rfl, rfl, rfl, rfl, rfl, by kernel_rfl, by kernel_rfl, by kernel_rfl, by kernel_rfl, by kernel_rfl, by kernel_rfl, alloc_gv⟩) (Gvs 1 l x b) (fun _ => False) (fun _ _ d _ _ h => by cases d <;> exact h) Gvs.good ?_
  simp only [List.take]
  iterate 4 go_big_quiet_step (fail)
  go_big_quiet_want
  refine quiet_load_ex (.tmp 12) rfl _ _ (by kernel_rfl) (e.ps 0) hC ?_
  simp only [Act.put, List.setIfInBounds_toArray, List.set_cons_succ, List.set_cons_zero]
  go_big_quiet_on
  iterate 1 go_big_quiet_step (fail)
  refine wpQuiet_nil ⟨105, #[.agg #[.slice n.ao n.len n.cap, .slice g.ao g.len g.cap], .int .i64 1, .agg (e.ps 0).va, .agg #[.pointer (some ⟨sb, 0, none⟩), .int .i64 pc, .int .i64 hp]], ?_, ?_, ?_, ?_, ?_, ?_, ?_⟩
  · intro u _
    go_simp
  · intro u v _
    simp only [Act.put, List.setIfInBounds_toArray, List.set_cons_succ, List.set_cons_zero]
    go_simp
  · intro v v'
    simp only [Act.put, List.setIfInBounds_toArray, List.set_cons_succ, List.set_cons_zero]
  · intro v v'
    simp only [Act.put, List.setIfInBounds_toArray, List.set_cons_succ, List.set_cons_zero]
    exact ⟨rfl, rfl⟩
  · intro u hu
    refine (hP u (Below.next B0 hu)).mono ?_
    rintro _ u' ⟨⟨ao, cap, rfl⟩, hb⟩
    exact ⟨hb, Or.inl ⟨_, rfl, ao, cap, rfl⟩⟩
  · intro _ _ _ h
    exact h.elim
  intro vals G u hg hu hG hr
  obtain ⟨ao, cap, rfl⟩ := hg
  simp only [Act.put, List.setIfInBounds_toArray, List.set_cons_succ, List.set_cons_zero]
  have HGS : Hid (w.heap.size + 4 ≤ G) := by show _ ≤ _; have := HSZ.out; omega
  have HJ : Hid (Below w.heap.size w u ∧ S3 w.heap.size (w.heap.size + 1) G n g e [.int .i64 1, .int .i64 l, .slice ao 0 cap, .int .i64 0, .int .i64 0, .int .i64 x, .int .i64 b] u ∧ Blk u (w.heap.size + 3) [.int .i64 0, .int .i64 0, .slice none 0 0, .int .i64 0, .int .i64 0] 34) := ⟨Below.next B0 hu, ⟨HI.out.2.1.kept hu, HI.out.2.2.1.kept hu, hr⟩, HI.out.2.2.2.2.kept hu⟩
  clear a0 a1 w0 w1 w2 y15 hC hNE HI hr hu hP HSZ hG B0
  go_wp2
  have key : ∀ u', (∀ k, k ≠ w.heap.size + 3 → k < u.heap.size → u'.heap[k]? = u.heap[k]?) → S3 w.heap.size (w.heap.size + 1) G n g e [.int .i64 1, .int .i64 l, .slice ao 0 cap, .int .i64 0, .int .i64 0, .int .i64 x, .int .i64 b] u' := fun u' hu' => by
    obtain ⟨h1, h2, h3⟩ := HJ.out.2.1
    have l1 := h1.lt
    have l2 := h2.lt
    have l3 := range_lt h3
    have := HGS.out
    exact ⟨by unfold Blk; rw [hu' _ (by omega) l1]; exact h1, by unfold Blk; rw [hu' _ (by omega) l2]; exact h2, range_of_block (hu' _ (by omega) l3) h3⟩
  refine wp_region_reads (S3 w.heap.size (w.heap.size + 1) G n g e [.int .i64 1, .int .i64 l, .slice ao 0 cap, .int .i64 0, .int .i64 0, .int .i64 x, .int .i64 b]) [0, 1, 2, 3, 4, 5, 6, 7, 8, 9] 4 (by kernel_rfl) rfl (by kernel_rfl) (fun j hj => ?_) (fun _ _ d _ _ h => by cases d <;> exact h) (key _ (fun _ _ _ => rfl)) ?_
  · have hj4 : j < 10 := hj
    match j, hj4 with
    | 0, _ => exact ⟨_, rfl, rfl⟩
    | 1, _ => exact ⟨_, rfl, rfl⟩
    | 2, _ => exact ⟨_, rfl, rfl⟩
    | 3, _ => exact ⟨_, rfl, rfl⟩
    | 4, _ => exact ⟨_, rfl, rfl⟩
    | 5, _ => exact ⟨_, rfl, rfl⟩
    | 6, _ => exact ⟨_, rfl, rfl⟩
    | 7, _ => exact ⟨_, rfl, rfl⟩
    | 8, _ => exact ⟨_, rfl, rfl⟩
    | 9, _ => exact ⟨_, rfl, rfl⟩
  have a0 : ∀ z : Wd (S3 w.heap.size (w.heap.size + 1) G n g e [.int .i64 1, .int .i64 l, .slice ao 0 cap, .int .i64 0, .int .i64 0, .int .i64 x, .int .i64 b]), z.w.cell? ⟨w.heap.size, 0, none⟩ = some (.slice n.ao n.len n.cap) := fun z => z.2.1.cell 0 rfl
  have a1 : ∀ z : Wd (S3 w.heap.size (w.heap.size + 1) G n g e [.int .i64 1, .int .i64 l, .slice ao 0 cap, .int .i64 0, .int .i64 0, .int .i64 x, .int .i64 b]), z.w.cell? ⟨w.heap.size, 1, none⟩ = some (.slice g.ao g.len g.cap) := fun z => z.2.1.cell 1 rfl
  have t0 : ∀ z : Wd (S3 w.heap.size (w.heap.size + 1) G n g e [.int .i64 1, .int .i64 l, .slice ao 0 cap, .int .i64 0, .int .i64 0, .int .i64 x, .int .i64 b]), z.w.cell? ⟨w.heap.size + 1, 5, none⟩ = some (.int .i64 e.ty.k) := fun z => z.2.2.1.cell 5 rfl
  have t1 : ∀ z : Wd (S3 w.heap.size (w.heap.size + 1) G n g e [.int .i64 1, .int .i64 l, .slice ao 0 cap, .int .i64 0, .int .i64 0, .int .i64 x, .int .i64 b]), z.w.cell? ⟨w.heap.size + 1, 6, none⟩ = some (.int .i64 e.ty.l) := fun z => z.2.2.1.cell 6 rfl
  have t2 : ∀ z : Wd (S3 w.heap.size (w.heap.size + 1) G n g e [.int .i64 1, .int .i64 l, .slice ao 0 cap, .int .i64 0, .int .i64 0, .int .i64 x, .int .i64 b]), z.w.cell? ⟨w.heap.size + 1, 7, none⟩ = some (.slice e.ty.ao e.ty.len e.ty.cap) := fun z => z.2.2.1.cell 7 rfl
  have t3 : ∀ z : Wd (S3 w.heap.size (w.heap.size + 1) G n g e [.int .i64 1, .int .i64 l, .slice ao 0 cap, .int .i64 0, .int .i64 0, .int .i64 x, .int .i64 b]), z.w.cell? ⟨w.heap.size + 1, 8, none⟩ = some (.int .i64 e.ty.h) := fun z => z.2.2.1.cell 8 rfl
  have t4 : ∀ z : Wd (S3 w.heap.size (w.heap.size + 1) G n g e [.int .i64 1, .int .i64 l, .slice ao 0 cap, .int .i64 0, .int .i64 0, .int .i64 x, .int .i64 b]), z.w.cell? ⟨w.heap.size + 1, 9, none⟩ = some (.int .i64 e.ty.e) := fun z => z.2.2.1.cell 9 rfl
  rw [ht] at t0 t1 t2 t3 t4
  simp only [leafT, Ty.k, Ty.l, Ty.ao, Ty.len, Ty.cap, Ty.h, Ty.e] at t0 t1 t2 t3 t4
  have g1 : ∀ z : Wd (S3 w.heap.size (w.heap.size + 1) G n g e [.int .i64 1, .int .i64 l, .slice ao 0 cap, .int .i64 0, .int .i64 0, .int .i64 x, .int .i64 b]), z.w.cell? ⟨G, 1, none⟩ = some (.int .i64 l) := fun z => by have := z.2.2.2 1 _ rfl; rw [Nat.zero_add] at this; exact this
  have g5 : ∀ z : Wd (S3 w.heap.size (w.heap.size + 1) G n g e [.int .i64 1, .int .i64 l, .slice ao 0 cap, .int .i64 0, .int .i64 0, .int .i64 x, .int .i64 b]), z.w.cell? ⟨G, 5, none⟩ = some (.int .i64 x) := fun z => by have := z.2.2.2 5 _ rfl; rw [Nat.zero_add] at this; exact this
  have g6 : ∀ z : Wd (S3 w.heap.size (w.heap.size + 1) G n g e [.int .i64 1, .int .i64 l, .slice ao 0 cap, .int .i64 0, .int .i64 0, .int .i64 x, .int .i64 b]), z.w.cell? ⟨G, 6, none⟩ = some (.int .i64 b) := fun z => by have := z.2.2.2 6 _ rfl; rw [Nat.zero_add] at this; exact this
  have hNE : Nonempty (Wd (S3 w.heap.size (w.heap.size + 1) G n g e [.int .i64 1, .int .i64 l, .slice ao 0 cap, .int .i64 0, .int .i64 0, .int .i64 x, .int .i64 b])) := ⟨⟨u, key u (fun _ _ _ => rfl)⟩⟩
  simp only [List.filterMap, List.getElem?_cons_zero, List.getElem?_cons_succ]
  repeat go_big_quiet_step (fail)
  refine wpQuiet_nil ?_
  clear a0 a1 t0 t1 t2 t3 t4 g1 g5 g6 hNE
  refine wpAnyH_ready (rs := [10]) (by kernel_rfl) (by simp) ?_
  refine AllReadyH.cons rfl (fun K hK => ?_) AllReadyH.nil
  rw [if_pos (by rfl)]
  go_simp
  have D1 : Below u.heap.size u (u.alloc (.cells #[.int .i64 x, .int .i64 l, .int .i64 b] 3)).drew := (below_alloc _ _).drew
  have N1 : Blk (u.alloc (.cells #[.int .i64 x, .int .i64 l, .int .i64 b] 3)).drew u.heap.size ([x, l, b].map (Value.int .i64)) 3 := Blk.new u _ _
  refine hK.out _ _ (key _ (fun k _ hk => D1.block k hk)) (fun hS1 => ?_)
  clear hK K hS1
  generalize (u.alloc (.cells #[.int .i64 x, .int .i64 l, .int .i64 b] 3)).drew = u1 at D1 N1 ⊢
  refine wpAnyH_ready (rs := [11]) (by kernel_rfl) (by simp) ?_
  refine AllReadyH.cons rfl (fun K hK => ?_) AllReadyH.nil
  rw [if_pos (by rfl)]
  go_simp
  have b1 := Below.next HJ.out.1 D1
  have hJn := jjoin n g [x, l, b] u.heap.size u1 (HN.out.1.kept b1) (HN.out.2.kept b1) N1 (by simp) (by simp)
  simp only [List.length] at hJn
  refine hJn.mono ?_
  rintro _ u2 ⟨rfl, b2⟩
  dsimp only
  have D2 := Below.next D1 b2
  refine hK.out _ _ (key _ (fun k _ hk => D2.block k hk)) (fun hS2 => ?_)
  clear hK K hS2 hJn
  try simp only [Act.put, List.setIfInBounds_toArray, List.set_cons_succ, List.set_cons_zero]
  refine wpAnyH_ready (rs := [12]) (by kernel_rfl) (by simp) ?_
  refine AllReadyH.cons rfl (fun K hK => ?_) AllReadyH.nil
  rw [if_pos (by rfl)]
  have bZ2 := HJ.out.2.2.kept D2
  have W9 := wrote_setCells bZ2 [.int .i64 tk, .int .i64 tl, .slice none 0 0, .int .i64 0, .int .i64 0] rfl
  refine wp_store_blk 34 (.tmp 6) (.tmp 17) rfl rfl (w.heap.size + 3) [.int .i64 tk, .int .i64 tl, .slice none 0 0, .int .i64 0, .int .i64 0] _ rfl rfl rfl bZ2 rfl (by kernel_rfl) ?_
  have hB9 : Below w.heap.size w (u2.setCells (w.heap.size + 3) 0 [.int .i64 tk, .int .i64 tl, .slice none 0 0, .int .i64 0, .int .i64 0]) := W9.below (by omega) (Below.next HJ.out.1 D2)
  have hS9 : ∀ k, k ≠ w.heap.size + 3 → k < u.heap.size → (u2.setCells (w.heap.size + 3) 0 [.int .i64 tk, .int .i64 tl, .slice none 0 0, .int .i64 0, .int .i64 0]).heap[k]? = u.heap[k]? := fun k hk hl => by
    rw [W9.other k hk, D2.block k hl]
  have HW9 := W9.blk
  clear W9
  generalize u2.setCells (w.heap.size + 3) 0 [.int .i64 tk, .int .i64 tl, .slice none 0 0, .int .i64 0, .int .i64 0] = w9 at hB9 hS9 HW9 ⊢
  refine hK.out _ _ (key _ hS9) (fun hS10 => ?_)
  clear hK K hS10
  refine wpAnyH_ready (rs := [13]) (by kernel_rfl) (by simp) ?_
  refine AllReadyH.cons rfl (fun K hK => ?_) AllReadyH.nil
  rw [if_pos (by rfl)]
  go_simp
  refine hK.out _ _ (key _ hS9) (fun hS11 => ?_)
  clear hK K hS11
  try simp only [Act.put, List.setIfInBounds_toArray, List.set_cons_succ, List.set_cons_zero]
  refine wpAnyH_done (by kernel_rfl) ?_ _
  go_wp2
  have c0 := HW9.cell 0 rfl
  have c1 := HW9.cell 1 rfl
  have c2 := HW9.cell 2 rfl
  have c3 := HW9.cell 3 rfl
  have c4 := HW9.cell 4 rfl
  refine bodyPost_ret (v := .tuple #[.agg #[.int .i64 tk, .int .i64 tl, .slice none 0 0, .int .i64 0, .int .i64 0], .int .i64 (jfold n g [x, l, b])]) (by simp [results, Tryz.results101, go_sem, c0, c1, c2, c3, c4]) rfl ⟨⟨none, 0, rfl⟩, hB9⟩
end Go.Proofs.YtepgdkigncjalaaGreat

/- 'x := f(.., h(..))' in a drawn region: a call more, ahead. -/
namespace Go.Proofs.YtepgdkigncjalaaGreat
open Go Go.RowKit

section
variable {P : Program} {ops : Array Oper} {Q : Exit → Act → World → Prop}
theorem wpAnyH_four {m : Nat} {listed : Array Bool} {o1 oc oa oz : Oper} {ty : TypeId} {zs : List Value} {c d d1 : Nat} (T : Three P ops (m + 1) (listed.setIfInBounds m true) oc oa oz ty zs c d) (ho1 : ops[m]? = some o1) (g1 : o1.guard = none) (dd1 : o1.dst = some d1)
    (q0 : Region.ready .any ops listed = [m, m + 2]) (q2 : Region.ready .any ops (listed.setIfInBounds (m + 2) true) = [m])
    (w0 : World) (a : Act) (f1 f : FuncId) (args1 args : Array Value) (v1 : Value) (G : Array Value → Prop) (Pn : List PanicEntry → Prop)
    (hc1 : ∀ u, Below w0.heap.size w0 u → (execOp a.eval o1).run P u = .ok (.enter f1 args1) u)
    (hc12 : ∀ u v, Below w0.heap.size w0 u → (execOp (a.put (some d) v).eval o1).run P u = .ok (.enter f1 args1) u)
    (hcall1 : ∀ u, Below w0.heap.size w0 u → Calls P f1 args1 u fun e u' => e = .returned v1 ∧ Below u.heap.size u u')
    (hc : ∀ u, Below w0.heap.size w0 u → (execOp (a.put (some d1) v1).eval oc).run P u = .ok (.enter f args) u)
    (hc2 : ∀ u v, Below w0.heap.size w0 u → (execOp ((a.put (some d1) v1).put (some d) v).eval oc).run P u = .ok (.enter f args) u)
    (hcall : ∀ u, Below w0.heap.size w0 u → Calls P f args u fun e u' => Below u.heap.size u u' ∧ ((∃ vals : Array Value, e = .returned (.agg vals) ∧ G vals) ∨ ∃ ch, e = .panicked ch ∧ Pn ch))
    (hG : ∀ vals, G vals → vals.size = zs.length ∧ vals.all (·.oneCell') = true)
    (hcomm1 : ∀ v, (a.put (some d) v).put (some d1) v1 = (a.put (some d1) v1).put (some d) v)
    (hcomm : ∀ v v', ((a.put (some d1) v1).put (some d) v).put (some c) v' = ((a.put (some d1) v1).put (some c) v').put (some d) v)
    (hev : ∀ v v', (((a.put (some d1) v1).put (some c) v').put (some d) v).eval (.tmp d) = v ∧ (((a.put (some d1) v1).put (some c) v').put (some d) v).eval (.tmp c) = v')
    (hpan : ∀ ch a1 u, Pn ch → Below w0.heap.size w0 u → a1.defers = a.defers → Q (.panic ch) a1 u)
    (hQ : ∀ vals B u, G vals → Below w0.heap.size w0 u → w0.heap.size ≤ B → u.rangeAt B 0 vals.toList → Q .normal (((a.put (some d1) v1).put (some c) (.agg vals)).put (some d) (.pointer (some ⟨B, 0, none⟩))) u)
    (w : World) (hw : Below w0.heap.size w0 w) : wpAnyH P .any ops Q (fun u => Below w0.heap.size w0 u) 4 listed a w := by
  have T3 := fun u (hu : Below w0.heap.size w0 u) => wpAnyH_three T w0 (a.put (some d1) v1) f args G Pn hc hc2 hcall hG hcomm hev hpan hQ u hu
  have hstore : ∀ vals B u, G vals → Below w0.heap.size w0 u → w0.heap.size ≤ B → u.heap[B]? = some (.cells zs.toArray ty (0, 0)) →
      wpAnyH P .any ops Q (fun u => Below w0.heap.size w0 u) 1 (((listed.setIfInBounds m true).setIfInBounds (m + 1) true).setIfInBounds (m + 1 + 1) true) (((a.put (some d1) v1).put (some c) (.agg vals)).put (some d) (.pointer (some ⟨B, 0, none⟩))) u := by
    intro vals B u hg hu hB hz
    obtain ⟨h1, h2⟩ := hG vals hg
    refine wpAnyH_ready T.r3 (by simp) ?_
    refine AllReadyH.cons T.hoz (fun K hK => ?_) AllReadyH.nil
    rw [if_pos (if_wanted T.gz)]
    have ht : u.there B 0 vals.size := by rw [h1]; exact there_of hz
    refine wp_store_mid ty (.tmp d) (.tmp c) T.opz B 0 vals (hev _ _).1 (hev _ _).2 ht (by rw [T.hi, h1]) h2 ?_
    have hB2 : Below w0.heap.size w0 (u.setCells B 0 vals.toList) := below_setCells hB _ _ _ hu
    refine hK.out _ _ hB2 fun _ => ?_
    rw [T.dz]
    refine wpAnyH_done T.r4 ?_ _
    exact hQ vals B _ hg hB2 hB (World.rangeAt_setCells_same _ _ _ _ (by simpa using ht))
  refine wpAnyH_ready q0 (by simp) ?_
  refine AllReadyH.cons ho1 (fun K hK => ?_) (AllReadyH.cons T.hoa (fun K hK => ?_) AllReadyH.nil)
  · rw [if_pos (if_wanted g1)]
    unfold Oper.wp
    rw [hc1 w hw, Oper.upon_enter]
    refine (hcall1 w hw).mono ?_
    rintro _ u ⟨rfl, hb⟩
    have hu := Below.next hw hb
    refine hK.out _ _ hu fun _ => ?_
    rw [dd1]
    exact T3 u hu
  · rw [if_pos (if_wanted T.ga)]
    unfold Oper.wp execOp
    simp only [T.opa, Sem.run_bind, T.hal, Result.andThen_ok, Sem.run_pure]
    have hu2 : Below w0.heap.size w0 (w.alloc (.cells zs.toArray ty)) := hw.alloc hw.size _
    refine hK.out _ _ hu2 fun _ => ?_
    rw [T.da]
    refine wpAnyH_ready q2 (by simp) ?_
    refine AllReadyH.cons ho1 (fun K1 hK1 => ?_) AllReadyH.nil
    rw [if_pos (if_wanted g1)]
    unfold Oper.wp
    rw [hc12 _ _ hu2, Oper.upon_enter]
    refine (hcall1 _ hu2).mono ?_
    rintro _ u1 ⟨rfl, hb1⟩
    have hu1 := Below.next hu2 hb1
    refine hK1.out _ _ hu1 fun _ => ?_
    rw [dd1, hcomm1, Array.setIfInBounds_comm _ _ (by omega)]
    refine wpAnyH_ready T.r2 (by simp) ?_
    refine AllReadyH.cons T.hoc (fun K2 hK2 => ?_) AllReadyH.nil
    rw [if_pos (if_wanted T.gc)]
    unfold Oper.wp
    rw [hc2 _ _ hu1, Oper.upon_enter]
    refine (hcall _ hu1).mono ?_
    rintro e u ⟨hb, ⟨vals, rfl, hg⟩ | ⟨ch, rfl, hp⟩⟩
    · have hu := Below.next hu1 hb
      refine hK2.out _ _ hu fun _ => ?_
      rw [T.dc, hcomm, Array.setIfInBounds_comm _ _ (by omega)]
      refine hstore vals w.heap.size u hg hu hw.size ?_
      rw [hb.block _ (by have := hb1.size; simp at this; omega), hb1.block _ (by simp), heap_alloc_new]
    · exact hpan ch _ _ hp (Below.next hu1 hb) rfl
theorem wp_region_new2 {id : Nat} {a : Act} {w : World} {l : List Oper} (m : Nat) {o1 oc oa oz : Oper} {ty : TypeId} {zs : List Value} {c d d1 : Nat} (hm : P.follows .mixedOrders = true) (hlen : l.length = m + 4) (hB : (Region.noSelect l.toArray && lexR l.toArray (l.take m) 0 (Array.replicate l.length false)) = true)
    (T : Three P l.toArray (m + 1) ((listedTo m 0 (Array.replicate l.length false)).setIfInBounds m true) oc oa oz ty zs c d) (ho1 : l.toArray[m]? = some o1) (g1 : o1.guard = none) (dd1 : o1.dst = some d1)
    (q0 : Region.ready .any l.toArray (listedTo m 0 (Array.replicate l.length false)) = [m, m + 2]) (q2 : Region.ready .any l.toArray ((listedTo m 0 (Array.replicate l.length false)).setIfInBounds (m + 2) true) = [m]) (G : Array Value → Prop) (Pn : List PanicEntry → Prop)
    (hQ : ∀ c a d v w, Q (.panic c) (Act.put a d v) w → Q (.panic c) a w) (hG : ∀ vals, G vals → vals.size = zs.length ∧ vals.all (·.oneCell') = true)
    (h : wpQuiet P l.toArray (fun u => ∃ x : Gr w, u = x.w) (fun a' => ∃ f1 args1 v1 f args,
      (∀ u, Below w.heap.size w u → (execOp a'.eval o1).run P u = .ok (.enter f1 args1) u) ∧ (∀ u v, Below w.heap.size w u → (execOp (a'.put (some d) v).eval o1).run P u = .ok (.enter f1 args1) u) ∧
      (∀ u, Below w.heap.size w u → Calls P f1 args1 u fun e u' => e = .returned v1 ∧ Below u.heap.size u u') ∧
      (∀ u, Below w.heap.size w u → (execOp (a'.put (some d1) v1).eval oc).run P u = .ok (.enter f args) u) ∧ (∀ u v, Below w.heap.size w u → (execOp ((a'.put (some d1) v1).put (some d) v).eval oc).run P u = .ok (.enter f args) u) ∧
      (∀ v, (a'.put (some d) v).put (some d1) v1 = (a'.put (some d1) v1).put (some d) v) ∧
      (∀ v v', ((a'.put (some d1) v1).put (some d) v).put (some c) v' = ((a'.put (some d1) v1).put (some c) v').put (some d) v) ∧ (∀ v v', (((a'.put (some d1) v1).put (some c) v').put (some d) v).eval (.tmp d) = v ∧ (((a'.put (some d1) v1).put (some c) v').put (some d) v).eval (.tmp c) = v') ∧
      (∀ u, Below w.heap.size w u → Calls P f args u fun e u' => Below u.heap.size u u' ∧ ((∃ vals : Array Value, e = .returned (.agg vals) ∧ G vals) ∨ ∃ ch, e = .panicked ch ∧ Pn ch)) ∧
      (∀ ch (a1 : Act) u, Pn ch → Below w.heap.size w u → a1.defers = a'.defers → Q (.panic ch) a1 u) ∧
      (∀ vals B u, G vals → Below w.heap.size w u → w.heap.size ≤ B → u.rangeAt B 0 vals.toList → Q .normal (((a'.put (some d1) v1).put (some c) (.agg vals)).put (some d) (.pointer (some ⟨B, 0, none⟩))) u)) (l.take m) a) : (Code.region id l.toArray true).wp P Q a w := by
  simp only [Bool.and_eq_true] at hB
  have e1 : (l.take m).length = m := by simp; omega
  refine wp_region_held_drew (S := fun u => ∃ x : Gr w, u = x.w) hm ⟨⟨_, (Below.refl _ _).drew⟩, rfl⟩ fun hS => ?_
  have e2 : l.toArray.size = (l.take m).length + 4 := by rw [e1]; simpa using hlen
  have e3 : Array.replicate l.toArray.size false = Array.replicate l.length false := by simp
  rw [e3, e2]
  refine wpAnyH_reads hB.1 hQ hS (l.take m) 0 _ a (fun j hj => by rw [e1] at hj; simp [hj]) hB.2 h ?_
  rintro a' ⟨f1, args1, v1, f, args, h1, h2, h3, h4, h5, h6, h7, h8, h9, h10, h11⟩
  rw [e1]
  have hw : Below w.heap.size w w.drew := (Below.refl _ _).drew
  have key := wpAnyH_four T ho1 g1 dd1 q0 q2 w a' f1 f args1 args v1 G Pn h1 h2 h3 h4 h5 h9 hG h6 h7 h8 h10 h11 w.drew hw
  have eS : (fun u : World => ∃ x : Gr w, u = x.w) = (fun u => Below w.heap.size w u) := by
    funext u; apply propext
    exact ⟨fun ⟨x, hx⟩ => hx ▸ x.bl, fun h => ⟨⟨u, h⟩, rfl⟩⟩
  rw [eS]
  exact key
end
end Go.Proofs.YtepgdkigncjalaaGreat

/- Layer 7: the rule of ESeq. -/
namespace Go.Proofs.YtepgdkigncjalaaGreat
open Go Go.RowKit

/-- The judge, and two judgements. -/
def S4 (A G H : Nat) (n : Strs) (g : Grid) (vs ws : List Value) (q : World) : Prop := Blk q A [.slice n.ao n.len n.cap, .slice g.ao g.len g.cap] 92 ∧ q.rangeAt G 0 vs ∧ q.rangeAt H 0 ws
/-- A judgement, or what goes up. -/
def ExprIf (okk : Bool) (n : Strs) (g : Grid) (e : Ex) (sb : Nat) (pc hp k l x b pl c : Int) (w : World) : Prop := Calls Tryz.prog 40 #[.agg #[.slice n.ao n.len n.cap, .slice g.ao g.len g.cap], .agg e.va, .agg #[.pointer (some ⟨sb, 0, none⟩), .int .i64 pc, .int .i64 hp]] w fun r w' => ((okk = true ∧ ∃ ao cap, r = .returned (.agg #[.int .i64 k, .int .i64 l, .slice ao 0 cap, .int .i64 0, .int .i64 0, .int .i64 x, .int .i64 b])) ∨ (okk = false ∧ r = .panicked (fault pl c))) ∧ Below w.heap.size w w'
set_option maxRecDepth 100000 in
set_option maxHeartbeats 8000000 in
theorem seq_rule (okk : Bool) (n : Strs) (g : Grid) (e : Ex) (sb : Nat) (pc hp k0 l0 x0 b0 k1 l1 x1 b1 pl c : Int) (w : World) (hn : n.At w) (hg : g.At w) (he : e.At w) (h1 : e.len = 2)
    (hP : ∀ u, Below w.heap.size w u → ExprOk n g (e.ps 0) sb pc hp k0 l0 x0 b0 u) (hR : ∀ u, Below w.heap.size w u → ExprIf okk n g (e.ps 1) sb b0 hp k1 l1 x1 b1 pl c u) :
    Calls Tryz.prog 103 #[.agg #[.slice n.ao n.len n.cap, .slice g.ao g.len g.cap], .agg e.va, .agg #[.pointer (some ⟨sb, 0, none⟩), .int .i64 pc, .int .i64 hp]] w fun r w' => ((okk = true ∧ ∃ ao cap, r = .returned (.tuple #[.agg #[.int .i64 k1, .int .i64 l1, .slice ao 0 cap, .int .i64 0, .int .i64 0], .int .i64 (jfold n g [x0, x1])])) ∨ (okk = false ∧ r = .panicked (fault pl c))) ∧ Below w.heap.size w w' := by
  have H := allocs_heap [.cells #[.slice n.ao n.len n.cap, .slice g.ao g.len g.cap] 92, .cells e.va 37, .cells #[.pointer (some ⟨sb, 0, none⟩), .int .i64 pc, .int .i64 hp] 73, .cells #[.int .i64 0, .int .i64 0, .slice none 0 0, .int .i64 0, .int .i64 0] 34] w
  have B0 := allocs_below [.cells #[.slice n.ao n.len n.cap, .slice g.ao g.len g.cap] 92, .cells e.va 37, .cells #[.pointer (some ⟨sb, 0, none⟩), .int .i64 pc, .int .i64 hp] 73, .cells #[.int .i64 0, .int .i64 0, .slice none 0 0, .int .i64 0, .int .i64 0] 34] w
  have SZ := allocs_size [.cells #[.slice n.ao n.len n.cap, .slice g.ao g.len g.cap] 92, .cells e.va 37, .cells #[.pointer (some ⟨sb, 0, none⟩), .int .i64 pc, .int .i64 hp] 73, .cells #[.int .i64 0, .int .i64 0, .slice none 0 0, .int .i64 0, .int .i64 0] 34] w
  simp only [List.foldl, List.length] at H B0 SZ
  have bA : Blk _ w.heap.size [.slice n.ao n.len n.cap, .slice g.ao g.len g.cap] 92 := H 0 (by simp)
  have bE : Blk _ (w.heap.size + 1) e.vs 37 := H 1 (by simp)
  have bW : Blk _ (w.heap.size + 2) [.pointer (some ⟨sb, 0, none⟩), .int .i64 pc, .int .i64 hp] 73 := H 2 (by simp)
  have bZ : Blk _ (w.heap.size + 3) [.int .i64 0, .int .i64 0, .slice none 0 0, .int .i64 0, .int .i64 0] 34 := H 3 (by simp)
  clear H
  have HSZ : Hid (((((w.alloc (.cells #[.slice n.ao n.len n.cap, .slice g.ao g.len g.cap] 92)).alloc (.cells e.va 37)).alloc (.cells #[.pointer (some ⟨sb, 0, none⟩), .int .i64 pc, .int .i64 hp] 73)).alloc (.cells #[.int .i64 0, .int .i64 0, .slice none 0 0, .int .i64 0, .int .i64 0] 34)).heap.size = w.heap.size + 4) := SZ
  clear SZ
  have ea : e.ao = some ⟨e.b, e.o, none⟩ := he.nil (by omega)
  have HI : Hid (_ ∧ _ ∧ _ ∧ _ ∧ _) := (⟨B0, bA, bE, bW, bZ⟩ : _ ∧ _ ∧ _ ∧ _ ∧ _)
  have HN : Hid (n.At w ∧ g.At w) := ⟨hn, hg⟩
  have HE : Hid (e.At w) := he
  have C0 := (he.kept B0).cells (i := 0) (by omega)
  simp only [Nat.zero_mul, Nat.add_zero] at C0
  have e15 := bE.cell 15 (v := .slice e.ao e.len e.cap) rfl
  rw [ea, h1] at e15
  have HH1 : Hid (e.len = 2) := h1
  clear h1
  clear ea hn hg he
  go_enter Tryz.func103, Tryz.ntmps103
  go_wp2
  have a0 := fun z => Gr.cell z (bA.cell 0 rfl)
  have a1 := fun z => Gr.cell z (bA.cell 1 rfl)
  have w0 := fun z => Gr.cell z (bW.cell 0 rfl)
  have w1 := fun z => Gr.cell z (bW.cell 1 rfl)
  have w2 := fun z => Gr.cell z (bW.cell 2 rfl)
  have y15 := fun z => Gr.cell z e15
  generalize ((((w.alloc (.cells #[.slice n.ao n.len n.cap, .slice g.ao g.len g.cap] 92)).alloc (.cells e.va 37)).alloc (.cells #[.pointer (some ⟨sb, 0, none⟩), .int .i64 pc, .int .i64 hp] 73)).alloc (.cells #[.int .i64 0, .int .i64 0, .slice none 0 0, .int .i64 0, .int .i64 0] 34)) = W at *
  have hC : ∀ u, (∃ x : Gr W, u = x.w) → C17 u e.b e.o (e.ps 0) := fun u ⟨x, hx⟩ => by rw [hx]; exact C0.kept x.bl
  have hNE : Nonempty (Gr W) := ⟨⟨_, Below.refl _ _⟩⟩
  clear bA bE bW bZ e15 C0
  refine wp_region_new 6 (by kernel_rfl) rfl (by kernel_rfl) (T := ⟨rfl, rfl, rfl, rfl, rfl, rfl, rfl, rfl, rfl, rfl, rfl, by kernel_rfl, by kernel_rfl, by kernel_rfl, by kernel_rfl, by kernel_rfl, by kernel_rfl, alloc_gv⟩) (Gvs k0 l0 x0 b0) (fun _ => False) (fun _ _ d _ _ h => by cases d <;> exact h) Gvs.good ?_
  simp only [List.take]
  iterate 4 go_big_quiet_step (fail)
  go_big_quiet_want
  refine quiet_load_ex (.tmp 13) rfl _ _ (by kernel_rfl) (e.ps 0) hC ?_
  simp only [Act.put, List.setIfInBounds_toArray, List.set_cons_succ, List.set_cons_zero]
  go_big_quiet_on
  iterate 1 go_big_quiet_step (fail)
  refine wpQuiet_nil ⟨40, #[.agg #[.slice n.ao n.len n.cap, .slice g.ao g.len g.cap], .agg (e.ps 0).va, .agg #[.pointer (some ⟨sb, 0, none⟩), .int .i64 pc, .int .i64 hp]], ?_, ?_, ?_, ?_, ?_, ?_, ?_⟩
  · intro u _
    go_simp
  · intro u v _
    simp only [Act.put, List.setIfInBounds_toArray, List.set_cons_succ, List.set_cons_zero]
    go_simp
  · intro v v'
    simp only [Act.put, List.setIfInBounds_toArray, List.set_cons_succ, List.set_cons_zero]
  · intro v v'
    simp only [Act.put, List.setIfInBounds_toArray, List.set_cons_succ, List.set_cons_zero]
    exact ⟨rfl, rfl⟩
  · intro u hu
    refine (hP u (Below.next B0 hu)).mono ?_
    rintro _ u' ⟨⟨ao, cap, rfl⟩, hb⟩
    exact ⟨hb, Or.inl ⟨_, rfl, ao, cap, rfl⟩⟩
  · intro _ _ _ h
    exact h.elim
  intro vals G u hg hu hG hr
  obtain ⟨ao, cap, rfl⟩ := hg
  simp only [Act.put, List.setIfInBounds_toArray, List.set_cons_succ, List.set_cons_zero]
  have HGS : Hid (w.heap.size + 4 ≤ G) := by show _ ≤ _; have := HSZ.out; omega
  have HJ : Hid (Below w.heap.size w u ∧ Blk u w.heap.size [.slice n.ao n.len n.cap, .slice g.ao g.len g.cap] 92 ∧ Blk u (w.heap.size + 1) e.vs 37 ∧ Blk u (w.heap.size + 2) [.pointer (some ⟨sb, 0, none⟩), .int .i64 pc, .int .i64 hp] 73 ∧ Blk u (w.heap.size + 3) [.int .i64 0, .int .i64 0, .slice none 0 0, .int .i64 0, .int .i64 0] 34 ∧ u.rangeAt G 0 [.int .i64 k0, .int .i64 l0, .slice ao 0 cap, .int .i64 0, .int .i64 0, .int .i64 x0, .int .i64 b0]) := ⟨Below.next B0 hu, HI.out.2.1.kept hu, HI.out.2.2.1.kept hu, HI.out.2.2.2.1.kept hu, HI.out.2.2.2.2.kept hu, hr⟩
  clear a0 a1 w0 w1 w2 y15 hC hNE HI hr hu hP HSZ hG B0
  go_wp2
  have a0 := fun z => Gr.cell (w0 := u) z (HJ.out.2.1.cell 0 rfl)
  have a1 := fun z => Gr.cell (w0 := u) z (HJ.out.2.1.cell 1 rfl)
  have w0 := fun z => Gr.cell (w0 := u) z (HJ.out.2.2.2.1.cell 0 rfl)
  have w1 := fun z => Gr.cell (w0 := u) z (HJ.out.2.2.2.1.cell 1 rfl)
  have w2 := fun z => Gr.cell (w0 := u) z (HJ.out.2.2.2.1.cell 2 rfl)
  have e15 := HJ.out.2.2.1.cell 15 (v := .slice e.ao e.len e.cap) rfl
  rw [HE.out.nil (by have := HH1.out; omega), HH1.out] at e15
  have y15 := fun z => Gr.cell (w0 := u) z e15
  have g6 : ∀ z : Gr u, z.w.cell? ⟨G, 6, none⟩ = some (.int .i64 b0) := fun z => Gr.cell z (by have := HJ.out.2.2.2.2.2 6 _ rfl; rw [Nat.zero_add] at this; exact this)
  have C1 := (HE.out.kept HJ.out.1).cells (i := 1) (by have := HH1.out; omega)
  simp only [Nat.one_mul] at C1
  have hC : ∀ q, (∃ x : Gr u, q = x.w) → C17 q e.b (e.o + 17) (e.ps 1) := fun q ⟨x, hx⟩ => by rw [hx]; exact C1.kept x.bl
  have hNE : Nonempty (Gr u) := ⟨⟨_, Below.refl _ _⟩⟩
  clear e15 C1
  refine wp_region_new2 8 (by kernel_rfl) rfl (by kernel_rfl) (T := ⟨rfl, rfl, rfl, rfl, rfl, rfl, rfl, rfl, rfl, rfl, rfl, by kernel_rfl, by kernel_rfl, by kernel_rfl, by kernel_rfl, by kernel_rfl, by kernel_rfl, alloc_gv⟩) rfl rfl rfl (by kernel_rfl) (by kernel_rfl) (fun vs => okk = true ∧ Gvs k1 l1 x1 b1 vs) (fun ch => okk = false ∧ ch = fault pl c) (fun _ _ d _ _ h => by cases d <;> exact h) (fun vs h => Gvs.good vs h.2) ?_
  simp only [List.take]
  iterate 4 go_big_quiet_step (fail)
  go_big_quiet_want
  refine quiet_load_ex (.tmp 20) rfl _ _ (by kernel_rfl) (e.ps 1) hC ?_
  simp only [Act.put, List.setIfInBounds_toArray, List.set_cons_succ, List.set_cons_zero]
  go_big_quiet_on
  iterate 3 go_big_quiet_step (fail)
  refine wpQuiet_nil ⟨115, #[.agg #[.pointer (some ⟨sb, 0, none⟩), .int .i64 pc, .int .i64 hp], .int .i64 b0], .agg #[.pointer (some ⟨sb, 0, none⟩), .int .i64 b0, .int .i64 hp], 40, #[.agg #[.slice n.ao n.len n.cap, .slice g.ao g.len g.cap], .agg (e.ps 1).va, .agg #[.pointer (some ⟨sb, 0, none⟩), .int .i64 b0, .int .i64 hp]], ?_, ?_, ?_, ?_, ?_, ?_, ?_, ?_, ?_, ?_, ?_⟩
  · intro u _
    go_simp
  · intro u v _
    simp only [Act.put, List.setIfInBounds_toArray, List.set_cons_succ, List.set_cons_zero]
    go_simp
  · intro u _
    exact jat sb pc hp b0 u
  · intro u _
    simp only [Act.put, List.setIfInBounds_toArray, List.set_cons_succ, List.set_cons_zero]
    go_simp
  · intro u v _
    simp only [Act.put, List.setIfInBounds_toArray, List.set_cons_succ, List.set_cons_zero]
    go_simp
  · intro v
    simp only [Act.put, List.setIfInBounds_toArray, List.set_cons_succ, List.set_cons_zero]
  · intro v v'
    simp only [Act.put, List.setIfInBounds_toArray, List.set_cons_succ, List.set_cons_zero]
  · intro v v'
    simp only [Act.put, List.setIfInBounds_toArray, List.set_cons_succ, List.set_cons_zero]
    exact ⟨rfl, rfl⟩
  · intro q hq
    refine (hR q (Below.next HJ.out.1 hq)).mono ?_
    rintro _ q' ⟨⟨hy, ao1, cap1, rfl⟩ | ⟨hy, rfl⟩, hb⟩
    · exact ⟨hb, Or.inl ⟨_, rfl, hy, ao1, cap1, rfl⟩⟩
    · exact ⟨hb, Or.inr ⟨_, rfl, hy, rfl⟩⟩
  · rintro _ a1 q ⟨hy, rfl⟩ hq hd
    exact ⟨hd, Or.inr ⟨hy, rfl⟩, Below.next HJ.out.1 hq⟩
  intro vals H v hg hu hH hr
  obtain ⟨hy, ao1, cap1, rfl⟩ := hg
  simp only [Act.put, List.setIfInBounds_toArray, List.set_cons_succ, List.set_cons_zero]
  have HY : Hid (okk = true) := hy
  have HHS : Hid (w.heap.size + 4 ≤ H) := by
    show _ ≤ _
    have h3 := HGS.out
    have h4 := range_lt HJ.out.2.2.2.2.2
    omega
  have HM : Hid (Below w.heap.size w v ∧ (S4 w.heap.size G H n g [.int .i64 k0, .int .i64 l0, .slice ao 0 cap, .int .i64 0, .int .i64 0, .int .i64 x0, .int .i64 b0] [.int .i64 k1, .int .i64 l1, .slice ao1 0 cap1, .int .i64 0, .int .i64 0, .int .i64 x1, .int .i64 b1]) v ∧ Blk v (w.heap.size + 3) [.int .i64 0, .int .i64 0, .slice none 0 0, .int .i64 0, .int .i64 0] 34) := ⟨Below.next HJ.out.1 hu, ⟨HJ.out.2.1.kept hu, range_of_block (hu.block _ (range_lt HJ.out.2.2.2.2.2)) HJ.out.2.2.2.2.2, hr⟩, HJ.out.2.2.2.2.1.kept hu⟩
  clear a0 a1 w0 w1 w2 y15 g6 hC hNE HJ hr hu hR hH hy
  go_wp2
  have key : ∀ u', (∀ k, k ≠ w.heap.size + 3 → k < v.heap.size → u'.heap[k]? = v.heap[k]?) → (S4 w.heap.size G H n g [.int .i64 k0, .int .i64 l0, .slice ao 0 cap, .int .i64 0, .int .i64 0, .int .i64 x0, .int .i64 b0] [.int .i64 k1, .int .i64 l1, .slice ao1 0 cap1, .int .i64 0, .int .i64 0, .int .i64 x1, .int .i64 b1]) u' := fun u' hu' => by
    obtain ⟨h1, h2, h3⟩ := HM.out.2.1
    have l1 := h1.lt
    have l2 := range_lt h2
    have l3 := range_lt h3
    have := HGS.out
    have := HHS.out
    exact ⟨by unfold Blk; rw [hu' _ (by omega) l1]; exact h1, range_of_block (hu' _ (by omega) l2) h2, range_of_block (hu' _ (by omega) l3) h3⟩
  refine wp_region_reads (S4 w.heap.size G H n g [.int .i64 k0, .int .i64 l0, .slice ao 0 cap, .int .i64 0, .int .i64 0, .int .i64 x0, .int .i64 b0] [.int .i64 k1, .int .i64 l1, .slice ao1 0 cap1, .int .i64 0, .int .i64 0, .int .i64 x1, .int .i64 b1]) [0, 1, 2, 3, 4, 5, 6] 4 (by kernel_rfl) rfl (by kernel_rfl) (fun j hj => ?_) (fun _ _ d _ _ h => by cases d <;> exact h) (key _ (fun _ _ _ => rfl)) ?_
  · have hj4 : j < 7 := hj
    match j, hj4 with
    | 0, _ => exact ⟨_, rfl, rfl⟩
    | 1, _ => exact ⟨_, rfl, rfl⟩
    | 2, _ => exact ⟨_, rfl, rfl⟩
    | 3, _ => exact ⟨_, rfl, rfl⟩
    | 4, _ => exact ⟨_, rfl, rfl⟩
    | 5, _ => exact ⟨_, rfl, rfl⟩
    | 6, _ => exact ⟨_, rfl, rfl⟩
  have a0 : ∀ z : Wd (S4 w.heap.size G H n g [.int .i64 k0, .int .i64 l0, .slice ao 0 cap, .int .i64 0, .int .i64 0, .int .i64 x0, .int .i64 b0] [.int .i64 k1, .int .i64 l1, .slice ao1 0 cap1, .int .i64 0, .int .i64 0, .int .i64 x1, .int .i64 b1]), z.w.cell? ⟨w.heap.size, 0, none⟩ = some (.slice n.ao n.len n.cap) := fun z => z.2.1.cell 0 rfl
  have a1 : ∀ z : Wd (S4 w.heap.size G H n g [.int .i64 k0, .int .i64 l0, .slice ao 0 cap, .int .i64 0, .int .i64 0, .int .i64 x0, .int .i64 b0] [.int .i64 k1, .int .i64 l1, .slice ao1 0 cap1, .int .i64 0, .int .i64 0, .int .i64 x1, .int .i64 b1]), z.w.cell? ⟨w.heap.size, 1, none⟩ = some (.slice g.ao g.len g.cap) := fun z => z.2.1.cell 1 rfl
  have g5 : ∀ z : Wd (S4 w.heap.size G H n g [.int .i64 k0, .int .i64 l0, .slice ao 0 cap, .int .i64 0, .int .i64 0, .int .i64 x0, .int .i64 b0] [.int .i64 k1, .int .i64 l1, .slice ao1 0 cap1, .int .i64 0, .int .i64 0, .int .i64 x1, .int .i64 b1]), z.w.cell? ⟨G, 5, none⟩ = some (.int .i64 x0) := fun z => by have := z.2.2.1 5 _ rfl; rw [Nat.zero_add] at this; exact this
  have h0 : ∀ z : Wd (S4 w.heap.size G H n g [.int .i64 k0, .int .i64 l0, .slice ao 0 cap, .int .i64 0, .int .i64 0, .int .i64 x0, .int .i64 b0] [.int .i64 k1, .int .i64 l1, .slice ao1 0 cap1, .int .i64 0, .int .i64 0, .int .i64 x1, .int .i64 b1]), z.w.cell? ⟨H, 0, none⟩ = some (.int .i64 k1) := fun z => by have := z.2.2.2 0 _ rfl; rw [Nat.zero_add] at this; exact this
  have h1 : ∀ z : Wd (S4 w.heap.size G H n g [.int .i64 k0, .int .i64 l0, .slice ao 0 cap, .int .i64 0, .int .i64 0, .int .i64 x0, .int .i64 b0] [.int .i64 k1, .int .i64 l1, .slice ao1 0 cap1, .int .i64 0, .int .i64 0, .int .i64 x1, .int .i64 b1]), z.w.cell? ⟨H, 1, none⟩ = some (.int .i64 l1) := fun z => by have := z.2.2.2 1 _ rfl; rw [Nat.zero_add] at this; exact this
  have h2 : ∀ z : Wd (S4 w.heap.size G H n g [.int .i64 k0, .int .i64 l0, .slice ao 0 cap, .int .i64 0, .int .i64 0, .int .i64 x0, .int .i64 b0] [.int .i64 k1, .int .i64 l1, .slice ao1 0 cap1, .int .i64 0, .int .i64 0, .int .i64 x1, .int .i64 b1]), z.w.cell? ⟨H, 2, none⟩ = some (.slice ao1 0 cap1) := fun z => by have := z.2.2.2 2 _ rfl; rw [Nat.zero_add] at this; exact this
  have h3 : ∀ z : Wd (S4 w.heap.size G H n g [.int .i64 k0, .int .i64 l0, .slice ao 0 cap, .int .i64 0, .int .i64 0, .int .i64 x0, .int .i64 b0] [.int .i64 k1, .int .i64 l1, .slice ao1 0 cap1, .int .i64 0, .int .i64 0, .int .i64 x1, .int .i64 b1]), z.w.cell? ⟨H, 3, none⟩ = some (.int .i64 0) := fun z => by have := z.2.2.2 3 _ rfl; rw [Nat.zero_add] at this; exact this
  have h4 : ∀ z : Wd (S4 w.heap.size G H n g [.int .i64 k0, .int .i64 l0, .slice ao 0 cap, .int .i64 0, .int .i64 0, .int .i64 x0, .int .i64 b0] [.int .i64 k1, .int .i64 l1, .slice ao1 0 cap1, .int .i64 0, .int .i64 0, .int .i64 x1, .int .i64 b1]), z.w.cell? ⟨H, 4, none⟩ = some (.int .i64 0) := fun z => by have := z.2.2.2 4 _ rfl; rw [Nat.zero_add] at this; exact this
  have h5 : ∀ z : Wd (S4 w.heap.size G H n g [.int .i64 k0, .int .i64 l0, .slice ao 0 cap, .int .i64 0, .int .i64 0, .int .i64 x0, .int .i64 b0] [.int .i64 k1, .int .i64 l1, .slice ao1 0 cap1, .int .i64 0, .int .i64 0, .int .i64 x1, .int .i64 b1]), z.w.cell? ⟨H, 5, none⟩ = some (.int .i64 x1) := fun z => by have := z.2.2.2 5 _ rfl; rw [Nat.zero_add] at this; exact this
  have hNE : Nonempty (Wd (S4 w.heap.size G H n g [.int .i64 k0, .int .i64 l0, .slice ao 0 cap, .int .i64 0, .int .i64 0, .int .i64 x0, .int .i64 b0] [.int .i64 k1, .int .i64 l1, .slice ao1 0 cap1, .int .i64 0, .int .i64 0, .int .i64 x1, .int .i64 b1])) := ⟨⟨v, key v (fun _ _ _ => rfl)⟩⟩
  simp only [List.filterMap, List.getElem?_cons_zero, List.getElem?_cons_succ]
  repeat go_big_quiet_step (fail)
  refine wpQuiet_nil ?_
  clear a0 a1 g5 h0 h1 h2 h3 h4 h5 hNE
  refine wpAnyH_ready (rs := [7]) (by kernel_rfl) (by simp) ?_
  refine AllReadyH.cons rfl (fun K hK => ?_) AllReadyH.nil
  rw [if_pos (by rfl)]
  go_simp
  have D1 : Below v.heap.size v (v.alloc (.cells #[.int .i64 x0, .int .i64 x1] 3)).drew := (below_alloc _ _).drew
  have N1 : Blk (v.alloc (.cells #[.int .i64 x0, .int .i64 x1] 3)).drew v.heap.size ([x0, x1].map (Value.int .i64)) 3 := Blk.new v _ _
  refine hK.out _ _ (key _ (fun k _ hk => D1.block k hk)) (fun hS1 => ?_)
  clear hK K hS1
  generalize (v.alloc (.cells #[.int .i64 x0, .int .i64 x1] 3)).drew = u1 at D1 N1 ⊢
  refine wpAnyH_ready (rs := [8]) (by kernel_rfl) (by simp) ?_
  refine AllReadyH.cons rfl (fun K hK => ?_) AllReadyH.nil
  rw [if_pos (by rfl)]
  go_simp
  have b1 := Below.next HM.out.1 D1
  have hJn := jjoin n g [x0, x1] v.heap.size u1 (HN.out.1.kept b1) (HN.out.2.kept b1) N1 (by simp) (by simp)
  simp only [List.length] at hJn
  refine hJn.mono ?_
  rintro _ u2 ⟨rfl, b2⟩
  dsimp only
  have D2 := Below.next D1 b2
  refine hK.out _ _ (key _ (fun k _ hk => D2.block k hk)) (fun hS2 => ?_)
  clear hK K hS2 hJn
  try simp only [Act.put, List.setIfInBounds_toArray, List.set_cons_succ, List.set_cons_zero]
  refine wpAnyH_ready (rs := [9]) (by kernel_rfl) (by simp) ?_
  refine AllReadyH.cons rfl (fun K hK => ?_) AllReadyH.nil
  rw [if_pos (by rfl)]
  have bZ2 := HM.out.2.2.kept D2
  have W9 := wrote_setCells bZ2 [.int .i64 k1, .int .i64 l1, .slice ao1 0 cap1, .int .i64 0, .int .i64 0] rfl
  refine wp_store_blk 34 (.tmp 6) (.tmp 28) rfl rfl (w.heap.size + 3) [.int .i64 k1, .int .i64 l1, .slice ao1 0 cap1, .int .i64 0, .int .i64 0] _ rfl rfl rfl bZ2 rfl (by kernel_rfl) ?_
  have hB9 : Below w.heap.size w (u2.setCells (w.heap.size + 3) 0 [.int .i64 k1, .int .i64 l1, .slice ao1 0 cap1, .int .i64 0, .int .i64 0]) := W9.below (by omega) (Below.next HM.out.1 D2)
  have hS9 : ∀ k, k ≠ w.heap.size + 3 → k < v.heap.size → (u2.setCells (w.heap.size + 3) 0 [.int .i64 k1, .int .i64 l1, .slice ao1 0 cap1, .int .i64 0, .int .i64 0]).heap[k]? = v.heap[k]? := fun k hk hl => by
    rw [W9.other k hk, D2.block k hl]
  have HW9 := W9.blk
  clear W9
  generalize u2.setCells (w.heap.size + 3) 0 [.int .i64 k1, .int .i64 l1, .slice ao1 0 cap1, .int .i64 0, .int .i64 0] = w9 at hB9 hS9 HW9 ⊢
  refine hK.out _ _ (key _ hS9) (fun hS10 => ?_)
  clear hK K hS10
  refine wpAnyH_ready (rs := [10]) (by kernel_rfl) (by simp) ?_
  refine AllReadyH.cons rfl (fun K hK => ?_) AllReadyH.nil
  rw [if_pos (by rfl)]
  go_simp
  refine hK.out _ _ (key _ hS9) (fun hS11 => ?_)
  clear hK K hS11
  try simp only [Act.put, List.setIfInBounds_toArray, List.set_cons_succ, List.set_cons_zero]
  refine wpAnyH_done (by kernel_rfl) ?_ _
  go_wp2
  have c0 := HW9.cell 0 rfl
  have c1 := HW9.cell 1 rfl
  have c2 := HW9.cell 2 rfl
  have c3 := HW9.cell 3 rfl
  have c4 := HW9.cell 4 rfl
  refine bodyPost_ret (v := .tuple #[.agg #[.int .i64 k1, .int .i64 l1, .slice ao1 0 cap1, .int .i64 0, .int .i64 0], .int .i64 (jfold n g [x0, x1])]) (by simp [results, Tryz.results103, go_sem, c0, c1, c2, c3, c4]) rfl ⟨Or.inl ⟨HY.out, ao1, cap1, rfl⟩, hB9⟩
end Go.Proofs.YtepgdkigncjalaaGreat
