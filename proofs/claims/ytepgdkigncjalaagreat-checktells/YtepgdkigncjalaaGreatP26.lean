/- Layer 6: what each Kind asks. -/
import Derived.Test.YtepgdkigncjalaaGreatP16
import Derived.Test.YtepgdkigncjalaaGreatP25
import Derived.Test.YtepgdkigncjalaaGreatP4
namespace Go.Proofs.YtepgdkigncjalaaGreat
open Go.RowKit

set_option maxHeartbeats 1000000 in
theorem sIsLabel_yes (n : Strs) (g : Grid) (x : Int) (w : World) (hn : n.At w) (h0 : 0 ≤ x) (h1 : x < n.len) : Yes 79 #[.agg #[.slice n.ao n.len n.cap, .slice g.ao g.len g.cap], .int .i64 x] w (.bool true) := by
  have L0 := Bl.new w n g
  have B0 := below_alloc w (.cells #[.slice n.ao n.len n.cap, .slice g.ao g.len g.cap] 25)
  have hb := hn.bound
  have e1 : decide ((0 : Int) ≤ x) = true := decide_eq_true h0
  have e2 : decide (x < (n.len : Int)) = true := decide_eq_true h1
  unfold Yes
  go_enter Tryz.func79, Tryz.ntmps79
  go_wp2
  go_ret
  exact ⟨rfl, B0⟩
set_option maxHeartbeats 1000000 in
theorem arity_1 (w : World) : Yes 83 #[.int .i64 1] w (.int .i64 0) := by
  unfold Yes
  go_enter Tryz.func83, Tryz.ntmps83
  go_wp2
  go_ret
  exact ⟨rfl, Below.refl _ _⟩
set_option maxHeartbeats 1000000 in
theorem hasName_1 (w : World) : Yes 86 #[.int .i64 1] w (.bool false) := by
  unfold Yes
  go_enter Tryz.func86, Tryz.ntmps86
  go_wp2
  go_ret
  exact ⟨rfl, Below.refl _ _⟩
set_option maxHeartbeats 1000000 in
theorem hasType_1 (w : World) : Yes 88 #[.int .i64 1] w (.bool false) := by
  unfold Yes
  go_enter Tryz.func88, Tryz.ntmps88
  go_wp2
  go_ret
  exact ⟨rfl, Below.refl _ _⟩
set_option maxHeartbeats 1000000 in
theorem numberFormed_1 (n : Strs) (g : Grid) (e : Ex) (w : World) (hk : e.k = 1) (h0 : 0 ≤ e.n) : Yes 84 #[.agg #[.slice n.ao n.len n.cap, .slice g.ao g.len g.cap], .agg e.va] w (.bool true) := by
  obtain ⟨L0, X0, B0⟩ := start_le w n g e
  have k0 := X0.c0
  have k1 := X0.c1
  rw [hk] at k0
  have d1 : decide ((0 : Int) ≤ e.n) = true := decide_eq_true h0
  have l0 := L0.c0
  have l1 := L0.c1
  clear L0 X0 hk
  unfold Yes
  go_enter Tryz.func84, Tryz.ntmps84
  go_wp2
  go_ret
  exact ⟨rfl, B0⟩
set_option maxHeartbeats 1000000 in
theorem arity_3 (w : World) : Yes 83 #[.int .i64 3] w (.int .i64 0) := by
  unfold Yes
  go_enter Tryz.func83, Tryz.ntmps83
  go_wp2
  go_ret
  exact ⟨rfl, Below.refl _ _⟩
set_option maxHeartbeats 1000000 in
theorem hasName_3 (w : World) : Yes 86 #[.int .i64 3] w (.bool true) := by
  unfold Yes
  go_enter Tryz.func86, Tryz.ntmps86
  go_wp2
  go_ret
  exact ⟨rfl, Below.refl _ _⟩
set_option maxHeartbeats 1000000 in
theorem hasType_3 (w : World) : Yes 88 #[.int .i64 3] w (.bool false) := by
  unfold Yes
  go_enter Tryz.func88, Tryz.ntmps88
  go_wp2
  go_ret
  exact ⟨rfl, Below.refl _ _⟩
set_option maxHeartbeats 1000000 in
theorem numberFormed_3 (n : Strs) (g : Grid) (e : Ex) (w : World) (hk : e.k = 3) (h0 : e.n = 0) : Yes 84 #[.agg #[.slice n.ao n.len n.cap, .slice g.ao g.len g.cap], .agg e.va] w (.bool true) := by
  obtain ⟨L0, X0, B0⟩ := start_le w n g e
  have k0 := X0.c0
  have k1 := X0.c1
  rw [hk] at k0
  rw [h0] at k1
  have l0 := L0.c0
  have l1 := L0.c1
  clear L0 X0 hk
  unfold Yes
  go_enter Tryz.func84, Tryz.ntmps84
  go_wp2
  go_ret
  exact ⟨rfl, B0⟩
set_option maxHeartbeats 1000000 in
theorem arity_5 (w : World) : Yes 83 #[.int .i64 5] w (.int .i64 3) := by
  unfold Yes
  go_enter Tryz.func83, Tryz.ntmps83
  go_wp2
  go_ret
  exact ⟨rfl, Below.refl _ _⟩
set_option maxHeartbeats 1000000 in
theorem hasName_5 (w : World) : Yes 86 #[.int .i64 5] w (.bool false) := by
  unfold Yes
  go_enter Tryz.func86, Tryz.ntmps86
  go_wp2
  go_ret
  exact ⟨rfl, Below.refl _ _⟩
set_option maxHeartbeats 1000000 in
theorem hasType_5 (w : World) : Yes 88 #[.int .i64 5] w (.bool false) := by
  unfold Yes
  go_enter Tryz.func88, Tryz.ntmps88
  go_wp2
  go_ret
  exact ⟨rfl, Below.refl _ _⟩
set_option maxHeartbeats 1000000 in
theorem numberFormed_5 (n : Strs) (g : Grid) (e : Ex) (w : World) (hk : e.k = 5) (h0 : e.n = 0) : Yes 84 #[.agg #[.slice n.ao n.len n.cap, .slice g.ao g.len g.cap], .agg e.va] w (.bool true) := by
  obtain ⟨L0, X0, B0⟩ := start_le w n g e
  have k0 := X0.c0
  have k1 := X0.c1
  rw [hk] at k0
  rw [h0] at k1
  have l0 := L0.c0
  have l1 := L0.c1
  clear L0 X0 hk
  unfold Yes
  go_enter Tryz.func84, Tryz.ntmps84
  go_wp2
  go_ret
  exact ⟨rfl, B0⟩
set_option maxHeartbeats 1000000 in
theorem arity_14 (w : World) : Yes 83 #[.int .i64 14] w (.int .i64 1) := by
  unfold Yes
  go_enter Tryz.func83, Tryz.ntmps83
  go_wp2
  go_ret
  exact ⟨rfl, Below.refl _ _⟩
set_option maxHeartbeats 1000000 in
theorem hasName_14 (w : World) : Yes 86 #[.int .i64 14] w (.bool false) := by
  unfold Yes
  go_enter Tryz.func86, Tryz.ntmps86
  go_wp2
  go_ret
  exact ⟨rfl, Below.refl _ _⟩
set_option maxHeartbeats 1000000 in
theorem hasType_14 (w : World) : Yes 88 #[.int .i64 14] w (.bool false) := by
  unfold Yes
  go_enter Tryz.func88, Tryz.ntmps88
  go_wp2
  go_ret
  exact ⟨rfl, Below.refl _ _⟩
set_option maxHeartbeats 1000000 in
theorem numberFormed_14 (n : Strs) (g : Grid) (e : Ex) (w : World) (hk : e.k = 14) (hn : n.At w) (h0 : 0 ≤ e.n) (h1 : e.n < n.len) : Yes 84 #[.agg #[.slice n.ao n.len n.cap, .slice g.ao g.len g.cap], .agg e.va] w (.bool true) := by
  obtain ⟨L0, X0, B0⟩ := start_le w n g e
  have k0 := X0.c0
  have k1 := X0.c1
  rw [hk] at k0
  have l0 := L0.c0
  have l1 := L0.c1
  clear L0 X0 hk
  unfold Yes
  go_enter Tryz.func84, Tryz.ntmps84
  go_wp2_with fail
  refine (sIsLabel_yes n g e.n _ (hn.kept B0) h0 h1).mono ?_
  rintro r w1 ⟨rfl, hb1⟩
  go_wp2
  go_ret
  exact ⟨rfl, Below.next B0 hb1⟩
set_option maxHeartbeats 1000000 in
theorem arity_15 (w : World) : Yes 83 #[.int .i64 15] w (.int .i64 1) := by
  unfold Yes
  go_enter Tryz.func83, Tryz.ntmps83
  go_wp2
  go_ret
  exact ⟨rfl, Below.refl _ _⟩
set_option maxHeartbeats 1000000 in
theorem hasName_15 (w : World) : Yes 86 #[.int .i64 15] w (.bool false) := by
  unfold Yes
  go_enter Tryz.func86, Tryz.ntmps86
  go_wp2
  go_ret
  exact ⟨rfl, Below.refl _ _⟩
set_option maxHeartbeats 1000000 in
theorem hasType_15 (w : World) : Yes 88 #[.int .i64 15] w (.bool true) := by
  unfold Yes
  go_enter Tryz.func88, Tryz.ntmps88
  go_wp2
  go_ret
  exact ⟨rfl, Below.refl _ _⟩
set_option maxHeartbeats 1000000 in
theorem numberFormed_15 (n : Strs) (g : Grid) (e : Ex) (w : World) (hk : e.k = 15) (h0 : e.n = 0) : Yes 84 #[.agg #[.slice n.ao n.len n.cap, .slice g.ao g.len g.cap], .agg e.va] w (.bool true) := by
  obtain ⟨L0, X0, B0⟩ := start_le w n g e
  have k0 := X0.c0
  have k1 := X0.c1
  rw [hk] at k0
  rw [h0] at k1
  have l0 := L0.c0
  have l1 := L0.c1
  clear L0 X0 hk
  unfold Yes
  go_enter Tryz.func84, Tryz.ntmps84
  go_wp2
  go_ret
  exact ⟨rfl, B0⟩
set_option maxHeartbeats 1000000 in
theorem arity_17 (w : World) : Yes 83 #[.int .i64 17] w (.int .i64 2) := by
  unfold Yes
  go_enter Tryz.func83, Tryz.ntmps83
  go_wp2
  go_ret
  exact ⟨rfl, Below.refl _ _⟩
set_option maxHeartbeats 1000000 in
theorem hasName_17 (w : World) : Yes 86 #[.int .i64 17] w (.bool false) := by
  unfold Yes
  go_enter Tryz.func86, Tryz.ntmps86
  go_wp2
  go_ret
  exact ⟨rfl, Below.refl _ _⟩
set_option maxHeartbeats 1000000 in
theorem hasType_17 (w : World) : Yes 88 #[.int .i64 17] w (.bool false) := by
  unfold Yes
  go_enter Tryz.func88, Tryz.ntmps88
  go_wp2
  go_ret
  exact ⟨rfl, Below.refl _ _⟩
set_option maxHeartbeats 1000000 in
theorem numberFormed_17 (n : Strs) (g : Grid) (e : Ex) (w : World) (hk : e.k = 17) (h0 : e.n = 0) : Yes 84 #[.agg #[.slice n.ao n.len n.cap, .slice g.ao g.len g.cap], .agg e.va] w (.bool true) := by
  obtain ⟨L0, X0, B0⟩ := start_le w n g e
  have k0 := X0.c0
  have k1 := X0.c1
  rw [hk] at k0
  rw [h0] at k1
  have l0 := L0.c0
  have l1 := L0.c1
  clear L0 X0 hk
  unfold Yes
  go_enter Tryz.func84, Tryz.ntmps84
  go_wp2
  go_ret
  exact ⟨rfl, B0⟩
end Go.Proofs.YtepgdkigncjalaaGreat

/- Layer 6: syntax.Formed, where all is formed. -/
namespace Go.Proofs.YtepgdkigncjalaaGreat
open Go.RowKit

set_option maxHeartbeats 1000000 in
theorem isExc_yes (n : Strs) (g : Grid) (x : Int) (w : World) (hn : n.At w) (h0 : 0 ≤ x) (h1 : x < n.len) : Yes 55 #[.agg #[.slice n.ao n.len n.cap, .slice g.ao g.len g.cap], .int .i64 x] w (.bool true) := by
  have L0 := Bl.new w n g
  have B0 := below_alloc w (.cells #[.slice n.ao n.len n.cap, .slice g.ao g.len g.cap] 25)
  have e0 : (x == -1) = false := beq_eq_false_iff_ne.2 (by omega)
  have H := sIsLabel_yes n g x _ (hn.kept B0) h0 h1
  have l0 := L0.c0
  have l1 := L0.c1
  clear L0
  unfold Yes at *
  go_enter Tryz.func55, Tryz.ntmps55
  go_wp2_with fail
  refine H.mono ?_
  rintro r w1 ⟨rfl, hb1⟩
  clear H l0 l1
  go_wp2
  go_ret
  exact ⟨rfl, Below.next B0 hb1⟩

set_option maxRecDepth 100000 in
set_option maxHeartbeats 4000000 in
theorem sFormed_yes (n : Strs) (g : Grid) (a : ByteArray) (p r : Ty) (x : Int) (e : Ex) (w : World) (hn : n.At w) (hg : g.At w) (hp : p.At w) (hr : r.At w) (he : e.At w) (hpl : e.Pl w)
    (f0 : formedB n g = true) (f1 : nameB a = true) (f2 : kwB' a = false) (f3 : okB n g p = true) (f4 : okB n g r = true) (f5 : 0 ≤ x) (f6 : x < n.len) (f7 : e.nodes ≤ 2000) (f8 : e.nest ≤ 30)
    (Q : Ex → Prop) (hQ : ∀ y, Q y → ∀ u, y.At u → Below w.heap.size w u → Yes 60 #[.agg #[.slice n.ao n.len n.cap, .slice g.ao g.len g.cap], .agg y.va] u (.bool true)) (ha : e.all Q) :
    Yes 38 #[.agg (pv n g a p r x e)] w (.bool true) := by
  have B0 := below_alloc w (.cells (pv n g a p r x e) 85)
  have P0 := Bp.new w n g a p r x e
  have hmf : ∀ (fn : Fn) (first cap : Array Value) (w : World), (Instr.makeFunc fn first cap).run Tryz.prog w = .ok (.func fn first cap) w := fun _ _ _ _ => rfl
  have H1 := formed_any n g _ (hn.kept B0) (hg.kept B0)
  rw [f0] at H1
  have c0 := P0.c0
  have c1 := P0.c1
  unfold Yes at *
  go_enter Tryz.func38, Tryz.ntmps38
  go_wp2_with fail
  refine H1.mono ?_
  rintro _ w1 ⟨rfl, b1⟩
  have P1 := P0.kept b1
  have B1 := Below.next B0 b1
  have c2 := P1.c2
  clear H1 c0 c1 P0 b1 B0
  go_wp2_with fail
  refine (isName_yes a w1 f1 f2).mono ?_
  rintro _ w2 ⟨rfl, b2⟩
  have P2 := P1.kept b2
  have B2 := Below.next B1 b2
  have c0 := P2.c0
  have c1 := P2.c1
  have c3 := P2.c3
  have c4 := P2.c4
  have c5 := P2.c5
  have c6 := P2.c6
  have c7 := P2.c7
  have H2 := Formed2_any n g p w2 (hn.kept B2) (hg.kept B2) (hp.kept B2)
  rw [f3] at H2
  clear c2 P1 b2 B1
  go_wp2_with fail
  refine H2.mono ?_
  rintro _ w3 ⟨rfl, b3⟩
  have P3 := P2.kept b3
  have B3 := Below.next B2 b3
  clear c0 c1 c3 c4 c5 c6 c7 H2 P2 b3 B2
  have c0 := P3.c0
  have c1 := P3.c1
  have c3 := P3.c8
  have c4 := P3.c9
  have c5 := P3.c10
  have c6 := P3.c11
  have c7 := P3.c12
  have H2 := Formed2_any n g r w3 (hn.kept B3) (hg.kept B3) (hr.kept B3)
  rw [f4] at H2
  go_wp2_with fail
  refine H2.mono ?_
  rintro _ w4 ⟨rfl, b4⟩
  have P4 := P3.kept b4
  have B4 := Below.next B3 b4
  clear c0 c1 c3 c4 c5 c6 c7 H2 P3 b4 B3
  have c0 := P4.c0
  have c1 := P4.c1
  have c3 := P4.c13
  go_wp2_with fail
  refine (isExc_yes n g x w4 (hn.kept B4) f5 f6).mono ?_
  rintro _ w5 ⟨rfl, b5⟩
  have P5 := P4.kept b5
  have B5 := Below.next B4 b5
  clear c0 c1 c3 P4 b5 B4
  have X5 := P5.body
  go_wp2_with (refine wpList_load_exG (by kernel_rfl) (.tmp 35) rfl _ _ rfl e X5 ?_)
  refine (esmall_yes e w5 (he.kept B5) (hpl.kept B5) f7 f8).mono ?_
  rintro _ w6 ⟨rfl, b6⟩
  have P6 := P5.kept b6
  have B6 := Below.next B5 b6
  clear X5 P5 b6 B5
  have X6 := P6.body
  have HE := exeverywhere_yes w.heap.size e w6 Q (fun y hy u hyA hu => formed1_yes n g y w.heap.size u (up hu P6.c0) (up hu P6.c1) (fun u' hu' => hQ y hy u' (hyA.kept hu') (Below.next B6 (Below.next hu hu')))) (he.kept B6) ha (by have := expn_nodes e; omega)
  unfold Yes at HE
  go_wp2_with (first | (refine wpList_load_exG (by kernel_rfl) (.tmp 40) rfl _ _ rfl e X6 ?_) | (refine wpList_load_exG (by kernel_rfl) (.tmp 42) rfl _ _ rfl e X6 ?_))
  refine HE.mono ?_
  rintro _ w7 ⟨rfl, b7⟩
  clear X6 HE
  go_wp2
  go_ret
  exact ⟨rfl, Below.next B6 b7⟩
end Go.Proofs.YtepgdkigncjalaaGreat

/- Layer 7: what Judge asks first. -/
namespace Go.Proofs.YtepgdkigncjalaaGreat
open Go Go.RowKit

theorem wpList_build {ops : Array Oper} {rest : List Oper} {o : Oper} {a : Act} {w w' : World} {v : Value} {Q : Exit → Act → World → Prop} (hgd : o.guard = none) (t : TypeId) (parts : Array (Nat × Operand)) (ho : o.op = .build t parts) (vals : Array (Nat × Value)) (hv : (parts.map fun (i, x) => (i, a.eval x)) = vals)
    (hs : (Instr.build t vals).run Tryz.prog w = .ok v w') (h : wpList Tryz.prog ops Q rest (a.put o.dst v) w') : wpList Tryz.prog ops Q (o :: rest) a w := by
  subst hv
  refine wpList_plain hgd fun _ hK => ?_
  unfold Oper.wp execOp
  simp only [ho, Sem.run_bind, hs, Result.andThen_ok, Sem.run_pure]
  exact hK _ _ h
theorem run_build_prog (n : Strs) (g : Grid) (e : Ex) (w : World) : (Instr.build 85 #[(0, .agg #[.slice n.ao n.len n.cap, .slice g.ao g.len g.cap]), (1, .string ⟨#[120]⟩), (2, .agg #[.int .i64 1, .int .i64 0, .slice none 0 0, .int .i64 0, .int .i64 0]), (3, .agg #[.int .i64 1, .int .i64 0, .slice none 0 0, .int .i64 0, .int .i64 0]), (5, .agg e.va)]).run Tryz.prog w = .ok (.agg (pv n g ⟨#[120]⟩ (leafT 1 0) (leafT 1 0) 0 e)) w := by kernel_rfl
theorem leaf_okB {n : Strs} {g : Grid} {k l : Int} (hF : formedB n g = true) (hk : k = 1 ∨ k = 2) (hl : inR n.len l = true) : okB n g (leafT k l) = true := by
  unfold okB; rw [hF]; exact fT_ok (ao := none) (cap := 0) hk hl
set_option maxRecDepth 100000 in
set_option maxHeartbeats 4000000 in
theorem bodyFormed_yes (n : Strs) (g : Grid) (e : Ex) (w : World) (hn : n.At w) (hg : g.At w) (he : e.At w) (hpl : e.Pl w) (hF : formedB n g = true) (f7 : e.nodes ≤ 2000) (f8 : e.nest ≤ 30)
    (Q : Ex → Prop) (hQ : ∀ y, Q y → ∀ u, y.At u → Below w.heap.size w u → Yes 60 #[.agg #[.slice n.ao n.len n.cap, .slice g.ao g.len g.cap], .agg y.va] u (.bool true)) (ha : e.all Q) :
    Yes 23 #[.agg #[.slice n.ao n.len n.cap, .slice g.ao g.len g.cap], .agg e.va] w (.bool true) := by
  have H := allocs_heap [.cells #[.slice n.ao n.len n.cap, .slice g.ao g.len g.cap] 25, .cells e.va 37, .cells #[.int .i64 1, .int .i64 0, .slice none 0 0, .int .i64 0, .int .i64 0] 34] w
  have B0 := allocs_below [.cells #[.slice n.ao n.len n.cap, .slice g.ao g.len g.cap] 25, .cells e.va 37, .cells #[.int .i64 1, .int .i64 0, .slice none 0 0, .int .i64 0, .int .i64 0] 34] w
  simp only [List.foldl] at H B0
  have bA : Blk _ w.heap.size [.slice n.ao n.len n.cap, .slice g.ao g.len g.cap] 25 := H 0 (by simp)
  have bE : Blk _ (w.heap.size + 1) e.vs 37 := H 1 (by simp)
  have bT : Blk _ (w.heap.size + 2) [.int .i64 1, .int .i64 0, .slice none 0 0, .int .i64 0, .int .i64 0] 34 := H 2 (by simp)
  clear H
  have a0 := bA.cell 0 rfl
  have a1 := bA.cell 1 rfl
  have X0 := C17.of_range bE.range
  have t0 := bT.cell 0 rfl
  have t1 := bT.cell 1 rfl
  have t2 := bT.cell 2 rfl
  have t3 := bT.cell 3 rfl
  have t4 := bT.cell 4 rfl
  have hl0 : inR n.len 0 = true := by have := (formed_parts hF).2.1; unfold inR; simp; omega
  have hn0 : (0 : Int) < n.len := by have := (formed_parts hF).2.1; omega
  have hS := sFormed_yes n g ⟨#[120]⟩ (leafT 1 0) (leafT 1 0) 0 e _ (hn.kept B0) (hg.kept B0) (leaf_at _ _ _) (leaf_at _ _ _) (he.kept B0) (hpl.kept B0) hF (by decide +kernel) (by decide +kernel) (leaf_okB hF (Or.inl rfl) hl0) (leaf_okB hF (Or.inl rfl) hl0) (Int.le_refl 0) hn0 f7 f8 Q (fun y hy u hu hb => hQ y hy u hu (Below.next B0 hb)) ha
  unfold Yes at hS ⊢
  clear bA bE bT hQ ha hn hg he hpl hF f7 f8 hl0 hn0
  go_enter Tryz.func23, Tryz.ntmps23
  go_wp2_with (first | (refine wpList_load_ex rfl (.tmp 3) rfl _ _ rfl e X0 ?_) | (refine wpList_build rfl 85 #[(0, .tmp 7), (1, .const (.string ⟨#[120]⟩)), (2, .tmp 8), (3, .tmp 9), (5, .tmp 10)] rfl _ (by kernel_rfl) (run_build_prog n g e _) ?_))
  refine hS.mono ?_
  rintro _ w1 ⟨rfl, b1⟩
  clear a0 a1 X0 t0 t1 t2 t3 t4 hS
  go_wp2
  go_ret
  exact ⟨rfl, Below.next B0 b1⟩
set_option maxHeartbeats 1000000 in
theorem cIsLabel_yes (n : Strs) (g : Grid) (a : Int) (w : World) (hn : n.At w) (hg : g.At w) (h : leqB n g a a = true) : Yes 24 #[.agg #[.slice n.ao n.len n.cap, .slice g.ao g.len g.cap], .int .i64 a] w (.bool true) := by
  have B0 := below_alloc w (.cells #[.slice n.ao n.len n.cap, .slice g.ao g.len g.cap] 25)
  have bA : Blk _ w.heap.size [.slice n.ao n.len n.cap, .slice g.ao g.len g.cap] 25 := Blk.new w _ _
  have a0 := bA.cell 0 rfl
  have a1 := bA.cell 1 rfl
  have hL := leq_any n g a a _ (hn.kept B0) (hg.kept B0)
  rw [h] at hL
  clear bA h
  unfold Yes
  go_enter Tryz.func24, Tryz.ntmps24
  go_wp2_with fail
  refine hL.mono ?_
  rintro _ w1 ⟨rfl, b1⟩
  clear a0 a1 hL
  go_wp2
  go_ret
  exact ⟨rfl, Below.next B0 b1⟩
set_option maxRecDepth 100000 in
set_option maxHeartbeats 4000000 in
theorem cAllFormed_yes (n : Strs) (g : Grid) (env : List Nm) (eb : Nat) (w : World) (hn : n.At w) (hg : g.At w) (hF : formedB n g = true) (hE : Blk w eb (evL env) 47) (hlen : env.length ≤ 1000) (hk : ∀ x ∈ env, (x.k = 1 ∨ x.k = 2) ∧ inR n.len x.l = true) :
    Yes 25 #[.agg #[.slice n.ao n.len n.cap, .slice g.ao g.len g.cap], .slice (some ⟨eb, 0, none⟩) env.length env.length] w (.bool true) := by
  have B0 := below_alloc w (.cells #[.slice n.ao n.len n.cap, .slice g.ao g.len g.cap] 25)
  have bA : Blk _ w.heap.size [.slice n.ao n.len n.cap, .slice g.ao g.len g.cap] 25 := Blk.new w _ _
  have HI : Hid (_ ∧ _ ∧ _) := (⟨B0, bA, hE.kept B0⟩ : _ ∧ _ ∧ _)
  have HN : Hid (n.At w ∧ g.At w ∧ formedB n g = true ∧ ∀ x ∈ env, (x.k = 1 ∨ x.k = 2) ∧ inR n.len x.l = true) := ⟨hn, hg, hF, hk⟩
  clear B0 bA hE hn hg hF hk
  unfold Yes
  go_enter Tryz.func25, Tryz.ntmps25
  go_wp2
  go_loopw [9] (fun i wr => ∃ j : Nat, j ≤ env.length ∧ i = .int .i64 j ∧ Below w.heap.size w wr ∧ Blk wr w.heap.size [.slice n.ao n.len n.cap, .slice g.ao g.len g.cap] 25 ∧ Blk wr eb (evL env) 47) (fun i _ => env.length - (intOf i).toNat)
  case atStart => exact ⟨0, Nat.zero_le _, rfl, HI.out⟩
  case round =>
    clear HI
    obtain ⟨j, hj, rfl, hI⟩ := hrel
    have HI : Hid (Below w.heap.size w wr ∧ Blk wr w.heap.size [.slice n.ao n.len n.cap, .slice g.ao g.len g.cap] 25 ∧ Blk wr eb (evL env) 47) := hI
    by_cases hlt : j < env.length
    · have ij : (j : Int) < env.length := by omega
      obtain ⟨y, hy⟩ : ∃ y, env[j]? = some y := ⟨_, List.getElem?_eq_getElem hlt⟩
      have y0 := hI.2.2.cell (j * 6 + 0) (evL_at env j 0 y _ hy rfl)
      have y1 := hI.2.2.cell (j * 6 + 1) (evL_at env j 1 y _ hy rfl)
      have y2 := hI.2.2.cell (j * 6 + 2) (evL_at env j 2 y _ hy rfl)
      have y3 := hI.2.2.cell (j * 6 + 3) (evL_at env j 3 y _ hy rfl)
      have y4 := hI.2.2.cell (j * 6 + 4) (evL_at env j 4 y _ hy rfl)
      have y5 := hI.2.2.cell (j * 6 + 5) (evL_at env j 5 y _ hy rfl)
      simp only [Nat.add_zero] at y0
      have B1 := below_alloc wr (.cells #[.string y.s, .int .i64 y.k, .int .i64 y.l, .slice none 0 0, .int .i64 0, .int .i64 0] 47)
      have bA1 := hI.2.1.kept B1
      have a0 := bA1.cell 0 rfl
      have a1 := bA1.cell 1 rfl
      have b1 := Below.next hI.1 B1
      have hm := HN.out.2.2.2 y (List.mem_of_getElem? hy)
      have hR := Formed2_any n g (leafT y.k y.l) _ (HN.out.1.kept b1) (HN.out.2.1.kept b1) (leaf_at y.k y.l _)
      rw [leaf_okB HN.out.2.2.1 hm.1 hm.2] at hR
      change Calls Tryz.prog 12 #[.agg #[.slice n.ao n.len n.cap, .slice g.ao g.len g.cap], .agg #[.int .i64 y.k, .int .i64 y.l, .slice none 0 0, .int .i64 0, .int .i64 0]] _ _ at hR
      clear hI bA1 b1 hm hy
      go_wp2_with fail
      refine hR.mono ?_
      rintro _ w1 ⟨rfl, bb1⟩
      have B2 := Below.next B1 bb1
      clear y0 y1 y2 y3 y4 y5 a0 a1 hR B1 bb1
      go_wp2
      go_roundw
      case rel => exact ⟨j + 1, by omega, by go_num, Below.next HI.out.1 B2, HI.out.2.1.kept B2, HI.out.2.2.kept B2⟩
      case measure => simp [intOf]; omega
    · have e2 : j = env.length := by omega
      subst e2
      have d : ¬ (env.length : Int) < env.length := by omega
      clear hI
      go_wp2
      go_ret
      exact ⟨rfl, HI.out.1⟩
end Go.Proofs.YtepgdkigncjalaaGreat

/- Layer 7: Judge. -/
namespace Go.Proofs.YtepgdkigncjalaaGreat
open Go Go.RowKit

theorem judged_if (okk : Bool) (n : Strs) (g : Grid) (e : Ex) (sb : Nat) (pc hp k l x b pl c : Int) (w : World) (hR : ∀ u, Below w.heap.size w u → ExprIf okk n g e sb pc hp k l x b pl c u) :
    Calls Tryz.prog 26 #[.agg #[.slice n.ao n.len n.cap, .slice g.ao g.len g.cap], .agg e.va, .agg #[.pointer (some ⟨sb, 0, none⟩), .int .i64 pc, .int .i64 hp]] w fun r w' => ((okk = true ∧ ∃ ao cap, r = .returned (.tuple #[.agg #[.int .i64 k, .int .i64 l, .slice ao 0 cap, .int .i64 0, .int .i64 0], .int .i64 x, .int .i64 0, .int .i64 0])) ∨ (okk = false ∧ r = .returned (.tuple #[.agg #[.int .i64 0, .int .i64 0, .slice none 0 0, .int .i64 0, .int .i64 0], .int .i64 (-1), .int .i64 pl, .int .i64 c]))) ∧ Below w.heap.size w w' := by
  cases okk
  · refine (judged_no n g e sb pc hp pl c w (fun u hu => (hR u hu).mono ?_)).mono ?_
    · rintro _ u' ⟨⟨h, _⟩ | ⟨_, rfl⟩, hb⟩
      · cases h
      · exact ⟨rfl, hb⟩
    · rintro _ u' ⟨rfl, hb⟩
      exact ⟨Or.inr ⟨rfl, rfl⟩, hb⟩
  · refine (judged_ok n g e sb pc hp k l x b w (fun u hu => (hR u hu).mono ?_)).mono ?_
    · rintro _ u' ⟨⟨_, h⟩ | ⟨h, _⟩, hb⟩
      · exact ⟨h, hb⟩
      · cases h
    · rintro _ u' ⟨h, hb⟩
      exact ⟨Or.inl ⟨rfl, h⟩, hb⟩
set_option maxRecDepth 100000 in
set_option maxHeartbeats 8000000 in
theorem Judge_if (okk : Bool) (n : Strs) (g : Grid) (e : Ex) (eb : Nat) (env : List Nm) (pc hp k l x b pl c : Int) (w : World) (hn : n.At w) (hg : g.At w) (he : e.At w) (hpl : e.Pl w) (hF : formedB n g = true) (f7 : e.nodes ≤ 2000) (f8 : e.nest ≤ 30)
    (Q : Ex → Prop) (hQ : ∀ y, Q y → ∀ u, y.At u → Below w.heap.size w u → Yes 60 #[.agg #[.slice n.ao n.len n.cap, .slice g.ao g.len g.cap], .agg y.va] u (.bool true)) (ha : e.all Q)
    (hpc : leqB n g pc pc = true) (hhp : leqB n g hp hp = true) (hE : Blk w eb (evL env) 47) (hlen : env.length ≤ 1000) (hk : ∀ x ∈ env, (x.k = 1 ∨ x.k = 2) ∧ inR n.len x.l = true)
    (hR : ∀ sb u, Below w.heap.size w u → Sc u sb eb env → ExprIf okk n g e sb pc hp k l x b pl c u) :
    Calls Tryz.prog 8 #[.agg #[.slice n.ao n.len n.cap, .slice g.ao g.len g.cap], .slice (some ⟨eb, 0, none⟩) env.length env.length, .int .i64 pc, .int .i64 hp, .agg e.va] w fun r w' => ((okk = true ∧ ∃ ao cap, r = .returned (.tuple #[.agg #[.int .i64 k, .int .i64 l, .slice ao 0 cap, .int .i64 0, .int .i64 0], .int .i64 x, .int .i64 0, .int .i64 0])) ∨ (okk = false ∧ r = .returned (.tuple #[.agg #[.int .i64 0, .int .i64 0, .slice none 0 0, .int .i64 0, .int .i64 0], .int .i64 (-1), .int .i64 pl, .int .i64 c]))) ∧ Below w.heap.size w w' := by
  have H := allocs_heap [.cells #[.slice n.ao n.len n.cap, .slice g.ao g.len g.cap] 25, .cells e.va 37, .cells #[.int .i64 0, .int .i64 0, .slice none 0 0, .int .i64 0, .int .i64 0] 34] w
  have B0 := allocs_below [.cells #[.slice n.ao n.len n.cap, .slice g.ao g.len g.cap] 25, .cells e.va 37, .cells #[.int .i64 0, .int .i64 0, .slice none 0 0, .int .i64 0, .int .i64 0] 34] w
  simp only [List.foldl] at H B0
  have bA : Blk _ w.heap.size [.slice n.ao n.len n.cap, .slice g.ao g.len g.cap] 25 := H 0 (by simp)
  have bE : Blk _ (w.heap.size + 1) e.vs 37 := H 1 (by simp)
  have bZ : Blk _ (w.heap.size + 2) [.int .i64 0, .int .i64 0, .slice none 0 0, .int .i64 0, .int .i64 0] 34 := H 2 (by simp)
  clear H
  have HI : Hid (_ ∧ _ ∧ _ ∧ _ ∧ _) := (⟨B0, bA, bE, bZ, hE.kept B0⟩ : _ ∧ _ ∧ _ ∧ _ ∧ _)
  have HN : Hid (n.At w ∧ g.At w) := ⟨hn, hg⟩
  have h1 := bodyFormed_yes n g e _ (hn.kept B0) (hg.kept B0) (he.kept B0) (hpl.kept B0) hF f7 f8 Q (fun y hy u hu hb => hQ y hy u hu (Below.next B0 hb)) ha
  have a0 := bA.cell 0 rfl
  have a1 := bA.cell 1 rfl
  have X0 := C17.of_range bE.range
  unfold Yes at h1
  clear B0 bA bE bZ hn hg he hpl f7 f8 hQ ha hE
  go_enter Tryz.func8, Tryz.ntmps8
  go_wp2_with (refine wpList_load_ex rfl (.tmp 9) rfl _ _ rfl e X0 ?_)
  refine h1.mono ?_
  rintro _ w1 ⟨rfl, b1⟩
  have HJ : Hid (Below w.heap.size w w1 ∧ Blk w1 w.heap.size [.slice n.ao n.len n.cap, .slice g.ao g.len g.cap] 25 ∧ Blk w1 (w.heap.size + 1) e.vs 37 ∧ Blk w1 (w.heap.size + 2) [.int .i64 0, .int .i64 0, .slice none 0 0, .int .i64 0, .int .i64 0] 34 ∧ Blk w1 eb (evL env) 47) := ⟨Below.next HI.out.1 b1, HI.out.2.1.kept b1, HI.out.2.2.1.kept b1, HI.out.2.2.2.1.kept b1, HI.out.2.2.2.2.kept b1⟩
  clear HI h1 a0 a1 X0 b1
  have a0 := HJ.out.2.1.cell 0 rfl
  have a1 := HJ.out.2.1.cell 1 rfl
  have hc := cIsLabel_yes n g pc w1 (HN.out.1.kept HJ.out.1) (HN.out.2.kept HJ.out.1) hpc
  unfold Yes at hc
  go_wp2_with fail
  refine hc.mono ?_
  rintro _ w2 ⟨rfl, b1⟩
  have HK : Hid (Below w.heap.size w w2 ∧ Blk w2 w.heap.size [.slice n.ao n.len n.cap, .slice g.ao g.len g.cap] 25 ∧ Blk w2 (w.heap.size + 1) e.vs 37 ∧ Blk w2 (w.heap.size + 2) [.int .i64 0, .int .i64 0, .slice none 0 0, .int .i64 0, .int .i64 0] 34 ∧ Blk w2 eb (evL env) 47) := ⟨Below.next HJ.out.1 b1, HJ.out.2.1.kept b1, HJ.out.2.2.1.kept b1, HJ.out.2.2.2.1.kept b1, HJ.out.2.2.2.2.kept b1⟩
  clear HJ hc a0 a1 b1
  have a0 := HK.out.2.1.cell 0 rfl
  have a1 := HK.out.2.1.cell 1 rfl
  have hc := cIsLabel_yes n g hp w2 (HN.out.1.kept HK.out.1) (HN.out.2.kept HK.out.1) hhp
  unfold Yes at hc
  go_wp2_with fail
  refine hc.mono ?_
  rintro _ w3 ⟨rfl, b1⟩
  have HL : Hid (Below w.heap.size w w3 ∧ Blk w3 w.heap.size [.slice n.ao n.len n.cap, .slice g.ao g.len g.cap] 25 ∧ Blk w3 (w.heap.size + 1) e.vs 37 ∧ Blk w3 (w.heap.size + 2) [.int .i64 0, .int .i64 0, .slice none 0 0, .int .i64 0, .int .i64 0] 34 ∧ Blk w3 eb (evL env) 47) := ⟨Below.next HK.out.1 b1, HK.out.2.1.kept b1, HK.out.2.2.1.kept b1, HK.out.2.2.2.1.kept b1, HK.out.2.2.2.2.kept b1⟩
  clear HK hc a0 a1 b1
  have a0 := HL.out.2.1.cell 0 rfl
  have a1 := HL.out.2.1.cell 1 rfl
  have hc := cAllFormed_yes n g env eb w3 (HN.out.1.kept HL.out.1) (HN.out.2.kept HL.out.1) hF HL.out.2.2.2.2 hlen hk
  unfold Yes at hc
  go_wp2_with fail
  refine hc.mono ?_
  rintro _ w4 ⟨rfl, b1⟩
  have HM : Hid (Below w.heap.size w w4 ∧ Blk w4 w.heap.size [.slice n.ao n.len n.cap, .slice g.ao g.len g.cap] 25 ∧ Blk w4 (w.heap.size + 1) e.vs 37 ∧ Blk w4 (w.heap.size + 2) [.int .i64 0, .int .i64 0, .slice none 0 0, .int .i64 0, .int .i64 0] 34 ∧ Blk w4 eb (evL env) 47) := ⟨Below.next HL.out.1 b1, HL.out.2.1.kept b1, HL.out.2.2.1.kept b1, HL.out.2.2.2.1.kept b1, HL.out.2.2.2.2.kept b1⟩
  clear HL hc a0 a1 b1
  have a0 := HM.out.2.1.cell 0 rfl
  have a1 := HM.out.2.1.cell 1 rfl
  have X0 := C17.of_range HM.out.2.2.1.range
  have bS := below_alloc w4 (.cells #[.slice (some ⟨eb, 0, none⟩) env.length env.length, .int .i64 (-1), .pointer none] 71)
  have nS : Blk (w4.alloc (.cells #[.slice (some ⟨eb, 0, none⟩) env.length env.length, .int .i64 (-1), .pointer none] 71)) w4.heap.size [.slice (some ⟨eb, 0, none⟩) env.length env.length, .int .i64 (-1), .pointer none] 71 := Blk.new w4 _ _
  have hSc : Sc (w4.alloc (.cells #[.slice (some ⟨eb, 0, none⟩) env.length env.length, .int .i64 (-1), .pointer none] 71)) w4.heap.size eb env := ⟨nS, HM.out.2.2.2.2.kept bS⟩
  have hJ := judged_if okk n g e w4.heap.size pc hp k l x b pl c (w4.alloc (.cells #[.slice (some ⟨eb, 0, none⟩) env.length env.length, .int .i64 (-1), .pointer none] 71)) (fun u hu => hR _ u (Below.next (Below.next HM.out.1 bS) hu) (hSc.kept hu))
  go_wp2_with (refine wpList_load_ex rfl (.tmp 9) rfl _ _ rfl e X0 ?_)
  refine hJ.mono ?_
  rintro _ w5 ⟨hcase, b5⟩
  have b6 := Below.next bS b5
  have bZ := HM.out.2.2.2.1.kept b6
  have B6 := Below.next HM.out.1 b6
  clear a0 a1 X0 bS nS hSc hJ HM b5 b6 hR
  rcases hcase with ⟨hy, ao, cap, rfl⟩ | ⟨hy, rfl⟩
  · have HY : Hid (okk = true) := hy
    clear hy
    go_wp2_with (refine wpList_store_blk rfl rfl 34 (.tmp 10) (.tmp 46) rfl (w.heap.size + 2) [.int .i64 k, .int .i64 l, .slice ao 0 cap, .int .i64 0, .int .i64 0] rfl rfl rfl bZ rfl (by kernel_rfl) ?_; intro w9 W9)
    have c0 := W9.blk.cell 0 rfl
    have c1 := W9.blk.cell 1 rfl
    have c2 := W9.blk.cell 2 rfl
    have c3 := W9.blk.cell 3 rfl
    have c4 := W9.blk.cell 4 rfl
    refine bodyPost_ret (v := .tuple #[.agg #[.int .i64 k, .int .i64 l, .slice ao 0 cap, .int .i64 0, .int .i64 0], .int .i64 x, .int .i64 0, .int .i64 0]) (by simp [results, Tryz.results8, go_sem, c0, c1, c2, c3, c4]) rfl ⟨Or.inl ⟨HY.out, ao, cap, rfl⟩, W9.below (by omega) B6⟩
  · have HY : Hid (okk = false) := hy
    clear hy
    go_wp2_with (refine wpList_store_blk rfl rfl 34 (.tmp 10) (.tmp 46) rfl (w.heap.size + 2) [.int .i64 0, .int .i64 0, .slice none 0 0, .int .i64 0, .int .i64 0] rfl rfl rfl bZ rfl (by kernel_rfl) ?_; intro w9 W9)
    have c0 := W9.blk.cell 0 rfl
    have c1 := W9.blk.cell 1 rfl
    have c2 := W9.blk.cell 2 rfl
    have c3 := W9.blk.cell 3 rfl
    have c4 := W9.blk.cell 4 rfl
    refine bodyPost_ret (v := .tuple #[.agg #[.int .i64 0, .int .i64 0, .slice none 0 0, .int .i64 0, .int .i64 0], .int .i64 (-1), .int .i64 pl, .int .i64 c]) (by simp [results, Tryz.results8, go_sem, c0, c1, c2, c3, c4]) rfl ⟨Or.inr ⟨HY.out, rfl⟩, W9.below (by omega) B6⟩
end Go.Proofs.YtepgdkigncjalaaGreat

/- Layer 7: labels, as the judgements join them. -/
namespace Go.Proofs.YtepgdkigncjalaaGreat
open Go Go.RowKit

theorem ji_up {n : Strs} {g : Grid} {a b : Nat} (hF : formedB n g = true) (ha : a < n.len) (hb : b < n.len) (h : Lq g a b) : joinI n g a b = b := by
  rw [joinI_nat hF ha hb, jn_eq hF ha hb ⟨hb, h, lq_refl hF hb, fun c _ _ h => h⟩]
theorem ji_dn {n : Strs} {g : Grid} {a b : Nat} (hF : formedB n g = true) (ha : a < n.len) (hb : b < n.len) (h : Lq g a b) : joinI n g b a = b := by
  rw [joinI_nat hF hb ha, jn_eq hF hb ha ⟨hb, lq_refl hF hb, h, fun c _ h _ => h⟩]
theorem ji_self {n : Strs} {g : Grid} {a : Nat} (hF : formedB n g = true) (ha : a < n.len) : joinI n g a a = a := ji_up hF ha ha (lq_refl hF ha)
theorem both_l {n : Strs} {g : Grid} {a : Nat} (hF : formedB n g = true) (ha : a < n.len) : bothI n g (-1) a = a := by
  unfold bothI
  rw [if_pos rfl, if_neg (by omega), ji_self hF ha]
theorem both_r {n : Strs} {g : Grid} {a : Nat} (hF : formedB n g = true) (ha : a < n.len) : bothI n g a (-1) = a := by
  unfold bothI
  rw [if_pos rfl, if_neg (by omega), ji_self hF ha]
theorem both_nn {n : Strs} {g : Grid} : bothI n g (-1) (-1) = -1 := by
  unfold bothI joinI labB
  simp
theorem both_nat {n : Strs} {g : Grid} (a b : Nat) : bothI n g a b = joinI n g a b := by
  unfold bothI
  rw [if_neg (by omega), if_neg (by omega)]
theorem jf_pn {n : Strs} {g : Grid} {p : Nat} (hF : formedB n g = true) (hp : p < n.len) : jfold n g [(p : Int), -1] = p := by
  simp only [jfold, List.foldl, both_l hF hp, both_r hF hp]
theorem jf_pq {n : Strs} {g : Grid} {p q : Nat} (hF : formedB n g = true) (hp : p < n.len) (hq : q < n.len) (h : Lq g p q) : jfold n g [(p : Int), q] = q := by
  simp only [jfold, List.foldl, both_l hF hp, both_nat, ji_up hF hp hq h]
theorem jf_nnn {n : Strs} {g : Grid} : jfold n g [-1, -1, -1] = -1 := by
  simp only [jfold, List.foldl, both_nn]
theorem jf_nqn {n : Strs} {g : Grid} {q : Nat} (hF : formedB n g = true) (hq : q < n.len) : jfold n g [-1, (q : Int), -1] = q := by
  simp only [jfold, List.foldl, both_nn, both_l hF hq, both_r hF hq]
theorem jf_nqp {n : Strs} {g : Grid} {p q : Nat} (hF : formedB n g = true) (hp : p < n.len) (hq : q < n.len) (h : Lq g p q) : jfold n g [-1, (q : Int), p] = q := by
  simp only [jfold, List.foldl, both_nn, both_l hF hq, both_nat, ji_dn hF hp hq h]
theorem bel_q {n : Strs} {g : Grid} {q p z m : Nat} (hF : formedB n g = true) (hq : q < n.len) (hp : p < n.len) (hz : z < n.len) (hm : m < n.len) (h1 : Lq g p q) (h2 : Lq g z q) : belAll n g [(q : Int), p, z] m = leqB n g q m := by
  unfold belAll
  simp only [List.all, Bool.and_true]
  rw [leqB_nat hF hq hm, leqB_nat hF hp hm, leqB_nat hF hz hm]
  cases hB : g.B q m
  · rfl
  · have e1 : g.B p m = true := lq_trans hF hp hq hm h1 hB
    have e2 : g.B z m = true := lq_trans hF hz hq hm h2 hB
    rw [e1, e2]
    rfl
theorem inR_n {N a : Nat} (h : a < N) : inR N (a : Int) = true := by
  unfold inR
  simp
  exact h
/-- The join, as a number. -/
theorem ji_le {n : Strs} {g : Grid} {a b : Nat} (hF : formedB n g = true) (ha : a < n.len) (hb : b < n.len) : ∃ q : Nat, joinI n g a b = (q : Int) ∧ q < n.len ∧ Lq g a q ∧ Lq g b q := by
  obtain ⟨_, h1, h2, h3, _⟩ := jn_is hF ha hb
  exact ⟨_, joinI_nat hF ha hb, h1, h2, h3⟩
end Go.Proofs.YtepgdkigncjalaaGreat
