/- Layer 6: Same's question of two nodes. -/
import Derived.Test.YtcoeefckldkbeaaGreatDoorP9
import Derived.Test.YtcoeefckldkbeaaGreatDoorP10
import Derived.Test.YtcoeefckldkbeaaGreatDoorP12
import Derived.Test.YtcoeefckldkbeaaGreatDoorP3
import Derived.BigQuiet
import Derived.Deep.QuietTactic
import Derived.Laws.EntriesVeiled
namespace Go.Proofs.YtcoeefckldkbeaaGreatDoor
open Go Go.RowKit

/-- One node as another, the number of Parts too, places apart. -/
def Ex.lk (s t : Ex) : Bool := (((((((s.k == t.k) && (s.n == t.n)) && (s.m == t.m)) && (s.tx.toList == t.tx.toList)) && (s.ar.toList == t.ar.toList)) && s.ty.same t.ty) && s.gv.same t.gv) && ((s.len : Int) == t.len)
/-- All alike. -/
def Ex.alk : Ex → Ex → Bool
  | .dm, t => Ex.lk .dm t
  | .mk k n m tx ar ty gv ao b o len cap ps pl, t => Ex.lk (.mk k n m tx ar ty gv ao b o len cap ps pl) t && decide (∀ i, i < len → Ex.alk (ps i) (t.ps i) = true)
theorem lk_len {s t : Ex} (h : s.lk t = true) : s.len = t.len := by
  unfold Ex.lk at h
  simp only [Bool.and_eq_true, beq_iff_eq] at h
  omega
theorem alk_eq (s t : Ex) : s.alk t = (s.lk t && decide (∀ i, i < s.len → (s.ps i).alk (t.ps i) = true)) := by
  rcases s with _ | ⟨k, n, m, tx, ar, ty, gv, ao, b, o, len, cap, ps, pl⟩
  · have e : decide (∀ i : Nat, i < 0 → Ex.alk (Ex.dm.ps i) (t.ps i) = true) = true := decide_eq_true (fun _ h => absurd h (Nat.not_lt_zero _))
    show Ex.lk .dm t = (Ex.lk .dm t && decide (∀ i : Nat, i < 0 → Ex.alk (Ex.dm.ps i) (t.ps i) = true))
    rw [e, Bool.and_true]
  · rfl
theorem lk_cases (s t : Ex) : ((s.k == t.k) = false ∧ s.lk t = false) ∨ ((s.k == t.k) = true ∧ (s.n == t.n) = false ∧ s.lk t = false) ∨ ((s.k == t.k) = true ∧ (s.n == t.n) = true ∧ (s.m == t.m) = false ∧ s.lk t = false) ∨ ((s.k == t.k) = true ∧ (s.n == t.n) = true ∧ (s.m == t.m) = true ∧ (s.tx.toList == t.tx.toList) = false ∧ s.lk t = false) ∨ ((s.k == t.k) = true ∧ (s.n == t.n) = true ∧ (s.m == t.m) = true ∧ (s.tx.toList == t.tx.toList) = true ∧ (s.ar.toList == t.ar.toList) = false ∧ s.lk t = false) ∨ ((s.k == t.k) = true ∧ (s.n == t.n) = true ∧ (s.m == t.m) = true ∧ (s.tx.toList == t.tx.toList) = true ∧ (s.ar.toList == t.ar.toList) = true ∧ s.ty.same t.ty = false ∧ s.lk t = false) ∨ ((s.k == t.k) = true ∧ (s.n == t.n) = true ∧ (s.m == t.m) = true ∧ (s.tx.toList == t.tx.toList) = true ∧ (s.ar.toList == t.ar.toList) = true ∧ s.ty.same t.ty = true ∧ s.gv.same t.gv = false ∧ s.lk t = false) ∨ ((s.k == t.k) = true ∧ (s.n == t.n) = true ∧ (s.m == t.m) = true ∧ (s.tx.toList == t.tx.toList) = true ∧ (s.ar.toList == t.ar.toList) = true ∧ s.ty.same t.ty = true ∧ s.gv.same t.gv = true ∧ s.lk t = ((s.len : Int) == t.len)) := by
  unfold Ex.lk
  cases (s.k == t.k) <;> cases (s.n == t.n) <;> cases (s.m == t.m) <;> cases (s.tx.toList == t.tx.toList) <;> cases (s.ar.toList == t.ar.toList) <;> cases s.ty.same t.ty <;> cases s.gv.same t.gv <;> simp
theorem start_ee (w : World) (s t : Ex) : Bex ((w.alloc (.cells s.va 27)).alloc (.cells t.va 27)) w.heap.size s ∧ Bex ((w.alloc (.cells s.va 27)).alloc (.cells t.va 27)) (w.heap.size + 1) t ∧ Below w.heap.size w ((w.alloc (.cells s.va 27)).alloc (.cells t.va 27)) := by
  have h4 := Bex.newV (w.alloc (.cells s.va 27)) t
  rw [alloc_size] at h4
  exact ⟨(Bex.newV w s).kept (below_alloc _ _), h4, Below.next (below_alloc _ _) (below_alloc _ _)⟩
set_option maxRecDepth 100000 in
set_option maxHeartbeats 4000000 in
theorem esame1_any (s t : Ex) (w : World) (hs : s.At w) (ht : t.At w) (h1 : s.ty.pn ≤ 1000) (h2 : s.gv.pn ≤ 1000) :
    Calls Tryz.prog 13 #[.agg s.va, .agg t.va] w fun e w' => e = .returned (.bool (s.lk t)) ∧ Below w.heap.size w w' := by
  obtain ⟨X0, Y0, B0⟩ := start_ee w s t
  have b1 := hs.bound
  have b2 := ht.bound
  have H1 := fun u (hu : Below w.heap.size w u) => Same_any2 s.ty t.ty u (hs.kept hu).ty (ht.kept hu).ty h1
  have H2 := fun u (hu : Below w.heap.size w u) => Same_any2 s.gv t.gv u (hs.kept hu).gv (ht.kept hu).gv h2
  clear hs ht h1 h2
  go_enter Tryz.func13, Tryz.ntmps13
  go_upto_region 1 with fail
  generalize (w.alloc (.cells s.va 27)).alloc (.cells t.va 27) = w2 at *
  generalize s.va = V at *
  generalize t.va = U at *
  rcases lk_cases s t with ⟨f0, hE⟩ | ⟨f0, f1, hE⟩ | ⟨f0, f1, f2, hE⟩ | ⟨f0, f1, f2, f3, hE⟩ | ⟨f0, f1, f2, f3, f4, hE⟩ | ⟨f0, f1, f2, f3, f4, f5, hE⟩ | ⟨f0, f1, f2, f3, f4, f5, f6, hE⟩ | ⟨f0, f1, f2, f3, f4, f5, f6, hE⟩
  · have HE : Hid (s.lk t = false) := hE
    clear hE
    clear H1 H2
    have x0 := X0.c0
    have y0 := Y0.c0
    clear X0 Y0
    go_wp2
    go_ret
    exact ⟨ret_bool HE.out.symm, B0⟩
  · have HE : Hid (s.lk t = false) := hE
    clear hE
    clear H1 H2
    have x0 := X0.c0
    have y0 := Y0.c0
    have x1 := X0.c1
    have y1 := Y0.c1
    clear X0 Y0
    go_wp2
    go_ret
    exact ⟨ret_bool HE.out.symm, B0⟩
  · have HE : Hid (s.lk t = false) := hE
    clear hE
    clear H1 H2
    have x0 := X0.c0
    have y0 := Y0.c0
    have x1 := X0.c1
    have y1 := Y0.c1
    have x2 := X0.c2
    have y2 := Y0.c2
    clear X0 Y0
    go_wp2
    go_ret
    exact ⟨ret_bool HE.out.symm, B0⟩
  · have HE : Hid (s.lk t = false) := hE
    clear hE
    clear H1 H2
    have x0 := X0.c0
    have y0 := Y0.c0
    have x1 := X0.c1
    have y1 := Y0.c1
    have x2 := X0.c2
    have y2 := Y0.c2
    have x3 := X0.c3
    have y3 := Y0.c3
    clear X0 Y0
    go_wp2
    go_ret
    exact ⟨ret_bool HE.out.symm, B0⟩
  · have HE : Hid (s.lk t = false) := hE
    clear hE
    clear H1 H2
    have x0 := X0.c0
    have y0 := Y0.c0
    have x1 := X0.c1
    have y1 := Y0.c1
    have x2 := X0.c2
    have y2 := Y0.c2
    have x3 := X0.c3
    have y3 := Y0.c3
    have x4 := X0.c4
    have y4 := Y0.c4
    clear X0 Y0
    go_wp2
    go_ret
    exact ⟨ret_bool HE.out.symm, B0⟩
  · have HE : Hid (s.lk t = false) := hE
    clear hE
    clear H2
    have x0 := X0.c0
    have y0 := Y0.c0
    have x1 := X0.c1
    have y1 := Y0.c1
    have x2 := X0.c2
    have y2 := Y0.c2
    have x3 := X0.c3
    have y3 := Y0.c3
    have x4 := X0.c4
    have y4 := Y0.c4
    have x5 := X0.c5
    have y5 := Y0.c5
    have x6 := X0.c6
    have y6 := Y0.c6
    have x7 := X0.c7
    have y7 := Y0.c7
    have x8 := X0.c8
    have y8 := Y0.c8
    have x9 := X0.c9
    have y9 := Y0.c9
    go_wp2_with fail
    refine (H1 _ B0).mono ?_
    rintro _ u1 ⟨rfl, c1⟩
    have B1 := Below.next B0 c1
    rw [f5]
    go_wp2
    go_ret
    exact ⟨ret_bool HE.out.symm, B1⟩
  · have HE : Hid (s.lk t = false) := hE
    clear hE
    have _h := b1
    have x0 := X0.c0
    have y0 := Y0.c0
    have x1 := X0.c1
    have y1 := Y0.c1
    have x2 := X0.c2
    have y2 := Y0.c2
    have x3 := X0.c3
    have y3 := Y0.c3
    have x4 := X0.c4
    have y4 := Y0.c4
    have x5 := X0.c5
    have y5 := Y0.c5
    have x6 := X0.c6
    have y6 := Y0.c6
    have x7 := X0.c7
    have y7 := Y0.c7
    have x8 := X0.c8
    have y8 := Y0.c8
    have x9 := X0.c9
    have y9 := Y0.c9
    go_wp2_with fail
    refine (H1 _ B0).mono ?_
    rintro _ u1 ⟨rfl, c1⟩
    have B1 := Below.next B0 c1
    clear x0 y0 x1 y1 x2 y2 x3 y3 x4 y4 x5 y5 x6 y6 x7 y7 x8 y8 x9 y9
    rw [f5]
    have X1 := X0.kept c1
    have Y1 := Y0.kept c1
    have x10 := X1.c10
    have y10 := Y1.c10
    have x11 := X1.c11
    have y11 := Y1.c11
    have x12 := X1.c12
    have y12 := Y1.c12
    have x13 := X1.c13
    have y13 := Y1.c13
    have x14 := X1.c14
    have y14 := Y1.c14
    go_wp2_with fail
    refine (H2 _ B1).mono ?_
    rintro _ u2 ⟨rfl, c2⟩
    have B2 := Below.next B1 c2
    rw [f6]
    go_wp2
    go_ret
    exact ⟨ret_bool HE.out.symm, B2⟩
  · have HE : Hid (s.lk t = ((s.len : Int) == t.len)) := hE
    clear hE
    have _h := b1
    have x0 := X0.c0
    have y0 := Y0.c0
    have x1 := X0.c1
    have y1 := Y0.c1
    have x2 := X0.c2
    have y2 := Y0.c2
    have x3 := X0.c3
    have y3 := Y0.c3
    have x4 := X0.c4
    have y4 := Y0.c4
    have x5 := X0.c5
    have y5 := Y0.c5
    have x6 := X0.c6
    have y6 := Y0.c6
    have x7 := X0.c7
    have y7 := Y0.c7
    have x8 := X0.c8
    have y8 := Y0.c8
    have x9 := X0.c9
    have y9 := Y0.c9
    go_wp2_with fail
    refine (H1 _ B0).mono ?_
    rintro _ u1 ⟨rfl, c1⟩
    have B1 := Below.next B0 c1
    clear x0 y0 x1 y1 x2 y2 x3 y3 x4 y4 x5 y5 x6 y6 x7 y7 x8 y8 x9 y9
    rw [f5]
    have X1 := X0.kept c1
    have Y1 := Y0.kept c1
    have x10 := X1.c10
    have y10 := Y1.c10
    have x11 := X1.c11
    have y11 := Y1.c11
    have x12 := X1.c12
    have y12 := Y1.c12
    have x13 := X1.c13
    have y13 := Y1.c13
    have x14 := X1.c14
    have y14 := Y1.c14
    go_wp2_with fail
    refine (H2 _ B1).mono ?_
    rintro _ u2 ⟨rfl, c2⟩
    have B2 := Below.next B1 c2
    rw [f6]
    have x15 := (X1.kept c2).c15
    have y15 := (Y1.kept c2).c15
    go_wp2
    go_ret
    exact ⟨ret_bool HE.out.symm, B2⟩
end Go.Proofs.YtcoeefckldkbeaaGreatDoor

/- Layer 6: a name that is no keyword; what is small. -/
namespace Go.Proofs.YtcoeefckldkbeaaGreatDoor
open Go.RowKit

theorem wpList_want {ops : Array Oper} {rest : List Oper} {o : Oper} {a : Act} {w : World} {Q : Exit → Act → World → Prop} (hw : Region.wanted o (yielded ops a.tmps) = true) (h : ∀ K : Act → World → Prop, (∀ a w, wpList Tryz.prog ops Q rest a w → K a w) → o.wp Tryz.prog a w K Q) : wpList Tryz.prog ops Q (o :: rest) a w :=
  wpList_step fun K hK => by simp only [hw, if_true]; exact h K hK
theorem wpList_load_exG {ops : Array Oper} {rest : List Oper} {op : Oper} {a : Act} {w : World} {Q : Exit → Act → World → Prop} (hw : Region.wanted op (yielded ops a.tmps) = true) (x : Operand) (ho : op.op = .load 27 x)
    (b o : Nat) (hx : a.eval x = .pointer (some ⟨b, o, none⟩)) (e : Ex) (hc : C17 w b o e) (h : wpList Tryz.prog ops Q rest (a.put op.dst (.agg e.va)) w) : wpList Tryz.prog ops Q (op :: rest) a w :=
  wpList_want hw fun _ hK => wp_load_mid 27 x ho b o hx e.vs _ hc.range Tryz.underlying27 rfl (by kernel_rfl) (hK _ _ h)

/-- The keywords. -/
def kwsE : List (List UInt8) := [[108, 97, 116, 116, 105, 99, 101], [109, 97, 105, 110], [108, 101, 116], [105, 110], [105, 102], [116, 104, 101, 110], [101, 108, 115, 101], [102, 117, 110], [101, 110, 100], [114, 97, 105, 115, 101], [116, 114, 121], [119, 105, 116, 104], [111, 117, 116], [110, 101, 119], [110, 111, 116], [102, 115, 116], [115, 110, 100], [116, 114, 117, 101], [102, 97, 108, 115, 101], [105, 110, 116], [98, 111, 111, 108], [114, 101, 102], [110, 111, 110, 101]]
def kwE : List ByteArray := kwsE.map fun l => ⟨l.toArray⟩
def kwA : Array Value := (kwE.map Value.string).toArray
def kwS (b : Nat) : Strs := ⟨some ⟨b, 0, none⟩, b, 0, 23, 23, fun i => kwE.getD i ⟨#[]⟩⟩
theorem kwS_at (w : World) : (kwS w.heap.size).At (w.alloc (.cells kwA 9)) where
  lc := Nat.le_refl _
  nil := fun _ => rfl
  bound := by show 23 ≤ _; decide
  cell := fun i hi => by
    have hi : i < 23 := hi
    show (w.alloc (.cells kwA 9)).cell? ⟨w.heap.size, 0 + i, none⟩ = some (.string (kwE.getD i ⟨#[]⟩))
    have hl : i < kwE.length := hi
    rw [Nat.zero_add]
    simp [kwA, List.getD, hl]
  sz := fun i hi => by
    have hi : i < 23 := hi
    show (kwE.getD i ⟨#[]⟩).size ≤ _
    have : ∀ i : Fin 23, (kwE.getD i ⟨#[]⟩).size ≤ 9223372036854775807 := by decide +kernel
    exact this ⟨i, hi⟩
set_option maxHeartbeats 1000000 in
theorem wordsE_any (w : World) :
    Calls Tryz.prog 65 #[] w fun e w' => e = .returned (.slice (some ⟨w.heap.size, 0, none⟩) 23 23) ∧ w' = w.alloc (.cells kwA 9) := by
  go_enter Tryz.func65, Tryz.ntmps65
  go_wp2
  go_ret
  exact ⟨rfl, rfl⟩
/-- Is it a keyword? -/
def kwB' (s : ByteArray) : Bool := holdsB (kwS 0).s 23 s
set_option maxHeartbeats 1000000 in
theorem keywordE_any (s : ByteArray) (w : World) :
    Calls Tryz.prog 47 #[.string s] w fun e w' => e = .returned (.bool (kwB' s)) ∧ Below w.heap.size w w' := by
  have hc := contains_any (kwS w.heap.size) 23 23 s _ (kwS_at w) (Nat.le_refl _) (some ⟨w.heap.size, 0, none⟩) (fun _ => rfl)
  go_enter Tryz.func47, Tryz.ntmps47
  go_wp2_with (first
    | (go_at_call 65; refine (wordsE_any _).mono ?_; rintro e w' ⟨rfl, rfl⟩)
    | (go_at_call 64; refine hc.mono ?_; rintro e w' ⟨rfl, rfl⟩))
  go_ret
  exact ⟨rfl, below_alloc _ _⟩
set_option maxHeartbeats 1000000 in
theorem esmall_yes (t : Ex) (w : World) (ht : t.At w) (hp : t.Pl w) (hn : t.nodes ≤ 2000) (hd : t.nest ≤ 30) :
    Calls Tryz.prog 44 #[.agg t.va] w fun e w' => e = .returned (.bool true) ∧ Below w.heap.size w w' := by
  have B0 := below_alloc w (.cells t.va 27)
  have X0 := Bex.newV w t
  have h := eCount_any t _ (ht.kept B0)
  rw [show min t.nodes 2001 = t.nodes by omega] at h
  have i1 : (t.nodes : Int) ≤ 2000 := by omega
  go_enter Tryz.func44, Tryz.ntmps44
  go_wp2_with (refine wpList_load_exB rfl (.tmp 1) rfl _ rfl t X0 ?_)
  refine h.mono ?_
  rintro r w1 ⟨rfl, hb1⟩
  have X1 := X0.kept hb1
  have B1 := Below.next B0 hb1
  have h2 := eNest_any t _ (ht.kept B1) (hp.kept B1) hn
  rw [show min t.nest 31 = t.nest by omega] at h2
  have i2 : (t.nest : Int) ≤ 30 := by omega
  clear X0 B0 hb1 h
  go_wp2_with (refine wpList_load_exG (by kernel_rfl) (.tmp 1) rfl _ _ rfl t (C17.ofB X1) ?_)
  refine h2.mono ?_
  rintro r w2 ⟨rfl, hb2⟩
  clear X1 h2
  go_wp2
  go_ret
  exact ⟨rfl, Below.next B1 hb2⟩
end Go.Proofs.YtcoeefckldkbeaaGreatDoor

/- Layer 6: a node that is formed. -/
namespace Go.Proofs.YtcoeefckldkbeaaGreatDoor
open Go.RowKit

theorem wpQuiet_load_ex {ops : Array Oper} {C : World → Prop} {Q : Act → Prop} {a : Act} {o : Oper} {rest : List Oper} (hw : Region.wanted o (yielded ops a.tmps) = true) (x : Operand) (ho : o.op = .load 27 x) (b oo : Nat) (hx : a.eval x = .pointer (some ⟨b, oo, none⟩)) (e : Ex) (hc : ∀ w, C w → C17 w b oo e)
    (h : wpQuiet Tryz.prog ops C Q rest (a.put o.dst (.agg e.va))) : wpQuiet Tryz.prog ops C Q (o :: rest) a := by
  refine wpQuiet_step fun K hK => ?_
  rw [if_pos hw]
  refine ⟨.agg e.va, fun w hC => ?_, hK _ h⟩
  unfold Oper.quietAt execOp
  simp only [ho, hx, Sem.run_bind, load_exV (hc w hC), Result.andThen_ok, Sem.run_pure]
  exact ⟨rfl, rfl⟩

theorem quiet_load_ex {C : World → Prop} {K : Act → Prop} {a : Act} {o : Oper} (x : Operand) (ho : o.op = .load 27 x) (b oo : Nat) (hx : a.eval x = .pointer (some ⟨b, oo, none⟩)) (e : Ex) (hc : ∀ w, C w → C17 w b oo e)
    (h : K (a.put o.dst (.agg e.va))) : o.quiet Tryz.prog a C K := by
  refine ⟨.agg e.va, fun w hC => ?_, h⟩
  unfold Oper.quietAt execOp
  simp only [ho, hx, Sem.run_bind, load_exV (hc w hC), Result.andThen_ok, Sem.run_pure]
  exact ⟨rfl, rfl⟩
/-- The zero type. -/
def zT : Ty := .mk 0 0 0 0 none 0 0 0 0 fun _ => .dm
theorem zT_at (w : World) : zT.At w := ⟨fun h => absurd h (Nat.lt_irrefl 0), by decide, fun i hi => absurd hi (Nat.not_lt_zero _)⟩
theorem zT_same : zT.same zT = true := by decide +kernel
def Yes (f : FuncId) (args : Array Value) (u : World) (v : Value) : Prop := Calls Tryz.prog f args u fun e u' => e = .returned v ∧ Below u.heap.size u u'
theorem start_le (w : World) (n : Strs) (g : Grid) (e : Ex) : Bl ((w.alloc (.cells #[.slice n.ao n.len n.cap, .slice g.ao g.len g.cap] 35)).alloc (.cells e.va 27)) w.heap.size n g ∧ Bex ((w.alloc (.cells #[.slice n.ao n.len n.cap, .slice g.ao g.len g.cap] 35)).alloc (.cells e.va 27)) (w.heap.size + 1) e ∧ Below w.heap.size w ((w.alloc (.cells #[.slice n.ao n.len n.cap, .slice g.ao g.len g.cap] 35)).alloc (.cells e.va 27)) :=
  ⟨(Bl.new w n g).kept (below_alloc _ _), (alloc_size w (.cells #[.slice n.ao n.len n.cap, .slice g.ao g.len g.cap] 35)) ▸ Bex.newV (w.alloc (.cells #[.slice n.ao n.len n.cap, .slice g.ao g.len g.cap] 35)) e, Below.next (below_alloc _ _) (below_alloc _ _)⟩
end Go.Proofs.YtcoeefckldkbeaaGreatDoor

/- Layer 6: the walk through two expressions at once, where it puts nothing off. -/
namespace Go.Proofs.YtcoeefckldkbeaaGreatDoor
open Go Go.RowKit

/-- The walk's variable: asked is Same's question, L nodes may still be gone through, nothing is put off. -/
structure We (w : World) (X L : Nat) : Prop where
  c0 : w.cell? ⟨X, 0, none⟩ = some (.func (.func 12) #[] #[])
  c1 : w.cell? ⟨X, 1, none⟩ = some (.func (.func 13) #[] #[])
  c2 : w.cell? ⟨X, 2, none⟩ = some (.int .i64 L)
  c3 : w.cell? ⟨X, 3, none⟩ = some (.slice none 0 0)
  f2 : w.frozen? ⟨X, 2, none⟩ = false
theorem We.kept {w w' : World} {X L : Nat} (h : We w X L) (hb : Below w.heap.size w w') : We w' X L :=
  ⟨up hb h.c0, up hb h.c1, up hb h.c2, up hb h.c3, by rw [hb.frozen (p := ⟨X, 2, none⟩) (by have := World.block_lt_of_cell? w _ h.c0; exact this)]; exact h.f2⟩
theorem We.set {w : World} {X L : Nat} (h : We w X L) (L' : Nat) : We (w.setCell ⟨X, 2, none⟩ (.int .i64 L')) X L' :=
  ⟨by rw [World.cell?_setCell_other _ _ _ _ (by simp)]; exact h.c0, by rw [World.cell?_setCell_other _ _ _ _ (by simp)]; exact h.c1, World.cell?_setCell_same _ _ _ h.c2, by rw [World.cell?_setCell_other _ _ _ _ (by simp)]; exact h.c3, by rw [World.frozen?_setCell]; exact h.f2⟩
/-- How many nodes the Parts have. -/
def Ex.pn2 (t : Ex) : Nat := sumTo (fun i => (t.ps i).nodes) t.len
theorem expn2_nodes : ∀ t : Ex, t.nodes = 1 + t.pn2
  | .dm => rfl
  | .mk _ _ _ _ _ _ _ _ _ _ _ _ _ _ => rfl
theorem typn_nodes (t : Ty) (h : t.nodes ≤ 40) : t.pn ≤ 1000 := by
  have : t.nodes = 1 + t.pn := by cases t <;> rfl
  omega
theorem sm_ty : ∀ {e : Ex}, e.sm = true → e.ty.pn ≤ 1000 ∧ e.gv.pn ≤ 1000
  | .dm, _ => ⟨by decide, by decide⟩
  | .mk _ _ _ _ _ _ _ _ _ _ _ _ _ _, h => by
    unfold Ex.sm at h
    simp only [Bool.and_eq_true, decide_eq_true_eq] at h
    exact ⟨typn_nodes _ h.1.1.1.1, typn_nodes _ h.1.1.1.2⟩
theorem sm_part : ∀ {e : Ex}, e.sm = true → ∀ {i}, i < e.len → (e.ps i).sm = true
  | .dm, _, _, hi => absurd hi (Nat.not_lt_zero _)
  | .mk _ _ _ _ _ _ _ _ _ _ _ _ _ _, h, _, hi => by
    unfold Ex.sm at h
    simp only [Bool.and_eq_true, decide_eq_true_eq] at h
    exact h.2 _ hi

/-- What the walk answers of the Parts of s and t, and what it leaves. -/
def EP (w0 : World) (X : Nat) (s t : Ex) (L : Nat) (e : Ending) (w' : World) : Prop :=
  ∃ r : Bool, e = .returned (.bool r) ∧ r = decide (∀ i, i < s.len → (s.ps i).alk (t.ps i) = true) ∧ Below w0.heap.size w0 w' ∧ ∃ L', We w' X L' ∧ (r = true → L' + s.pn2 = L)
theorem EP.intro {w0 : World} {X : Nat} {s t : Ex} {L : Nat} {e : Ending} {w' : World} (r : Bool) (h1 : e = .returned (.bool r)) (h2 : r = decide (∀ i, i < s.len → (s.ps i).alk (t.ps i) = true)) (h3 : Below w0.heap.size w0 w') (L' : Nat) (h4 : We w' X L') (h5 : r = true → L' + s.pn2 = L) : EP w0 X s t L e w' := ⟨r, h1, h2, h3, L', h4, h5⟩

set_option maxRecDepth 100000 in
set_option maxHeartbeats 8000000 in
theorem ethrough_any (w0 : World) (X : Nat) (hX : w0.heap.size ≤ X) : ∀ (s t : Ex) (w : World) (L : Nat), s.At w0 → t.At w0 → s.sm = true → s.len = t.len → s.pn2 ≤ L → L ≤ 4000 → We w X L → Below w0.heap.size w0 w →
    Calls Tryz.prog 19 #[.pointer (some ⟨X, 0, none⟩), .slice s.ao s.len s.cap, .slice t.ao t.len t.cap] w fun e w' => EP w0 X s t L e w' := by
  intro s
  induction s using Ex.ind with
  | h s ih =>
    intro t w L hs ht hsm hlt hL h4000 hW hB
    have HL : Hid (s.pn2 ≤ L ∧ s.pn2 = sumTo (fun i => (s.ps i).nodes) s.len) := ⟨hL, rfl⟩
    have HS : Hid (s.At w0 ∧ t.At w0 ∧ s.sm = true ∧ s.len = t.len) := ⟨hs, ht, hsm, hlt⟩
    have b1 : s.len ≤ 9223372036854775807 := hs.bound
    have n1 : 0 < s.len → s.ao = some ⟨s.b, s.o, none⟩ := hs.nil
    have n2 : 0 < s.len → t.ao = some ⟨t.b, t.o, none⟩ := by rw [hlt]; exact ht.nil
    have HW : Hid (We w X L ∧ Below w0.heap.size w0 w) := ⟨hW, hB⟩
    rw [← hlt]
    clear hL hW hB hs ht hsm hlt
    generalize s.ao = ao at n1 ⊢
    generalize t.ao = ao2 at n2 ⊢
    generalize hlen : s.len = len at *
    have HLN : Hid (s.len = len) := hlen
    clear hlen
    generalize s.cap = cap
    generalize t.cap = cap2
    go_enter Tryz.func19, Tryz.ntmps19
    go_wp2
    go_loopw [10] (fun i wr => ∃ j l : Nat, j ≤ len ∧ i = .int .i64 j ∧ (∀ i, i < j → (s.ps i).alk (t.ps i) = true) ∧ l + sumTo (fun i => (s.ps i).nodes) j = L ∧ We wr X l ∧ Below w0.heap.size w0 wr) (fun i _ => len - (intOf i).toNat)
    case atStart => exact ⟨0, L, Nat.zero_le _, rfl, fun _ h => absurd h (Nat.not_lt_zero _), rfl, HW.out.1, HW.out.2⟩
    case round =>
      obtain ⟨j, l, hj, rfl, hdone, hl, hW, hB⟩ := hrel
      clear HW
      have HD : Hid ((∀ i, i < j → (s.ps i).alk (t.ps i) = true) ∧ l + sumTo (fun i => (s.ps i).nodes) j = L) := ⟨hdone, hl⟩
      clear hdone
      by_cases hlt : j < len
      · have ij : (j : Int) < len := by omega
        have hsum := sumTo_le (fun i => (s.ps i).nodes) hlt
        have hnod := expn2_nodes (s.ps j)
        have hLL := HL.out
        have hl0 : 1 ≤ l := by omega
        have HN : Hid ((s.ps j).pn2 ≤ l - 1 ∧ l ≤ 4000 ∧ (s.ps j).nodes = 1 + (s.ps j).pn2) := ⟨by omega, by omega, hnod⟩
        clear hsum hnod hLL hl
        have a1 := n1 (by omega)
        have a2 := n2 (by omega)
        subst a1 a2
        have e0 : ((l : Int) == 0) = false := by simp; omega
        have k1 := hW.c2
        have kf := hW.f2
        have i1 : (1 : Int) ≤ l := by omega
        have i2 : (l : Int) ≤ 4000 := by have := HN.out.2.1; omega
        have W2 : We (wr.setCell ⟨X, 2, none⟩ (.int .i64 ((l : Int) - 1))) X (l - 1) := by
          have := hW.set (l - 1)
          rwa [show ((l - 1 : Nat) : Int) = (l : Int) - 1 by omega] at this
        have B2 : Below w0.heap.size w0 (wr.setCell ⟨X, 2, none⟩ (.int .i64 ((l : Int) - 1))) := hB.setCell hX _
        clear hW hB
        have hjs : j < s.len := by rw [HLN.out]; exact hlt
        have hjt : j < t.len := by rw [← HS.out.2.2.2]; exact hlt
        have C : C17 _ s.b (s.o + j * 17) (s.ps j) := (HS.out.1.kept B2).cells hjs
        have D : C17 _ t.b (t.o + j * 17) (t.ps j) := (HS.out.2.1.kept B2).cells hjt
        have P : (s.ps j).At w0 := HS.out.1.part hjs
        have R : (t.ps j).At w0 := HS.out.2.1.part hjt
        have M : (s.ps j).sm = true := sm_part HS.out.2.2.1 hjs
        have H1 : ∀ u, Below w0.heap.size w0 u → Calls Tryz.prog 13 #[.agg (s.ps j).va, .agg (t.ps j).va] u fun e w' => e = .returned (.bool ((s.ps j).lk (t.ps j))) ∧ Below u.heap.size u w' := fun u hu => esame1_any _ _ u (P.kept hu) (R.kept hu) (sm_ty M).1 (sm_ty M).2
        have H2 := fun u (hq : (s.ps j).lk (t.ps j) = true) (hu : We u X (l - 1)) (hv : Below w0.heap.size w0 u) => ih j hlt (t.ps j) u (l - 1) P R M (lk_len hq) HN.out.1 (by have := HN.out.2.1; omega) hu hv
        have HA : Hid ((s.ps j).alk (t.ps j) = ((s.ps j).lk (t.ps j) && decide (∀ i, i < (s.ps j).len → ((s.ps j).ps i).alk ((t.ps j).ps i) = true))) := alk_eq _ _
        clear P R M hjs hjt
        go_wp2
        generalize wr.setCell ⟨X, 2, none⟩ (.int .i64 ((l : Int) - 1)) = w2 at *
        have k0 := fun x => Gr.cell x W2.c1
        have k9 := fun x => Gr.cell x W2.c0
        have hC : ∀ u, (∃ x : Gr w2, u = x.w) → C17 u s.b (s.o + j * 17) (s.ps j) := fun u ⟨x, hx⟩ => by rw [hx]; exact C.kept x.bl
        have hD : ∀ u, (∃ x : Gr w2, u = x.w) → C17 u t.b (t.o + j * 17) (t.ps j) := fun u ⟨x, hx⟩ => by rw [hx]; exact D.kept x.bl
        have hNE : Nonempty (Gr w2) := ⟨⟨_, Below.refl _ _⟩⟩
        obtain ⟨x, hx⟩ : ∃ x, x = s.ps j := ⟨_, rfl⟩
        obtain ⟨y, hy⟩ : ∃ y, y = t.ps j := ⟨_, rfl⟩
        rw [← hx] at hC C
        rw [← hx] at HN
        rw [← hy] at hD D
        rw [← hx, ← hy] at H1
        rw [← hx, ← hy] at H2
        have HX : Hid (s.ps j = x ∧ t.ps j = y) := ⟨hx.symm, hy.symm⟩
        rw [← hx, ← hy] at HA
        clear hx hy C D
        cases hq : x.lk y
        · have HQ : Hid ((s.ps j).alk (t.ps j) = false) := by show (s.ps j).alk (t.ps j) = false; rw [HX.out.1, HX.out.2, HA.out, hq]; rfl
          rw [hq] at H1
          clear hq H2
          refine wp_region_gr (by kernel_rfl) (by kernel_rfl) ?_
          iterate 7 go_big_quiet_step (fail)
          go_big_quiet_want
          refine quiet_load_ex (.tmp 40) rfl _ _ (by kernel_rfl) x hC ?_
          simp only [Act.put, List.setIfInBounds_toArray, List.set_cons_succ, List.set_cons_zero]
          go_big_quiet_on
          iterate 3 go_big_quiet_step (fail)
          go_big_quiet_want
          refine quiet_load_ex (.tmp 44) rfl _ _ (by kernel_rfl) y hD ?_
          simp only [Act.put, List.setIfInBounds_toArray, List.set_cons_succ, List.set_cons_zero]
          go_big_quiet_on
          repeat (first | go_big_quiet_step ((go_at_call 13; exact Calls.gr _ (H1 _ (Below.next B2 (Gr.bl _))))))
          refine wpQuiet_nil ?_
          rintro w4 ⟨x4, rfl⟩
          have B4 := x4.bl
          generalize x4.w = w4 at B4 ⊢
          clear x4 k0 k9 hNE hC hD H1
          go_wp2
          go_ret
          exact EP.intro false rfl (decide_eq_false (fun hh => absurd (HQ.out.symm.trans (hh j (by rw [HLN.out]; exact hlt))) (by decide))).symm (Below.next B2 B4) (l - 1) (W2.kept B4) (fun h => Bool.noConfusion h)
        · have HQ : Hid ((s.ps j).alk (t.ps j) = decide (∀ i, i < x.len → (x.ps i).alk (y.ps i) = true)) := by show (s.ps j).alk (t.ps j) = _; rw [HX.out.1, HX.out.2, HA.out, hq]; rfl
          rw [hq] at H1
          have H2 := fun u => H2 u hq
          clear hq
          refine wp_region_gr_tail 34 (by kernel_rfl) (by kernel_rfl) ?_
          simp only [List.take, List.drop]
          iterate 7 go_big_quiet_step (fail)
          go_big_quiet_want
          refine quiet_load_ex (.tmp 40) rfl _ _ (by kernel_rfl) x hC ?_
          simp only [Act.put, List.setIfInBounds_toArray, List.set_cons_succ, List.set_cons_zero]
          go_big_quiet_on
          iterate 3 go_big_quiet_step (fail)
          go_big_quiet_want
          refine quiet_load_ex (.tmp 44) rfl _ _ (by kernel_rfl) y hD ?_
          simp only [Act.put, List.setIfInBounds_toArray, List.set_cons_succ, List.set_cons_zero]
          go_big_quiet_on
          iterate 11 go_big_quiet_step ((go_at_call 13; exact Calls.gr _ (H1 _ (Below.next B2 (Gr.bl _)))))
          go_big_quiet_want
          refine quiet_load_ex (.tmp 56) rfl _ _ (by kernel_rfl) x hC ?_
          simp only [Act.put, List.setIfInBounds_toArray, List.set_cons_succ, List.set_cons_zero]
          go_big_quiet_on
          iterate 8 go_big_quiet_step ((go_at_call 12; exact Calls.gr _ (epartsV x _)))
          go_big_quiet_want
          refine quiet_load_ex (.tmp 65) rfl _ _ (by kernel_rfl) y hD ?_
          simp only [Act.put, List.setIfInBounds_toArray, List.set_cons_succ, List.set_cons_zero]
          go_big_quiet_on
          iterate 1 go_big_quiet_step ((go_at_call 12; exact Calls.gr _ (epartsV y _)))
          refine wpQuiet_nil ?_
          rintro w4 ⟨x4, rfl⟩
          have B4 := x4.bl
          generalize x4.w = w4 at B4 ⊢
          clear x4 k0 k9 hNE hC hD H1
          have H3 := H2 w4 (W2.kept B4) (Below.next B2 B4)
          clear H2 W2 B2 B4
          go_wp2_with fail
          refine H3.mono ?_
          intro e w6 hVP
          obtain ⟨r, rfl, hr, B6, L6, W6, hr6⟩ := hVP
          have HR : Hid (r = decide (∀ i, i < x.len → (x.ps i).alk (y.ps i) = true) ∧ (r = true → L6 + x.pn2 = l - 1)) := ⟨hr, hr6⟩
          clear hr hr6 H3
          cases r
          · go_wp2
            go_ret
            exact EP.intro false rfl (decide_eq_false (fun hh => absurd ((HR.out.1.trans HQ.out.symm).trans (hh j (by rw [HLN.out]; exact hlt))) (by decide))).symm B6 L6 W6 (fun h => Bool.noConfusion h)
          · go_wp2
            go_roundw
            case rel => exact ⟨j + 1, L6, by omega, by go_num, fun i hi => (by
                by_cases e : i = j
                · subst e; rw [HQ.out, ← HR.out.1]
                · exact HD.out.1 i (by omega)), by have h1 := HD.out.2; have h2 := HR.out.2 (by simp); have h3 := HN.out; have h4 := HX.out.1; simp only [sumTo, h4]; omega, W6, B6⟩
            case measure => simp [intOf]; omega
      · have e : len = j := by omega
        subst e
        have dl : ¬ (len : Int) < len := by omega
        go_wp2
        go_ret
        exact EP.intro true rfl (decide_eq_true (by rw [HLN.out]; exact HD.out.1)).symm hB l hW (fun _ => by rw [HL.out.2]; exact HD.out.2)
end Go.Proofs.YtcoeefckldkbeaaGreatDoor

/- Layer 6: Same. -/
namespace Go.Proofs.YtcoeefckldkbeaaGreatDoor
open Go Go.RowKit

theorem we_new (w : World) : We (w.alloc (.cells #[.func (.func 12) #[] #[], .func (.func 13) #[] #[], .int .i64 4000, .slice none 0 0, .map none] 53)) w.heap.size 4000 := by
  constructor <;> simp
theorem Bex.c17 {w : World} {B : Nat} {e : Ex} (h : Bex w B e) : C17 w B 0 e := C17.of_range h.range
set_option maxRecDepth 100000 in
set_option maxHeartbeats 4000000 in
theorem eeverywhere_any (s t : Ex) (w : World) (hs : s.At w) (ht : t.At w) (hm : s.sm = true) (hL : s.pn2 ≤ 4000) :
    Calls Tryz.prog 11 #[.agg s.va, .agg t.va, .func (.func 12) #[] #[], .func (.func 13) #[] #[]] w fun e w' => e = .returned (.bool (s.alk t)) ∧ Below w.heap.size w w' := by
  obtain ⟨X0, Y0, B0⟩ := start_ee w s t
  have hs0 := hs.kept B0
  have ht0 := ht.kept B0
  have sz : ((w.alloc (.cells s.va 27)).alloc (.cells t.va 27)).heap.size = w.heap.size + 2 := by rw [alloc_size, alloc_size]
  have HP := fun u (L : Nat) (hu : We u ((w.alloc (.cells s.va 27)).alloc (.cells t.va 27)).heap.size L) (h1 : s.pn2 ≤ L) (h2 : L ≤ 4000) (h3 : s.len = t.len) (hv : Below ((w.alloc (.cells s.va 27)).alloc (.cells t.va 27)).heap.size ((w.alloc (.cells s.va 27)).alloc (.cells t.va 27)) u) => ethrough_any _ _ (Nat.le_refl _) s t u L hs0 ht0 hm h3 h1 h2 hu hv
  have K0 := we_new ((w.alloc (.cells s.va 27)).alloc (.cells t.va 27))
  have BK := below_alloc ((w.alloc (.cells s.va 27)).alloc (.cells t.va 27)) (.cells #[.func (.func 12) #[] #[], .func (.func 13) #[] #[], .int .i64 4000, .slice none 0 0, .map none] 53)
  have X1 := X0.kept BK
  have Y1 := Y0.kept BK
  rw [sz] at HP K0
  have H1 : ∀ u, Below ((w.alloc (.cells s.va 27)).alloc (.cells t.va 27)).heap.size ((w.alloc (.cells s.va 27)).alloc (.cells t.va 27)) u → Calls Tryz.prog 13 #[.agg s.va, .agg t.va] u fun e w' => e = .returned (.bool (s.lk t)) ∧ Below u.heap.size u w' := fun u hu => esame1_any s t u (hs0.kept hu) (ht0.kept hu) (sm_ty hm).1 (sm_ty hm).2
  have HB : Hid (Below w.heap.size w ((w.alloc (.cells s.va 27)).alloc (.cells t.va 27))) := B0
  have HZ : Hid (((w.alloc (.cells s.va 27)).alloc (.cells t.va 27)).heap.size = w.heap.size + 2) := sz
  clear B0 sz X0 Y0 hs ht hs0 ht0 hm
  go_enter Tryz.func11, Tryz.ntmps11
  go_wp2
  generalize ((w.alloc (.cells s.va 27)).alloc (.cells t.va 27)) = w0 at *
  generalize w0.alloc (.cells #[.func (.func 12) #[] #[], .func (.func 13) #[] #[], .int .i64 4000, .slice none 0 0, .map none] 53) = w2 at *
  have hC : ∀ u, (∃ x : Gr w2, u = x.w) → C17 u w.heap.size 0 s := fun u ⟨x, hx⟩ => by rw [hx]; exact (X1.kept x.bl).c17
  have hD : ∀ u, (∃ x : Gr w2, u = x.w) → C17 u (w.heap.size + 1) 0 t := fun u ⟨x, hx⟩ => by rw [hx]; exact (Y1.kept x.bl).c17
  have hNE : Nonempty (Gr w2) := ⟨⟨_, Below.refl _ _⟩⟩
  clear X1 Y1
  cases hq : s.lk t
  · have HQ : Hid (s.alk t = false) := by show s.alk t = false; rw [alk_eq, hq]; rfl
    rw [hq] at H1
    clear hq HP
    refine wp_region_gr (by kernel_rfl) (by kernel_rfl) ?_
    iterate 1 go_big_quiet_step (fail)
    go_big_quiet_want
    refine quiet_load_ex (.tmp 4) rfl _ _ (by kernel_rfl) s hC ?_
    simp only [Act.put, List.setIfInBounds_toArray, List.set_cons_succ, List.set_cons_zero]
    go_big_quiet_on
    go_big_quiet_want
    refine quiet_load_ex (.tmp 5) rfl _ _ (by kernel_rfl) t hD ?_
    simp only [Act.put, List.setIfInBounds_toArray, List.set_cons_succ, List.set_cons_zero]
    go_big_quiet_on
    repeat (first | go_big_quiet_step ((go_at_call 13; exact Calls.gr _ (H1 _ (Below.next BK (Gr.bl _))))))
    refine wpQuiet_nil ?_
    rintro w4 ⟨q4, rfl⟩
    have B4 := q4.bl
    generalize q4.w = w4 at B4 ⊢
    clear q4 hC hD hNE H1
    go_wp2
    go_ret
    exact ⟨ret_bool HQ.out.symm, Below.next HB.out (Below.next BK B4)⟩
  · have HQ : Hid (s.alk t = decide (∀ i, i < s.len → (s.ps i).alk (t.ps i) = true)) := by show s.alk t = _; rw [alk_eq, hq]; rfl
    have hl := lk_len hq
    rw [hq] at H1
    have hP := fun (w5 : World) (B5 : Below w2.heap.size w2 w5) => HP w5 4000 (K0.kept B5) hL (Nat.le_refl _) hl ((Below.next BK B5).mono (Nat.le_of_eq HZ.out.symm))
    clear hl hq HP K0
    refine wp_region_gr_tail 12 (by kernel_rfl) (by kernel_rfl) ?_
    simp only [List.take, List.drop]
    iterate 1 go_big_quiet_step (fail)
    go_big_quiet_want
    refine quiet_load_ex (.tmp 4) rfl _ _ (by kernel_rfl) s hC ?_
    simp only [Act.put, List.setIfInBounds_toArray, List.set_cons_succ, List.set_cons_zero]
    go_big_quiet_on
    go_big_quiet_want
    refine quiet_load_ex (.tmp 5) rfl _ _ (by kernel_rfl) t hD ?_
    simp only [Act.put, List.setIfInBounds_toArray, List.set_cons_succ, List.set_cons_zero]
    go_big_quiet_on
    iterate 4 go_big_quiet_step ((go_at_call 13; exact Calls.gr _ (H1 _ (Below.next BK (Gr.bl _)))))
    go_big_quiet_want
    refine quiet_load_ex (.tmp 4) rfl _ _ (by kernel_rfl) s hC ?_
    simp only [Act.put, List.setIfInBounds_toArray, List.set_cons_succ, List.set_cons_zero]
    go_big_quiet_on
    iterate 2 go_big_quiet_step ((go_at_call 12; exact Calls.gr _ (epartsV s _)))
    go_big_quiet_want
    refine quiet_load_ex (.tmp 5) rfl _ _ (by kernel_rfl) t hD ?_
    simp only [Act.put, List.setIfInBounds_toArray, List.set_cons_succ, List.set_cons_zero]
    go_big_quiet_on
    iterate 1 go_big_quiet_step ((go_at_call 12; exact Calls.gr _ (epartsV t _)))
    refine wpQuiet_nil ?_
    rintro w4 ⟨q4, rfl⟩
    have B4 := q4.bl
    generalize q4.w = w4 at B4 ⊢
    clear q4 hC hD hNE H1
    have H3 := hP w4 B4
    clear hP
    go_wp2_with fail
    refine H3.mono ?_
    intro e w6 hVP
    obtain ⟨r, rfl, hr, B6, L6, W6, hr6⟩ := hVP
    have HR : Hid (r = decide (∀ i, i < s.len → (s.ps i).alk (t.ps i) = true)) := hr
    clear hr hr6 H3
    cases r
    · go_wp2
      go_ret
      exact ⟨ret_bool (HR.out.trans HQ.out.symm), Below.next HB.out B6⟩
    · have k2 := W6.c3
      go_wp2
      go_loopw [10] (fun _ wr => wr = w6) (fun _ _ => 0)
      case atStart => rfl
      case round =>
        subst hrel
        go_wp2
        go_ret
        exact ⟨ret_bool (HR.out.trans HQ.out.symm), Below.next HB.out B6⟩
end Go.Proofs.YtcoeefckldkbeaaGreatDoor

/- Layer 6: Same; two expressions that are alike. -/
namespace Go.Proofs.YtcoeefckldkbeaaGreatDoor
open Go Go.RowKit

set_option maxHeartbeats 1000000 in
theorem eSame_any (s t : Ex) (w : World) (hs : s.At w) (ht : t.At w) (hm : s.sm = true) (hL : s.pn2 ≤ 4000) :
    Calls Tryz.prog 6 #[.agg s.va, .agg t.va] w fun e w' => e = .returned (.bool (s.alk t)) ∧ Below w.heap.size w w' := by
  obtain ⟨X0, Y0, B0⟩ := start_ee w s t
  have h := eeverywhere_any s t _ (hs.kept B0) (ht.kept B0) hm hL
  have C := X0.c17
  have D := Y0.c17
  clear X0 Y0 hs ht hm hL
  go_enter Tryz.func6, Tryz.ntmps6
  go_wp2_with (first | (refine wpList_load_ex rfl (.tmp 2) rfl _ _ (by kernel_rfl) s C ?_) | (refine wpList_load_ex rfl (.tmp 3) rfl _ _ (by kernel_rfl) t D ?_))
  refine h.mono ?_
  rintro e w5 ⟨rfl, hb5⟩
  have B5 := Below.next B0 hb5
  clear h C D hb5
  go_wp2
  go_ret
  exact ⟨rfl, B5⟩
theorem ty_refl : ∀ s : Ty, s.same s = true := by
  intro s
  induction s with
  | dm => rfl
  | mk k l h e ao b o len cap ps ih =>
    rw [same_eq]
    unfold hdEq
    simp only [beq_self_eq_true, Bool.and_self, Bool.true_and, decide_eq_true_eq]
    exact fun i _ => ih i
theorem lk_refl (s : Ex) : s.lk s = true := by
  unfold Ex.lk
  simp [ty_refl]
theorem alk_refl : ∀ s : Ex, s.alk s = true := by
  intro s
  induction s using Ex.ind with
  | h s ih => rw [alk_eq, lk_refl, Bool.true_and]; exact decide_eq_true ih
/-- It, at another place. -/
def Ex.put16 : Ex → Int → Ex
  | .dm, _ => .dm
  | .mk k n m tx ar ty gv ao b o len cap ps _, a => .mk k n m tx ar ty gv ao b o len cap ps a
theorem alk_put (s : Ex) (a : Int) : s.alk (s.put16 a) = true := by
  rcases s with _ | ⟨k, n, m, tx, ar, ty, gv, ao, b, o, len, cap, ps, pl⟩
  · exact alk_refl .dm
  · have h := alk_refl (.mk k n m tx ar ty gv ao b o len cap ps pl)
    rw [alk_eq] at h ⊢
    exact h
theorem At_put {w : World} : ∀ {s : Ex} (a : Int), s.At w → (s.put16 a).At w
  | .dm, _, h => h
  | .mk _ _ _ _ _ _ _ _ _ _ _ _ _ _, _, h => h
theorem bex_put {w : World} {B : Nat} {s : Ex} (h : Bex w B s) (a : Int) (hA : s.At w) : Bex (w.setCell ⟨B, 16, none⟩ (.int .i64 a)) B (s.put16 a) := by
  rcases s with _ | ⟨k, n, m, tx, ar, ty, gv, ao, b, o, len, cap, ps, pl⟩
  · exact hA.elim
  · have e : ∀ (q : Nat) (v : Value), q ≠ 16 → w.cell? ⟨B, q, none⟩ = some v → (w.setCell ⟨B, 16, none⟩ (.int .i64 a)).cell? ⟨B, q, none⟩ = some v := fun q v hq hc => by
      rw [World.cell?_setCell_other _ _ _ _ (by simp; try omega)]; exact hc
    exact ⟨e 0 _ (by omega) h.c0, e 1 _ (by omega) h.c1, e 2 _ (by omega) h.c2, e 3 _ (by omega) h.c3, e 4 _ (by omega) h.c4, e 5 _ (by omega) h.c5, e 6 _ (by omega) h.c6, e 7 _ (by omega) h.c7, e 8 _ (by omega) h.c8, e 9 _ (by omega) h.c9, e 10 _ (by omega) h.c10, e 11 _ (by omega) h.c11, e 12 _ (by omega) h.c12, e 13 _ (by omega) h.c13, e 14 _ (by omega) h.c14, e 15 _ (by omega) h.c15, World.cell?_setCell_same _ _ _ h.c16⟩
end Go.Proofs.YtcoeefckldkbeaaGreatDoor
