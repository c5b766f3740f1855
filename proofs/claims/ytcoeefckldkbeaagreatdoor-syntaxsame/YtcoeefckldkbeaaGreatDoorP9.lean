/- Layer 6: expressions, as they lie in memory; what is told of them. -/
import Derived.Test.YtcoeefckldkbeaaGreatDoorP8
import Derived.Deep.MidRow
namespace Go.Proofs.YtcoeefckldkbeaaGreatDoor
open Go.RowKit

/-- An expression: its numbers, texts and types, where its Parts lie, they, and its place ('dm': none; it lies nowhere). -/
inductive Ex where
  | dm : Ex
  | mk (k n m : Int) (tx ar : ByteArray) (ty gv : Ty) (ao : Option Addr) (b o len cap : Nat) (ps : Nat → Ex) (pl : Int) : Ex
def Ex.k : Ex → Int | .dm => 0 | .mk k _ _ _ _ _ _ _ _ _ _ _ _ _ => k
def Ex.n : Ex → Int | .dm => 0 | .mk _ n _ _ _ _ _ _ _ _ _ _ _ _ => n
def Ex.m : Ex → Int | .dm => 0 | .mk _ _ m _ _ _ _ _ _ _ _ _ _ _ => m
def Ex.tx : Ex → ByteArray | .dm => ⟨#[]⟩ | .mk _ _ _ tx _ _ _ _ _ _ _ _ _ _ => tx
def Ex.ar : Ex → ByteArray | .dm => ⟨#[]⟩ | .mk _ _ _ _ ar _ _ _ _ _ _ _ _ _ => ar
def Ex.ty : Ex → Ty | .dm => .dm | .mk _ _ _ _ _ ty _ _ _ _ _ _ _ _ => ty
def Ex.gv : Ex → Ty | .dm => .dm | .mk _ _ _ _ _ _ gv _ _ _ _ _ _ _ => gv
def Ex.ao : Ex → Option Addr | .dm => none | .mk _ _ _ _ _ _ _ ao _ _ _ _ _ _ => ao
def Ex.b : Ex → Nat | .dm => 0 | .mk _ _ _ _ _ _ _ _ b _ _ _ _ _ => b
def Ex.o : Ex → Nat | .dm => 0 | .mk _ _ _ _ _ _ _ _ _ o _ _ _ _ => o
def Ex.len : Ex → Nat | .dm => 0 | .mk _ _ _ _ _ _ _ _ _ _ len _ _ _ => len
def Ex.cap : Ex → Nat | .dm => 0 | .mk _ _ _ _ _ _ _ _ _ _ _ cap _ _ => cap
def Ex.ps : Ex → Nat → Ex | .dm => fun _ => .dm | .mk _ _ _ _ _ _ _ _ _ _ _ _ ps _ => ps
def Ex.pl : Ex → Int | .dm => 0 | .mk _ _ _ _ _ _ _ _ _ _ _ _ _ pl => pl
/-- An expression's seventeen values. -/
def Ex.vs (e : Ex) : List Value := [.int .i64 e.k, .int .i64 e.n, .int .i64 e.m, .string e.tx, .string e.ar, .int .i64 e.ty.k, .int .i64 e.ty.l, .slice e.ty.ao e.ty.len e.ty.cap, .int .i64 e.ty.h, .int .i64 e.ty.e, .int .i64 e.gv.k, .int .i64 e.gv.l, .slice e.gv.ao e.gv.len e.gv.cap, .int .i64 e.gv.h, .int .i64 e.gv.e, .slice e.ao e.len e.cap, .int .i64 e.pl]
/-- Seventeen cells that hold an expression. -/
structure C17 (w : World) (b o : Nat) (e : Ex) : Prop where
  c0 : w.cell? ⟨b, o, none⟩ = some (.int .i64 e.k)
  c1 : w.cell? ⟨b, o + 1, none⟩ = some (.int .i64 e.n)
  c2 : w.cell? ⟨b, o + 2, none⟩ = some (.int .i64 e.m)
  c3 : w.cell? ⟨b, o + 3, none⟩ = some (.string e.tx)
  c4 : w.cell? ⟨b, o + 4, none⟩ = some (.string e.ar)
  c5 : w.cell? ⟨b, o + 5, none⟩ = some (.int .i64 e.ty.k)
  c6 : w.cell? ⟨b, o + 6, none⟩ = some (.int .i64 e.ty.l)
  c7 : w.cell? ⟨b, o + 7, none⟩ = some (.slice e.ty.ao e.ty.len e.ty.cap)
  c8 : w.cell? ⟨b, o + 8, none⟩ = some (.int .i64 e.ty.h)
  c9 : w.cell? ⟨b, o + 9, none⟩ = some (.int .i64 e.ty.e)
  c10 : w.cell? ⟨b, o + 10, none⟩ = some (.int .i64 e.gv.k)
  c11 : w.cell? ⟨b, o + 11, none⟩ = some (.int .i64 e.gv.l)
  c12 : w.cell? ⟨b, o + 12, none⟩ = some (.slice e.gv.ao e.gv.len e.gv.cap)
  c13 : w.cell? ⟨b, o + 13, none⟩ = some (.int .i64 e.gv.h)
  c14 : w.cell? ⟨b, o + 14, none⟩ = some (.int .i64 e.gv.e)
  c15 : w.cell? ⟨b, o + 15, none⟩ = some (.slice e.ao e.len e.cap)
  c16 : w.cell? ⟨b, o + 16, none⟩ = some (.int .i64 e.pl)
theorem C17.kept {w w' : World} {b o : Nat} {e : Ex} (h : C17 w b o e) (hb : Below w.heap.size w w') : C17 w' b o e := ⟨up hb h.c0, up hb h.c1, up hb h.c2, up hb h.c3, up hb h.c4, up hb h.c5, up hb h.c6, up hb h.c7, up hb h.c8, up hb h.c9, up hb h.c10, up hb h.c11, up hb h.c12, up hb h.c13, up hb h.c14, up hb h.c15, up hb h.c16⟩
theorem C17.range {w : World} {b o : Nat} {e : Ex} (h : C17 w b o e) : w.rangeAt b o e.vs := fun j v hv => by
  match j, hv with
  | 0, hv => rw [← hv]; exact h.c0
  | 1, hv => rw [← hv]; exact h.c1
  | 2, hv => rw [← hv]; exact h.c2
  | 3, hv => rw [← hv]; exact h.c3
  | 4, hv => rw [← hv]; exact h.c4
  | 5, hv => rw [← hv]; exact h.c5
  | 6, hv => rw [← hv]; exact h.c6
  | 7, hv => rw [← hv]; exact h.c7
  | 8, hv => rw [← hv]; exact h.c8
  | 9, hv => rw [← hv]; exact h.c9
  | 10, hv => rw [← hv]; exact h.c10
  | 11, hv => rw [← hv]; exact h.c11
  | 12, hv => rw [← hv]; exact h.c12
  | 13, hv => rw [← hv]; exact h.c13
  | 14, hv => rw [← hv]; exact h.c14
  | 15, hv => rw [← hv]; exact h.c15
  | 16, hv => rw [← hv]; exact h.c16
  | _ + 17, hv => simp [Ex.vs] at hv
theorem C17.of_range {w : World} {b o : Nat} {e : Ex} (h : w.rangeAt b o e.vs) : C17 w b o e :=
  ⟨h 0 _ rfl, h 1 _ rfl, h 2 _ rfl, h 3 _ rfl, h 4 _ rfl, h 5 _ rfl, h 6 _ rfl, h 7 _ rfl, h 8 _ rfl, h 9 _ rfl, h 10 _ rfl, h 11 _ rfl, h 12 _ rfl, h 13 _ rfl, h 14 _ rfl, h 15 _ rfl, h 16 _ rfl⟩
/-- A variable that holds an expression, at a block's beginning. -/
structure Bex (w : World) (B : Nat) (e : Ex) : Prop where
  c0 : w.cell? ⟨B, 0, none⟩ = some (.int .i64 e.k)
  c1 : w.cell? ⟨B, 1, none⟩ = some (.int .i64 e.n)
  c2 : w.cell? ⟨B, 2, none⟩ = some (.int .i64 e.m)
  c3 : w.cell? ⟨B, 3, none⟩ = some (.string e.tx)
  c4 : w.cell? ⟨B, 4, none⟩ = some (.string e.ar)
  c5 : w.cell? ⟨B, 5, none⟩ = some (.int .i64 e.ty.k)
  c6 : w.cell? ⟨B, 6, none⟩ = some (.int .i64 e.ty.l)
  c7 : w.cell? ⟨B, 7, none⟩ = some (.slice e.ty.ao e.ty.len e.ty.cap)
  c8 : w.cell? ⟨B, 8, none⟩ = some (.int .i64 e.ty.h)
  c9 : w.cell? ⟨B, 9, none⟩ = some (.int .i64 e.ty.e)
  c10 : w.cell? ⟨B, 10, none⟩ = some (.int .i64 e.gv.k)
  c11 : w.cell? ⟨B, 11, none⟩ = some (.int .i64 e.gv.l)
  c12 : w.cell? ⟨B, 12, none⟩ = some (.slice e.gv.ao e.gv.len e.gv.cap)
  c13 : w.cell? ⟨B, 13, none⟩ = some (.int .i64 e.gv.h)
  c14 : w.cell? ⟨B, 14, none⟩ = some (.int .i64 e.gv.e)
  c15 : w.cell? ⟨B, 15, none⟩ = some (.slice e.ao e.len e.cap)
  c16 : w.cell? ⟨B, 16, none⟩ = some (.int .i64 e.pl)
theorem Bex.kept {w w' : World} {B : Nat} {e : Ex} (h : Bex w B e) (hb : Below w.heap.size w w') : Bex w' B e := ⟨up hb h.c0, up hb h.c1, up hb h.c2, up hb h.c3, up hb h.c4, up hb h.c5, up hb h.c6, up hb h.c7, up hb h.c8, up hb h.c9, up hb h.c10, up hb h.c11, up hb h.c12, up hb h.c13, up hb h.c14, up hb h.c15, up hb h.c16⟩
def exO (e : Ex) : Obj := .cells #[.int .i64 e.k, .int .i64 e.n, .int .i64 e.m, .string e.tx, .string e.ar, .int .i64 e.ty.k, .int .i64 e.ty.l, .slice e.ty.ao e.ty.len e.ty.cap, .int .i64 e.ty.h, .int .i64 e.ty.e, .int .i64 e.gv.k, .int .i64 e.gv.l, .slice e.gv.ao e.gv.len e.gv.cap, .int .i64 e.gv.h, .int .i64 e.gv.e, .slice e.ao e.len e.cap, .int .i64 e.pl] 27
theorem Bex.new (w : World) (e : Ex) : Bex (w.alloc (exO e)) w.heap.size e := by
  constructor <;> simp [exO]
theorem Bex.range {w : World} {B : Nat} {e : Ex} (h : Bex w B e) : w.rangeAt B 0 e.vs := fun j v hv => by
  rw [Nat.zero_add]
  match j, hv with
  | 0, hv => rw [← hv]; exact h.c0
  | 1, hv => rw [← hv]; exact h.c1
  | 2, hv => rw [← hv]; exact h.c2
  | 3, hv => rw [← hv]; exact h.c3
  | 4, hv => rw [← hv]; exact h.c4
  | 5, hv => rw [← hv]; exact h.c5
  | 6, hv => rw [← hv]; exact h.c6
  | 7, hv => rw [← hv]; exact h.c7
  | 8, hv => rw [← hv]; exact h.c8
  | 9, hv => rw [← hv]; exact h.c9
  | 10, hv => rw [← hv]; exact h.c10
  | 11, hv => rw [← hv]; exact h.c11
  | 12, hv => rw [← hv]; exact h.c12
  | 13, hv => rw [← hv]; exact h.c13
  | 14, hv => rw [← hv]; exact h.c14
  | 15, hv => rw [← hv]; exact h.c15
  | 16, hv => rw [← hv]; exact h.c16
  | _ + 17, hv => simp [Ex.vs] at hv
theorem Bex.of_range {w : World} {B : Nat} {e : Ex} (h : w.rangeAt B 0 e.vs) : Bex w B e := by
  have key : ∀ j v, e.vs[j]? = some v → w.cell? ⟨B, j, none⟩ = some v := fun j v hv => by have := h j v hv; rwa [Nat.zero_add] at this
  exact ⟨key 0 _ rfl, key 1 _ rfl, key 2 _ rfl, key 3 _ rfl, key 4 _ rfl, key 5 _ rfl, key 6 _ rfl, key 7 _ rfl, key 8 _ rfl, key 9 _ rfl, key 10 _ rfl, key 11 _ rfl, key 12 _ rfl, key 13 _ rfl, key 14 _ rfl, key 15 _ rfl, key 16 _ rfl⟩
theorem ex_one (e : Ex) : e.vs.toArray.all (·.oneCell') = true := by simp [Ex.vs, Value.oneCell']
theorem load_ex {w : World} {b o : Nat} {e : Ex} (h : w.rangeAt b o e.vs) : (Instr.loadAt 27 (.pointer (some ⟨b, o, none⟩))).run Tryz.prog w = .ok (.agg e.vs.toArray) w :=
  run_loadAt_mid w b o 27 e.vs _ h Tryz.underlying27 rfl (by kernel_rfl)

/-- An expression lies: its types, its texts (no longer than Go's), its Parts. -/
def Ex.At (w : World) : Ex → Prop
  | .dm => False
  | .mk _ _ _ tx ar ty gv ao b o len _ ps _ => (tx.size ≤ 9223372036854775807 ∧ ar.size ≤ 9223372036854775807) ∧ (ty.At w ∧ gv.At w) ∧ (0 < len → ao = some ⟨b, o, none⟩) ∧ len ≤ 9223372036854775807 ∧ ∀ i, i < len → C17 w b (o + i * 17) (ps i) ∧ Ex.At w (ps i)
theorem Ex.At.kept {w w' : World} (hb : Below w.heap.size w w') : ∀ {e : Ex}, e.At w → e.At w'
  | .dm, h => h.elim
  | .mk _ _ _ _ _ _ _ _ _ _ _ _ _ _, h => ⟨h.1, ⟨h.2.1.1.kept hb, h.2.1.2.kept hb⟩, h.2.2.1, h.2.2.2.1, fun i hi => ⟨(h.2.2.2.2 i hi).1.kept hb, Ex.At.kept hb (h.2.2.2.2 i hi).2⟩⟩
theorem Ex.At.tx {w : World} : ∀ {e : Ex}, e.At w → e.tx.size ≤ 9223372036854775807
  | .dm, h => h.elim
  | .mk _ _ _ _ _ _ _ _ _ _ _ _ _ _, h => h.1.1
theorem Ex.At.ar {w : World} : ∀ {e : Ex}, e.At w → e.ar.size ≤ 9223372036854775807
  | .dm, h => h.elim
  | .mk _ _ _ _ _ _ _ _ _ _ _ _ _ _, h => h.1.2
theorem Ex.At.ty {w : World} : ∀ {e : Ex}, e.At w → e.ty.At w
  | .dm, h => h.elim
  | .mk _ _ _ _ _ _ _ _ _ _ _ _ _ _, h => h.2.1.1
theorem Ex.At.gv {w : World} : ∀ {e : Ex}, e.At w → e.gv.At w
  | .dm, h => h.elim
  | .mk _ _ _ _ _ _ _ _ _ _ _ _ _ _, h => h.2.1.2
theorem Ex.At.nil {w : World} : ∀ {e : Ex}, e.At w → 0 < e.len → e.ao = some ⟨e.b, e.o, none⟩
  | .dm, h => h.elim
  | .mk _ _ _ _ _ _ _ _ _ _ _ _ _ _, h => h.2.2.1
theorem Ex.At.bound {w : World} : ∀ {e : Ex}, e.At w → e.len ≤ 9223372036854775807
  | .dm, h => h.elim
  | .mk _ _ _ _ _ _ _ _ _ _ _ _ _ _, h => h.2.2.2.1
theorem Ex.At.cells {w : World} : ∀ {e : Ex}, e.At w → ∀ {i}, i < e.len → C17 w e.b (e.o + i * 17) (e.ps i)
  | .dm, h, _, _ => h.elim
  | .mk _ _ _ _ _ _ _ _ _ _ _ _ _ _, h, i, hi => (h.2.2.2.2 i hi).1
theorem Ex.At.part {w : World} : ∀ {e : Ex}, e.At w → ∀ {i}, i < e.len → (e.ps i).At w
  | .dm, h, _, _ => h.elim
  | .mk _ _ _ _ _ _ _ _ _ _ _ _ _ _, h, i, hi => (h.2.2.2.2 i hi).2
/-- How many nodes. -/
def Ex.nodes : Ex → Nat
  | .dm => 1
  | .mk _ _ _ _ _ _ _ _ _ _ len _ ps _ => 1 + sumTo (fun i => Ex.nodes (ps i)) len
/-- One node as another, the number of Parts too, places apart. -/
def Ex.like (a b : Ex) : Bool := ((((((a.k == b.k) && (a.n == b.n)) && (a.m == b.m)) && (a.tx == b.tx)) && (a.ar == b.ar)) && (a.ty.same b.ty && a.gv.same b.gv)) && (a.len == b.len)
/-- All alike, places apart. -/
def Ex.same : Ex → Ex → Bool
  | .dm, t => Ex.like .dm t
  | .mk k n m tx ar ty gv ao b o len cap ps pl, t => Ex.like (.mk k n m tx ar ty gv ao b o len cap ps pl) t && decide (∀ i, i < len → Ex.same (ps i) (t.ps i) = true)
/-- Its types, and all texts, are of a size that the statements look at. -/
def Ex.sm : Ex → Bool
  | .dm => true
  | .mk _ _ _ tx ar ty gv _ _ _ len _ ps _ => (((decide (ty.nodes ≤ 40) && decide (gv.nodes ≤ 40)) && decide (tx.size ≤ 1000)) && decide (ar.size ≤ 1000)) && decide (∀ i, i < len → Ex.sm (ps i) = true)
/-- How deep it nests. -/
def mxTo (f : Nat → Nat) : Nat → Nat
  | 0 => 0
  | k + 1 => max (mxTo f k) (f k)
def Ex.nest : Ex → Nat
  | .dm => 1
  | .mk _ _ _ _ _ _ _ _ _ _ len _ ps _ => 1 + mxTo (fun i => Ex.nest (ps i)) len
end Go.Proofs.YtcoeefckldkbeaaGreatDoor

/- Layer 6: an expression's seventeen values as one letter; a new variable that holds them. -/
namespace Go.Proofs.YtcoeefckldkbeaaGreatDoor
open Go.RowKit

/-- An expression's values, as a row. -/
def Ex.va (e : Ex) : Array Value := e.vs.toArray
theorem Ex.va_one (e : Ex) : e.va.all (·.oneCell') = true := ex_one e
theorem Ex.va_size (e : Ex) : e.va.size = 17 := rfl
theorem Ex.va_list (e : Ex) : e.va.toList = e.vs := rfl
theorem Bex.newV (w : World) (e : Ex) : Bex (w.alloc (.cells e.va 27)) w.heap.size e := Bex.new w e
theorem load_exV {w : World} {b o : Nat} {e : Ex} (h : C17 w b o e) : (Instr.loadAt 27 (.pointer (some ⟨b, o, none⟩))).run Tryz.prog w = .ok (.agg e.va) w := load_ex h.range
theorem load_exB {w : World} {B : Nat} {e : Ex} (h : Bex w B e) : (Instr.loadAt 27 (.pointer (some ⟨B, 0, none⟩))).run Tryz.prog w = .ok (.agg e.va) w := load_ex h.range
theorem Ex.ind {P : Ex → Prop} (h : ∀ t : Ex, (∀ i, i < t.len → P (t.ps i)) → P t) : ∀ t, P t := by
  intro t
  induction t with
  | dm => exact h _ (fun i hi => absurd hi (Nat.not_lt_zero _))
  | mk k n m tx ar ty gv ao b o len cap ps pl ih => exact h _ (fun i _ => ih i)

theorem setCells_new (w : World) (t : TypeId) : ∀ (vs pre post : List Value), post.length = vs.length → (w.alloc (.cells (pre ++ post).toArray t)).setCells w.heap.size pre.length vs = w.alloc (.cells (pre ++ vs).toArray t)
  | [], pre, post, h => by
    have e : post = [] := List.eq_nil_of_length_eq_zero h
    subst e; rfl
  | v :: vs, pre, [], h => by simp at h
  | v :: vs, pre, p :: post, h => by
    rw [World.setCells, World.setCell_alloc_new]
    have e : ((pre ++ p :: post).toArray.setIfInBounds pre.length v) = ((pre ++ [v]) ++ post).toArray := by
      apply Array.toList_inj.1
      simp
    have h2 : post.length = vs.length := by simpa using h
    have k := setCells_new w t vs (pre ++ [v]) post h2
    rw [e]
    have e2 : (pre ++ [v]).length = pre.length + 1 := by simp
    rw [e2] at k
    rw [k]
    simp

/-- A new variable, filled at once. -/
theorem wpList_new_mid {ops : Array Oper} {rest : List Oper} {o1 o2 : Oper} {a : Act} {w : World} {Q : Exit → Act → World → Prop} (hg1 : o1.guard = none) (hg2 : o2.guard = none) (ty : TypeId) (h1 : o1.op = .alloc ty) (x y : Operand) (h2 : o2.op = .store ty x y)
    (zs : List Value) (hz : (Instr.alloc ty true (.tuple #[])).run Tryz.prog w = .ok (.pointer (some ⟨w.heap.size, 0, none⟩)) (w.alloc (.cells zs.toArray ty))) (hd2 : o2.dst = none)
    (cells : Array Value) (hx : (a.put o1.dst (.pointer (some ⟨w.heap.size, 0, none⟩))).eval x = .pointer (some ⟨w.heap.size, 0, none⟩)) (hy : (a.put o1.dst (.pointer (some ⟨w.heap.size, 0, none⟩))).eval y = .agg cells)
    (hl : zs.length = cells.size) (hi : (Tryz.prog.info? ty).map (·.size) = some cells.size) (hc : cells.all (·.oneCell') = true)
    (h : wpList Tryz.prog ops Q rest (a.put o1.dst (.pointer (some ⟨w.heap.size, 0, none⟩))) (w.alloc (.cells cells ty))) : wpList Tryz.prog ops Q (o1 :: o2 :: rest) a w := by
  refine wpList_plain hg1 fun _ hK => ?_
  unfold Oper.wp execOp
  simp only [h1, Sem.run_bind, hz, Result.andThen_ok, Sem.run_pure]
  refine hK _ _ ?_
  refine wpList_store_mid hg2 ty x y h2 w.heap.size 0 cells hx hy (fun j hj => ⟨?_, ?_⟩) hi hc ?_
  · have : j < zs.length := by omega
    show ((w.alloc (.cells zs.toArray ty)).cell? ⟨w.heap.size, 0 + j, none⟩).isSome = true
    simp [this]
  · simp
  · have k := setCells_new w ty cells.toList [] zs (by simpa using hl)
    simp only [List.nil_append, List.length_nil] at k
    rw [k, hd2]
    exact h

theorem wpList_load_ex {ops : Array Oper} {rest : List Oper} {op : Oper} {a : Act} {w : World} {Q : Exit → Act → World → Prop} (hgd : op.guard = none) (x : Operand) (ho : op.op = .load 27 x)
    (b o : Nat) (hx : a.eval x = .pointer (some ⟨b, o, none⟩)) (e : Ex) (hc : C17 w b o e) (h : wpList Tryz.prog ops Q rest (a.put op.dst (.agg e.va)) w) : wpList Tryz.prog ops Q (op :: rest) a w :=
  wpList_load_mid hgd 27 x ho b o hx e.vs _ hc.range Tryz.underlying27 rfl (by kernel_rfl) h
theorem wpList_load_exB {ops : Array Oper} {rest : List Oper} {op : Oper} {a : Act} {w : World} {Q : Exit → Act → World → Prop} (hgd : op.guard = none) (x : Operand) (ho : op.op = .load 27 x)
    (B : Nat) (hx : a.eval x = .pointer (some ⟨B, 0, none⟩)) (e : Ex) (hc : Bex w B e) (h : wpList Tryz.prog ops Q rest (a.put op.dst (.agg e.va)) w) : wpList Tryz.prog ops Q (op :: rest) a w :=
  wpList_load_mid hgd 27 x ho B 0 hx e.vs _ hc.range Tryz.underlying27 rfl (by kernel_rfl) h
def zEx : List Value := [.int .i64 0, .int .i64 0, .int .i64 0, .string ⟨#[]⟩, .string ⟨#[]⟩, .int .i64 0, .int .i64 0, .slice none 0 0, .int .i64 0, .int .i64 0, .int .i64 0, .int .i64 0, .slice none 0 0, .int .i64 0, .int .i64 0, .slice none 0 0, .int .i64 0]
theorem alloc_ex (w : World) : (Instr.alloc 27 true (.tuple #[])).run Tryz.prog w = .ok (.pointer (some ⟨w.heap.size, 0, none⟩)) (w.alloc (.cells zEx.toArray 27)) := by
  have hz : (Tryz.prog.info? 27).map (·.zero) = some (some (.agg zEx.toArray)) := by kernel_rfl
  cases hq : Tryz.prog.info? 27 with
  | none => rw [hq] at hz; simp at hz
  | some i =>
    rw [hq] at hz
    simp at hz
    simp [Instr.alloc, newVar, newRow, zeroValue, typeInfo, hq, hz, Value.cells]
theorem wpList_new_ex {ops : Array Oper} {rest : List Oper} {o1 o2 : Oper} {a : Act} {w : World} {Q : Exit → Act → World → Prop} (hg1 : o1.guard = none) (hg2 : o2.guard = none) (h1 : o1.op = .alloc 27) (x y : Operand) (h2 : o2.op = .store 27 x y) (hd2 : o2.dst = none)
    (hx : (a.put o1.dst (.pointer (some ⟨w.heap.size, 0, none⟩))).eval x = .pointer (some ⟨w.heap.size, 0, none⟩)) (e : Ex) (hy : (a.put o1.dst (.pointer (some ⟨w.heap.size, 0, none⟩))).eval y = .agg e.va)
    (h : wpList Tryz.prog ops Q rest (a.put o1.dst (.pointer (some ⟨w.heap.size, 0, none⟩))) (w.alloc (.cells e.va 27))) : wpList Tryz.prog ops Q (o1 :: o2 :: rest) a w :=
  wpList_new_mid hg1 hg2 27 h1 x y h2 zEx (alloc_ex w) hd2 e.va hx hy rfl (by kernel_rfl) e.va_one h
end Go.Proofs.YtcoeefckldkbeaaGreatDoor

/- Layer 6: the counts of nodes, the sizes. -/
namespace Go.Proofs.YtcoeefckldkbeaaGreatDoor
open Go.RowKit

set_option maxRecDepth 100000 in
set_option maxHeartbeats 2000000 in
theorem rexNodes_any : ∀ (t : Ex) (w : World), t.At w → Calls Tryz.prog 9 #[.agg #[.int .i64 t.k, .int .i64 t.n, .int .i64 t.m, .string t.tx, .string t.ar, .int .i64 t.ty.k, .int .i64 t.ty.l, .slice t.ty.ao t.ty.len t.ty.cap, .int .i64 t.ty.h, .int .i64 t.ty.e, .int .i64 t.gv.k, .int .i64 t.gv.l, .slice t.gv.ao t.gv.len t.gv.cap, .int .i64 t.gv.h, .int .i64 t.gv.e, .slice t.ao t.len t.cap, .int .i64 t.pl]] w fun e w' => e = .returned (.int .i64 (min t.nodes 2001 : Nat)) ∧ Below w.heap.size w w' := by
  intro t
  induction t with
  | dm => intro w hAt; exact hAt.elim
  | mk k n m tx ar ty gv ao b o len cap ps pl ih =>
    intro w hAt
    show Calls Tryz.prog 9 #[.agg #[.int .i64 k, .int .i64 n, .int .i64 m, .string tx, .string ar, .int .i64 ty.k, .int .i64 ty.l, .slice ty.ao ty.len ty.cap, .int .i64 ty.h, .int .i64 ty.e, .int .i64 gv.k, .int .i64 gv.l, .slice gv.ao gv.len gv.cap, .int .i64 gv.h, .int .i64 gv.e, .slice ao len cap, .int .i64 pl]] w fun r w' => r = .returned (.int .i64 (min (1 + sumTo (fun i => (ps i).nodes) len) 2001 : Nat)) ∧ Below w.heap.size w w'
    have X0 : (w.alloc (.cells #[.int .i64 k, .int .i64 n, .int .i64 m, .string tx, .string ar, .int .i64 ty.k, .int .i64 ty.l, .slice ty.ao ty.len ty.cap, .int .i64 ty.h, .int .i64 ty.e, .int .i64 gv.k, .int .i64 gv.l, .slice gv.ao gv.len gv.cap, .int .i64 gv.h, .int .i64 gv.e, .slice ao len cap, .int .i64 pl] 27)).cell? ⟨w.heap.size, 15, none⟩ = some (.slice ao len cap) := (Bex.new w (.mk k n m tx ar ty gv ao b o len cap ps pl)).c15
    have hb : len ≤ 9223372036854775807 := hAt.bound
    have hnil : 0 < len → ao = some ⟨b, o, none⟩ := hAt.nil
    have B0 := below_alloc w (.cells #[.int .i64 k, .int .i64 n, .int .i64 m, .string tx, .string ar, .int .i64 ty.k, .int .i64 ty.l, .slice ty.ao ty.len ty.cap, .int .i64 ty.h, .int .i64 ty.e, .int .i64 gv.k, .int .i64 gv.l, .slice gv.ao gv.len gv.cap, .int .i64 gv.h, .int .i64 gv.e, .slice ao len cap, .int .i64 pl] 27)
    have hA1 := hAt.kept B0
    have HS : Hid ((w.alloc (.cells #[.int .i64 k, .int .i64 n, .int .i64 m, .string tx, .string ar, .int .i64 ty.k, .int .i64 ty.l, .slice ty.ao ty.len ty.cap, .int .i64 ty.h, .int .i64 ty.e, .int .i64 gv.k, .int .i64 gv.l, .slice gv.ao gv.len gv.cap, .int .i64 gv.h, .int .i64 gv.e, .slice ao len cap, .int .i64 pl] 27)).cell? ⟨w.heap.size, 15, none⟩ = some (.slice ao len cap) ∧ Ex.At (w.alloc (.cells #[.int .i64 k, .int .i64 n, .int .i64 m, .string tx, .string ar, .int .i64 ty.k, .int .i64 ty.l, .slice ty.ao ty.len ty.cap, .int .i64 ty.h, .int .i64 ty.e, .int .i64 gv.k, .int .i64 gv.l, .slice gv.ao gv.len gv.cap, .int .i64 gv.h, .int .i64 gv.e, .slice ao len cap, .int .i64 pl] 27)) (.mk k n m tx ar ty gv ao b o len cap ps pl) ∧ Below w.heap.size w (w.alloc (.cells #[.int .i64 k, .int .i64 n, .int .i64 m, .string tx, .string ar, .int .i64 ty.k, .int .i64 ty.l, .slice ty.ao ty.len ty.cap, .int .i64 ty.h, .int .i64 ty.e, .int .i64 gv.k, .int .i64 gv.l, .slice gv.ao gv.len gv.cap, .int .i64 gv.h, .int .i64 gv.e, .slice ao len cap, .int .i64 pl] 27))) := ⟨X0, hA1, B0⟩
    clear X0 hA1 B0 hAt
    go_enter Tryz.func9, Tryz.ntmps9
    go_wp2
    go_loopw [3, 4] (fun mm i wr => ∃ (q j : Nat), j ≤ len ∧ mm = .int .i64 q ∧ i = .int .i64 j ∧ q ≤ 4001 ∧ min q 2001 = min (1 + sumTo (fun i => (ps i).nodes) j) 2001 ∧ wr.cell? ⟨w.heap.size, 15, none⟩ = some (.slice ao len cap) ∧ Ex.At wr (.mk k n m tx ar ty gv ao b o len cap ps pl) ∧ Below w.heap.size w wr) (fun _ i _ => len - (intOf i).toNat)
    case atStart => exact ⟨1, 0, Nat.zero_le _, rfl, rfl, by omega, rfl, HS.out⟩
    case round =>
      obtain ⟨q, j, hj, rfl, rfl, hq, hm, x2, hA, hB⟩ := hrel
      clear HS
      have HS : Hid (wr.cell? ⟨w.heap.size, 15, none⟩ = some (.slice ao len cap) ∧ Ex.At wr (.mk k n m tx ar ty gv ao b o len cap ps pl) ∧ Below w.heap.size w wr) := ⟨x2, hA, hB⟩
      have HQ : Hid (min q 2001 = min (1 + sumTo (fun i => (ps i).nodes) j) 2001) := hm
      clear hm hB
      by_cases hlt : j < len
      · have ij : (j : Int) < len := by omega
        by_cases h40 : q ≤ 2000
        · have d40 : decide ((q : Int) ≤ 2000) = true := by simp; omega
          have a0 := hnil (by omega)
          subst a0
          have C : C17 wr b (o + j * 17) (ps j) := hA.cells hlt
          have P : (ps j).At wr := hA.part hlt
          obtain ⟨y0, y1, y2, y3, y4, y5, y6, y7, y8, y9, y10, y11, y12, y13, y14, y15, y16⟩ := C
          clear hA
          go_wp2_with fail
          refine (ih j _ P).mono ?_
          rintro r w1 ⟨rfl, hb1⟩
          clear y0 y1 y2 y3 y4 y5 y6 y7 y8 y9 y10 y11 y12 y13 y14 y15 y16 x2
          go_wp2
          go_roundw
          case rel => exact ⟨q + min (ps j).nodes 2001, j + 1, by omega, by rw [Int.natCast_add], by go_num, by omega, by have := HQ.out; simp only [sumTo]; omega, up hb1 HS.out.1, HS.out.2.1.kept hb1, HS.out.2.2.trans (hb1.mono HS.out.2.2.size)⟩
          case measure => simp [intOf]; omega
        · have d40 : decide ((q : Int) ≤ 2000) = false := by simp; omega
          have HE : Hid (min (1 + sumTo (fun i => (ps i).nodes) len) 2001 = 2001) := by
            show min (1 + sumTo (fun i => (ps i).nodes) len) 2001 = 2001
            have := HQ.out
            have h2 := sumTo_mono (fun i => (ps i).nodes) hj
            omega
          have HF : Hid (min q 2001 = 2001) := by show min q 2001 = 2001; omega
          go_wp2
          all_goals go_ret
          all_goals exact ⟨ret_int (by have h1 := HF.out; have h2 := HE.out; omega), HS.out.2.2⟩
      · have e : len = j := by omega
        subst e
        have d : ¬ (len : Int) < len := by omega
        go_wp2
        all_goals go_ret
        all_goals exact ⟨ret_int (by have h1 := HQ.out; omega), HS.out.2.2⟩

set_option maxHeartbeats 1000000 in
theorem epartsOf_any (t : Ex) (w : World) :
    Calls Tryz.prog 12 #[.agg #[.int .i64 t.k, .int .i64 t.n, .int .i64 t.m, .string t.tx, .string t.ar, .int .i64 t.ty.k, .int .i64 t.ty.l, .slice t.ty.ao t.ty.len t.ty.cap, .int .i64 t.ty.h, .int .i64 t.ty.e, .int .i64 t.gv.k, .int .i64 t.gv.l, .slice t.gv.ao t.gv.len t.gv.cap, .int .i64 t.gv.h, .int .i64 t.gv.e, .slice t.ao t.len t.cap, .int .i64 t.pl]] w fun e w' => e = .returned (.slice t.ao t.len t.cap) ∧ Below w.heap.size w w' := by
  have B0 := below_alloc w (.cells #[.int .i64 t.k, .int .i64 t.n, .int .i64 t.m, .string t.tx, .string t.ar, .int .i64 t.ty.k, .int .i64 t.ty.l, .slice t.ty.ao t.ty.len t.ty.cap, .int .i64 t.ty.h, .int .i64 t.ty.e, .int .i64 t.gv.k, .int .i64 t.gv.l, .slice t.gv.ao t.gv.len t.gv.cap, .int .i64 t.gv.h, .int .i64 t.gv.e, .slice t.ao t.len t.cap, .int .i64 t.pl] 27)
  have x2 : (w.alloc (.cells #[.int .i64 t.k, .int .i64 t.n, .int .i64 t.m, .string t.tx, .string t.ar, .int .i64 t.ty.k, .int .i64 t.ty.l, .slice t.ty.ao t.ty.len t.ty.cap, .int .i64 t.ty.h, .int .i64 t.ty.e, .int .i64 t.gv.k, .int .i64 t.gv.l, .slice t.gv.ao t.gv.len t.gv.cap, .int .i64 t.gv.h, .int .i64 t.gv.e, .slice t.ao t.len t.cap, .int .i64 t.pl] 27)).cell? ⟨w.heap.size, 15, none⟩ = some (.slice t.ao t.len t.cap) := (Bex.new w t).c15
  go_enter Tryz.func12, Tryz.ntmps12
  go_wp2
  go_ret
  exact ⟨rfl, B0⟩
end Go.Proofs.YtcoeefckldkbeaaGreatDoor

/- Layer 6: walk's count of an expression's nodes. -/
namespace Go.Proofs.YtcoeefckldkbeaaGreatDoor
open Go.RowKit

theorem Ex.At.nodes_eq {w : World} : ∀ {t : Ex}, t.At w → t.nodes = 1 + sumTo (fun i => (t.ps i).nodes) t.len
  | .dm, h => h.elim
  | .mk _ _ _ _ _ _ _ _ _ _ _ _ _ _, _ => rfl
theorem epartsV (t : Ex) (w : World) : Calls Tryz.prog 12 #[.agg t.va] w fun e w' => e = .returned (.slice t.ao t.len t.cap) ∧ Below w.heap.size w w' := epartsOf_any t w

set_option maxRecDepth 100000 in
set_option maxHeartbeats 4000000 in
theorem ecount_any : ∀ (t : Ex) (a : Nat) (w : World), a ≤ 2000 → t.At w → Calls Tryz.prog 85 #[.agg t.va, .func (.func 12) #[] #[], .int .i64 2000, .int .i64 a] w fun e w' => e = .returned (.int .i64 (min (a + t.nodes) 2001 : Nat)) ∧ Below w.heap.size w w' := by
  intro t
  induction t using Ex.ind with
  | h t ih =>
    intro a w ha hAt
    have HN : Hid (t.nodes = 1 + sumTo (fun i => (t.ps i).nodes) t.len) := hAt.nodes_eq
    have B0 := below_alloc w (.cells t.va 27)
    have X0 := Bex.newV w t
    have hb : t.len ≤ 9223372036854775807 := hAt.bound
    have hnil : 0 < t.len → t.ao = some ⟨t.b, t.o, none⟩ := hAt.nil
    have HS : Hid (Ex.At (w.alloc (.cells t.va 27)) t ∧ Below w.heap.size w (w.alloc (.cells t.va 27))) := ⟨hAt.kept B0, B0⟩
    have hP := epartsV t (w.alloc (.cells t.va 27))
    clear B0 hAt
    generalize t.nodes = N at HN ⊢
    generalize t.ao = ao at hnil hP
    generalize hlen : t.len = len at *
    have HL : Hid (t.len = len) := hlen
    clear hlen
    generalize t.cap = cap at hP
    go_enter Tryz.func85, Tryz.ntmps85
    go_wp2_with (refine wpList_load_exB rfl (.tmp 4) rfl _ rfl t X0 ?_)
    refine hP.mono ?_
    rintro _ w5 ⟨rfl, hb5⟩
    have HS : Hid (Ex.At w5 t ∧ Below w.heap.size w w5) := ⟨HS.out.1.kept hb5, Below.next HS.out.2 hb5⟩
    clear hb5 hP X0
    go_wp2
    go_loopw [9, 18] (fun mm i wr => ∃ (q j : Nat), j ≤ len ∧ mm = .int .i64 q ∧ i = .int .i64 j ∧ q = min (a + (1 + sumTo (fun i => (t.ps i).nodes) j)) 2001 ∧ Ex.At wr t ∧ Below w.heap.size w wr) (fun _ i _ => len - (intOf i).toNat)
    case atStart => exact ⟨a + 1, 0, Nat.zero_le _, by rw [Int.natCast_add]; rfl, rfl, by simp only [sumTo]; omega, HS.out⟩
    case round =>
      obtain ⟨q, j, hj, rfl, rfl, hm, hA, hB⟩ := hrel
      clear HS
      have HQ : Hid (q = min (a + (1 + sumTo (fun i => (t.ps i).nodes) j)) 2001) := hm
      clear hm
      by_cases hlt : j < len
      · have ij : (j : Int) < len := by omega
        have a0 := hnil (by omega)
        subst a0
        have HlT : j < t.len := by rw [HL.out]; exact hlt
        have C : C17 wr t.b (t.o + j * 17) (t.ps j) := hA.cells HlT
        have P : (t.ps j).At wr := hA.part HlT
        have X0 := Bex.newV wr (t.ps j)
        have B0 := below_alloc wr (.cells (t.ps j).va 27)
        have HS : Hid (Ex.At wr t ∧ Below w.heap.size w wr) := ⟨hA, hB⟩
        clear hA hB HlT
        by_cases h40 : 2000 < q
        · have d40 : decide ((2000 : Int) < q) = true := by simp; omega
          have HE : Hid (min (a + N) 2001 = q) := by
            show min (a + N) 2001 = q
            have := HQ.out
            have h2 := sumTo_mono (fun i => (t.ps i).nodes) hj
            rw [HN.out]
            omega
          go_wp2_with (first | (refine wpList_load_ex rfl (.tmp 20) rfl _ _ rfl _ C ?_) | (refine wpList_new_ex rfl rfl rfl (.tmp 11) (.tmp 21) rfl rfl rfl _ rfl ?_))
          all_goals go_ret
          all_goals exact ⟨ret_int (by have h2 := HE.out; omega), Below.next HS.out.2 B0⟩
        · have d40 : decide ((2000 : Int) < q) = false := by simp; omega
          go_wp2_with (first | (refine wpList_load_ex rfl (.tmp 20) rfl _ _ rfl _ C ?_) | (refine wpList_new_ex rfl rfl rfl (.tmp 11) (.tmp 21) rfl rfl rfl _ rfl ?_) | (refine wpList_load_exB rfl (.tmp 11) rfl _ rfl _ X0 ?_))
          refine (ih j hlt q _ (by omega) (P.kept B0)).mono ?_
          rintro r w1 ⟨rfl, hb1⟩
          have B1 := Below.next B0 hb1
          clear X0
          go_wp2
          go_roundw
          case rel => exact ⟨min (q + (t.ps j).nodes) 2001, j + 1, by omega, rfl, by go_num, by have := HQ.out; simp only [sumTo]; omega, HS.out.1.kept B1, Below.next HS.out.2 B1⟩
          case measure => simp [intOf]; omega
      · have e : len = j := by omega
        subst e
        have d : ¬ (len : Int) < len := by omega
        go_wp2
        go_ret
        exact ⟨ret_int (by have h1 := HQ.out; have h2 := HN.out; omega), hB⟩

set_option maxHeartbeats 1000000 in
theorem eCount_any (t : Ex) (w : World) (ht : t.At w) : Calls Tryz.prog 60 #[.agg t.va, .func (.func 12) #[] #[], .int .i64 2000] w fun e w' => e = .returned (.int .i64 (min t.nodes 2001 : Nat)) ∧ Below w.heap.size w w' := by
  have B0 := below_alloc w (.cells t.va 27)
  have X0 := Bex.newV w t
  have h := ecount_any t 0 _ (by omega) (ht.kept B0)
  rw [Nat.zero_add] at h
  go_enter Tryz.func60, Tryz.ntmps60
  go_wp2_with (refine wpList_load_exB rfl (.tmp 3) rfl _ rfl t X0 ?_)
  refine h.mono ?_
  rintro r w1 ⟨rfl, hb1⟩
  clear X0
  go_wp2
  go_ret
  exact ⟨rfl, Below.next B0 hb1⟩
end Go.Proofs.YtcoeefckldkbeaaGreatDoor

/- Layer 2: Formed. -/
namespace Go.Proofs.YtcoeefckldkbeaaGreatDoor
open Go.RowKit

theorem boundsFormed_mk (n : Strs) (g : Grid) (k l h e : Int) (ao : Option Addr) (b o len cap : Nat) (ps : Nat → Ty) (w : World) (hn : n.At w) : Calls Tryz.prog 124 #[.agg #[.slice n.ao n.len n.cap, .slice g.ao g.len g.cap], .agg #[.int .i64 k, .int .i64 l, .slice ao len cap, .int .i64 h, .int .i64 e]] w fun r w' => r = .returned (.bool (bndI n.len k h e)) ∧ Below w.heap.size w w' :=
  boundsFormed_any n g (.mk k l h e ao b o len cap ps) w hn
theorem fm_eq (N : Nat) (k l h e : Int) (ao : Option Addr) (b o len cap : Nat) (ps : Nat → Ty) (d : Nat) : Ty.fm N (.mk k l h e ao b o len cap ps) d = ((((decide (d ≤ 6) && ((len : Int) == arityI k)) && inR N l) && bndI N k h e) && decide (∀ i, i < len → Ty.fm N (ps i) (d + 1) = true)) := rfl
theorem fm_cases (N : Nat) (k l h e : Int) (ao : Option Addr) (b o len cap : Nat) (ps : Nat → Ty) (d : Nat) :
    (6 < d ∧ Ty.fm N (.mk k l h e ao b o len cap ps) d = false) ∨ (d ≤ 6 ∧ ((len : Int) != arityI k) = true ∧ Ty.fm N (.mk k l h e ao b o len cap ps) d = false) ∨ (d ≤ 6 ∧ ((len : Int) != arityI k) = false ∧ inR N l = false ∧ Ty.fm N (.mk k l h e ao b o len cap ps) d = false) ∨
    (d ≤ 6 ∧ ((len : Int) != arityI k) = false ∧ inR N l = true ∧ bndI N k h e = false ∧ Ty.fm N (.mk k l h e ao b o len cap ps) d = false) ∨ (d ≤ 6 ∧ ((len : Int) != arityI k) = false ∧ inR N l = true ∧ bndI N k h e = true ∧ Ty.fm N (.mk k l h e ao b o len cap ps) d = decide (∀ i, i < len → Ty.fm N (ps i) (d + 1) = true)) := by
  rw [fm_eq]
  by_cases h1 : 6 < d
  · left; exact ⟨h1, by rw [show decide (d ≤ 6) = false from decide_eq_false (by omega)]; rfl⟩
  have h1' : decide (d ≤ 6) = true := decide_eq_true (by omega)
  right
  rw [h1']
  cases h2 : ((len : Int) == arityI k)
  · left; exact ⟨by omega, by simp [bne, h2], rfl⟩
  right
  cases h3 : inR N l
  · left; exact ⟨by omega, by simp [bne, h2], rfl, rfl⟩
  right
  cases h4 : bndI N k h e
  · left; exact ⟨by omega, by simp [bne, h2], rfl, rfl, rfl⟩
  right
  exact ⟨by omega, by simp [bne, h2], rfl, rfl, by simp⟩

set_option maxRecDepth 100000 in
set_option maxHeartbeats 8000000 in
theorem formedT_any (n : Strs) (g : Grid) : ∀ (t : Ty) (d : Nat) (w : World), d ≤ 7 → n.At w → t.At w → Calls Tryz.prog 115 #[.agg #[.slice n.ao n.len n.cap, .slice g.ao g.len g.cap], .agg #[.int .i64 t.k, .int .i64 t.l, .slice t.ao t.len t.cap, .int .i64 t.h, .int .i64 t.e], .int .i64 d] w fun e w' => e = .returned (.bool (t.fm n.len d)) ∧ Below w.heap.size w w' := by
  intro t
  induction t with
  | dm => intro d w _ _ hAt; exact hAt.elim
  | mk k l h e ao b o len cap ps ih =>
    intro d w hd hn hAt
    show Calls Tryz.prog 115 #[.agg #[.slice n.ao n.len n.cap, .slice g.ao g.len g.cap], .agg #[.int .i64 k, .int .i64 l, .slice ao len cap, .int .i64 h, .int .i64 e], .int .i64 d] w fun r w' => r = .returned (.bool (Ty.fm n.len (.mk k l h e ao b o len cap ps) d)) ∧ Below w.heap.size w w'
    obtain ⟨L0, X0, B0⟩ := start_lt w n g (.mk k l h e ao b o len cap ps)
    have hn2 := hn.kept B0
    have hA2 := hAt.kept B0
    have hb : len ≤ 9223372036854775807 := hAt.bound
    have hnil : 0 < len → ao = some ⟨b, o, none⟩ := hAt.nil
    unfold latO tyO at *
    have l0 := fun x => Gr.cell x L0.c0
    have l1 := fun x => Gr.cell x L0.c1
    have x0 := fun x => Gr.cell x X0.c0
    have x1 := fun x => Gr.cell x X0.c1
    have x2 := fun x => Gr.cell x X0.c2
    have x3 := fun x => Gr.cell x X0.c3
    have x4c := fun x => Gr.cell x X0.c4
    have hNE : Nonempty (Gr ((w.alloc (.cells #[.slice n.ao n.len n.cap, .slice g.ao g.len g.cap] 35)).alloc (.cells #[.int .i64 k, .int .i64 l, .slice ao len cap, .int .i64 h, .int .i64 e] 24))) := ⟨⟨_, Below.refl _ _⟩⟩
    simp only [Ty.k, Ty.l, Ty.h, Ty.e, Ty.ao, Ty.len, Ty.cap] at B0 L0 X0 hn2 hA2 l0 l1 x0 x1 x2 x3 x4c
    clear hn hAt
    rcases fm_cases n.len k l h e ao b o len cap ps d with ⟨h1, hE⟩ | ⟨h1, h2, hE⟩ | ⟨h1, h2, h3, hE⟩ | ⟨h1, h2, h3, h4, hE⟩ | ⟨h1, h2, h3, h4, hE⟩
    · have d1 : decide ((6 : Int) < d) = true := by simp; omega
      have HE : Hid (Ty.fm n.len (.mk k l h e ao b o len cap ps) d = false) := hE
      clear hE
      go_enter Tryz.func115, Tryz.ntmps115
      go_wp2
      refine wp_region_gr (by kernel_rfl) (by kernel_rfl) ?_
      repeat (first | go_big_quiet_step ((first | (go_at_call 122; exact Calls.gr _ (arity_any k _)) | (go_at_call 123; exact Calls.gr _ (isLabel_any n g l _ (hn2.kept (Gr.bl _)))) | (go_at_call 124; exact Calls.gr _ (boundsFormed_mk n g k l h e ao b o len cap ps _ (hn2.kept (Gr.bl _)))))))
      refine wpQuiet_nil ?_
      rintro w4 ⟨x4, rfl⟩
      have B4 := x4.bl
      generalize x4.w = w4 at B4 ⊢
      clear x4 l0 l1 x0 x1 x2 x3 x4c hNE
      go_wp2
      go_ret
      exact ⟨ret_bool HE.out.symm, Below.next B0 B4⟩
    · have d1 : decide ((6 : Int) < d) = false := by simp; omega
      have HE : Hid (Ty.fm n.len (.mk k l h e ao b o len cap ps) d = false) := hE
      clear hE
      go_enter Tryz.func115, Tryz.ntmps115
      go_wp2
      refine wp_region_gr (by kernel_rfl) (by kernel_rfl) ?_
      repeat (first | go_big_quiet_step ((first | (go_at_call 122; exact Calls.gr _ (arity_any k _)) | (go_at_call 123; exact Calls.gr _ (isLabel_any n g l _ (hn2.kept (Gr.bl _)))) | (go_at_call 124; exact Calls.gr _ (boundsFormed_mk n g k l h e ao b o len cap ps _ (hn2.kept (Gr.bl _)))))))
      refine wpQuiet_nil ?_
      rintro w4 ⟨x4, rfl⟩
      have B4 := x4.bl
      generalize x4.w = w4 at B4 ⊢
      clear x4 l0 l1 x0 x1 x2 x3 x4c hNE
      go_wp2
      go_ret
      exact ⟨ret_bool HE.out.symm, Below.next B0 B4⟩
    · have d1 : decide ((6 : Int) < d) = false := by simp; omega
      have HE : Hid (Ty.fm n.len (.mk k l h e ao b o len cap ps) d = false) := hE
      clear hE
      go_enter Tryz.func115, Tryz.ntmps115
      go_wp2
      refine wp_region_gr (by kernel_rfl) (by kernel_rfl) ?_
      repeat (first | go_big_quiet_step ((first | (go_at_call 122; exact Calls.gr _ (arity_any k _)) | (go_at_call 123; exact Calls.gr _ (isLabel_any n g l _ (hn2.kept (Gr.bl _)))) | (go_at_call 124; exact Calls.gr _ (boundsFormed_mk n g k l h e ao b o len cap ps _ (hn2.kept (Gr.bl _)))))))
      refine wpQuiet_nil ?_
      rintro w4 ⟨x4, rfl⟩
      have B4 := x4.bl
      generalize x4.w = w4 at B4 ⊢
      clear x4 l0 l1 x0 x1 x2 x3 x4c hNE
      go_wp2
      go_ret
      exact ⟨ret_bool HE.out.symm, Below.next B0 B4⟩
    · have d1 : decide ((6 : Int) < d) = false := by simp; omega
      have HE : Hid (Ty.fm n.len (.mk k l h e ao b o len cap ps) d = false) := hE
      clear hE
      go_enter Tryz.func115, Tryz.ntmps115
      go_wp2
      refine wp_region_gr (by kernel_rfl) (by kernel_rfl) ?_
      repeat (first | go_big_quiet_step ((first | (go_at_call 122; exact Calls.gr _ (arity_any k _)) | (go_at_call 123; exact Calls.gr _ (isLabel_any n g l _ (hn2.kept (Gr.bl _)))) | (go_at_call 124; exact Calls.gr _ (boundsFormed_mk n g k l h e ao b o len cap ps _ (hn2.kept (Gr.bl _)))))))
      refine wpQuiet_nil ?_
      rintro w4 ⟨x4, rfl⟩
      have B4 := x4.bl
      generalize x4.w = w4 at B4 ⊢
      clear x4 l0 l1 x0 x1 x2 x3 x4c hNE
      go_wp2
      go_ret
      exact ⟨ret_bool HE.out.symm, Below.next B0 B4⟩
    · have d1 : decide ((6 : Int) < d) = false := by simp; omega
      have HE : Hid (Ty.fm n.len (.mk k l h e ao b o len cap ps) d = decide (∀ i, i < len → Ty.fm n.len (ps i) (d + 1) = true)) := hE
      clear hE
      go_enter Tryz.func115, Tryz.ntmps115
      go_wp2
      refine wp_region_gr (by kernel_rfl) (by kernel_rfl) ?_
      repeat (first | go_big_quiet_step ((first | (go_at_call 122; exact Calls.gr _ (arity_any k _)) | (go_at_call 123; exact Calls.gr _ (isLabel_any n g l _ (hn2.kept (Gr.bl _)))) | (go_at_call 124; exact Calls.gr _ (boundsFormed_mk n g k l h e ao b o len cap ps _ (hn2.kept (Gr.bl _)))))))
      refine wpQuiet_nil ?_
      rintro w4 ⟨x4, rfl⟩
      have B4 := x4.bl
      generalize x4.w = w4 at B4 ⊢
      clear x4 l0 l1 x0 x1 x2 x3 x4c hNE
      have L4 := L0.kept B4
      have X4 := X0.kept B4
      have B5 := Below.next B0 B4
      have hn4 := hn2.kept B4
      have hA4 := hA2.kept B4
      have x2 : w4.cell? ⟨w.heap.size + 1, 2, none⟩ = some (.slice ao len cap) := X4.c2
      clear L0 X0 B4 hn2 hA2 B0
      go_wp2
      clear h2 h3 h4 d1
      go_loopw [36] (fun i wr => ∃ j : Nat, j ≤ len ∧ i = .int .i64 j ∧ (∀ i, i < j → Ty.fm n.len (ps i) (d + 1) = true) ∧ Below w4.heap.size w4 wr) (fun i _ => len - (intOf i).toNat)
      case atStart => exact ⟨0, Nat.zero_le _, rfl, fun _ h => absurd h (Nat.not_lt_zero _), Below.refl _ _⟩
      case round =>
        obtain ⟨j, hj, rfl, hdone, hB⟩ := hrel
        have HD : Hid (∀ i, i < j → Ty.fm n.len (ps i) (d + 1) = true) := hdone
        clear hdone
        by_cases hlt : j < len
        · have ij : (j : Int) < len := by omega
          have a0 := hnil (by omega)
          subst a0
          have hA5 := hA4.kept hB
          have C : C5 wr b (o + j * 5) (ps j) := hA5.cells hlt
          have P : (ps j).At wr := hA5.part hlt
          have N0 := Bx.new wr (ps j)
          have B6 := below_alloc wr (.cells #[.int .i64 (ps j).k, .int .i64 (ps j).l, .slice (ps j).ao (ps j).len (ps j).cap, .int .i64 (ps j).h, .int .i64 (ps j).e] 24)
          have L5 := (L4.kept hB).kept B6
          have y0 := C.c0
          have y1 := C.c1
          have y2 := C.c2
          have y3 := C.c3
          have y4 := C.c4
          have l0 := L5.c0
          have l1 := L5.c1
          clear C hA5
          have e1 : ((d + 1 : Nat) : Int) = d + 1 := by omega
          have hi := ih j (d + 1) _ (by omega) ((hn4.kept hB).kept B6) (P.kept B6)
          rw [e1] at hi
          go_wp2_with fail
          refine hi.mono ?_
          rintro r w6 ⟨rfl, hb6⟩
          have B7 := Below.next hB (Below.next B6 hb6)
          clear y0 y1 y2 y3 y4 l0 l1 L5 hi P
          cases hf : Ty.fm n.len (ps j) (d + 1)
          · go_wp2
            go_ret
            exact ⟨ret_bool (by rw [HE.out]; exact (decide_eq_false (fun hh => by rw [hh j hlt] at hf; cases hf)).symm), Below.next B5 B7⟩
          · go_wp2
            go_roundw
            case rel => exact ⟨j + 1, by omega, by go_num, fun i hi => (by
                by_cases e : i = j
                · subst e; exact hf
                · exact HD.out i (by omega)), B7⟩
            case measure => simp [intOf]; omega
        · have e : len = j := by omega
          subst e
          have dl : ¬ (len : Int) < len := by omega
          go_wp2
          go_ret
          exact ⟨ret_bool (by rw [HE.out]; exact (decide_eq_true HD.out).symm), Below.next B5 hB⟩
end Go.Proofs.YtcoeefckldkbeaaGreatDoor
