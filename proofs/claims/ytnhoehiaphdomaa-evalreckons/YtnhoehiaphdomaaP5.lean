/- Layer 6: expressions, as they lie in memory; what is told of them. -/
import Derived.Test.YtnhoehiaphdomaaP4
import Derived.Deep.MidRow
import Derived.LaidEql
import Derived.Carry
namespace Go.Proofs.Ytnhoehiaphdomaa
open Go.RowKit

/-- An expression: its numbers, texts and types, where its Parts lie, they, and its place ('dm': none; it lies nowhere). -/
inductive Ex where
  | dm : Ex
  | mk (k n m : Int) (tx ar : ByteArray) (ty gv : Ty) (ao : Option Addr) (b o len cap : Nat) (ps : Nat → Ex) (pl : Int) : Ex
def Ex.k : Ex → Int | .dm => 0 | .mk k _ _ _ _ _ _ _ _ _ _ _ _ _ => k
def Ex.n : Ex → Int | .dm => 0 | .mk _ n _ _ _ _ _ _ _ _ _ _ _ _ => n
def Ex.m : Ex → Int | .dm => 0 | .mk _ _ m _ _ _ _ _ _ _ _ _ _ _ => m
def Ex.tx : Ex → ByteArray | .dm => ⟨#[]⟩ | .mk _ _ _ tx _ _ _ _ _ _ _ _ _ _ => tx
def Ex.ar : Ex → ByteArray | .dm => ⟨#[]⟩ | .mk _ _ _ _ ar _ _ _ _ _ _ _ _ _ => ar
def Ex.ty : Ex → Ty | .dm => .dm | .mk _ _ _ _ _ ty _ _ _ _ _ _ _ _ => ty
def Ex.gv : Ex → Ty | .dm => .dm | .mk _ _ _ _ _ _ gv _ _ _ _ _ _ _ => gv
def Ex.ao : Ex → Option Addr | .dm => none | .mk _ _ _ _ _ _ _ ao _ _ _ _ _ _ => ao
def Ex.b : Ex → Nat | .dm => 0 | .mk _ _ _ _ _ _ _ _ b _ _ _ _ _ => b
def Ex.o : Ex → Nat | .dm => 0 | .mk _ _ _ _ _ _ _ _ _ o _ _ _ _ => o
def Ex.len : Ex → Nat | .dm => 0 | .mk _ _ _ _ _ _ _ _ _ _ len _ _ _ => len
def Ex.cap : Ex → Nat | .dm => 0 | .mk _ _ _ _ _ _ _ _ _ _ _ cap _ _ => cap
def Ex.ps : Ex → Nat → Ex | .dm => fun _ => .dm | .mk _ _ _ _ _ _ _ _ _ _ _ _ ps _ => ps
def Ex.pl : Ex → Int | .dm => 0 | .mk _ _ _ _ _ _ _ _ _ _ _ _ _ pl => pl
/-- An expression's seventeen values. -/
def Ex.vs (e : Ex) : List Value := [.int .i64 e.k, .int .i64 e.n, .int .i64 e.m, .string e.tx, .string e.ar, .int .i64 e.ty.k, .int .i64 e.ty.l, .slice e.ty.ao e.ty.len e.ty.cap, .int .i64 e.ty.h, .int .i64 e.ty.e, .int .i64 e.gv.k, .int .i64 e.gv.l, .slice e.gv.ao e.gv.len e.gv.cap, .int .i64 e.gv.h, .int .i64 e.gv.e, .slice e.ao e.len e.cap, .int .i64 e.pl]
/-- Seventeen cells that hold an expression. -/
structure C17 (w : World) (b o : Nat) (e : Ex) : Prop where
  c0 : w.cell? ⟨b, o, none⟩ = some (.int .i64 e.k)
  c1 : w.cell? ⟨b, o + 1, none⟩ = some (.int .i64 e.n)
  c2 : w.cell? ⟨b, o + 2, none⟩ = some (.int .i64 e.m)
  c3 : w.cell? ⟨b, o + 3, none⟩ = some (.string e.tx)
  c4 : w.cell? ⟨b, o + 4, none⟩ = some (.string e.ar)
  c5 : w.cell? ⟨b, o + 5, none⟩ = some (.int .i64 e.ty.k)
  c6 : w.cell? ⟨b, o + 6, none⟩ = some (.int .i64 e.ty.l)
  c7 : w.cell? ⟨b, o + 7, none⟩ = some (.slice e.ty.ao e.ty.len e.ty.cap)
  c8 : w.cell? ⟨b, o + 8, none⟩ = some (.int .i64 e.ty.h)
  c9 : w.cell? ⟨b, o + 9, none⟩ = some (.int .i64 e.ty.e)
  c10 : w.cell? ⟨b, o + 10, none⟩ = some (.int .i64 e.gv.k)
  c11 : w.cell? ⟨b, o + 11, none⟩ = some (.int .i64 e.gv.l)
  c12 : w.cell? ⟨b, o + 12, none⟩ = some (.slice e.gv.ao e.gv.len e.gv.cap)
  c13 : w.cell? ⟨b, o + 13, none⟩ = some (.int .i64 e.gv.h)
  c14 : w.cell? ⟨b, o + 14, none⟩ = some (.int .i64 e.gv.e)
  c15 : w.cell? ⟨b, o + 15, none⟩ = some (.slice e.ao e.len e.cap)
  c16 : w.cell? ⟨b, o + 16, none⟩ = some (.int .i64 e.pl)
theorem C17.kept {w w' : World} {b o : Nat} {e : Ex} (h : C17 w b o e) (hb : Below w.heap.size w w') : C17 w' b o e := ⟨up hb h.c0, up hb h.c1, up hb h.c2, up hb h.c3, up hb h.c4, up hb h.c5, up hb h.c6, up hb h.c7, up hb h.c8, up hb h.c9, up hb h.c10, up hb h.c11, up hb h.c12, up hb h.c13, up hb h.c14, up hb h.c15, up hb h.c16⟩
theorem C17.range {w : World} {b o : Nat} {e : Ex} (h : C17 w b o e) : w.rangeAt b o e.vs := fun j v hv => by
  match j, hv with
  | 0, hv => rw [← hv]; exact h.c0
  | 1, hv => rw [← hv]; exact h.c1
  | 2, hv => rw [← hv]; exact h.c2
  | 3, hv => rw [← hv]; exact h.c3
  | 4, hv => rw [← hv]; exact h.c4
  | 5, hv => rw [← hv]; exact h.c5
  | 6, hv => rw [← hv]; exact h.c6
  | 7, hv => rw [← hv]; exact h.c7
  | 8, hv => rw [← hv]; exact h.c8
  | 9, hv => rw [← hv]; exact h.c9
  | 10, hv => rw [← hv]; exact h.c10
  | 11, hv => rw [← hv]; exact h.c11
  | 12, hv => rw [← hv]; exact h.c12
  | 13, hv => rw [← hv]; exact h.c13
  | 14, hv => rw [← hv]; exact h.c14
  | 15, hv => rw [← hv]; exact h.c15
  | 16, hv => rw [← hv]; exact h.c16
  | _ + 17, hv => simp [Ex.vs] at hv
theorem C17.of_range {w : World} {b o : Nat} {e : Ex} (h : w.rangeAt b o e.vs) : C17 w b o e :=
  ⟨h 0 _ rfl, h 1 _ rfl, h 2 _ rfl, h 3 _ rfl, h 4 _ rfl, h 5 _ rfl, h 6 _ rfl, h 7 _ rfl, h 8 _ rfl, h 9 _ rfl, h 10 _ rfl, h 11 _ rfl, h 12 _ rfl, h 13 _ rfl, h 14 _ rfl, h 15 _ rfl, h 16 _ rfl⟩
/-- A variable that holds an expression, at a block's beginning. -/
structure Bex (w : World) (B : Nat) (e : Ex) : Prop where
  c0 : w.cell? ⟨B, 0, none⟩ = some (.int .i64 e.k)
  c1 : w.cell? ⟨B, 1, none⟩ = some (.int .i64 e.n)
  c2 : w.cell? ⟨B, 2, none⟩ = some (.int .i64 e.m)
  c3 : w.cell? ⟨B, 3, none⟩ = some (.string e.tx)
  c4 : w.cell? ⟨B, 4, none⟩ = some (.string e.ar)
  c5 : w.cell? ⟨B, 5, none⟩ = some (.int .i64 e.ty.k)
  c6 : w.cell? ⟨B, 6, none⟩ = some (.int .i64 e.ty.l)
  c7 : w.cell? ⟨B, 7, none⟩ = some (.slice e.ty.ao e.ty.len e.ty.cap)
  c8 : w.cell? ⟨B, 8, none⟩ = some (.int .i64 e.ty.h)
  c9 : w.cell? ⟨B, 9, none⟩ = some (.int .i64 e.ty.e)
  c10 : w.cell? ⟨B, 10, none⟩ = some (.int .i64 e.gv.k)
  c11 : w.cell? ⟨B, 11, none⟩ = some (.int .i64 e.gv.l)
  c12 : w.cell? ⟨B, 12, none⟩ = some (.slice e.gv.ao e.gv.len e.gv.cap)
  c13 : w.cell? ⟨B, 13, none⟩ = some (.int .i64 e.gv.h)
  c14 : w.cell? ⟨B, 14, none⟩ = some (.int .i64 e.gv.e)
  c15 : w.cell? ⟨B, 15, none⟩ = some (.slice e.ao e.len e.cap)
  c16 : w.cell? ⟨B, 16, none⟩ = some (.int .i64 e.pl)
theorem Bex.kept {w w' : World} {B : Nat} {e : Ex} (h : Bex w B e) (hb : Below w.heap.size w w') : Bex w' B e := ⟨up hb h.c0, up hb h.c1, up hb h.c2, up hb h.c3, up hb h.c4, up hb h.c5, up hb h.c6, up hb h.c7, up hb h.c8, up hb h.c9, up hb h.c10, up hb h.c11, up hb h.c12, up hb h.c13, up hb h.c14, up hb h.c15, up hb h.c16⟩
def exO (e : Ex) : Obj := .cells #[.int .i64 e.k, .int .i64 e.n, .int .i64 e.m, .string e.tx, .string e.ar, .int .i64 e.ty.k, .int .i64 e.ty.l, .slice e.ty.ao e.ty.len e.ty.cap, .int .i64 e.ty.h, .int .i64 e.ty.e, .int .i64 e.gv.k, .int .i64 e.gv.l, .slice e.gv.ao e.gv.len e.gv.cap, .int .i64 e.gv.h, .int .i64 e.gv.e, .slice e.ao e.len e.cap, .int .i64 e.pl] 36
theorem Bex.new (w : World) (e : Ex) : Bex (w.alloc (exO e)) w.heap.size e := by
  constructor <;> simp [exO]
theorem Bex.range {w : World} {B : Nat} {e : Ex} (h : Bex w B e) : w.rangeAt B 0 e.vs := fun j v hv => by
  rw [Nat.zero_add]
  match j, hv with
  | 0, hv => rw [← hv]; exact h.c0
  | 1, hv => rw [← hv]; exact h.c1
  | 2, hv => rw [← hv]; exact h.c2
  | 3, hv => rw [← hv]; exact h.c3
  | 4, hv => rw [← hv]; exact h.c4
  | 5, hv => rw [← hv]; exact h.c5
  | 6, hv => rw [← hv]; exact h.c6
  | 7, hv => rw [← hv]; exact h.c7
  | 8, hv => rw [← hv]; exact h.c8
  | 9, hv => rw [← hv]; exact h.c9
  | 10, hv => rw [← hv]; exact h.c10
  | 11, hv => rw [← hv]; exact h.c11
  | 12, hv => rw [← hv]; exact h.c12
  | 13, hv => rw [← hv]; exact h.c13
  | 14, hv => rw [← hv]; exact h.c14
  | 15, hv => rw [← hv]; exact h.c15
  | 16, hv => rw [← hv]; exact h.c16
  | _ + 17, hv => simp [Ex.vs] at hv
theorem Bex.of_range {w : World} {B : Nat} {e : Ex} (h : w.rangeAt B 0 e.vs) : Bex w B e := by
  have key : ∀ j v, e.vs[j]? = some v → w.cell? ⟨B, j, none⟩ = some v := fun j v hv => by have := h j v hv; rwa [Nat.zero_add] at this
  exact ⟨key 0 _ rfl, key 1 _ rfl, key 2 _ rfl, key 3 _ rfl, key 4 _ rfl, key 5 _ rfl, key 6 _ rfl, key 7 _ rfl, key 8 _ rfl, key 9 _ rfl, key 10 _ rfl, key 11 _ rfl, key 12 _ rfl, key 13 _ rfl, key 14 _ rfl, key 15 _ rfl, key 16 _ rfl⟩
theorem ex_one (e : Ex) : e.vs.toArray.all (·.oneCell') = true := by simp [Ex.vs, Value.oneCell']
theorem load_ex {w : World} {b o : Nat} {e : Ex} (h : w.rangeAt b o e.vs) : (Instr.loadAt 36 (.pointer (some ⟨b, o, none⟩))).run Try.prog w = .ok (.agg e.vs.toArray) w :=
  run_loadAt_mid w b o 36 e.vs _ h Try.underlying36 rfl (by kernel_rfl)

/-- An expression lies: its types, its texts (no longer than Go's), its Parts. -/
def Ex.At (w : World) : Ex → Prop
  | .dm => False
  | .mk _ _ _ tx ar ty gv ao b o len _ ps _ => (tx.size ≤ 9223372036854775807 ∧ ar.size ≤ 9223372036854775807) ∧ (ty.At w ∧ gv.At w) ∧ (0 < len → ao = some ⟨b, o, none⟩) ∧ len ≤ 9223372036854775807 ∧ ∀ i, i < len → C17 w b (o + i * 17) (ps i) ∧ Ex.At w (ps i)
theorem Ex.At.kept {w w' : World} (hb : Below w.heap.size w w') : ∀ {e : Ex}, e.At w → e.At w'
  | .dm, h => h.elim
  | .mk _ _ _ _ _ _ _ _ _ _ _ _ _ _, h => ⟨h.1, ⟨h.2.1.1.kept hb, h.2.1.2.kept hb⟩, h.2.2.1, h.2.2.2.1, fun i hi => ⟨(h.2.2.2.2 i hi).1.kept hb, Ex.At.kept hb (h.2.2.2.2 i hi).2⟩⟩
theorem Ex.At.tx {w : World} : ∀ {e : Ex}, e.At w → e.tx.size ≤ 9223372036854775807
  | .dm, h => h.elim
  | .mk _ _ _ _ _ _ _ _ _ _ _ _ _ _, h => h.1.1
theorem Ex.At.ar {w : World} : ∀ {e : Ex}, e.At w → e.ar.size ≤ 9223372036854775807
  | .dm, h => h.elim
  | .mk _ _ _ _ _ _ _ _ _ _ _ _ _ _, h => h.1.2
theorem Ex.At.ty {w : World} : ∀ {e : Ex}, e.At w → e.ty.At w
  | .dm, h => h.elim
  | .mk _ _ _ _ _ _ _ _ _ _ _ _ _ _, h => h.2.1.1
theorem Ex.At.gv {w : World} : ∀ {e : Ex}, e.At w → e.gv.At w
  | .dm, h => h.elim
  | .mk _ _ _ _ _ _ _ _ _ _ _ _ _ _, h => h.2.1.2
theorem Ex.At.nil {w : World} : ∀ {e : Ex}, e.At w → 0 < e.len → e.ao = some ⟨e.b, e.o, none⟩
  | .dm, h => h.elim
  | .mk _ _ _ _ _ _ _ _ _ _ _ _ _ _, h => h.2.2.1
theorem Ex.At.bound {w : World} : ∀ {e : Ex}, e.At w → e.len ≤ 9223372036854775807
  | .dm, h => h.elim
  | .mk _ _ _ _ _ _ _ _ _ _ _ _ _ _, h => h.2.2.2.1
theorem Ex.At.cells {w : World} : ∀ {e : Ex}, e.At w → ∀ {i}, i < e.len → C17 w e.b (e.o + i * 17) (e.ps i)
  | .dm, h, _, _ => h.elim
  | .mk _ _ _ _ _ _ _ _ _ _ _ _ _ _, h, i, hi => (h.2.2.2.2 i hi).1
theorem Ex.At.part {w : World} : ∀ {e : Ex}, e.At w → ∀ {i}, i < e.len → (e.ps i).At w
  | .dm, h, _, _ => h.elim
  | .mk _ _ _ _ _ _ _ _ _ _ _ _ _ _, h, i, hi => (h.2.2.2.2 i hi).2
/-- How many nodes. -/
def Ex.nodes : Ex → Nat
  | .dm => 1
  | .mk _ _ _ _ _ _ _ _ _ _ len _ ps _ => 1 + sumTo (fun i => Ex.nodes (ps i)) len
/-- One node as another, the number of Parts too, places apart. -/
def Ex.like (a b : Ex) : Bool := ((((((a.k == b.k) && (a.n == b.n)) && (a.m == b.m)) && (a.tx == b.tx)) && (a.ar == b.ar)) && (a.ty.same b.ty && a.gv.same b.gv)) && (a.len == b.len)
/-- All alike, places apart. -/
def Ex.same : Ex → Ex → Bool
  | .dm, t => Ex.like .dm t
  | .mk k n m tx ar ty gv ao b o len cap ps pl, t => Ex.like (.mk k n m tx ar ty gv ao b o len cap ps pl) t && decide (∀ i, i < len → Ex.same (ps i) (t.ps i) = true)
/-- Its types, and all texts, are of a size that the statements look at. -/
def Ex.sm : Ex → Bool
  | .dm => true
  | .mk _ _ _ tx ar ty gv _ _ _ len _ ps _ => (((decide (ty.nodes ≤ 40) && decide (gv.nodes ≤ 40)) && decide (tx.size ≤ 1000)) && decide (ar.size ≤ 1000)) && decide (∀ i, i < len → Ex.sm (ps i) = true)
/-- How deep it nests. -/
def mxTo (f : Nat → Nat) : Nat → Nat
  | 0 => 0
  | k + 1 => max (mxTo f k) (f k)
def Ex.nest : Ex → Nat
  | .dm => 1
  | .mk _ _ _ _ _ _ _ _ _ _ len _ ps _ => 1 + mxTo (fun i => Ex.nest (ps i)) len
end Go.Proofs.Ytnhoehiaphdomaa

/- Layer 6: an expression's seventeen values as one letter; a new variable that holds them. -/
namespace Go.Proofs.Ytnhoehiaphdomaa
open Go.RowKit

/-- An expression's values, as a row. -/
def Ex.va (e : Ex) : Array Value := e.vs.toArray
theorem Ex.va_one (e : Ex) : e.va.all (·.oneCell') = true := ex_one e
theorem Ex.va_size (e : Ex) : e.va.size = 17 := rfl
theorem Ex.va_list (e : Ex) : e.va.toList = e.vs := rfl
theorem Bex.newV (w : World) (e : Ex) : Bex (w.alloc (.cells e.va 36)) w.heap.size e := Bex.new w e
theorem load_exV {w : World} {b o : Nat} {e : Ex} (h : C17 w b o e) : (Instr.loadAt 36 (.pointer (some ⟨b, o, none⟩))).run Try.prog w = .ok (.agg e.va) w := load_ex h.range
theorem load_exB {w : World} {B : Nat} {e : Ex} (h : Bex w B e) : (Instr.loadAt 36 (.pointer (some ⟨B, 0, none⟩))).run Try.prog w = .ok (.agg e.va) w := load_ex h.range
theorem Ex.ind {P : Ex → Prop} (h : ∀ t : Ex, (∀ i, i < t.len → P (t.ps i)) → P t) : ∀ t, P t := by
  intro t
  induction t with
  | dm => exact h _ (fun i hi => absurd hi (Nat.not_lt_zero _))
  | mk k n m tx ar ty gv ao b o len cap ps pl ih => exact h _ (fun i _ => ih i)

theorem setCells_new (w : World) (t : TypeId) : ∀ (vs pre post : List Value), post.length = vs.length → (w.alloc (.cells (pre ++ post).toArray t)).setCells w.heap.size pre.length vs = w.alloc (.cells (pre ++ vs).toArray t)
  | [], pre, post, h => by
    have e : post = [] := List.eq_nil_of_length_eq_zero h
    subst e; rfl
  | v :: vs, pre, [], h => by simp at h
  | v :: vs, pre, p :: post, h => by
    rw [World.setCells, World.setCell_alloc_new]
    have e : ((pre ++ p :: post).toArray.setIfInBounds pre.length v) = ((pre ++ [v]) ++ post).toArray := by
      apply Array.toList_inj.1
      simp
    have h2 : post.length = vs.length := by simpa using h
    have k := setCells_new w t vs (pre ++ [v]) post h2
    rw [e]
    have e2 : (pre ++ [v]).length = pre.length + 1 := by simp
    rw [e2] at k
    rw [k]
    simp

/-- A new variable, filled at once. -/
theorem wpList_new_mid {ops : Array Oper} {rest : List Oper} {o1 o2 : Oper} {a : Act} {w : World} {Q : Exit → Act → World → Prop} (hg1 : o1.guard = none) (hg2 : o2.guard = none) (ty : TypeId) (h1 : o1.op = .alloc ty) (x y : Operand) (h2 : o2.op = .store ty x y)
    (zs : List Value) (hz : (Instr.alloc ty true (.tuple #[])).run Try.prog w = .ok (.pointer (some ⟨w.heap.size, 0, none⟩)) (w.alloc (.cells zs.toArray ty))) (hd2 : o2.dst = none)
    (cells : Array Value) (hx : (a.put o1.dst (.pointer (some ⟨w.heap.size, 0, none⟩))).eval x = .pointer (some ⟨w.heap.size, 0, none⟩)) (hy : (a.put o1.dst (.pointer (some ⟨w.heap.size, 0, none⟩))).eval y = .agg cells)
    (hl : zs.length = cells.size) (hi : (Try.prog.info? ty).map (·.size) = some cells.size) (hc : cells.all (·.oneCell') = true)
    (h : wpList Try.prog ops Q rest (a.put o1.dst (.pointer (some ⟨w.heap.size, 0, none⟩))) (w.alloc (.cells cells ty))) : wpList Try.prog ops Q (o1 :: o2 :: rest) a w := by
  refine wpList_plain hg1 fun _ hK => ?_
  unfold Oper.wp execOp
  simp only [h1, Sem.run_bind, hz, Result.andThen_ok, Sem.run_pure]
  refine hK _ _ ?_
  refine wpList_store_mid hg2 ty x y h2 w.heap.size 0 cells hx hy (fun j hj => ⟨?_, ?_⟩) hi hc ?_
  · have : j < zs.length := by omega
    show ((w.alloc (.cells zs.toArray ty)).cell? ⟨w.heap.size, 0 + j, none⟩).isSome = true
    simp [this]
  · simp
  · have k := setCells_new w ty cells.toList [] zs (by simpa using hl)
    simp only [List.nil_append, List.length_nil] at k
    rw [k, hd2]
    exact h

theorem wpList_load_ex {ops : Array Oper} {rest : List Oper} {op : Oper} {a : Act} {w : World} {Q : Exit → Act → World → Prop} (hgd : op.guard = none) (x : Operand) (ho : op.op = .load 36 x)
    (b o : Nat) (hx : a.eval x = .pointer (some ⟨b, o, none⟩)) (e : Ex) (hc : C17 w b o e) (h : wpList Try.prog ops Q rest (a.put op.dst (.agg e.va)) w) : wpList Try.prog ops Q (op :: rest) a w :=
  wpList_load_mid hgd 36 x ho b o hx e.vs _ hc.range Try.underlying36 rfl (by kernel_rfl) h
theorem wpList_load_exB {ops : Array Oper} {rest : List Oper} {op : Oper} {a : Act} {w : World} {Q : Exit → Act → World → Prop} (hgd : op.guard = none) (x : Operand) (ho : op.op = .load 36 x)
    (B : Nat) (hx : a.eval x = .pointer (some ⟨B, 0, none⟩)) (e : Ex) (hc : Bex w B e) (h : wpList Try.prog ops Q rest (a.put op.dst (.agg e.va)) w) : wpList Try.prog ops Q (op :: rest) a w :=
  wpList_load_mid hgd 36 x ho B 0 hx e.vs _ hc.range Try.underlying36 rfl (by kernel_rfl) h
def zEx : List Value := [.int .i64 0, .int .i64 0, .int .i64 0, .string ⟨#[]⟩, .string ⟨#[]⟩, .int .i64 0, .int .i64 0, .slice none 0 0, .int .i64 0, .int .i64 0, .int .i64 0, .int .i64 0, .slice none 0 0, .int .i64 0, .int .i64 0, .slice none 0 0, .int .i64 0]
theorem alloc_ex (w : World) : (Instr.alloc 36 true (.tuple #[])).run Try.prog w = .ok (.pointer (some ⟨w.heap.size, 0, none⟩)) (w.alloc (.cells zEx.toArray 36)) := by
  have hz : (Try.prog.info? 36).map (·.zero) = some (some (.agg zEx.toArray)) := by kernel_rfl
  cases hq : Try.prog.info? 36 with
  | none => rw [hq] at hz; simp at hz
  | some i =>
    rw [hq] at hz
    simp at hz
    simp [Instr.alloc, newVar, newRow, zeroValue, typeInfo, hq, hz, Value.cells]
theorem wpList_new_ex {ops : Array Oper} {rest : List Oper} {o1 o2 : Oper} {a : Act} {w : World} {Q : Exit → Act → World → Prop} (hg1 : o1.guard = none) (hg2 : o2.guard = none) (h1 : o1.op = .alloc 36) (x y : Operand) (h2 : o2.op = .store 36 x y) (hd2 : o2.dst = none)
    (hx : (a.put o1.dst (.pointer (some ⟨w.heap.size, 0, none⟩))).eval x = .pointer (some ⟨w.heap.size, 0, none⟩)) (e : Ex) (hy : (a.put o1.dst (.pointer (some ⟨w.heap.size, 0, none⟩))).eval y = .agg e.va)
    (h : wpList Try.prog ops Q rest (a.put o1.dst (.pointer (some ⟨w.heap.size, 0, none⟩))) (w.alloc (.cells e.va 36))) : wpList Try.prog ops Q (o1 :: o2 :: rest) a w :=
  wpList_new_mid hg1 hg2 36 h1 x y h2 zEx (alloc_ex w) hd2 e.va hx hy rfl (by kernel_rfl) e.va_one h
end Go.Proofs.Ytnhoehiaphdomaa

/- The map of places: a key is an address, a nil pointer and a number. -/
namespace Go.Proofs.Ytnhoehiaphdomaa
open Go.RowKit

def keyV (a : Addr) (n : Nat) : Value := .agg #[.pointer (some a), .pointer none, .int .i64 n]
/-- Blocks that bear no mark. -/
def PlainAt (w : World) (b : Nat) : Prop := ∃ c t, w.heap[b]? = some (.cells c t (0, 0))

theorem Try.exSize : (Try.prog.info? 36).map (·.size) = some 17 := by kernel_rfl
theorem run_eqp_ptr (w : World) (d : Nat) (a b : Addr) (ha : PlainAt w a.block) (hb : PlainAt w b.block) : (Op.equalIn (d + 1) 81 (.pointer (some a)) (.pointer (some b))).run Try.prog w = .ok (decide (a = b)) w := by
  obtain ⟨ca, ta, ha⟩ := ha
  obtain ⟨cb, tb, hb⟩ := hb
  have hz := Try.exSize
  cases hq : Try.prog.info? 36 with
  | none => rw [hq] at hz; simp at hz
  | some i =>
    rw [hq] at hz
    have hz : i.size = 17 := by simpa using hz
    by_cases hab : a = b
    · subst hab
      simp [Op.equalIn, run_underlying Try.underlying81, sizeOf, typeInfo, hq, run_sameAddr_same]
    · simp [Op.equalIn, run_underlying Try.underlying81, sizeOf, typeInfo, hq, hz, run_sameAddr_other w hab ha hb, hab]
theorem run_eqp_nil (w : World) (d : Nat) : (Op.equalIn (d + 1) 81 (.pointer none) (.pointer none)).run Try.prog w = .ok true w := by
  simp [Op.equalIn, run_underlying Try.underlying81]
theorem run_eqp_int (w : World) (d : Nat) (m n : Nat) : (Op.equalIn (d + 1) 3 (.int .i64 m) (.int .i64 n)).run Try.prog w = .ok (decide (m = n)) w := by
  simp [Op.equalIn, run_underlying Try.underlying3]
  by_cases h : m = n
  · simp [h]
  · have : ¬ (m : Int) = n := by omega
    simp [h, this]
theorem run_part_ptr (w : World) (x y z : Value) (i : Nat) (v : Value) (h : #[x, y, z][i]? = some v) : (part 81 #[x, y, z] i).run Try.prog w = .ok v w := by
  simp [part, isAgg, run_underlying Try.underlying81, h]
theorem run_part_int (w : World) (x y z : Value) (i : Nat) (v : Value) (h : #[x, y, z][i]? = some v) : (part 3 #[x, y, z] i).run Try.prog w = .ok v w := by
  simp [part, isAgg, run_underlying Try.underlying3, h]
theorem run_eq_place' (w : World) (d : Nat) (a b : Addr) (m n : Nat) (ha : PlainAt w a.block) (hb : PlainAt w b.block) : (Op.equalIn (d + 2) 83 (keyV a m) (keyV b n)).run Try.prog w = .ok (decide (a = b) && decide (m = n)) w := by
  unfold keyV
  have e1 := run_eqp_ptr w d a b ha hb
  have e2 := run_eqp_nil w d
  have e3 := run_eqp_int w d m n
  have p1 := fun a' n' => run_part_ptr w (.pointer (some a')) (.pointer none) (.int .i64 n') 0 _ rfl
  have p2 := fun a' n' => run_part_ptr w (.pointer (some a')) (.pointer none) (.int .i64 n') 1 _ rfl
  have p3 := fun a' n' => run_part_int w (.pointer (some a')) (.pointer none) (.int .i64 n') 2 _ rfl
  rw [Op.equalIn]
  simp only [Sem.run_bind, run_underlying Try.underlying83, Result.andThen_ok]
  simp [e1, e2, e3, p1, p2, p3]
  by_cases hab : a = b
  · by_cases hmn : m = n
    · simp [hab, hmn]
    · simp [hab, hmn]
  · simp [hab]
theorem run_eq_place (w : World) (a b : Addr) (m n : Nat) (ha : PlainAt w a.block) (hb : PlainAt w b.block) : (Op.equal 83 (keyV a m) (keyV b n)).run Try.prog w = .ok (decide (a = b) && decide (m = n)) w :=
  run_eq_place' w 9998 a b m n ha hb

theorem run_checkKey (w : World) (e : Bool) (d : Nat) (a : Addr) (n : Nat) : (Instr.checkKey e (d + 2) 83 (keyV a n)).run Try.prog w = .ok () w := by
  unfold keyV
  have p1 := run_part_ptr w (.pointer (some a)) (.pointer none) (.int .i64 n) 0 _ rfl
  have p2 := run_part_ptr w (.pointer (some a)) (.pointer none) (.int .i64 n) 1 _ rfl
  have p3 := run_part_int w (.pointer (some a)) (.pointer none) (.int .i64 n) 2 _ rfl
  have c1 : ∀ v, (Instr.checkKey e (d + 1) 81 v).run Try.prog w = .ok () w := fun v => by simp [Instr.checkKey, run_underlying Try.underlying81]
  have c2 : ∀ v, (Instr.checkKey e (d + 1) 3 v).run Try.prog w = .ok () w := fun v => by simp [Instr.checkKey, run_underlying Try.underlying3]
  rw [Instr.checkKey]
  simp only [Sem.run_bind, run_underlying Try.underlying83, Result.andThen_ok]
  simp [c1, c2, p1, p2, p3]
/-- The keys of a map of places. -/
structure Keys (w : World) (es : Array MapEntry) (ks : List (Addr × Nat)) : Prop where
  keys : es.toList.map (·.key) = ks.map fun k => keyV k.1 k.2
  vals : ∀ e ∈ es.toList, e.val = .agg #[]
  plain : ∀ k ∈ ks, PlainAt w k.1.block
theorem run_findAsking (w : World) (a : Addr) (n : Nat) (ha : PlainAt w a.block) : ∀ (es : List MapEntry) (ks : List (Addr × Nat)) (i : Nat), es.map (·.key) = ks.map (fun k => keyV k.1 k.2) → (∀ e ∈ es, e.val = .agg #[]) → (∀ k ∈ ks, PlainAt w k.1.block) →
    ∃ r, (Instr.findAsking 83 (keyV a n) es i).run Try.prog w = .ok r w ∧ ((a, n) ∈ ks → ∃ j, r = some (j, .agg #[])) ∧ ((a, n) ∉ ks → r = none)
  | [], ks, i, hk, _, _ => by
    have e : ks = [] := by cases ks with | nil => rfl | cons _ _ => simp at hk
    subst e
    exact ⟨none, by simp [Instr.findAsking], by simp, fun _ => rfl⟩
  | e :: es, [], i, hk, _, _ => by simp at hk
  | e :: es, (b, m) :: ks, i, hk, hv, hp => by
    simp only [List.map_cons, List.cons.injEq] at hk
    have hq := run_eq_place w a b n m ha (hp _ (List.mem_cons_self ..))
    by_cases h : a = b ∧ n = m
    · obtain ⟨rfl, rfl⟩ := h
      refine ⟨some (i, e.val), ?_, fun _ => ⟨i, by rw [hv e (List.mem_cons_self ..)]⟩, fun h2 => absurd (List.mem_cons_self ..) h2⟩
      rw [Instr.findAsking, hk.1]
      simp [hq]
    · obtain ⟨r, h1, h2, h3⟩ := run_findAsking w a n ha es ks (i + 1) hk.2 (fun x hx => hv x (List.mem_cons_of_mem _ hx)) (fun x hx => hp x (List.mem_cons_of_mem _ hx))
      have hn : ¬ (a, n) = (b, m) := fun q => h (by simpa using q)
      have hd : (decide (a = b) && decide (n = m)) = false := by simpa using h
      refine ⟨r, ?_, fun q => h2 (by simpa [h] using q), fun q => h3 (fun z => q (List.mem_cons_of_mem _ z))⟩
      rw [Instr.findAsking, hk.1]
      simp only [Sem.run_bind, hq, hd, Result.andThen_ok]
      simpa using h1
theorem run_findKey (w : World) (a : Addr) (n : Nat) (ha : PlainAt w a.block) (es : Array MapEntry) (ks : List (Addr × Nat)) (h : Keys w es ks) :
    ∃ r, (Instr.findKey 83 (keyV a n) es.toList).run Try.prog w = .ok r w ∧ ((a, n) ∈ ks → ∃ j, r = some (j, .agg #[])) ∧ ((a, n) ∉ ks → r = none) := by
  obtain ⟨r, h1, h2, h3⟩ := run_findAsking w a n ha es.toList ks 0 h.keys h.vals h.plain
  have hu := run_underlying (w := w) Try.underlying83
  cases hl : es.toList with
  | nil =>
    have e : ks = [] := by have := h.keys; rw [hl] at this; cases ks with | nil => rfl | cons _ _ => simp at this
    subst e
    exact ⟨none, by simp [Instr.findKey, hu, Instr.findNow], by simp, fun _ => rfl⟩
  | cons e l =>
    rw [hl] at h1
    refine ⟨r, ?_, h2, h3⟩
    simp [Instr.findKey, hu, Instr.findNow, Instr.sameNow, h1]
theorem run_look_place (w : World) (m : Nat) (es : Array MapEntry) (c : Nat) (hm : w.heap[m]? = some (.map es c)) (a : Addr) (n : Nat) (ha : PlainAt w a.block) (ks : List (Addr × Nat)) (h : Keys w es ks) :
    (Instr.lookup 80 (.map (some m)) (keyV a n) true).run Try.prog w = .ok (.tuple #[.agg #[], .bool (decide ((a, n) ∈ ks))]) w := by
  obtain ⟨r, h1, h2, h3⟩ := run_findKey w a n ha es ks h
  have hc' : ∀ e, (Instr.checkKey e 10000 83 (keyV a n)).run Try.prog w = .ok () w := fun e => run_checkKey w e 9998 a n
  have hg : (getObj m).run Try.prog w = .ok (.map es c) w := by simp [getObj, Sem.run, hm]
  have hz : (Try.prog.info? 84).map (·.zero) = some (some (.agg #[])) := by kernel_rfl
  cases hq : Try.prog.info? 84 with
  | none => rw [hq] at hz; simp at hz
  | some i =>
    rw [hq] at hz
    have hz : i.zero = some (.agg #[]) := by simpa using hz
    by_cases hin : (a, n) ∈ ks
    · obtain ⟨j, rfl⟩ := h2 hin
      simp [Instr.lookup, run_underlying Try.underlying80, hg, hc', h1, hin]
    · have := h3 hin
      subst this
      simp [Instr.lookup, run_underlying Try.underlying80, hg, hc', h1, hin, zeroValue, typeInfo, hq, hz]
theorem run_put_place (w : World) (m : Nat) (es : Array MapEntry) (c : Nat) (hm : w.heap[m]? = some (.map es c)) (a : Addr) (n : Nat) (ha : PlainAt w a.block) (ks : List (Addr × Nat)) (h : Keys w es ks) (hin : (a, n) ∉ ks) :
    (Instr.mapUpdate 80 (.map (some m)) (keyV a n) (.agg #[])).run Try.prog w = .ok () { w with heap := w.heap.setIfInBounds m (.map (es.push { key := keyV a n, val := .agg #[], born := c }) (c + 1)) } := by
  obtain ⟨r, h1, h2, h3⟩ := run_findKey w a n ha es ks h
  have hc' : ∀ e, (Instr.checkKey e 10000 83 (keyV a n)).run Try.prog w = .ok () w := fun e => run_checkKey w e 9998 a n
  have hg : (getObj m).run Try.prog w = .ok (.map es c) w := by simp [getObj, Sem.run, hm]
  have := h3 hin
  have hs : ∀ o, (setObj m o).run Try.prog w = .ok () { w with heap := w.heap.setIfInBounds m o } := fun o => by simp [setObj, Sem.run, hm]
  subst this
  simp [Instr.mapUpdate, run_underlying Try.underlying80, hg, hc', h1, hs]
end Go.Proofs.Ytnhoehiaphdomaa

/- Layer 6: the counts of nodes, the sizes. -/
namespace Go.Proofs.Ytnhoehiaphdomaa
open Go.RowKit

set_option maxHeartbeats 1000000 in
theorem epartsOf_any (t : Ex) (w : World) :
    Calls Try.prog 26 #[.agg #[.int .i64 t.k, .int .i64 t.n, .int .i64 t.m, .string t.tx, .string t.ar, .int .i64 t.ty.k, .int .i64 t.ty.l, .slice t.ty.ao t.ty.len t.ty.cap, .int .i64 t.ty.h, .int .i64 t.ty.e, .int .i64 t.gv.k, .int .i64 t.gv.l, .slice t.gv.ao t.gv.len t.gv.cap, .int .i64 t.gv.h, .int .i64 t.gv.e, .slice t.ao t.len t.cap, .int .i64 t.pl]] w fun e w' => e = .returned (.slice t.ao t.len t.cap) ∧ Below w.heap.size w w' := by
  have B0 := below_alloc w (.cells #[.int .i64 t.k, .int .i64 t.n, .int .i64 t.m, .string t.tx, .string t.ar, .int .i64 t.ty.k, .int .i64 t.ty.l, .slice t.ty.ao t.ty.len t.ty.cap, .int .i64 t.ty.h, .int .i64 t.ty.e, .int .i64 t.gv.k, .int .i64 t.gv.l, .slice t.gv.ao t.gv.len t.gv.cap, .int .i64 t.gv.h, .int .i64 t.gv.e, .slice t.ao t.len t.cap, .int .i64 t.pl] 36)
  have x2 : (w.alloc (.cells #[.int .i64 t.k, .int .i64 t.n, .int .i64 t.m, .string t.tx, .string t.ar, .int .i64 t.ty.k, .int .i64 t.ty.l, .slice t.ty.ao t.ty.len t.ty.cap, .int .i64 t.ty.h, .int .i64 t.ty.e, .int .i64 t.gv.k, .int .i64 t.gv.l, .slice t.gv.ao t.gv.len t.gv.cap, .int .i64 t.gv.h, .int .i64 t.gv.e, .slice t.ao t.len t.cap, .int .i64 t.pl] 36)).cell? ⟨w.heap.size, 15, none⟩ = some (.slice t.ao t.len t.cap) := (Bex.new w t).c15
  go_enter Try.func26, Try.ntmps26
  go_wp2
  go_ret
  exact ⟨rfl, B0⟩
end Go.Proofs.Ytnhoehiaphdomaa

/- Layer 6: walk's count of an expression's nodes. -/
namespace Go.Proofs.Ytnhoehiaphdomaa
open Go.RowKit

theorem Ex.At.nodes_eq {w : World} : ∀ {t : Ex}, t.At w → t.nodes = 1 + sumTo (fun i => (t.ps i).nodes) t.len
  | .dm, h => h.elim
  | .mk _ _ _ _ _ _ _ _ _ _ _ _ _ _, _ => rfl
theorem epartsV (t : Ex) (w : World) : Calls Try.prog 26 #[.agg t.va] w fun e w' => e = .returned (.slice t.ao t.len t.cap) ∧ Below w.heap.size w w' := epartsOf_any t w

set_option maxRecDepth 100000 in
set_option maxHeartbeats 4000000 in
theorem ecount_any : ∀ (t : Ex) (a : Nat) (w : World), a ≤ 2000 → t.At w → Calls Try.prog 24 #[.agg t.va, .func (.func 26) #[] #[], .int .i64 2000, .int .i64 a] w fun e w' => e = .returned (.int .i64 (min (a + t.nodes) 2001 : Nat)) ∧ Below w.heap.size w w' := by
  intro t
  induction t using Ex.ind with
  | h t ih =>
    intro a w ha hAt
    have HN : Hid (t.nodes = 1 + sumTo (fun i => (t.ps i).nodes) t.len) := hAt.nodes_eq
    have B0 := below_alloc w (.cells t.va 36)
    have X0 := Bex.newV w t
    have hb : t.len ≤ 9223372036854775807 := hAt.bound
    have hnil : 0 < t.len → t.ao = some ⟨t.b, t.o, none⟩ := hAt.nil
    have HS : Hid (Ex.At (w.alloc (.cells t.va 36)) t ∧ Below w.heap.size w (w.alloc (.cells t.va 36))) := ⟨hAt.kept B0, B0⟩
    have hP := epartsV t (w.alloc (.cells t.va 36))
    clear B0 hAt
    generalize t.nodes = N at HN ⊢
    generalize t.ao = ao at hnil hP
    generalize hlen : t.len = len at *
    have HL : Hid (t.len = len) := hlen
    clear hlen
    generalize t.cap = cap at hP
    go_enter Try.func24, Try.ntmps24
    go_wp2_with (refine wpList_load_exB rfl (.tmp 4) rfl _ rfl t X0 ?_)
    refine hP.mono ?_
    rintro _ w5 ⟨rfl, hb5⟩
    have HS : Hid (Ex.At w5 t ∧ Below w.heap.size w w5) := ⟨HS.out.1.kept hb5, Below.next HS.out.2 hb5⟩
    clear hb5 hP X0
    go_wp2
    go_loopw [9, 18] (fun mm i wr => ∃ (q j : Nat), j ≤ len ∧ mm = .int .i64 q ∧ i = .int .i64 j ∧ q = min (a + (1 + sumTo (fun i => (t.ps i).nodes) j)) 2001 ∧ Ex.At wr t ∧ Below w.heap.size w wr) (fun _ i _ => len - (intOf i).toNat)
    case atStart => exact ⟨a + 1, 0, Nat.zero_le _, by rw [Int.natCast_add]; rfl, rfl, by simp only [sumTo]; omega, HS.out⟩
    case round =>
      obtain ⟨q, j, hj, rfl, rfl, hm, hA, hB⟩ := hrel
      clear HS
      have HQ : Hid (q = min (a + (1 + sumTo (fun i => (t.ps i).nodes) j)) 2001) := hm
      clear hm
      by_cases hlt : j < len
      · have ij : (j : Int) < len := by omega
        have a0 := hnil (by omega)
        subst a0
        have HlT : j < t.len := by rw [HL.out]; exact hlt
        have C : C17 wr t.b (t.o + j * 17) (t.ps j) := hA.cells HlT
        have P : (t.ps j).At wr := hA.part HlT
        have X0 := Bex.newV wr (t.ps j)
        have B0 := below_alloc wr (.cells (t.ps j).va 36)
        have HS : Hid (Ex.At wr t ∧ Below w.heap.size w wr) := ⟨hA, hB⟩
        clear hA hB HlT
        by_cases h40 : 2000 < q
        · have d40 : decide ((2000 : Int) < q) = true := by simp; omega
          have HE : Hid (min (a + N) 2001 = q) := by
            show min (a + N) 2001 = q
            have := HQ.out
            have h2 := sumTo_mono (fun i => (t.ps i).nodes) hj
            rw [HN.out]
            omega
          go_wp2_with (first | (refine wpList_load_ex rfl (.tmp 20) rfl _ _ rfl _ C ?_) | (refine wpList_new_ex rfl rfl rfl (.tmp 11) (.tmp 21) rfl rfl rfl _ rfl ?_))
          all_goals go_ret
          all_goals exact ⟨ret_int (by have h2 := HE.out; omega), Below.next HS.out.2 B0⟩
        · have d40 : decide ((2000 : Int) < q) = false := by simp; omega
          go_wp2_with (first | (refine wpList_load_ex rfl (.tmp 20) rfl _ _ rfl _ C ?_) | (refine wpList_new_ex rfl rfl rfl (.tmp 11) (.tmp 21) rfl rfl rfl _ rfl ?_) | (refine wpList_load_exB rfl (.tmp 11) rfl _ rfl _ X0 ?_))
          refine (ih j hlt q _ (by omega) (P.kept B0)).mono ?_
          rintro r w1 ⟨rfl, hb1⟩
          have B1 := Below.next B0 hb1
          clear X0
          go_wp2
          go_roundw
          case rel => exact ⟨min (q + (t.ps j).nodes) 2001, j + 1, by omega, rfl, by go_num, by have := HQ.out; simp only [sumTo]; omega, HS.out.1.kept B1, Below.next HS.out.2 B1⟩
          case measure => simp [intOf]; omega
      · have e : len = j := by omega
        subst e
        have d : ¬ (len : Int) < len := by omega
        go_wp2
        go_ret
        exact ⟨ret_int (by have h1 := HQ.out; have h2 := HN.out; omega), hB⟩

set_option maxHeartbeats 1000000 in
theorem eCount_any (t : Ex) (w : World) (ht : t.At w) : Calls Try.prog 16 #[.agg t.va, .func (.func 26) #[] #[], .int .i64 2000] w fun e w' => e = .returned (.int .i64 (min t.nodes 2001 : Nat)) ∧ Below w.heap.size w w' := by
  have B0 := below_alloc w (.cells t.va 36)
  have X0 := Bex.newV w t
  have h := ecount_any t 0 _ (by omega) (ht.kept B0)
  rw [Nat.zero_add] at h
  go_enter Try.func16, Try.ntmps16
  go_wp2_with (refine wpList_load_exB rfl (.tmp 3) rfl _ rfl t X0 ?_)
  refine h.mono ?_
  rintro r w1 ⟨rfl, hb1⟩
  clear X0
  go_wp2
  go_ret
  exact ⟨rfl, Below.next B0 hb1⟩
end Go.Proofs.Ytnhoehiaphdomaa

/- Layer 6: how deep an expression nests, level by level. -/
namespace Go.Proofs.Ytnhoehiaphdomaa
open Go.RowKit

def mx (l : List Nat) : Nat := l.foldr max 0
theorem le_mx : ∀ {l : List Nat} {x : Nat}, x ∈ l → x ≤ mx l
  | a :: l, x, h => by
    show x ≤ max a (mx l)
    rcases List.mem_cons.1 h with rfl | h
    · omega
    · have := le_mx h; omega
theorem mx_le : ∀ {l : List Nat} {n : Nat}, (∀ x ∈ l, x ≤ n) → mx l ≤ n
  | [], _, _ => Nat.zero_le _
  | a :: l, n, h => by
    show max a (mx l) ≤ n
    have h1 := h a (List.mem_cons_self ..)
    have h2 := mx_le (l := l) (fun x hx => h x (List.mem_cons_of_mem _ hx))
    omega
/-- The Parts of all these. -/
def kid (e : Ex) : List Ex := (List.range e.len).map e.ps
def kids (L : List Ex) : List Ex := L.flatMap kid
theorem mem_kid {e x : Ex} : x ∈ kid e ↔ ∃ i, i < e.len ∧ x = e.ps i := by
  unfold kid; simp only [List.mem_map, List.mem_range]
  exact ⟨fun ⟨i, h, e⟩ => ⟨i, h, e.symm⟩, fun ⟨i, h, e⟩ => ⟨i, h, e.symm⟩⟩
theorem mem_kids {L : List Ex} {x : Ex} : x ∈ kids L ↔ ∃ e ∈ L, x ∈ kid e := by unfold kids; simp only [List.mem_flatMap]
def dpth (L : List Ex) : Nat := mx ((kids L).map Ex.nest)
def nsum (L : List Ex) : Nat := (L.map Ex.nodes).sum
theorem nsum_append (a b : List Ex) : nsum (a ++ b) = nsum a + nsum b := by unfold nsum; simp
theorem nsum_one (x : Ex) : nsum [x] = x.nodes := by unfold nsum; simp
theorem nodes_pos : ∀ e : Ex, 1 ≤ e.nodes
  | .dm => Nat.le_refl _
  | .mk _ _ _ _ _ _ _ _ _ _ len _ ps _ => by show 1 ≤ 1 + sumTo _ len; omega
theorem len_le_nsum : ∀ L : List Ex, L.length ≤ nsum L
  | [] => Nat.le_refl _
  | e :: L => by
    have h1 := nodes_pos e
    have h2 := len_le_nsum L
    have : nsum (e :: L) = e.nodes + nsum L := by unfold nsum; simp
    simp; omega
theorem nsum_kid {w : World} : ∀ {e : Ex}, e.At w → nsum (kid e) + 1 = e.nodes
  | .dm, h => h.elim
  | .mk _ _ _ _ _ _ _ _ _ _ len _ ps _, _ => by
    show nsum ((List.range len).map ps) + 1 = 1 + sumTo (fun i => (ps i).nodes) len
    have : ∀ n, nsum ((List.range n).map ps) = sumTo (fun i => (ps i).nodes) n := by
      intro n
      induction n with
      | zero => rfl
      | succ n ih => rw [List.range_succ, List.map_append, nsum_append, ih]; simp [nsum, sumTo]
    rw [this]; omega
theorem nsum_kids {w : World} : ∀ {L : List Ex}, (∀ e ∈ L, e.At w) → nsum (kids L) + L.length = nsum L
  | [], _ => rfl
  | e :: L, h => by
    have h1 := nsum_kid (h e (List.mem_cons_self ..))
    have h2 := nsum_kids (L := L) (fun x hx => h x (List.mem_cons_of_mem _ hx))
    have e1 : kids (e :: L) = kid e ++ kids L := rfl
    have e2 : nsum (e :: L) = e.nodes + nsum L := by unfold nsum; simp
    rw [e1, nsum_append, e2]; simp; omega
theorem mxTo_le {f : Nat → Nat} : ∀ {n m : Nat}, (∀ i, i < n → f i ≤ m) → mxTo f n ≤ m
  | 0, _, _ => Nat.zero_le _
  | n + 1, m, h => by
    show max (mxTo f n) (f n) ≤ m
    have := mxTo_le (n := n) (m := m) (fun i hi => h i (by omega))
    have := h n (by omega)
    omega
theorem le_mxTo {f : Nat → Nat} : ∀ {n i : Nat}, i < n → f i ≤ mxTo f n
  | n + 1, i, h => by
    show f i ≤ max (mxTo f n) (f n)
    rcases Nat.lt_or_ge i n with h1 | h1
    · have := le_mxTo (f := f) h1; omega
    · have : i = n := by omega
      subst this; omega
theorem Ex.At.nest_eq {w : World} : ∀ {t : Ex}, t.At w → t.nest = 1 + mxTo (fun i => (t.ps i).nest) t.len
  | .dm, h => h.elim
  | .mk _ _ _ _ _ _ _ _ _ _ _ _ _ _, _ => rfl
theorem mxTo_congr {f g : Nat → Nat} : ∀ {n : Nat}, (∀ i, i < n → f i = g i) → mxTo f n = mxTo g n
  | 0, _ => rfl
  | n + 1, h => by
    show max (mxTo f n) (f n) = max (mxTo g n) (g n)
    rw [mxTo_congr (n := n) (fun i hi => h i (by omega)), h n (by omega)]
/-- Two that have their Parts at one place nest alike. -/
theorem nest_same {w : World} : ∀ (s t : Ex), s.At w → t.At w → s.len = t.len → (0 < s.len → s.b = t.b ∧ s.o = t.o) → s.nest = t.nest := by
  intro s
  induction s using Ex.ind with
  | h s ih =>
    intro t hs ht hl hb
    rw [hs.nest_eq, ht.nest_eq, ← hl]
    congr 1
    refine mxTo_congr fun i hi => ?_
    obtain ⟨eb, eo⟩ := hb (by omega)
    have cs := hs.cells hi
    have ct := ht.cells (hl ▸ hi)
    rw [← eb, ← eo] at ct
    have k15 := cs.c15.symm.trans ct.c15
    simp only [Option.some.injEq, Value.slice.injEq] at k15
    refine ih i hi (t.ps i) (hs.part hi) (ht.part (hl ▸ hi)) k15.2.1 fun hp => ?_
    have a1 := (hs.part hi).nil hp
    have a2 := (ht.part (hl ▸ hi)).nil (by omega)
    have := a1.symm.trans (k15.1.trans a2)
    simp at this
    exact this
/-- No block of its Parts bears a mark. -/
def Ex.Pl (w : World) : Ex → Prop
  | .dm => True
  | .mk _ _ _ _ _ _ _ _ b _ len _ ps _ => (0 < len → PlainAt w b) ∧ ∀ i, i < len → Ex.Pl w (ps i)
theorem Ex.Pl.b {w : World} : ∀ {e : Ex}, e.Pl w → 0 < e.len → PlainAt w e.b
  | .dm, _, h => absurd h (Nat.lt_irrefl 0)
  | .mk _ _ _ _ _ _ _ _ _ _ _ _ _ _, h, hl => h.1 hl
theorem Ex.Pl.part {w : World} : ∀ {e : Ex}, e.Pl w → ∀ {i}, i < e.len → (e.ps i).Pl w
  | .dm, _, _, h => absurd h (Nat.not_lt_zero _)
  | .mk _ _ _ _ _ _ _ _ _ _ _ _ _ _, h, _, hl => h.2 _ hl
theorem PlainAt.kept {w w' : World} {b : Nat} (h : PlainAt w b) (hb : Below w.heap.size w w') : PlainAt w' b := by
  obtain ⟨c, t, h⟩ := h
  refine ⟨c, t, ?_⟩
  rw [hb.block b ?_]; exact h
  rcases Nat.lt_or_ge b w.heap.size with h1 | h1
  · exact h1
  · rw [Array.getElem?_eq_none h1] at h; cases h
theorem Ex.Pl.kept {w w' : World} (hb : Below w.heap.size w w') : ∀ {e : Ex}, e.Pl w → e.Pl w'
  | .dm, _ => trivial
  | .mk _ _ _ _ _ _ _ _ _ _ _ _ _ _, h => ⟨fun hl => (h.1 hl).kept hb, fun i hi => Ex.Pl.kept hb (h.2 i hi)⟩
def ekey (e : Ex) : Addr × Nat := (⟨e.b, e.o, none⟩, e.len)
/-- What is known of the next level behind these nodes. -/
structure NM (done nx : List Ex) : Prop where
  pos : ∀ r ∈ nx, r ∈ done ∧ 0 < r.len
  met : ∀ e ∈ done, 0 < e.len → ekey e ∈ nx.map ekey
  sum : nsum nx ≤ nsum done
theorem NM.nil : NM [] [] := ⟨by simp, by simp, Nat.le_refl _⟩
theorem NM.empty {done nx : List Ex} (h : NM done nx) {x : Ex} (hx : x.len = 0) : NM (done ++ [x]) nx :=
  ⟨fun r hr => ⟨List.mem_append_left _ (h.pos r hr).1, (h.pos r hr).2⟩, fun e he hl => by
    rcases List.mem_append.1 he with h1 | h1
    · exact h.met e h1 hl
    · have : e = x := by simpa using h1
      subst this; omega, by rw [nsum_append]; have := h.sum; omega⟩
theorem NM.old {done nx : List Ex} (h : NM done nx) {x : Ex} (hx : ekey x ∈ nx.map ekey) : NM (done ++ [x]) nx :=
  ⟨fun r hr => ⟨List.mem_append_left _ (h.pos r hr).1, (h.pos r hr).2⟩, fun e he hl => by
    rcases List.mem_append.1 he with h1 | h1
    · exact h.met e h1 hl
    · have : e = x := by simpa using h1
      subst this; exact hx, by rw [nsum_append]; have := h.sum; omega⟩
theorem NM.new {done nx : List Ex} (h : NM done nx) {x : Ex} (hx : 0 < x.len) : NM (done ++ [x]) (nx ++ [x]) :=
  ⟨fun r hr => by
    rcases List.mem_append.1 hr with h1 | h1
    · exact ⟨List.mem_append_left _ (h.pos r h1).1, (h.pos r h1).2⟩
    · have : r = x := by simpa using h1
      subst this; exact ⟨List.mem_append_right _ h1, hx⟩, fun e he hl => by
    rw [List.map_append]
    rcases List.mem_append.1 he with h1 | h1
    · exact List.mem_append_left _ (h.met e h1 hl)
    · exact List.mem_append_right _ (List.mem_map_of_mem h1), by rw [nsum_append, nsum_append]; have := h.sum; omega⟩
theorem NM.deep {w : World} {L nx : List Ex} (h : NM (kids L) nx) (hA : ∀ e ∈ L, e.At w) (hne : kids L ≠ []) : dpth nx + 1 = dpth L := by
  have hk : ∀ x ∈ kids L, x.At w := fun x hx => by
    obtain ⟨e, he, hx⟩ := mem_kids.1 hx
    obtain ⟨i, hi, rfl⟩ := mem_kid.1 hx
    exact (hA e he).part hi
  apply Nat.le_antisymm
  · have h0 : 1 ≤ dpth L := by
      cases hq : kids L with
      | nil => exact absurd hq hne
      | cons x l =>
        have hx : x ∈ kids L := by rw [hq]; exact List.mem_cons_self ..
        have h1 : x.nest ≤ dpth L := le_mx (List.mem_map_of_mem hx)
        rw [(hk x hx).nest_eq] at h1
        omega
    have : dpth nx ≤ dpth L - 1 := by
      refine mx_le fun m hm => ?_
      obtain ⟨y, hy, rfl⟩ := List.mem_map.1 hm
      obtain ⟨r, hr, hy⟩ := mem_kids.1 hy
      obtain ⟨i, hi, rfl⟩ := mem_kid.1 hy
      have hr2 := (h.pos r hr).1
      have h1 : r.nest ≤ dpth L := le_mx (List.mem_map_of_mem hr2)
      rw [(hk r hr2).nest_eq] at h1
      have h2 := le_mxTo (f := fun i => (r.ps i).nest) hi
      omega
    omega
  · refine mx_le fun m hm => ?_
    obtain ⟨x, hx, rfl⟩ := List.mem_map.1 hm
    have e0 : ∀ r ∈ nx, r.nest ≤ dpth nx + 1 := fun r hr => by
      rw [(hk r (h.pos r hr).1).nest_eq]
      have : mxTo (fun i => (r.ps i).nest) r.len ≤ dpth nx := mxTo_le fun i hi => le_mx (List.mem_map_of_mem (mem_kids.2 ⟨r, hr, mem_kid.2 ⟨i, hi, rfl⟩⟩))
      omega
    rcases Nat.eq_zero_or_pos x.len with h1 | h1
    · rw [(hk x hx).nest_eq, h1]; show 1 + 0 ≤ _; omega
    · obtain ⟨r, hr, hq⟩ := List.mem_map.1 (h.met x hx h1)
      have hq' : r.b = x.b ∧ r.o = x.o ∧ r.len = x.len := by
        have : ((⟨r.b, r.o, none⟩ : Addr), r.len) = (⟨x.b, x.o, none⟩, x.len) := hq
        simp only [Prod.mk.injEq, Addr.mk.injEq] at this
        exact ⟨this.1.1, this.1.2.1, this.2⟩
      rw [← nest_same r x (hk r (h.pos r hr).1) (hk x hx) hq'.2.2 (fun _ => ⟨hq'.1, hq'.2.1⟩)]
      exact e0 r hr
end Go.Proofs.Ytnhoehiaphdomaa
