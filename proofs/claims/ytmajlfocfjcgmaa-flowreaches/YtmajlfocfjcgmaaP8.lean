/- Layer 6: expressions, as they lie in memory; what is told of them. -/
import Derived.Test.YtmajlfocfjcgmaaP4
import Derived.Test.YtmajlfocfjcgmaaP5
import Derived.Deep.MidRow
import Derived.LaidEql
import Derived.Carry
import Derived.Deep.AppendLies
import Derived.Deep.DeepCutAuto
import Derived.Test.YtmajlfocfjcgmaaP7
namespace Go.Proofs.Ytmajlfocfjcgmaa
open Go.RowKit

/-- An expression: its numbers, texts and types, where its Parts lie, they, and its place ('dm': none; it lies nowhere). -/
inductive Ex where
  | dm : Ex
  | mk (k n m : Int) (tx ar : ByteArray) (ty gv : Ty) (ao : Option Addr) (b o len cap : Nat) (ps : Nat → Ex) (pl : Int) : Ex
def Ex.k : Ex → Int | .dm => 0 | .mk k _ _ _ _ _ _ _ _ _ _ _ _ _ => k
def Ex.n : Ex → Int | .dm => 0 | .mk _ n _ _ _ _ _ _ _ _ _ _ _ _ => n
def Ex.m : Ex → Int | .dm => 0 | .mk _ _ m _ _ _ _ _ _ _ _ _ _ _ => m
def Ex.tx : Ex → ByteArray | .dm => ⟨#[]⟩ | .mk _ _ _ tx _ _ _ _ _ _ _ _ _ _ => tx
def Ex.ar : Ex → ByteArray | .dm => ⟨#[]⟩ | .mk _ _ _ _ ar _ _ _ _ _ _ _ _ _ => ar
def Ex.ty : Ex → Ty | .dm => .dm | .mk _ _ _ _ _ ty _ _ _ _ _ _ _ _ => ty
def Ex.gv : Ex → Ty | .dm => .dm | .mk _ _ _ _ _ _ gv _ _ _ _ _ _ _ => gv
def Ex.ao : Ex → Option Addr | .dm => none | .mk _ _ _ _ _ _ _ ao _ _ _ _ _ _ => ao
def Ex.b : Ex → Nat | .dm => 0 | .mk _ _ _ _ _ _ _ _ b _ _ _ _ _ => b
def Ex.o : Ex → Nat | .dm => 0 | .mk _ _ _ _ _ _ _ _ _ o _ _ _ _ => o
def Ex.len : Ex → Nat | .dm => 0 | .mk _ _ _ _ _ _ _ _ _ _ len _ _ _ => len
def Ex.cap : Ex → Nat | .dm => 0 | .mk _ _ _ _ _ _ _ _ _ _ _ cap _ _ => cap
def Ex.ps : Ex → Nat → Ex | .dm => fun _ => .dm | .mk _ _ _ _ _ _ _ _ _ _ _ _ ps _ => ps
def Ex.pl : Ex → Int | .dm => 0 | .mk _ _ _ _ _ _ _ _ _ _ _ _ _ pl => pl
/-- An expression's seventeen values. -/
def Ex.vs (e : Ex) : List Value := [.int .i64 e.k, .int .i64 e.n, .int .i64 e.m, .string e.tx, .string e.ar, .int .i64 e.ty.k, .int .i64 e.ty.l, .slice e.ty.ao e.ty.len e.ty.cap, .int .i64 e.ty.h, .int .i64 e.ty.e, .int .i64 e.gv.k, .int .i64 e.gv.l, .slice e.gv.ao e.gv.len e.gv.cap, .int .i64 e.gv.h, .int .i64 e.gv.e, .slice e.ao e.len e.cap, .int .i64 e.pl]
/-- Seventeen cells that hold an expression. -/
structure C17 (w : World) (b o : Nat) (e : Ex) : Prop where
  c0 : w.cell? ⟨b, o, none⟩ = some (.int .i64 e.k)
  c1 : w.cell? ⟨b, o + 1, none⟩ = some (.int .i64 e.n)
  c2 : w.cell? ⟨b, o + 2, none⟩ = some (.int .i64 e.m)
  c3 : w.cell? ⟨b, o + 3, none⟩ = some (.string e.tx)
  c4 : w.cell? ⟨b, o + 4, none⟩ = some (.string e.ar)
  c5 : w.cell? ⟨b, o + 5, none⟩ = some (.int .i64 e.ty.k)
  c6 : w.cell? ⟨b, o + 6, none⟩ = some (.int .i64 e.ty.l)
  c7 : w.cell? ⟨b, o + 7, none⟩ = some (.slice e.ty.ao e.ty.len e.ty.cap)
  c8 : w.cell? ⟨b, o + 8, none⟩ = some (.int .i64 e.ty.h)
  c9 : w.cell? ⟨b, o + 9, none⟩ = some (.int .i64 e.ty.e)
  c10 : w.cell? ⟨b, o + 10, none⟩ = some (.int .i64 e.gv.k)
  c11 : w.cell? ⟨b, o + 11, none⟩ = some (.int .i64 e.gv.l)
  c12 : w.cell? ⟨b, o + 12, none⟩ = some (.slice e.gv.ao e.gv.len e.gv.cap)
  c13 : w.cell? ⟨b, o + 13, none⟩ = some (.int .i64 e.gv.h)
  c14 : w.cell? ⟨b, o + 14, none⟩ = some (.int .i64 e.gv.e)
  c15 : w.cell? ⟨b, o + 15, none⟩ = some (.slice e.ao e.len e.cap)
  c16 : w.cell? ⟨b, o + 16, none⟩ = some (.int .i64 e.pl)
theorem C17.kept {w w' : World} {b o : Nat} {e : Ex} (h : C17 w b o e) (hb : Below w.heap.size w w') : C17 w' b o e := ⟨up hb h.c0, up hb h.c1, up hb h.c2, up hb h.c3, up hb h.c4, up hb h.c5, up hb h.c6, up hb h.c7, up hb h.c8, up hb h.c9, up hb h.c10, up hb h.c11, up hb h.c12, up hb h.c13, up hb h.c14, up hb h.c15, up hb h.c16⟩
theorem C17.range {w : World} {b o : Nat} {e : Ex} (h : C17 w b o e) : w.rangeAt b o e.vs := fun j v hv => by
  match j, hv with
  | 0, hv => rw [← hv]; exact h.c0
  | 1, hv => rw [← hv]; exact h.c1
  | 2, hv => rw [← hv]; exact h.c2
  | 3, hv => rw [← hv]; exact h.c3
  | 4, hv => rw [← hv]; exact h.c4
  | 5, hv => rw [← hv]; exact h.c5
  | 6, hv => rw [← hv]; exact h.c6
  | 7, hv => rw [← hv]; exact h.c7
  | 8, hv => rw [← hv]; exact h.c8
  | 9, hv => rw [← hv]; exact h.c9
  | 10, hv => rw [← hv]; exact h.c10
  | 11, hv => rw [← hv]; exact h.c11
  | 12, hv => rw [← hv]; exact h.c12
  | 13, hv => rw [← hv]; exact h.c13
  | 14, hv => rw [← hv]; exact h.c14
  | 15, hv => rw [← hv]; exact h.c15
  | 16, hv => rw [← hv]; exact h.c16
  | _ + 17, hv => simp [Ex.vs] at hv
theorem C17.of_range {w : World} {b o : Nat} {e : Ex} (h : w.rangeAt b o e.vs) : C17 w b o e :=
  ⟨h 0 _ rfl, h 1 _ rfl, h 2 _ rfl, h 3 _ rfl, h 4 _ rfl, h 5 _ rfl, h 6 _ rfl, h 7 _ rfl, h 8 _ rfl, h 9 _ rfl, h 10 _ rfl, h 11 _ rfl, h 12 _ rfl, h 13 _ rfl, h 14 _ rfl, h 15 _ rfl, h 16 _ rfl⟩
/-- A variable that holds an expression, at a block's beginning. -/
structure Bex (w : World) (B : Nat) (e : Ex) : Prop where
  c0 : w.cell? ⟨B, 0, none⟩ = some (.int .i64 e.k)
  c1 : w.cell? ⟨B, 1, none⟩ = some (.int .i64 e.n)
  c2 : w.cell? ⟨B, 2, none⟩ = some (.int .i64 e.m)
  c3 : w.cell? ⟨B, 3, none⟩ = some (.string e.tx)
  c4 : w.cell? ⟨B, 4, none⟩ = some (.string e.ar)
  c5 : w.cell? ⟨B, 5, none⟩ = some (.int .i64 e.ty.k)
  c6 : w.cell? ⟨B, 6, none⟩ = some (.int .i64 e.ty.l)
  c7 : w.cell? ⟨B, 7, none⟩ = some (.slice e.ty.ao e.ty.len e.ty.cap)
  c8 : w.cell? ⟨B, 8, none⟩ = some (.int .i64 e.ty.h)
  c9 : w.cell? ⟨B, 9, none⟩ = some (.int .i64 e.ty.e)
  c10 : w.cell? ⟨B, 10, none⟩ = some (.int .i64 e.gv.k)
  c11 : w.cell? ⟨B, 11, none⟩ = some (.int .i64 e.gv.l)
  c12 : w.cell? ⟨B, 12, none⟩ = some (.slice e.gv.ao e.gv.len e.gv.cap)
  c13 : w.cell? ⟨B, 13, none⟩ = some (.int .i64 e.gv.h)
  c14 : w.cell? ⟨B, 14, none⟩ = some (.int .i64 e.gv.e)
  c15 : w.cell? ⟨B, 15, none⟩ = some (.slice e.ao e.len e.cap)
  c16 : w.cell? ⟨B, 16, none⟩ = some (.int .i64 e.pl)
theorem Bex.kept {w w' : World} {B : Nat} {e : Ex} (h : Bex w B e) (hb : Below w.heap.size w w') : Bex w' B e := ⟨up hb h.c0, up hb h.c1, up hb h.c2, up hb h.c3, up hb h.c4, up hb h.c5, up hb h.c6, up hb h.c7, up hb h.c8, up hb h.c9, up hb h.c10, up hb h.c11, up hb h.c12, up hb h.c13, up hb h.c14, up hb h.c15, up hb h.c16⟩
theorem Bex.range {w : World} {B : Nat} {e : Ex} (h : Bex w B e) : w.rangeAt B 0 e.vs := fun j v hv => by
  rw [Nat.zero_add]
  match j, hv with
  | 0, hv => rw [← hv]; exact h.c0
  | 1, hv => rw [← hv]; exact h.c1
  | 2, hv => rw [← hv]; exact h.c2
  | 3, hv => rw [← hv]; exact h.c3
  | 4, hv => rw [← hv]; exact h.c4
  | 5, hv => rw [← hv]; exact h.c5
  | 6, hv => rw [← hv]; exact h.c6
  | 7, hv => rw [← hv]; exact h.c7
  | 8, hv => rw [← hv]; exact h.c8
  | 9, hv => rw [← hv]; exact h.c9
  | 10, hv => rw [← hv]; exact h.c10
  | 11, hv => rw [← hv]; exact h.c11
  | 12, hv => rw [← hv]; exact h.c12
  | 13, hv => rw [← hv]; exact h.c13
  | 14, hv => rw [← hv]; exact h.c14
  | 15, hv => rw [← hv]; exact h.c15
  | 16, hv => rw [← hv]; exact h.c16
  | _ + 17, hv => simp [Ex.vs] at hv
theorem Bex.of_range {w : World} {B : Nat} {e : Ex} (h : w.rangeAt B 0 e.vs) : Bex w B e := by
  have key : ∀ j v, e.vs[j]? = some v → w.cell? ⟨B, j, none⟩ = some v := fun j v hv => by have := h j v hv; rwa [Nat.zero_add] at this
  exact ⟨key 0 _ rfl, key 1 _ rfl, key 2 _ rfl, key 3 _ rfl, key 4 _ rfl, key 5 _ rfl, key 6 _ rfl, key 7 _ rfl, key 8 _ rfl, key 9 _ rfl, key 10 _ rfl, key 11 _ rfl, key 12 _ rfl, key 13 _ rfl, key 14 _ rfl, key 15 _ rfl, key 16 _ rfl⟩
theorem ex_one (e : Ex) : e.vs.toArray.all (·.oneCell') = true := by simp [Ex.vs, Value.oneCell']
/-- An expression lies: its types, its texts (no longer than Go's), its Parts. -/
def Ex.At (w : World) : Ex → Prop
  | .dm => False
  | .mk _ _ _ tx ar ty gv ao b o len _ ps _ => (tx.size ≤ 9223372036854775807 ∧ ar.size ≤ 9223372036854775807) ∧ (ty.At w ∧ gv.At w) ∧ (0 < len → ao = some ⟨b, o, none⟩) ∧ len ≤ 9223372036854775807 ∧ ∀ i, i < len → C17 w b (o + i * 17) (ps i) ∧ Ex.At w (ps i)
theorem Ex.At.kept {w w' : World} (hb : Below w.heap.size w w') : ∀ {e : Ex}, e.At w → e.At w'
  | .dm, h => h.elim
  | .mk _ _ _ _ _ _ _ _ _ _ _ _ _ _, h => ⟨h.1, ⟨h.2.1.1.kept hb, h.2.1.2.kept hb⟩, h.2.2.1, h.2.2.2.1, fun i hi => ⟨(h.2.2.2.2 i hi).1.kept hb, Ex.At.kept hb (h.2.2.2.2 i hi).2⟩⟩
theorem Ex.At.tx {w : World} : ∀ {e : Ex}, e.At w → e.tx.size ≤ 9223372036854775807
  | .dm, h => h.elim
  | .mk _ _ _ _ _ _ _ _ _ _ _ _ _ _, h => h.1.1
theorem Ex.At.ar {w : World} : ∀ {e : Ex}, e.At w → e.ar.size ≤ 9223372036854775807
  | .dm, h => h.elim
  | .mk _ _ _ _ _ _ _ _ _ _ _ _ _ _, h => h.1.2
theorem Ex.At.ty {w : World} : ∀ {e : Ex}, e.At w → e.ty.At w
  | .dm, h => h.elim
  | .mk _ _ _ _ _ _ _ _ _ _ _ _ _ _, h => h.2.1.1
theorem Ex.At.gv {w : World} : ∀ {e : Ex}, e.At w → e.gv.At w
  | .dm, h => h.elim
  | .mk _ _ _ _ _ _ _ _ _ _ _ _ _ _, h => h.2.1.2
theorem Ex.At.nil {w : World} : ∀ {e : Ex}, e.At w → 0 < e.len → e.ao = some ⟨e.b, e.o, none⟩
  | .dm, h => h.elim
  | .mk _ _ _ _ _ _ _ _ _ _ _ _ _ _, h => h.2.2.1
theorem Ex.At.bound {w : World} : ∀ {e : Ex}, e.At w → e.len ≤ 9223372036854775807
  | .dm, h => h.elim
  | .mk _ _ _ _ _ _ _ _ _ _ _ _ _ _, h => h.2.2.2.1
theorem Ex.At.cells {w : World} : ∀ {e : Ex}, e.At w → ∀ {i}, i < e.len → C17 w e.b (e.o + i * 17) (e.ps i)
  | .dm, h, _, _ => h.elim
  | .mk _ _ _ _ _ _ _ _ _ _ _ _ _ _, h, i, hi => (h.2.2.2.2 i hi).1
theorem Ex.At.part {w : World} : ∀ {e : Ex}, e.At w → ∀ {i}, i < e.len → (e.ps i).At w
  | .dm, h, _, _ => h.elim
  | .mk _ _ _ _ _ _ _ _ _ _ _ _ _ _, h, i, hi => (h.2.2.2.2 i hi).2
/-- How many nodes. -/
def Ex.nodes : Ex → Nat
  | .dm => 1
  | .mk _ _ _ _ _ _ _ _ _ _ len _ ps _ => 1 + sumTo (fun i => Ex.nodes (ps i)) len
/-- One node as another, the number of Parts too, places apart. -/
def Ex.like (a b : Ex) : Bool := ((((((a.k == b.k) && (a.n == b.n)) && (a.m == b.m)) && (a.tx == b.tx)) && (a.ar == b.ar)) && (a.ty.same b.ty && a.gv.same b.gv)) && (a.len == b.len)
/-- All alike, places apart. -/
def Ex.same : Ex → Ex → Bool
  | .dm, t => Ex.like .dm t
  | .mk k n m tx ar ty gv ao b o len cap ps pl, t => Ex.like (.mk k n m tx ar ty gv ao b o len cap ps pl) t && decide (∀ i, i < len → Ex.same (ps i) (t.ps i) = true)
/-- Its types, and all texts, are of a size that the statements look at. -/
def Ex.sm : Ex → Bool
  | .dm => true
  | .mk _ _ _ tx ar ty gv _ _ _ len _ ps _ => (((decide (ty.nodes ≤ 40) && decide (gv.nodes ≤ 40)) && decide (tx.size ≤ 1000)) && decide (ar.size ≤ 1000)) && decide (∀ i, i < len → Ex.sm (ps i) = true)
/-- How deep it nests. -/
def mxTo (f : Nat → Nat) : Nat → Nat
  | 0 => 0
  | k + 1 => max (mxTo f k) (f k)
def Ex.nest : Ex → Nat
  | .dm => 1
  | .mk _ _ _ _ _ _ _ _ _ _ len _ ps _ => 1 + mxTo (fun i => Ex.nest (ps i)) len
end Go.Proofs.Ytmajlfocfjcgmaa

/- Layer 6: an expression's seventeen values as one letter; a new variable that holds them. -/
namespace Go.Proofs.Ytmajlfocfjcgmaa
open Go.RowKit

/-- An expression's values, as a row. -/
def Ex.va (e : Ex) : Array Value := e.vs.toArray
theorem Ex.va_one (e : Ex) : e.va.all (·.oneCell') = true := ex_one e
theorem Ex.va_size (e : Ex) : e.va.size = 17 := rfl
theorem Ex.va_list (e : Ex) : e.va.toList = e.vs := rfl
theorem Ex.ind {P : Ex → Prop} (h : ∀ t : Ex, (∀ i, i < t.len → P (t.ps i)) → P t) : ∀ t, P t := by
  intro t
  induction t with
  | dm => exact h _ (fun i hi => absurd hi (Nat.not_lt_zero _))
  | mk k n m tx ar ty gv ao b o len cap ps pl ih => exact h _ (fun i _ => ih i)

theorem setCells_new (w : World) (t : TypeId) : ∀ (vs pre post : List Value), post.length = vs.length → (w.alloc (.cells (pre ++ post).toArray t)).setCells w.heap.size pre.length vs = w.alloc (.cells (pre ++ vs).toArray t)
  | [], pre, post, h => by
    have e : post = [] := List.eq_nil_of_length_eq_zero h
    subst e; rfl
  | v :: vs, pre, [], h => by simp at h
  | v :: vs, pre, p :: post, h => by
    rw [World.setCells, World.setCell_alloc_new]
    have e : ((pre ++ p :: post).toArray.setIfInBounds pre.length v) = ((pre ++ [v]) ++ post).toArray := by
      apply Array.toList_inj.1
      simp
    have h2 : post.length = vs.length := by simpa using h
    have k := setCells_new w t vs (pre ++ [v]) post h2
    rw [e]
    have e2 : (pre ++ [v]).length = pre.length + 1 := by simp
    rw [e2] at k
    rw [k]
    simp

/-- A new variable, filled at once. -/
theorem wpList_new_mid {ops : Array Oper} {rest : List Oper} {o1 o2 : Oper} {a : Act} {w : World} {Q : Exit → Act → World → Prop} (hg1 : o1.guard = none) (hg2 : o2.guard = none) (ty : TypeId) (h1 : o1.op = .alloc ty) (x y : Operand) (h2 : o2.op = .store ty x y)
    (zs : List Value) (hz : (Instr.alloc ty true (.tuple #[])).run Try.prog w = .ok (.pointer (some ⟨w.heap.size, 0, none⟩)) (w.alloc (.cells zs.toArray ty))) (hd2 : o2.dst = none)
    (cells : Array Value) (hx : (a.put o1.dst (.pointer (some ⟨w.heap.size, 0, none⟩))).eval x = .pointer (some ⟨w.heap.size, 0, none⟩)) (hy : (a.put o1.dst (.pointer (some ⟨w.heap.size, 0, none⟩))).eval y = .agg cells)
    (hl : zs.length = cells.size) (hi : (Try.prog.info? ty).map (·.size) = some cells.size) (hc : cells.all (·.oneCell') = true)
    (h : wpList Try.prog ops Q rest (a.put o1.dst (.pointer (some ⟨w.heap.size, 0, none⟩))) (w.alloc (.cells cells ty))) : wpList Try.prog ops Q (o1 :: o2 :: rest) a w := by
  refine wpList_plain hg1 fun _ hK => ?_
  unfold Oper.wp execOp
  simp only [h1, Sem.run_bind, hz, Result.andThen_ok, Sem.run_pure]
  refine hK _ _ ?_
  refine wpList_store_mid hg2 ty x y h2 w.heap.size 0 cells hx hy (fun j hj => ⟨?_, ?_⟩) hi hc ?_
  · have : j < zs.length := by omega
    show ((w.alloc (.cells zs.toArray ty)).cell? ⟨w.heap.size, 0 + j, none⟩).isSome = true
    simp [this]
  · simp
  · have k := setCells_new w ty cells.toList [] zs (by simpa using hl)
    simp only [List.nil_append, List.length_nil] at k
    rw [k, hd2]
    exact h

def zEx : List Value := [.int .i64 0, .int .i64 0, .int .i64 0, .string ⟨#[]⟩, .string ⟨#[]⟩, .int .i64 0, .int .i64 0, .slice none 0 0, .int .i64 0, .int .i64 0, .int .i64 0, .int .i64 0, .slice none 0 0, .int .i64 0, .int .i64 0, .slice none 0 0, .int .i64 0]
end Go.Proofs.Ytmajlfocfjcgmaa

/- The map of places: a key is an address, a nil pointer and a number. -/
namespace Go.Proofs.Ytmajlfocfjcgmaa
open Go.RowKit

def keyV (a : Addr) (n : Nat) : Value := .agg #[.pointer (some a), .pointer none, .int .i64 n]
/-- Blocks that bear no mark. -/
def PlainAt (w : World) (b : Nat) : Prop := ∃ c t, w.heap[b]? = some (.cells c t (0, 0))

theorem run_eqp_int (w : World) (d : Nat) (m n : Nat) : (Op.equalIn (d + 1) 3 (.int .i64 m) (.int .i64 n)).run Try.prog w = .ok (decide (m = n)) w := by
  simp [Op.equalIn, run_underlying Try.underlying3]
  by_cases h : m = n
  · simp [h]
  · have : ¬ (m : Int) = n := by omega
    simp [h, this]
theorem run_part_int (w : World) (x y z : Value) (i : Nat) (v : Value) (h : #[x, y, z][i]? = some v) : (part 3 #[x, y, z] i).run Try.prog w = .ok v w := by
  simp [part, isAgg, run_underlying Try.underlying3, h]
/-- The keys of a map of places. -/
structure Keys (w : World) (es : Array MapEntry) (ks : List (Addr × Nat)) : Prop where
  keys : es.toList.map (·.key) = ks.map fun k => keyV k.1 k.2
  vals : ∀ e ∈ es.toList, e.val = .agg #[]
  plain : ∀ k ∈ ks, PlainAt w k.1.block
end Go.Proofs.Ytmajlfocfjcgmaa

/- Layer 6: the counts of nodes, the sizes. -/
namespace Go.Proofs.Ytmajlfocfjcgmaa
open Go.RowKit

end Go.Proofs.Ytmajlfocfjcgmaa

/- Layer 6: walk's count of an expression's nodes. -/
namespace Go.Proofs.Ytmajlfocfjcgmaa
open Go.RowKit

theorem Ex.At.nodes_eq {w : World} : ∀ {t : Ex}, t.At w → t.nodes = 1 + sumTo (fun i => (t.ps i).nodes) t.len
  | .dm, h => h.elim
  | .mk _ _ _ _ _ _ _ _ _ _ _ _ _ _, _ => rfl
end Go.Proofs.Ytmajlfocfjcgmaa

/- Layer 6: how deep an expression nests, level by level. -/
namespace Go.Proofs.Ytmajlfocfjcgmaa
open Go.RowKit

def mx (l : List Nat) : Nat := l.foldr max 0
theorem le_mx : ∀ {l : List Nat} {x : Nat}, x ∈ l → x ≤ mx l
  | a :: l, x, h => by
    show x ≤ max a (mx l)
    rcases List.mem_cons.1 h with rfl | h
    · omega
    · have := le_mx h; omega
theorem mx_le : ∀ {l : List Nat} {n : Nat}, (∀ x ∈ l, x ≤ n) → mx l ≤ n
  | [], _, _ => Nat.zero_le _
  | a :: l, n, h => by
    show max a (mx l) ≤ n
    have h1 := h a (List.mem_cons_self ..)
    have h2 := mx_le (l := l) (fun x hx => h x (List.mem_cons_of_mem _ hx))
    omega
/-- The Parts of all these. -/
def kid (e : Ex) : List Ex := (List.range e.len).map e.ps
def kids (L : List Ex) : List Ex := L.flatMap kid
theorem mem_kid {e x : Ex} : x ∈ kid e ↔ ∃ i, i < e.len ∧ x = e.ps i := by
  unfold kid; simp only [List.mem_map, List.mem_range]
  exact ⟨fun ⟨i, h, e⟩ => ⟨i, h, e.symm⟩, fun ⟨i, h, e⟩ => ⟨i, h, e.symm⟩⟩
theorem mem_kids {L : List Ex} {x : Ex} : x ∈ kids L ↔ ∃ e ∈ L, x ∈ kid e := by unfold kids; simp only [List.mem_flatMap]
def dpth (L : List Ex) : Nat := mx ((kids L).map Ex.nest)
def nsum (L : List Ex) : Nat := (L.map Ex.nodes).sum
theorem nsum_append (a b : List Ex) : nsum (a ++ b) = nsum a + nsum b := by unfold nsum; simp
theorem nsum_one (x : Ex) : nsum [x] = x.nodes := by unfold nsum; simp
theorem nodes_pos : ∀ e : Ex, 1 ≤ e.nodes
  | .dm => Nat.le_refl _
  | .mk _ _ _ _ _ _ _ _ _ _ len _ ps _ => by show 1 ≤ 1 + sumTo _ len; omega
theorem len_le_nsum : ∀ L : List Ex, L.length ≤ nsum L
  | [] => Nat.le_refl _
  | e :: L => by
    have h1 := nodes_pos e
    have h2 := len_le_nsum L
    have : nsum (e :: L) = e.nodes + nsum L := by unfold nsum; simp
    simp; omega
theorem nsum_kid {w : World} : ∀ {e : Ex}, e.At w → nsum (kid e) + 1 = e.nodes
  | .dm, h => h.elim
  | .mk _ _ _ _ _ _ _ _ _ _ len _ ps _, _ => by
    show nsum ((List.range len).map ps) + 1 = 1 + sumTo (fun i => (ps i).nodes) len
    have : ∀ n, nsum ((List.range n).map ps) = sumTo (fun i => (ps i).nodes) n := by
      intro n
      induction n with
      | zero => rfl
      | succ n ih => rw [List.range_succ, List.map_append, nsum_append, ih]; simp [nsum, sumTo]
    rw [this]; omega
theorem nsum_kids {w : World} : ∀ {L : List Ex}, (∀ e ∈ L, e.At w) → nsum (kids L) + L.length = nsum L
  | [], _ => rfl
  | e :: L, h => by
    have h1 := nsum_kid (h e (List.mem_cons_self ..))
    have h2 := nsum_kids (L := L) (fun x hx => h x (List.mem_cons_of_mem _ hx))
    have e1 : kids (e :: L) = kid e ++ kids L := rfl
    have e2 : nsum (e :: L) = e.nodes + nsum L := by unfold nsum; simp
    rw [e1, nsum_append, e2]; simp; omega
theorem mxTo_le {f : Nat → Nat} : ∀ {n m : Nat}, (∀ i, i < n → f i ≤ m) → mxTo f n ≤ m
  | 0, _, _ => Nat.zero_le _
  | n + 1, m, h => by
    show max (mxTo f n) (f n) ≤ m
    have := mxTo_le (n := n) (m := m) (fun i hi => h i (by omega))
    have := h n (by omega)
    omega
theorem le_mxTo {f : Nat → Nat} : ∀ {n i : Nat}, i < n → f i ≤ mxTo f n
  | n + 1, i, h => by
    show f i ≤ max (mxTo f n) (f n)
    rcases Nat.lt_or_ge i n with h1 | h1
    · have := le_mxTo (f := f) h1; omega
    · have : i = n := by omega
      subst this; omega
theorem Ex.At.nest_eq {w : World} : ∀ {t : Ex}, t.At w → t.nest = 1 + mxTo (fun i => (t.ps i).nest) t.len
  | .dm, h => h.elim
  | .mk _ _ _ _ _ _ _ _ _ _ _ _ _ _, _ => rfl
theorem mxTo_congr {f g : Nat → Nat} : ∀ {n : Nat}, (∀ i, i < n → f i = g i) → mxTo f n = mxTo g n
  | 0, _ => rfl
  | n + 1, h => by
    show max (mxTo f n) (f n) = max (mxTo g n) (g n)
    rw [mxTo_congr (n := n) (fun i hi => h i (by omega)), h n (by omega)]
/-- Two that have their Parts at one place nest alike. -/
theorem nest_same {w : World} : ∀ (s t : Ex), s.At w → t.At w → s.len = t.len → (0 < s.len → s.b = t.b ∧ s.o = t.o) → s.nest = t.nest := by
  intro s
  induction s using Ex.ind with
  | h s ih =>
    intro t hs ht hl hb
    rw [hs.nest_eq, ht.nest_eq, ← hl]
    congr 1
    refine mxTo_congr fun i hi => ?_
    obtain ⟨eb, eo⟩ := hb (by omega)
    have cs := hs.cells hi
    have ct := ht.cells (hl ▸ hi)
    rw [← eb, ← eo] at ct
    have k15 := cs.c15.symm.trans ct.c15
    simp only [Option.some.injEq, Value.slice.injEq] at k15
    refine ih i hi (t.ps i) (hs.part hi) (ht.part (hl ▸ hi)) k15.2.1 fun hp => ?_
    have a1 := (hs.part hi).nil hp
    have a2 := (ht.part (hl ▸ hi)).nil (by omega)
    have := a1.symm.trans (k15.1.trans a2)
    simp at this
    exact this
/-- No block of its Parts bears a mark. -/
def Ex.Pl (w : World) : Ex → Prop
  | .dm => True
  | .mk _ _ _ _ _ _ _ _ b _ len _ ps _ => (0 < len → PlainAt w b) ∧ ∀ i, i < len → Ex.Pl w (ps i)
theorem Ex.Pl.b {w : World} : ∀ {e : Ex}, e.Pl w → 0 < e.len → PlainAt w e.b
  | .dm, _, h => absurd h (Nat.lt_irrefl 0)
  | .mk _ _ _ _ _ _ _ _ _ _ _ _ _ _, h, hl => h.1 hl
theorem Ex.Pl.part {w : World} : ∀ {e : Ex}, e.Pl w → ∀ {i}, i < e.len → (e.ps i).Pl w
  | .dm, _, _, h => absurd h (Nat.not_lt_zero _)
  | .mk _ _ _ _ _ _ _ _ _ _ _ _ _ _, h, _, hl => h.2 _ hl
theorem PlainAt.kept {w w' : World} {b : Nat} (h : PlainAt w b) (hb : Below w.heap.size w w') : PlainAt w' b := by
  obtain ⟨c, t, h⟩ := h
  refine ⟨c, t, ?_⟩
  rw [hb.block b ?_]; exact h
  rcases Nat.lt_or_ge b w.heap.size with h1 | h1
  · exact h1
  · rw [Array.getElem?_eq_none h1] at h; cases h
theorem Ex.Pl.kept {w w' : World} (hb : Below w.heap.size w w') : ∀ {e : Ex}, e.Pl w → e.Pl w'
  | .dm, _ => trivial
  | .mk _ _ _ _ _ _ _ _ _ _ _ _ _ _, h => ⟨fun hl => (h.1 hl).kept hb, fun i hi => Ex.Pl.kept hb (h.2 i hi)⟩
def ekey (e : Ex) : Addr × Nat := (⟨e.b, e.o, none⟩, e.len)
/-- What is known of the next level behind these nodes. -/
structure NM (done nx : List Ex) : Prop where
  pos : ∀ r ∈ nx, r ∈ done ∧ 0 < r.len
  met : ∀ e ∈ done, 0 < e.len → ekey e ∈ nx.map ekey
  sum : nsum nx ≤ nsum done
theorem NM.nil : NM [] [] := ⟨by simp, by simp, Nat.le_refl _⟩
theorem NM.empty {done nx : List Ex} (h : NM done nx) {x : Ex} (hx : x.len = 0) : NM (done ++ [x]) nx :=
  ⟨fun r hr => ⟨List.mem_append_left _ (h.pos r hr).1, (h.pos r hr).2⟩, fun e he hl => by
    rcases List.mem_append.1 he with h1 | h1
    · exact h.met e h1 hl
    · have : e = x := by simpa using h1
      subst this; omega, by rw [nsum_append]; have := h.sum; omega⟩
theorem NM.old {done nx : List Ex} (h : NM done nx) {x : Ex} (hx : ekey x ∈ nx.map ekey) : NM (done ++ [x]) nx :=
  ⟨fun r hr => ⟨List.mem_append_left _ (h.pos r hr).1, (h.pos r hr).2⟩, fun e he hl => by
    rcases List.mem_append.1 he with h1 | h1
    · exact h.met e h1 hl
    · have : e = x := by simpa using h1
      subst this; exact hx, by rw [nsum_append]; have := h.sum; omega⟩
theorem NM.new {done nx : List Ex} (h : NM done nx) {x : Ex} (hx : 0 < x.len) : NM (done ++ [x]) (nx ++ [x]) :=
  ⟨fun r hr => by
    rcases List.mem_append.1 hr with h1 | h1
    · exact ⟨List.mem_append_left _ (h.pos r h1).1, (h.pos r h1).2⟩
    · have : r = x := by simpa using h1
      subst this; exact ⟨List.mem_append_right _ h1, hx⟩, fun e he hl => by
    rw [List.map_append]
    rcases List.mem_append.1 he with h1 | h1
    · exact List.mem_append_left _ (h.met e h1 hl)
    · exact List.mem_append_right _ (List.mem_map_of_mem h1), by rw [nsum_append, nsum_append]; have := h.sum; omega⟩
theorem NM.deep {w : World} {L nx : List Ex} (h : NM (kids L) nx) (hA : ∀ e ∈ L, e.At w) (hne : kids L ≠ []) : dpth nx + 1 = dpth L := by
  have hk : ∀ x ∈ kids L, x.At w := fun x hx => by
    obtain ⟨e, he, hx⟩ := mem_kids.1 hx
    obtain ⟨i, hi, rfl⟩ := mem_kid.1 hx
    exact (hA e he).part hi
  apply Nat.le_antisymm
  · have h0 : 1 ≤ dpth L := by
      cases hq : kids L with
      | nil => exact absurd hq hne
      | cons x l =>
        have hx : x ∈ kids L := by rw [hq]; exact List.mem_cons_self ..
        have h1 : x.nest ≤ dpth L := le_mx (List.mem_map_of_mem hx)
        rw [(hk x hx).nest_eq] at h1
        omega
    have : dpth nx ≤ dpth L - 1 := by
      refine mx_le fun m hm => ?_
      obtain ⟨y, hy, rfl⟩ := List.mem_map.1 hm
      obtain ⟨r, hr, hy⟩ := mem_kids.1 hy
      obtain ⟨i, hi, rfl⟩ := mem_kid.1 hy
      have hr2 := (h.pos r hr).1
      have h1 : r.nest ≤ dpth L := le_mx (List.mem_map_of_mem hr2)
      rw [(hk r hr2).nest_eq] at h1
      have h2 := le_mxTo (f := fun i => (r.ps i).nest) hi
      omega
    omega
  · refine mx_le fun m hm => ?_
    obtain ⟨x, hx, rfl⟩ := List.mem_map.1 hm
    have e0 : ∀ r ∈ nx, r.nest ≤ dpth nx + 1 := fun r hr => by
      rw [(hk r (h.pos r hr).1).nest_eq]
      have : mxTo (fun i => (r.ps i).nest) r.len ≤ dpth nx := mxTo_le fun i hi => le_mx (List.mem_map_of_mem (mem_kids.2 ⟨r, hr, mem_kid.2 ⟨i, hi, rfl⟩⟩))
      omega
    rcases Nat.eq_zero_or_pos x.len with h1 | h1
    · rw [(hk x hx).nest_eq, h1]; show 1 + 0 ≤ _; omega
    · obtain ⟨r, hr, hq⟩ := List.mem_map.1 (h.met x hx h1)
      have hq' : r.b = x.b ∧ r.o = x.o ∧ r.len = x.len := by
        have : ((⟨r.b, r.o, none⟩ : Addr), r.len) = (⟨x.b, x.o, none⟩, x.len) := hq
        simp only [Prod.mk.injEq, Addr.mk.injEq] at this
        exact ⟨this.1.1, this.1.2.1, this.2⟩
      rw [← nest_same r x (hk r (h.pos r hr).1) (hk x hx) hq'.2.2 (fun _ => ⟨hq'.1, hq'.2.1⟩)]
      exact e0 r hr
end Go.Proofs.Ytmajlfocfjcgmaa

/- Layer 6: walk.Deep, and syntax.Nest. -/
namespace Go.Proofs.Ytmajlfocfjcgmaa
open Go.RowKit

def exv (e : Ex) : Value := .slice e.ao e.len e.cap
/-- A list of lists of expressions. -/
def LAt (w : World) (v : Value) (L : List Ex) : Prop := ∃ ao b o cap, v = .slice ao L.length cap ∧ (0 < L.length → ao = some ⟨b, o, none⟩) ∧ (∀ i e, L[i]? = some e → w.cell? ⟨b, o + i, none⟩ = some (exv e)) ∧ ∀ e ∈ L, e.At w ∧ e.Pl w ∧ 0 < e.len
theorem eown_lt {w : World} {base : Nat} {e : TypeId} {size : Nat} {v : Value} {n : Nat} {xs : List Value} (h : w.ownsRow base e size v n xs) {b : Nat} (hb : v.ownBlock = some b) : base ≤ b ∧ b < w.heap.size := by
  obtain ⟨_, ⟨rfl, _⟩ | ⟨g, cap, cur, rfl, hg, hh, _⟩⟩ := h
  · cases hb
  · have : g = b := by simpa [Value.ownBlock] using hb
    subst this
    exact ⟨hg, by rcases Nat.lt_or_ge g w.heap.size with h1 | h1; exact h1; rw [Array.getElem?_eq_none h1] at hh; cases hh⟩
theorem eown_blk {w w' : World} {base : Nat} {e : TypeId} {size : Nat} {v : Value} {n : Nat} {xs : List Value} (h : w.ownsRow base e size v n xs) (hb : ∀ b, v.ownBlock = some b → w'.heap[b]? = w.heap[b]?) : w'.ownsRow base e size v n xs := by
  obtain ⟨hl, h⟩ := h
  refine ⟨hl, ?_⟩
  rcases h with ⟨rfl, hn⟩ | ⟨g, cap, cur, rfl, hg, hh, hr⟩
  · exact Or.inl ⟨rfl, hn⟩
  · exact Or.inr ⟨g, cap, cur, rfl, hg, by rw [hb g rfl]; exact hh, hr⟩
theorem eown_up {w w' : World} {base : Nat} {e : TypeId} {size : Nat} {v : Value} {n : Nat} {xs : List Value} (h : w.ownsRow base e size v n xs) (hb : Below w.heap.size w w') : w'.ownsRow base e size v n xs :=
  eown_blk h fun b e => hb.block b (eown_lt h e).2
theorem eown_form {w : World} {base : Nat} {e : TypeId} {size : Nat} {v : Value} {n : Nat} {xs : List Value} (h : w.ownsRow base e size v n xs) : ∃ ao cap, v = .slice ao n cap := by
  obtain ⟨_, ⟨rfl, rfl⟩ | ⟨g, cap, cur, rfl, _⟩⟩ := h
  · exact ⟨none, 0, rfl⟩
  · exact ⟨_, cap, rfl⟩
theorem Keys.kept {w w' : World} {es : Array MapEntry} {ks : List (Addr × Nat)} (h : Keys w es ks) (hb : Below w.heap.size w w') : Keys w' es ks := ⟨h.keys, h.vals, fun k hk => (h.plain k hk).kept hb⟩
theorem eblock_lt {w : World} {k : Nat} {o : Obj} (h : w.heap[k]? = some o) : k < w.heap.size := by
  rcases Nat.lt_or_ge k w.heap.size with h1 | h1
  · exact h1
  · rw [Array.getElem?_eq_none h1] at h; cases h
theorem kids_pre {L : List Ex} {j q : Nat} {e : Ex} (he : L[j]? = some e) (hq : q < e.len) : nsum (kids (L.take j) ++ (List.range (q + 1)).map e.ps) ≤ nsum (kids L) := by
  have hj : j < L.length := by
    rcases Nat.lt_or_ge j L.length with h | h
    · exact h
    · rw [List.getElem?_eq_none h] at he; cases he
  have e1 : L = L.take j ++ e :: L.drop (j + 1) := by
    have h1 := (List.take_append_drop j L).symm
    have h2 : L.drop j = L[j] :: L.drop (j + 1) := List.drop_eq_getElem_cons hj
    have h3 : L[j] = e := by rw [List.getElem?_eq_getElem hj] at he; exact Option.some.inj he
    rw [h2, h3] at h1
    exact h1
  have e2 : kids L = kids (L.take j) ++ (kid e ++ kids (L.drop (j + 1))) := by
    conv => lhs; rw [e1]
    unfold kids
    rw [List.flatMap_append, List.flatMap_cons]
  have e3 : kid e = (List.range (q + 1)).map e.ps ++ ((List.range (e.len - (q + 1))).map (fun i => e.ps (q + 1 + i))) := by
    unfold kid
    conv => lhs; rw [show e.len = (q + 1) + (e.len - (q + 1)) by omega, List.range_add, List.map_append, List.map_map]
    rfl
  rw [e2, e3, nsum_append, nsum_append, nsum_append, nsum_append]
  omega
theorem kids_take {L : List Ex} {j : Nat} {e : Ex} (he : L[j]? = some e) : kids (L.take (j + 1)) = kids (L.take j) ++ (List.range e.len).map e.ps := by
  rw [List.take_add_one, he]
  unfold kids
  rw [List.flatMap_append]
  simp [kid]
/-- A list of this one alone. -/
def lone1 (B : Nat) (t : Ex) : Ex := .mk 0 0 0 ⟨#[]⟩ ⟨#[]⟩ (.mk 0 0 0 0 none 0 0 0 0 fun _ => .dm) (.mk 0 0 0 0 none 0 0 0 0 fun _ => .dm) (some ⟨B, 0, none⟩) B 0 1 1 (fun _ => t) 0
theorem lone1_at {w : World} {B : Nat} {t : Ex} (h : t.At w) (hc : C17 w B 0 t) : (lone1 B t).At w :=
  ⟨⟨by decide, by decide⟩, ⟨⟨fun h => absurd h (Nat.lt_irrefl 0), by decide, fun i hi => absurd hi (Nat.not_lt_zero _)⟩, ⟨fun h => absurd h (Nat.lt_irrefl 0), by decide, fun i hi => absurd hi (Nat.not_lt_zero _)⟩⟩, fun _ => rfl, by decide, fun i hi => by
    have : i = 0 := by omega
    subst this
    exact ⟨by simpa using hc, h⟩⟩
end Go.Proofs.Ytmajlfocfjcgmaa

/- Layer 6: lists of expressions that are written out; walk.Deep, syntax.Nest. -/
namespace Go.Proofs.Ytmajlfocfjcgmaa
open Go.RowKit

theorem fill1_ex (t : Ex) : Instr.fill (fun i => some (i * 17, 17)) (Array.map (fun x => zEx[x % zEx.length]?.getD default) (Array.range 17)) [(0, Value.agg t.va)] = some t.va := by kernel_rfl
theorem fill2_ex (s t : Ex) : Instr.fill (fun i => some (i * 17, 17)) (Array.map (fun x => zEx[x % zEx.length]?.getD default) (Array.range 34)) [(0, Value.agg s.va), (1, Value.agg t.va)] = some (s.va ++ t.va) := by kernel_rfl
theorem fill3_ex (r s t : Ex) : Instr.fill (fun i => some (i * 17, 17)) (Array.map (fun x => zEx[x % zEx.length]?.getD default) (Array.range 51)) [(0, Value.agg r.va), (1, Value.agg s.va), (2, Value.agg t.va)] = some (r.va ++ s.va ++ t.va) := by kernel_rfl
/-- A list that is written out, where its run is known. -/
theorem wpList_slice {ops : Array Oper} {rest : List Oper} {o : Oper} {a : Act} {w w' : World} {v : Value} {Q : Exit → Act → World → Prop} (hgd : o.guard = none) (t : TypeId) (n : Nat) (parts : Array (Nat × Operand)) (ho : o.op = .buildSlice t n parts) (vals : Array (Nat × Value)) (hv : (parts.map fun (i, x) => (i, a.eval x)) = vals)
    (hs : (Instr.buildSlice t n vals).run Try.prog w = .ok v w') (h : wpList Try.prog ops Q rest (a.put o.dst v) w') : wpList Try.prog ops Q (o :: rest) a w := by
  subst hv
  refine wpList_plain hgd fun _ hK => ?_
  unfold Oper.wp execOp
  simp only [ho, Sem.run_bind, hs, Result.andThen_ok, Sem.run_pure]
  exact hK _ _ h
theorem C17.ofB {w : World} {B : Nat} {e : Ex} (h : Bex w B e) : C17 w B 0 e := C17.of_range h.range
theorem plain_new (w : World) (c : Array Value) (t : TypeId) : PlainAt (w.alloc (.cells c t)) w.heap.size := ⟨c, t, heap_alloc_new _ _⟩
theorem LAt.kids_ne {w : World} {v : Value} {L : List Ex} (h : LAt w v L) (hl : 0 < L.length) : kids L ≠ [] := by
  obtain ⟨_, _, _, _, _, _, _, hA⟩ := h
  match L, hl with
  | e :: L, _ =>
    have h1 := (hA e (List.mem_cons_self ..)).2.2
    intro hq
    have : e.ps 0 ∈ kids (e :: L) := mem_kids.2 ⟨e, List.mem_cons_self .., mem_kid.2 ⟨0, h1, rfl⟩⟩
    rw [hq] at this
    cases this
theorem LAt.form {w : World} {v : Value} {L : List Ex} (h : LAt w v L) : ∃ ao cap, v = .slice ao L.length cap := by
  obtain ⟨ao, _, _, cap, h, _⟩ := h
  exact ⟨ao, cap, h⟩
theorem LAt.at {w : World} {v : Value} {L : List Ex} (h : LAt w v L) : ∀ e ∈ L, e.At w := by
  obtain ⟨_, _, _, _, _, _, _, hA⟩ := h
  exact fun e he => (hA e he).1
end Go.Proofs.Ytmajlfocfjcgmaa

/- Variables as whole blocks. -/
namespace Go.Proofs.Ytmajlfocfjcgmaa
open Go Go.RowKit

/-- A block that holds just these values, unmarked. -/
def Blk (w : World) (B : Nat) (c : List Value) (t : TypeId) : Prop := w.heap[B]? = some (.cells c.toArray t (0, 0))
theorem Blk.lt {w : World} {B : Nat} {c : List Value} {t : TypeId} (h : Blk w B c t) : B < w.heap.size := eblock_lt h
theorem Blk.kept {w w' : World} {B : Nat} {c : List Value} {t : TypeId} (h : Blk w B c t) (hb : Below w.heap.size w w') : Blk w' B c t := by
  unfold Blk; rw [hb.block B h.lt]; exact h
theorem Blk.cell {w : World} {B : Nat} {c : List Value} {t : TypeId} (h : Blk w B c t) (i : Nat) {v : Value} (hv : c[i]? = some v) : w.cell? ⟨B, i, none⟩ = some v := by
  unfold Blk at h
  simp [World.cell?, h, hv]
theorem Blk.frozen {w : World} {B : Nat} {c : List Value} {t : TypeId} (h : Blk w B c t) (i : Nat) : w.frozen? ⟨B, i, none⟩ = false := by
  unfold Blk at h
  simp [World.frozen?, h]
theorem Blk.there {w : World} {B : Nat} {c : List Value} {t : TypeId} (h : Blk w B c t) : w.there B 0 c.length := there_of h
theorem Blk.range {w : World} {B : Nat} {c : List Value} {t : TypeId} (h : Blk w B c t) : w.rangeAt B 0 c := fun j v hv => by rw [Nat.zero_add]; exact h.cell j hv
theorem Blk.new (w : World) (c : List Value) (t : TypeId) : Blk (w.alloc (.cells c.toArray t)) w.heap.size c t := heap_alloc_new _ _
theorem Blk.plain {w : World} {B : Nat} {c : List Value} {t : TypeId} (h : Blk w B c t) : PlainAt w B := ⟨_, _, h⟩
/-- One block written, all else as it was. -/
structure WroteB (w w' : World) (B : Nat) (c : List Value) (t : TypeId) : Prop where
  blk : Blk w' B c t
  other : ∀ b, b ≠ B → w'.heap[b]? = w.heap[b]?
  size : w'.heap.size = w.heap.size
  below : ∀ {B0 : Nat} {a : World}, B0 ≤ B → Below B0 a w → Below B0 a w'
theorem WroteB.keep {w w' : World} {B B' : Nat} {c c' : List Value} {t t' : TypeId} (h : WroteB w w' B c t) (hb : Blk w B' c' t') (hne : B' ≠ B) : Blk w' B' c' t' := by unfold Blk; rw [h.other _ hne]; exact hb
theorem setCells_heap (b : Nat) : ∀ (vs : List Value) (o : Nat) (w : World) (k : Nat), k ≠ b → (w.setCells b o vs).heap[k]? = w.heap[k]?
  | [], _, _, _, _ => rfl
  | v :: vs, o, w, k, h => by
    rw [World.setCells, setCells_heap b vs (o + 1) _ k h, Below.heap_setCell _ _ _ _ h]
theorem setCells_size (b : Nat) : ∀ (vs : List Value) (o : Nat) (w : World), (w.setCells b o vs).heap.size = w.heap.size
  | [], _, _ => rfl
  | v :: vs, o, w => by rw [World.setCells, setCells_size b vs (o + 1)]; simp [World.setCell]
theorem setCells_blk (t : TypeId) : ∀ (vs pre post : List Value) (w : World) (B : Nat), post.length = vs.length → Blk w B (pre ++ post) t → Blk (w.setCells B pre.length vs) B (pre ++ vs) t
  | [], pre, post, w, B, h, hb => by
    have e : post = [] := List.eq_nil_of_length_eq_zero h
    subst e; exact hb
  | v :: vs, pre, [], w, B, h, hb => by simp at h
  | v :: vs, pre, p :: post, w, B, h, hb => by
    rw [World.setCells]
    have h1 : Blk (w.setCell ⟨B, pre.length, none⟩ v) B ((pre ++ [v]) ++ post) t := by
      have hl := hb.lt
      unfold Blk at hb ⊢
      have e : ((pre ++ p :: post).toArray.setIfInBounds pre.length v) = ((pre ++ [v]) ++ post).toArray := by
        apply Array.toList_inj.1
        simp
      rw [← e]
      simp [World.setCell, Array.getElem?_modify, hb]
    have k := setCells_blk t vs (pre ++ [v]) post _ B (by simpa using h) h1
    rw [show (pre ++ [v]).length = pre.length + 1 by simp] at k
    simpa using k
theorem wrote_setCells {w : World} {B : Nat} {c : List Value} {t : TypeId} (h : Blk w B c t) (vs : List Value) (hl : c.length = vs.length) : WroteB w (w.setCells B 0 vs) B vs t :=
  ⟨setCells_blk t vs [] c w B hl (by simpa using h), fun b hb => setCells_heap _ _ _ _ _ hb, setCells_size _ _ _ _, fun hB hb => below_setCells hB _ _ _ hb⟩
/-- A value stored whole. -/
theorem wpList_store_blk {w : World} {ops : Array Oper} {rest : List Oper} {o : Oper} {a : Act} {Q : Exit → Act → World → Prop} (hgd : o.guard = none) (hdst : o.dst = none) (t : TypeId) (p x : Operand) (ho : o.op = .store t p x) (B : Nat) (vs : List Value)
    (hp : a.eval p = .pointer (some ⟨B, 0, none⟩)) (hx : a.eval x = .agg vs.toArray) (h1 : vs.all (·.oneCell') = true) {c : List Value} (hb : Blk w B c t) (hl : c.length = vs.length) (hi : (Try.prog.info? t).map (·.size) = some vs.toArray.size)
    (h : ∀ w', WroteB w w' B vs t → wpList Try.prog ops Q rest a w') : wpList Try.prog ops Q (o :: rest) a w := by
  refine wpList_store_mid hgd t p x ho B 0 vs.toArray hp hx ?_ hi (by simpa using h1) ?_
  · have := hb.there; rw [hl] at this; simpa using this
  · rw [hdst]
    exact h _ (wrote_setCells hb vs hl)
/-- Blocks made one behind the other. -/
theorem allocs_heap : ∀ (os : List Obj) (w : World) (i : Nat), i < os.length → (os.foldl World.alloc w).heap[w.heap.size + i]? = os[i]?
  | [], _, i, h => absurd h (Nat.not_lt_zero i)
  | o :: os, w, 0, _ => by
    show (os.foldl World.alloc (w.alloc o)).heap[w.heap.size + 0]? = some o
    have key : ∀ (os : List Obj) (w : World) (k : Nat), k < w.heap.size → (os.foldl World.alloc w).heap[k]? = w.heap[k]? := by
      intro os
      induction os with
      | nil => intro w k _; rfl
      | cons o os ih => intro w k hk; show (os.foldl World.alloc (w.alloc o)).heap[k]? = _; rw [ih _ k (by simp; omega), Below.heap_alloc _ _ _ hk]
    rw [Nat.add_zero, key os _ _ (by simp), heap_alloc_new]
  | o :: os, w, i + 1, h => by
    have := allocs_heap os (w.alloc o) i (by simpa using h)
    show (os.foldl World.alloc (w.alloc o)).heap[w.heap.size + (i + 1)]? = os[i]?
    rw [alloc_size] at this
    rw [← this, show w.heap.size + 1 + i = w.heap.size + (i + 1) by omega]
theorem allocs_below : ∀ (os : List Obj) (w : World), Below w.heap.size w (os.foldl World.alloc w)
  | [], _ => Below.refl _ _
  | o :: os, w => Below.next (below_alloc w o) (allocs_below os (w.alloc o))
theorem allocs_size : ∀ (os : List Obj) (w : World), (os.foldl World.alloc w).heap.size = w.heap.size + os.length
  | [], _ => rfl
  | o :: os, w => by
    show (os.foldl World.alloc (w.alloc o)).heap.size = _
    rw [allocs_size os, alloc_size]; simp; omega
end Go.Proofs.Ytmajlfocfjcgmaa
