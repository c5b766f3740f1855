/- The walks of slices.EqualFunc and layer 1's Same. -/
import Derived.Test.YtgbillimanpmnaaSame
namespace Go.Proofs.Ytgbillimanpmnaa
open Go.RowKit

def Grid.row (g : Grid) (r : Nat) : Row := ⟨g.A r, g.AB r, g.AO r, g.L r, g.C r, g.B r⟩
theorem Grid.row_at {g : Grid} {w : World} (h : g.At w) {r : Nat} (hr : r < g.len) : (g.row r).At w := ⟨h.adr r hr, h.lbound r hr, h.cell r hr⟩
def eqGB (p q : Grid) : Bool := (p.len == q.len) && decide (∀ r, r < p.len → eqRB (p.row r) (q.row r) = true)
theorem eqG_no {p q : Grid} {k : Nat} (hk : k < p.len) (h : eqRB (p.row k) (q.row k) = false) : eqGB p q = false := by
  unfold eqGB
  rw [Bool.and_eq_false_iff, decide_eq_false_iff_not]
  right
  intro hh
  rw [hh k hk] at h
  exact Bool.noConfusion h

def sameB (n : Strs) (g : Grid) (n2 : Strs) (g2 : Grid) : Bool := eqSB n n2 && eqGB g g2

/-- w1 is w, and behind it two variables of two cells each, and what came since. -/
structure Two (w w1 : World) (u v u2 v2 : Value) : Prop where
  bl : Below w.heap.size w w1
  lt : w.heap.size + 1 < w1.heap.size
  c0 : w1.cell? ⟨w.heap.size, 0, none⟩ = some u
  c1 : w1.cell? ⟨w.heap.size, 1, none⟩ = some v
  c2 : w1.cell? ⟨w.heap.size + 1, 0, none⟩ = some u2
  c3 : w1.cell? ⟨w.heap.size + 1, 1, none⟩ = some v2
theorem Two.start (w : World) (u v u2 v2 : Value) (t t2 : TypeId) : Two w ((w.alloc (.cells #[u, v] t)).alloc (.cells #[u2, v2] t2)) u v u2 v2 :=
  ⟨((Below.refl _ _).alloc (Nat.le_refl _) _).alloc (by simp) _, by simp, by simp, by simp, (cells2' w _ u2 v2 t2).1, (cells2' w _ u2 v2 t2).2⟩
theorem Two.step {w w1 w2 : World} {u v u2 v2 : Value} (h : Two w w1 u v u2 v2) (k : Below w1.heap.size w1 w2) : Two w w2 u v u2 v2 :=
  ⟨h.bl.trans (k.mono h.bl.size), Nat.lt_of_lt_of_le h.lt k.size, (k.cell (p := ⟨w.heap.size, 0, none⟩) (by have := h.lt; show w.heap.size < _; omega)).trans h.c0, (k.cell (p := ⟨w.heap.size, 1, none⟩) (by have := h.lt; show w.heap.size < _; omega)).trans h.c1,
    (k.cell (p := ⟨w.heap.size + 1, 0, none⟩) h.lt).trans h.c2, (k.cell (p := ⟨w.heap.size + 1, 1, none⟩) h.lt).trans h.c3⟩

/-- The worlds behind w in which both variables still hold what they held. -/
def Cls2 (w : World) (u v u2 v2 : Value) : Type := { w' : World // Two w w' u v u2 v2 }
def Cls2.w {w : World} {u v u2 v2 : Value} (x : Cls2 w u v u2 v2) : World := x.1
theorem Cls2.box {w : World} {u v u2 v2 : Value} (x : Cls2 w u v u2 v2) : Two w x.w u v u2 v2 := x.2
theorem wp_region_cls2 {P : Program} {w0 : World} {u v u2 v2 : Value} {id : Nat} {Q : Exit → Act → World → Prop} {a : Act} {w : World} {l : List Oper} (hb : Two w0 w u v u2 v2) (hm : P.follows .mixedOrders = true) (hB : Region.lexB .any l.toArray = true)
    (h : wpQuiet P l.toArray (fun w' => ∃ x : Cls2 w0 u v u2 v2, w' = x.w) (fun a' => ∀ w', (∃ x : Cls2 w0 u v u2 v2, w' = x.w) → Q .normal a' w') l a) : (Code.region id l.toArray true).wp P Q a w :=
  wp_region_quiet (C := fun w' => ∃ x : Cls2 w0 u v u2 v2, w' = x.w) hm hB ⟨⟨_, hb.step ((Below.refl _ _).drew)⟩, rfl⟩ (by simpa using h)
theorem Calls.cls2 {P : Program} {f : FuncId} {args : Array Value} {w0 : World} {u v u2 v2 r : Value} (x : Cls2 w0 u v u2 v2)
    (h : Calls P f args x.w fun e w' => e = .returned r ∧ Below x.w.heap.size x.w w') : Calls P f args x.w fun e w'' => e = .returned r ∧ ∃ y : Cls2 w0 u v u2 v2, w'' = y.w :=
  h.mono fun _ _ ⟨he, hb⟩ => ⟨he, ⟨_, x.box.step hb⟩, rfl⟩

/-- What Find answers. -/
def findN (n : Strs) (g : Grid) (s : ByteArray) : Int := if formedB n g = true then idxFrom n.s s n.len 0 else -1

end Go.Proofs.Ytgbillimanpmnaa
