/- The walks of layer 1's Same, with slices.Equal and slices.EqualFunc. -/
import Derived.Test.YtgbillimanpmnaaCls
namespace Go.Proofs.Ytgbillimanpmnaa
open Go.RowKit

def eqSB (p q : Strs) : Bool := (p.len == q.len) && decide (∀ i, i < p.len → ((p.s i).toList == (q.s i).toList) = true)
theorem eqS_no {p q : Strs} {k : Nat} (hk : k < p.len) (h : ((p.s k).toList == (q.s k).toList) = false) : eqSB p q = false := by
  unfold eqSB
  rw [Bool.and_eq_false_iff, decide_eq_false_iff_not]
  right
  intro hh
  rw [hh k hk] at h
  exact Bool.noConfusion h

/-- A []bool in memory. -/
structure Row where
  ao : Option Addr
  b : Nat
  o : Nat
  len : Nat
  cap : Nat
  f : Nat → Bool
structure Row.At (g : Row) (w : World) : Prop where
  nil : 0 < g.len → g.ao = some ⟨g.b, g.o, none⟩
  bound : g.len ≤ 9223372036854775807
  cell : ∀ i, i < g.len → w.cell? ⟨g.b, g.o + i, none⟩ = some (.bool (g.f i))
theorem Row.At.kept {g : Row} {w w' : World} (h : g.At w) (hb : Below w.heap.size w w') : g.At w' :=
  ⟨h.nil, h.bound, fun i hi => (hb.cell (p := ⟨g.b, g.o + i, none⟩) (cell_lt (h.cell i hi))).trans (h.cell i hi)⟩

def eqRB (p q : Row) : Bool := (p.len == q.len) && decide (∀ i, i < p.len → p.f i = q.f i)
theorem eqR_no {p q : Row} {k : Nat} (hk : k < p.len) (h : p.f k ≠ q.f k) : eqRB p q = false := by
  unfold eqRB
  rw [Bool.and_eq_false_iff, decide_eq_false_iff_not]
  right
  intro hh
  exact h (hh k hk)

end Go.Proofs.Ytgbillimanpmnaa
