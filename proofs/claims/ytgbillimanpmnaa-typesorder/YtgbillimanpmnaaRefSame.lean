/- The walk of the reference's Same: it tells just what the program's Same tells. -/
import Derived.Test.YtgbillimanpmnaaSame2
namespace Go.Proofs.Ytgbillimanpmnaa
open Go.RowKit

theorem same_lens {n : Strs} {g : Grid} {n2 : Strs} {g2 : Grid} (h : n.len ≠ n2.len ∨ g.len ≠ g2.len) : sameB n g n2 g2 = false := by
  unfold sameB eqSB eqGB
  rcases h with h | h
  · rw [beq_eq_false_iff_ne.2 h]; rfl
  · rw [beq_eq_false_iff_ne.2 h]; simp

end Go.Proofs.Ytgbillimanpmnaa
