/- A pair of numbers that comes in, opened. -/
import Derived.Test.YtgbillimanpmnaaOpenPrs
namespace Go.Proofs.Ytgbillimanpmnaa
open Go.ChangeShapes Go.WideShapes Go.ChangeAt Go.RowKit Go.Deep Go.Joins

section
variable {H : Type} {enc : TypeId × Value → H} {W : World} {base : Nat}
theorem open_pair {v : Value} {d : DataW H} {p : List MemPlace} {b0 : Nat} (hv : Value.okWide Try.prog W .any b0 41 v) (h : DataW.Trod enc Try.prog W base (fun _ => true) true 41 v d p) :
    ∃ a b : Int, v = .agg #[.int .i64 a, .int .i64 b] := by
  simp only [Value.okWide, Try.underlying41] at hv
  obtain ⟨⟨cs⟩, rfl, hsz, _⟩ := hv
  rw [Try.cellsPair] at hsz
  have hl : cs.length = 2 := hsz
  match cs, hl with
  | [c0, c1], _ =>
    obtain ⟨fuel, hf⟩ := h
    have hf' : DataW.trod enc Try.prog W base (fun _ => true) true fuel 41 [c0, c1] = some (d, p) := by simpa [Value.cells] using hf
    obtain ⟨y0, y1, k, g0, g1⟩ := trod_array2 Try.underlying41 Try.cellsInt hf'
    obtain ⟨x, q0, _⟩ := DataW.trod_int Try.underlying3 g0
    obtain ⟨y, q1, _⟩ := DataW.trod_int Try.underlying3 g1
    simp at q0 q1
    subst q0 q1
    exact ⟨x, y, rfl⟩
end
end Go.Proofs.Ytgbillimanpmnaa
