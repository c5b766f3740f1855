/- Layer 4: a number and a text that come in, opened. -/
import Derived.Test.YtboehlfdfpiodaaBtOpen
namespace Go.Proofs.Ytboehlfdfpiodaa
open Go.ChangeShapes Go.WideShapes Go.ChangeAt Go.RowKit Go.Deep Go.Joins

section
variable {H : Type} {enc : TypeId × Value → H} {W : World} {base : Nat}

theorem open_field {v : Value} {d : DataW H} {p : List MemPlace} {b0 : Nat} (hv : Value.okWide Try.prog W .any b0 24 v) (h : DataW.Trod enc Try.prog W base (fun _ => true) true 24 v d p) :
    ∃ (N : Int) (S : ByteArray), v = .agg #[.int .i64 N, .string S] ∧ (-9223372036854775808 ≤ N ∧ N ≤ 9223372036854775807) ∧ S.size ≤ 9223372036854775807 := by
  obtain ⟨c0, c1, y0, y1, m, rfl, _, _, hy0, hy1⟩ := open_agg2 Try.underlying24 (by kernel_rfl) (by kernel_rfl) hv h
  obtain ⟨N, hc0, _, hw⟩ := DataW.trod_int Try.underlying2 hy0
  obtain ⟨S, hc1, _, hs⟩ := DataW.trod_string Try.underlying9 hy1
  have e0 : c0 = .int .i64 N := by simpa using hc0
  have e1 : c1 = .string S := by simpa using hc1
  subst e0 e1
  exact ⟨N, S, rfl, wf_i64 hw, by unfold maxLen at hs; exact hs⟩
end
end Go.Proofs.Ytboehlfdfpiodaa
