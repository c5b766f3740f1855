/- Layer 4: a number and a text that come in, opened. -/
import Derived.Test.YtboehlfdfpiodaaBtOpen
import Derived.Test.YtboehlfdfpiodaaBtNums
namespace Go.Proofs.Ytboehlfdfpiodaa
open Go.ChangeShapes Go.WideShapes Go.ChangeAt Go.RowKit Go.Deep Go.Joins

section
variable {H : Type} {enc : TypeId × Value → H} {W : World} {base : Nat}

theorem open_field {v : Value} {d : DataW H} {p : List MemPlace} {b0 : Nat} (hv : Value.okWide Try.prog W .any b0 24 v) (h : DataW.Trod enc Try.prog W base (fun _ => true) true 24 v d p) :
    ∃ (N : Int) (S : ByteArray), v = .agg #[.int .i64 N, .string S] ∧ (-9223372036854775808 ≤ N ∧ N ≤ 9223372036854775807) ∧ S.size ≤ 9223372036854775807 := by
  obtain ⟨c0, c1, y0, y1, m, rfl, _, _, hy0, hy1⟩ := open_agg2 Try.underlying24 (by kernel_rfl) (by kernel_rfl) hv h
  obtain ⟨N, hc0, _, hw⟩ := DataW.trod_int Try.underlying2 hy0
  obtain ⟨S, hc1, _, hs⟩ := DataW.trod_string Try.underlying9 hy1
  have e0 : c0 = .int .i64 N := by simpa using hc0
  have e1 : c1 = .string S := by simpa using hc1
  subst e0 e1
  exact ⟨N, S, rfl, wf_i64 hw, by unfold maxLen at hs; exact hs⟩

theorem Try.cellsInt : Try.prog.cellsOf 3 = 1 := by kernel_rfl
theorem open_nums {v : Value} {d : DataW H} {p : List MemPlace} {b0 : Nat} (hv : Value.okWide Try.prog W .any b0 33 v) (h : DataW.Trod enc Try.prog W base (fun _ => true) true 33 v d p) :
    ∃ A : Nums, v = .slice A.ao A.len A.cap ∧ A.At W := by
  obtain ⟨a0, len0, cap0, rfl⟩ := okWide_slice Try.underlying33 hv
  obtain ⟨fuel, hf⟩ := h
  have hf' : DataW.trod enc Try.prog W base (fun _ => true) true fuel 33 [.slice a0 len0 cap0] = some (d, p) := by simpa [Value.cells] using hf
  rcases open_ints Try.underlying33 Try.underlying3 Try.cellsInt hf' with ⟨hcs, _⟩ | ⟨a, len, cap, zs, hcs, _, hl, hm, hz, _, hcell, hws⟩
  · have hv' : (Value.slice a0 len0 cap0) = .slice none 0 0 := by simpa using hcs
    exact ⟨⟨none, 0, 0, 0, 0, fun _ => 0⟩, hv', ⟨Nat.le_refl _, fun h => absurd h (Nat.lt_irrefl _), Nat.zero_le _, fun _ h => absurd h (Nat.not_lt_zero _)⟩⟩
  · have hv' : (Value.slice a0 len0 cap0) = .slice (some a) len cap := by simpa using hcs
    simp only [if_true] at hz
    unfold maxLen at hm
    have hsp : ∀ i, i < len → a = ⟨a.block, a.off, none⟩ ∧ W.cell? ⟨a.block, a.off + i, none⟩ = some (.int .i64 (zs.getD i 0)) := fun i hi => by
      have hs := World.cell?_spot (hcell 0 (by omega))
      have hc := hcell i (by omega)
      obtain ⟨ab, ao, asp⟩ := a
      have : asp = none := by simpa [Addr.add] using hs
      subst this
      rw [addr_add] at hc
      exact ⟨rfl, hc⟩
    exact ⟨⟨some a, a.block, a.off, len, cap, fun i => zs.getD i 0⟩, hv', ⟨hl, fun hp => congrArg some (hsp 0 hp).1, hm, fun i hi => (hsp i hi).2⟩⟩
end
end Go.Proofs.Ytboehlfdfpiodaa
