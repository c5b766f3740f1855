/- A list of texts that comes in, opened: with where it lies. -/
import Derived.Test.YtomjippaokakcaaOpen
namespace Go.Proofs.Ytomjippaokakcaa
open Go.ChangeShapes Go.WideShapes Go.ChangeAt Go.RowKit Go.Deep Go.Joins

section
variable {H : Type} {enc : TypeId × Value → H} {W : World} {base : Nat}

theorem slice_spot {P : Program} {b0 : Nat} {t e : TypeId} {a : Addr} {len cap : Nat} (ht : P.underlying t = some (.slice e)) (hv : Value.okWide P W .any b0 t (.slice (some a) len cap)) : a.spot = none := by
  simp only [Value.okWide, ht, Cell.okWide, Cell.ok] at hv
  exact hv.2.2.2.1

theorem open_names {v : Value} {d : DataW H} {p : List MemPlace} {b0 : Nat} (hv : Value.okWide Try.prog W .any b0 22 v) (h : DataW.Trod enc Try.prog W base (fun _ => true) true 22 v d p) :
    ∃ n : Strs, v = .slice n.ao n.len n.cap ∧ n.At W ∧ ((n.ao = none ∧ n.cap = 0) ∨ n.ao = some ⟨n.b, n.o, none⟩) := by
  obtain ⟨a0, len0, cap0, rfl⟩ := okWide_slice Try.underlying22 hv
  obtain ⟨fuel, hf⟩ := h
  have hf' : DataW.trod enc Try.prog W base (fun _ => true) true fuel 22 [.slice a0 len0 cap0] = some (d, p) := by simpa [Value.cells] using hf
  obtain ⟨n, hn, hat⟩ := open_strs hf'
  injection hn with h1 h2 h3
  subst h1 h2 h3
  cases ha : n.ao with
  | none =>
    rw [ha] at hv
    refine ⟨n, by rw [ha], hat, Or.inl ⟨ha, ?_⟩⟩
    simp only [Value.okWide, Try.underlying22, Cell.okWide, Cell.ok] at hv
    split at hv
    all_goals first | exact (hv : False).elim | skip
    all_goals simp_all
  | some a =>
    have hs : a.spot = none := slice_spot Try.underlying22 (by rw [ha] at hv; exact hv)
    obtain ⟨ab, ao, asp⟩ := a
    have hs' : asp = none := hs
    subst hs'
    by_cases hl : 0 < n.len
    · have := hat.nil hl
      exact ⟨n, by rw [ha], hat, Or.inr this⟩
    · exact ⟨⟨some ⟨ab, ao, none⟩, ab, ao, n.len, n.cap, n.s⟩, rfl, ⟨hat.lc, fun _ => rfl, hat.bound, fun i hi => absurd hi (by show ¬ i < n.len; omega), hat.sz⟩, Or.inr rfl⟩
end
end Go.Proofs.Ytomjippaokakcaa
