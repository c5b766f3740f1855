/- A list of pairs of numbers that comes in, opened. -/
import Derived.Test.YtgbillimanpmnaaOpen
import Derived.Test.YtgbillimanpmnaaPairs
namespace Go.Proofs.Ytgbillimanpmnaa
open Go.ChangeShapes Go.WideShapes Go.ChangeAt Go.RowKit Go.Deep Go.Joins

theorem Try.cellsInt : Try.prog.cellsOf 3 = 1 := by kernel_rfl
theorem Try.cellsPair : Try.prog.cellsOf 41 = 2 := by kernel_rfl

section
variable {H : Type} {enc : TypeId × Value → H} {W : World} {base : Nat}

theorem trod_array2 {P : Program} {spare : Nat → Bool} {held : Bool} {t e : TypeId} {fuel : Nat} {c0 c1 : Value} {x : DataW H × List MemPlace} (ht : P.underlying t = some (.array 2 e)) (hce : P.cellsOf e = 1)
    (h : DataW.trod enc P W base spare held fuel t [c0, c1] = some x) :
    ∃ y0 y1 n, DataW.trod enc P W base spare held n e [c0] = some y0 ∧ DataW.trod enc P W base spare held n e [c1] = some y1 := by
  cases fuel with
  | zero => simp [DataW.trod] at h
  | succ n =>
    unfold DataW.trod at h
    rw [ht] at h
    have r2 : List.range 2 = [0, 1] := rfl
    simp [r2, hce] at h
    obtain ⟨_, h⟩ := h
    cases h0 : DataW.trod enc P W base spare held n e [c0] with
    | none => simp [h0] at h
    | some y0 =>
      cases h1 : DataW.trod enc P W base spare held n e [c1] with
      | none => simp [h0, h1] at h
      | some y1 => exact ⟨y0, y1, n, h0, h1⟩

theorem open_prs {v : Value} {d : DataW H} {p : List MemPlace} {b0 : Nat} (hv : Value.okWide Try.prog W .any b0 58 v) (h : DataW.Trod enc Try.prog W base (fun _ => true) true 58 v d p) :
    ∃ g : Prs, v = .slice g.ao g.len g.cap ∧ g.At W := by
  obtain ⟨a0, len0, cap0, rfl⟩ := okWide_slice Try.underlying58 hv
  obtain ⟨fuel, hf⟩ := h
  rcases open_slice Try.underlying58 hf with ⟨hcs, _⟩ | ⟨a, len, cap, m, n, D, Pl, hcs, _, hl, hm, hmm, _, hx⟩
  · simp [Value.cells] at hcs
    obtain ⟨rfl, rfl, rfl⟩ := hcs
    exact ⟨⟨none, 0, 0, 0, 0, fun _ => 0, fun _ => 0⟩, rfl, ⟨Nat.le_refl _, fun h => absurd h (Nat.lt_irrefl _), Nat.zero_le _, fun _ h => absurd h (Nat.not_lt_zero _), fun _ h => absurd h (Nat.not_lt_zero _)⟩⟩
  · simp [Value.cells] at hcs
    obtain ⟨rfl, rfl, rfl⟩ := hcs
    simp only [if_true] at hmm
    unfold maxLen at hm
    have each : ∀ i, i < m → ∃ q : Int × Int, W.cell? (a.add (i * 2)) = some (.int .i64 q.1) ∧ W.cell? (a.add (i * 2 + 1)) = some (.int .i64 q.2) := by
      intro i hi
      obtain ⟨cs', h1, h2⟩ := hx i hi
      rw [Try.cellsPair] at h1
      obtain ⟨_, hlen, hcell⟩ := World.cells?_some h1
      match cs', hlen with
      | [v0, v1], _ =>
        have e0 := hcell 0 (by omega)
        have e1 := hcell 1 (by omega)
        rw [add_add] at e0 e1
        obtain ⟨y0, y1, k, g0, g1⟩ := trod_array2 Try.underlying41 Try.cellsInt h2
        obtain ⟨x, q0, _⟩ := DataW.trod_int Try.underlying3 g0
        obtain ⟨y, q1, _⟩ := DataW.trod_int Try.underlying3 g1
        simp at q0 q1
        subst q0 q1
        exact ⟨(x, y), by simpa using e0, by simpa using e1⟩
    obtain ⟨q, hq⟩ := choose_lt each
    have hspot : 0 < m → a = ⟨a.block, a.off, none⟩ := fun hp => by
      have hs := World.cell?_spot (hq 0 hp).1
      obtain ⟨ab, ao, asp⟩ := a
      have : asp = none := by simpa [Addr.add] using hs
      subst this; rfl
    refine ⟨⟨some a, a.block, a.off, len0, cap0, fun i => (q i).1, fun i => (q i).2⟩, rfl, ⟨hl, fun hp => congrArg some (hspot (by have : 0 < len0 := hp; omega)), Nat.le_trans hl hm, fun i hi => ?_, fun i hi => ?_⟩⟩
    · have hi' : i < len0 := hi
      have := (hq i (by omega)).1
      rw [hspot (by omega), addr_plain] at this
      exact this
    · have hi' : i < len0 := hi
      have := (hq i (by omega)).2
      rw [hspot (by omega), addr_plain, ← Nat.add_assoc] at this
      exact this
end
end Go.Proofs.Ytgbillimanpmnaa
