/- Layer 4: fields that come in, opened. -/
import Derived.Test.YtboehlfdfpiodaaBtOpen2
import Derived.Test.YtboehlfdfpiodaaBtFlds
namespace Go.Proofs.Ytboehlfdfpiodaa
open Go.ChangeShapes Go.WideShapes Go.ChangeAt Go.RowKit Go.Deep Go.Joins

theorem Try.cellsField : Try.prog.cellsOf 24 = 2 := by kernel_rfl
section
variable {H : Type} {enc : TypeId × Value → H} {W : World} {base : Nat}

theorem trod_field {fuel : Nat} {c0 c1 : Value} {x : DataW H × List MemPlace} (h : DataW.trod enc Try.prog W base (fun _ => true) true fuel 24 [c0, c1] = some x) :
    ∃ q : Int × ByteArray, c0 = .int .i64 q.1 ∧ c1 = .string q.2 ∧ (-9223372036854775808 ≤ q.1 ∧ q.1 ≤ 9223372036854775807) ∧ q.2.size ≤ 9223372036854775807 := by
  obtain ⟨y0, y1, n, _, _, h0, h1⟩ := trod_struct2 Try.underlying24 h
  have h0' : DataW.trod enc Try.prog W base (fun _ => true) true n 2 [c0] = some y0 := h0
  have h1' : DataW.trod enc Try.prog W base (fun _ => true) true n 9 [c1] = some y1 := h1
  obtain ⟨N, hc0, _, hw⟩ := DataW.trod_int Try.underlying2 h0'
  obtain ⟨S, hc1, _, hs⟩ := DataW.trod_string Try.underlying9 h1'
  exact ⟨(N, S), by simpa using hc0, by simpa using hc1, wf_i64 hw, by unfold maxLen at hs; exact hs⟩

theorem open_fields {v : Value} {d : DataW H} {p : List MemPlace} {b0 : Nat} (hv : Value.okWide Try.prog W .any b0 44 v) (h : DataW.Trod enc Try.prog W base (fun _ => true) true 44 v d p) :
    ∃ g : Flds, v = .slice g.ao g.len g.cap ∧ g.At W := by
  obtain ⟨a0, len0, cap0, rfl⟩ := okWide_slice Try.underlying44 hv
  obtain ⟨fuel, hf⟩ := h
  rcases open_slice Try.underlying44 hf with ⟨hcs, _⟩ | ⟨a, len, cap, m, n, D, Pl, hcs, _, hl, hm, hmm, _, hx⟩
  · simp [Value.cells] at hcs
    obtain ⟨rfl, rfl, rfl⟩ := hcs
    exact ⟨⟨none, 0, 0, 0, 0, fun _ => 0, fun _ => ByteArray.empty⟩, rfl, ⟨Nat.le_refl _, fun h => absurd h (Nat.lt_irrefl _), Nat.zero_le _, fun _ h => absurd h (Nat.not_lt_zero _), fun _ h => absurd h (Nat.not_lt_zero _), fun _ h => absurd h (Nat.not_lt_zero _), fun _ h => absurd h (Nat.not_lt_zero _)⟩⟩
  · simp [Value.cells] at hcs
    obtain ⟨rfl, rfl, rfl⟩ := hcs
    simp only [if_true] at hmm
    unfold maxLen at hm
    have each : ∀ i, i < m → ∃ q : Int × ByteArray, (W.cell? (a.add (i * 2)) = some (.int .i64 q.1) ∧ W.cell? (a.add (i * 2 + 1)) = some (.string q.2)) ∧ (-9223372036854775808 ≤ q.1 ∧ q.1 ≤ 9223372036854775807) ∧ q.2.size ≤ 9223372036854775807 := by
      intro i hi
      obtain ⟨cs', h1, h2⟩ := hx i hi
      rw [Try.cellsField] at h1
      obtain ⟨_, hlen, hcell⟩ := World.cells?_some h1
      match cs', hlen with
      | [v0, v1], _ =>
        have e0 := hcell 0 (by omega)
        have e1 := hcell 1 (by omega)
        rw [add_add] at e0 e1
        obtain ⟨q, rfl, rfl, hq1, hq2⟩ := trod_field h2
        exact ⟨q, ⟨by simpa using e0, by simpa using e1⟩, hq1, hq2⟩
    obtain ⟨q, hq⟩ : ∃ q : Nat → Int × ByteArray, ∀ i, i < m → (W.cell? (a.add (i * 2)) = some (.int .i64 (q i).1) ∧ W.cell? (a.add (i * 2 + 1)) = some (.string (q i).2)) ∧ (-9223372036854775808 ≤ (q i).1 ∧ (q i).1 ≤ 9223372036854775807) ∧ (q i).2.size ≤ 9223372036854775807 := by
      refine ⟨fun i => if h : i < m then (each i h).choose else (0, ByteArray.empty), fun i hi => ?_⟩
      simp only [dif_pos hi]
      exact (each i hi).choose_spec
    have hspot : 0 < m → a = ⟨a.block, a.off, none⟩ := fun hp => by
      have hs := World.cell?_spot (hq 0 hp).1.1
      obtain ⟨ab, ao, asp⟩ := a
      have : asp = none := by simpa [Addr.add] using hs
      subst this; rfl
    refine ⟨⟨some a, a.block, a.off, len0, cap0, fun i => (q i).1, fun i => (q i).2⟩, rfl, ⟨hl, fun hp => congrArg some (hspot (by have : 0 < len0 := hp; omega)), hm, fun i hi => ?_, fun i hi => ?_, fun i hi => ?_, fun i hi => ?_⟩⟩
    · have hi' : i < len0 := hi
      have := (hq i (by omega)).1.1
      rw [hspot (by omega), addr_add] at this
      exact this
    · have hi' : i < len0 := hi
      have := (hq i (by omega)).1.2
      rw [hspot (by omega), addr_add, ← Nat.add_assoc] at this
      exact this
    · have hi' : i < len0 := hi
      exact (hq i (by omega)).2.1
    · have hi' : i < len0 := hi
      exact (hq i (by omega)).2.2
end
end Go.Proofs.Ytboehlfdfpiodaa
