/- The walks of slices.Clone and layer 1's addAll. -/
import Derived.Test.YtgbillimanpmnaaPairs
import Derived.Deep.OwnRows
namespace Go.Proofs.Ytgbillimanpmnaa
open Go.RowKit

/-- Nothing but block p has turned. -/
structure Wrote (w w' : World) (p : Nat) : Prop where
  os : w'.os = w.os
  tape : w'.tape = w.tape
  output : w'.output = w.output
  size : w'.heap.size = w.heap.size
  block : ∀ k, k ≠ p → w'.heap[k]? = w.heap[k]?
theorem Wrote.refl (w : World) (p : Nat) : Wrote w w p := ⟨rfl, rfl, rfl, rfl, fun _ _ => rfl⟩
theorem Wrote.setCell {w w' : World} {p : Nat} (h : Wrote w w' p) (o : Nat) (v : Value) : Wrote w (w'.setCell ⟨p, o, none⟩ v) p :=
  ⟨h.os, h.tape, h.output, by rw [← h.size]; simp [World.setCell], fun k hk => (Below.heap_setCell _ _ _ _ hk).trans (h.block k hk)⟩

theorem run_eql_slice_nil {P : Program} (w : World) (t e : TypeId) (a : Option Addr) (l c : Nat) (h : P.underlying t = some (.slice e)) : (binOp .eql t (.slice a l c) (.slice none 0 0)).run P w = .ok (.bool a.isNone) w := by
  simp only [binOp, Sem.run_bind, run_equal_slice_nil w t e a l c h, Result.andThen]; rfl

theorem Try.infoString : (Try.prog.info? 9).map (fun i => (i.zero, i.size, i.bytes)) = some (some (.string ⟨#[]⟩), 1, 16) := by kernel_rfl

/-- What the names' cells hold. -/
def strCells (g : Strs) : List Value := (List.range g.len).map fun i => .string (g.s i)
theorem strCells_at (g : Strs) (i : Nat) (hi : i < g.len) : (strCells g)[i]? = some (.string (g.s i)) := by simp [strCells, hi]

theorem addr_add (b o i : Nat) : (⟨b, o, none⟩ : Addr).add i = ⟨b, o + i, none⟩ := by unfold Addr.add; split <;> simp_all

theorem strCells_news (g : Strs) (w : World) (hg : g.At w) (o : Obj) (j : Nat) (u : Value) (h : (strCells g)[j]? = some u) : (w.alloc o).cell? ((⟨g.b, g.o, none⟩ : Addr).add j) = some u := by
  have hj : j < g.len := by
    have := (List.getElem?_eq_some_iff.1 h).1
    simpa [strCells] using this
  rw [strCells_at g j hj] at h
  have hc := hg.cell j hj
  rw [← h]
  have := (((Below.refl _ _).alloc (Nat.le_refl _) o).cell (p := ⟨g.b, g.o + j, none⟩) (cell_lt hc)).trans hc
  rw [addr_add]; exact this

theorem strs_of_own {w : World} {base : Nat} {v : Value} {g : Strs} (h : w.ownsRow base 9 1 v (0 + g.len) ([] ++ strCells g)) (hv : v ≠ .slice none 0 0) (h8 : g.len ≤ 8) (hsz : ∀ i, i < g.len → (g.s i).size ≤ 9223372036854775807) :
    ∃ g' : Strs, v = .slice g'.ao g'.len g'.cap ∧ g'.At w ∧ g'.len = g.len ∧ g'.s = g.s := by
  rw [Nat.zero_add, List.nil_append] at h
  have h' := h
  obtain ⟨_, h0 | ⟨gb, cap, cur, rfl, _, _, hc, _⟩⟩ := h'
  · exact absurd h0.1 hv
  · refine ⟨⟨some ⟨gb, 0, none⟩, gb, 0, g.len, cap, g.s⟩, rfl, ⟨hc, fun _ => rfl, Nat.le_trans h8 (by omega), fun i hi => ?_, hsz⟩, rfl, rfl⟩
    show w.cell? ⟨gb, 0 + i, none⟩ = _
    rw [Nat.zero_add, h.cellAt i (by simpa using hi)]
    exact strCells_at g i hi

end Go.Proofs.Ytgbillimanpmnaa
