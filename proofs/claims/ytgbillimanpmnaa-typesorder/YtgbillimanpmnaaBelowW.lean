/- The walk of layer 1's Below. -/
import Derived.Test.YtgbillimanpmnaaCls
namespace Go.Proofs.Ytgbillimanpmnaa
open Go.RowKit

/-- A []int in memory. -/
structure Ints where
  ao : Option Addr
  b : Nat
  o : Nat
  len : Nat
  cap : Nat
  x : Nat → Int
structure Ints.At (g : Ints) (w : World) : Prop where
  nil : 0 < g.len → g.ao = some ⟨g.b, g.o, none⟩
  le8 : g.len ≤ 8
  cell : ∀ i, i < g.len → w.cell? ⟨g.b, g.o + i, none⟩ = some (.int .i64 (g.x i))
theorem Ints.At.kept {g : Ints} {w w' : World} (h : g.At w) (hb : Below w.heap.size w w') : g.At w' :=
  ⟨h.nil, h.le8, fun i hi => (hb.cell (p := ⟨g.b, g.o + i, none⟩) (cell_lt (h.cell i hi))).trans (h.cell i hi)⟩

theorem Try.infoInt : (Try.prog.info? 3).map (fun i => (i.zero, i.size, i.bytes)) = some (some (.int .i64 0), 1, 8) := by kernel_rfl

theorem own_ge {w : World} {base : Nat} {e : TypeId} {size : Nat} {v : Value} {n : Nat} {xs : List Value} (h : w.ownsRow base e size v n xs) {b : Nat} (hb : v.ownBlock = some b) : base ≤ b := by
  obtain ⟨_, ⟨rfl, _⟩ | ⟨gb, cap, cur, rfl, hg, _⟩⟩ := h
  · simp [Value.ownBlock] at hb
  · have : gb = b := by simpa [Value.ownBlock] using hb
    omega

def intCells (l : List Nat) : List Value := l.map fun (b : Nat) => Value.int .i64 (b : Int)
theorem ints_of_own {w : World} {base : Nat} {v : Value} {l : List Nat} (h : w.ownsRow base 3 1 v l.length (intCells l)) (h8 : l.length ≤ 8) :
    ∃ q : Ints, v = .slice q.ao q.len q.cap ∧ q.At w ∧ q.len = l.length ∧ ∀ i, q.x i = (l.getD i 0 : Nat) := by
  have h' := h
  obtain ⟨_, ⟨rfl, h0⟩ | ⟨gb, cap, cur, rfl, _, _, hc, _⟩⟩ := h'
  · refine ⟨⟨none, 0, 0, 0, 0, fun i => (l.getD i 0 : Nat)⟩, rfl, ⟨fun h => absurd h (Nat.lt_irrefl _), Nat.zero_le _, fun _ h => absurd h (Nat.not_lt_zero _)⟩, h0.symm, fun _ => rfl⟩
  · refine ⟨⟨some ⟨gb, 0, none⟩, gb, 0, l.length, cap, fun i => (l.getD i 0 : Nat)⟩, rfl, ⟨fun _ => rfl, h8, fun i hi => ?_⟩, rfl, fun _ => rfl⟩
    have hi' : i < l.length := hi
    show w.cell? ⟨gb, 0 + i, none⟩ = _
    rw [Nat.zero_add, h.cellAt i (by simpa using hi')]
    simp [intCells, hi', List.getD]

/-- The labels below a, among the first k. -/
def belTo (g : Grid) (a k : Nat) : List Nat := (List.range k).filter (fun b => g.B b a)
theorem belTo_len (g : Grid) (a k : Nat) : (belTo g a k).length ≤ k := by
  have := List.length_filter_le (fun b => g.B b a) (List.range k)
  simpa [belTo] using this
theorem belTo_yes (g : Grid) (a k : Nat) (h : g.B k a = true) : belTo g a (k + 1) = belTo g a k ++ [k] := by
  simp [belTo, List.range_succ, List.filter_append, h]
theorem belTo_no (g : Grid) (a k : Nat) (h : g.B k a = false) : belTo g a (k + 1) = belTo g a k := by
  simp [belTo, List.range_succ, List.filter_append, h]

/-- What Below answers. -/
def belL (n : Strs) (g : Grid) (a : Int) : List Nat := if (labB n a && formedB n g) = true then belTo g a.toNat n.len else []

end Go.Proofs.Ytgbillimanpmnaa
