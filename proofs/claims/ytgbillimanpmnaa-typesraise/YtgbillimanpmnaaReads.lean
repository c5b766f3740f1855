/- What the arguments of layer 1 read as: a list of names, a table of truths; both stay where nothing old is written. -/
import Derived.Test.YtgbillimanpmnaaOrder
namespace Go.Proofs.Ytgbillimanpmnaa
open Go.RowKit

/-- A []string in memory. -/
structure Strs where
  ao : Option Addr
  b : Nat
  o : Nat
  len : Nat
  cap : Nat
  s : Nat → ByteArray

structure Strs.At (g : Strs) (w : World) : Prop where
  lc : g.len ≤ g.cap
  nil : 0 < g.len → g.ao = some ⟨g.b, g.o, none⟩
  bound : g.len ≤ 9223372036854775807
  cell : ∀ i, i < g.len → w.cell? ⟨g.b, g.o + i, none⟩ = some (.string (g.s i))
  sz : ∀ i, i < g.len → (g.s i).size ≤ 9223372036854775807

/-- A [][]bool in memory. -/
structure Grid where
  ao : Option Addr
  gb : Nat
  go : Nat
  len : Nat
  cap : Nat
  A : Nat → Option Addr
  L : Nat → Nat
  C : Nat → Nat
  AB : Nat → Nat
  AO : Nat → Nat
  B : Nat → Nat → Bool

structure Grid.At (g : Grid) (w : World) : Prop where
  lc : g.len ≤ g.cap
  nil : 0 < g.len → g.ao = some ⟨g.gb, g.go, none⟩
  bound : g.len ≤ 9223372036854775807
  lbound : ∀ r, r < g.len → g.L r ≤ 9223372036854775807
  row : ∀ r, r < g.len → w.cell? ⟨g.gb, g.go + r, none⟩ = some (.slice (g.A r) (g.L r) (g.C r))
  adr : ∀ r, r < g.len → 0 < g.L r → g.A r = some ⟨g.AB r, g.AO r, none⟩
  cell : ∀ r, r < g.len → ∀ c, c < g.L r → w.cell? ⟨g.AB r, g.AO r + c, none⟩ = some (.bool (g.B r c))

theorem Strs.At.kept {g : Strs} {w w' : World} (h : g.At w) (hb : Below w.heap.size w w') : g.At w' :=
  ⟨h.lc, h.nil, h.bound, fun i hi => (hb.cell (p := ⟨g.b, g.o + i, none⟩) (cell_lt (h.cell i hi))).trans (h.cell i hi), h.sz⟩

theorem Grid.At.kept {g : Grid} {w w' : World} (h : g.At w) (hb : Below w.heap.size w w') : g.At w' :=
  ⟨h.lc, h.nil, h.bound, h.lbound, fun i hi => (hb.cell (p := ⟨g.gb, g.go + i, none⟩) (cell_lt (h.row i hi))).trans (h.row i hi), h.adr,
    fun r hr c hc => (hb.cell (p := ⟨g.AB r, g.AO r + c, none⟩) (cell_lt (h.cell r hr c hc))).trans (h.cell r hr c hc)⟩

/-- What the table says, within it. -/
def Grid.le (g : Grid) (a b : Nat) : Bool := decide (a < g.len) && (decide (b < g.L a) && g.B a b)

/-- A block that is an order, and may be written. -/
structure OrdOwn (w : World) (B n : Nat) (U D : Nat → Nat) : Prop where
  at' : OrdAt w B n U D
  free : ∀ i, i < 17 → w.frozen? ⟨B, i, none⟩ = false

end Go.Proofs.Ytgbillimanpmnaa
