/- Layer 4: numbers in memory. -/
import Derived.Test.YtboehlfdfpiodaaBtBase
namespace Go.Proofs.Ytboehlfdfpiodaa
open Go.RowKit

/-- A []int in memory. -/
structure Nums where
  ao : Option Addr
  b : Nat
  o : Nat
  len : Nat
  cap : Nat
  f : Nat → Int
structure Nums.At (g : Nums) (w : World) : Prop where
  lc : g.len ≤ g.cap
  nil : 0 < g.len → g.ao = some ⟨g.b, g.o, none⟩
  bound : g.cap ≤ 9223372036854775807
  cell : ∀ i, i < g.len → w.cell? ⟨g.b, g.o + i, none⟩ = some (.int .i64 (g.f i))
theorem Nums.At.kept {g : Nums} {w w' : World} (h : g.At w) (hb : Below w.heap.size w w') : g.At w' :=
  ⟨h.lc, h.nil, h.bound, fun i hi => (hb.cell (p := ⟨g.b, g.o + i, none⟩) (cell_lt (h.cell i hi))).trans (h.cell i hi)⟩
end Go.Proofs.Ytboehlfdfpiodaa
