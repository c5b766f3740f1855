/-
  No cell of these rows narrows 'for every input' (looked for: loops, veiled, ifaces, maps, wideKeys, modest, calm, conditions, laid).
  DERIVED. THE GIVEN ROWS OF THIS SEAT. 6 by the template 'for every input the law returns true; each argument reads behind the call as it read before'; 0 by the template 'total and deterministic' (their statements: YtomjippaokakcaaTotals.lean).
  GIVEN WITH THE SEED: the statements are not yours to turn. If you find one false, say at which input.
  Laid BY PROGRAM, IN A SANDBOX (cutbox-rows.mjs): the forced cells as the released guide's own fill.sh prints them over the translation cd016317cabd86f4… (all of the seat's roots in one cut). By AI agents, Wed Nov 11 2026. No macro, syntax, notation, axiom, sorry.
-/
import Derived.Test.YtomjippaokakcaaChecked
import GoSem.Claim
import GoSem.ClaimJoined
import GoSem.ClaimMapViews
import Derived.JoinedTies
import Derived.KernelRfl
namespace Go.Proofs.Ytomjippaokakcaa
/- THE CELL 'sum', in the pinned program and in every row, IS THE sha256 OF THE DUMP (.gsa) THAT YtomjippaokakcaaProg.lean LOADS. Nothing in Lean hashes anything: it is a label: what it is worth is what the hold of that sum in a sandbox is worth. -/
noncomputable def Try.pinned : Pinned := { name := "ytomjippaokakcaa", sum := "cd016317cabd86f42ea776138a464dac6181e1fe0bdd3bedcd433cbb8a3065b3", checked := Try.checked }
namespace Rows
def none {H : Type} : Left H := { results := [], args := [] }

/-- 'palisadelaw01.LatticeFormed': WHATEVER THE INPUT: true; the input reads as it did. -/
def latticeFormedSpec : ChangeSpec := { name := "latticeFormed", fn := fun _ => fun
  | [d1, d2] => { results := [.lit (.bool true)], args := [d1, d2] }
  | _ => none }
def latticeFormedRow : OpenClaim := { program := "ytomjippaokakcaa", sum := "cd016317cabd86f42ea776138a464dac6181e1fe0bdd3bedcd433cbb8a3065b3", func := "palisade/palisadelaw01.LatticeFormed", spec := "latticeFormed", apart := false }
def LatticeFormedSaid : Prop := latticeFormedRow.holds Try.pinned (OpenSpec.ofChange latticeFormedSpec)

/-- ITS FALSE NEIGHBOUR: 'it returns false'. Refute it at one input. -/
def latticeFormedWrong : ChangeSpec := { name := "latticeFormed", fn := fun _ => fun
  | [d1, d2] => { results := [.lit (.bool false)], args := [d1, d2] }
  | _ => none }
def LatticeFormedWrongFalsely : Prop := latticeFormedRow.holds Try.pinned (OpenSpec.ofChange latticeFormedWrong)

/-- 'palisadelaw01.LatticeAsks': WHATEVER THE INPUT: true; the input reads as it did. -/
def latticeAsksSpec : ChangeSpec := { name := "latticeAsks", fn := fun _ => fun
  | [d1, d2, d3] => { results := [.lit (.bool true)], args := [d1, d2, d3] }
  | _ => none }
def latticeAsksRow : OpenClaim := { program := "ytomjippaokakcaa", sum := "cd016317cabd86f42ea776138a464dac6181e1fe0bdd3bedcd433cbb8a3065b3", func := "palisade/palisadelaw01.LatticeAsks", spec := "latticeAsks", apart := false }
def LatticeAsksSaid : Prop := latticeAsksRow.holds Try.pinned (OpenSpec.ofChange latticeAsksSpec)

/-- ITS FALSE NEIGHBOUR: 'it returns false'. Refute it at one input. -/
def latticeAsksWrong : ChangeSpec := { name := "latticeAsks", fn := fun _ => fun
  | [d1, d2, d3] => { results := [.lit (.bool false)], args := [d1, d2, d3] }
  | _ => none }
def LatticeAsksWrongFalsely : Prop := latticeAsksRow.holds Try.pinned (OpenSpec.ofChange latticeAsksWrong)

/-- 'palisadelaw01.LatticeMakes': WHATEVER THE INPUT: true; the input reads as it did. -/
def latticeMakesSpec : ChangeSpec := { name := "latticeMakes", fn := fun _ => fun
  | [d1, d2] => { results := [.lit (.bool true)], args := [d1, d2] }
  | _ => none }
def latticeMakesRow : OpenClaim := { program := "ytomjippaokakcaa", sum := "cd016317cabd86f42ea776138a464dac6181e1fe0bdd3bedcd433cbb8a3065b3", func := "palisade/palisadelaw01.LatticeMakes", spec := "latticeMakes", apart := false }
def LatticeMakesSaid : Prop := latticeMakesRow.holds Try.pinned (OpenSpec.ofChange latticeMakesSpec)

/-- ITS FALSE NEIGHBOUR: 'it returns false'. Refute it at one input. -/
def latticeMakesWrong : ChangeSpec := { name := "latticeMakes", fn := fun _ => fun
  | [d1, d2] => { results := [.lit (.bool false)], args := [d1, d2] }
  | _ => none }
def LatticeMakesWrongFalsely : Prop := latticeMakesRow.holds Try.pinned (OpenSpec.ofChange latticeMakesWrong)

/-- 'palisadelaw01.LatticeLaws': WHATEVER THE INPUT: true; the input reads as it did. -/
def latticeLawsSpec : ChangeSpec := { name := "latticeLaws", fn := fun _ => fun
  | [d] => { results := [.lit (.bool true)], args := [d] }
  | _ => none }
def latticeLawsRow : OpenClaim := { program := "ytomjippaokakcaa", sum := "cd016317cabd86f42ea776138a464dac6181e1fe0bdd3bedcd433cbb8a3065b3", func := "palisade/palisadelaw01.LatticeLaws", spec := "latticeLaws", apart := false }
def LatticeLawsSaid : Prop := latticeLawsRow.holds Try.pinned (OpenSpec.ofChange latticeLawsSpec)

/-- ITS FALSE NEIGHBOUR: 'it returns false'. Refute it at one input. -/
def latticeLawsWrong : ChangeSpec := { name := "latticeLaws", fn := fun _ => fun
  | [d] => { results := [.lit (.bool false)], args := [d] }
  | _ => none }
def LatticeLawsWrongFalsely : Prop := latticeLawsRow.holds Try.pinned (OpenSpec.ofChange latticeLawsWrong)

/-- 'palisadelaw01.LatticeNames': WHATEVER THE INPUT: true; the input reads as it did. -/
def latticeNamesSpec : ChangeSpec := { name := "latticeNames", fn := fun _ => fun
  | [d1, d2, d3] => { results := [.lit (.bool true)], args := [d1, d2, d3] }
  | _ => none }
def latticeNamesRow : OpenClaim := { program := "ytomjippaokakcaa", sum := "cd016317cabd86f42ea776138a464dac6181e1fe0bdd3bedcd433cbb8a3065b3", func := "palisade/palisadelaw01.LatticeNames", spec := "latticeNames", unfollowed := true, recurses := true, apart := false }
def LatticeNamesSaid : Prop := latticeNamesRow.holds Try.pinned (OpenSpec.ofChange latticeNamesSpec)

/-- ITS FALSE NEIGHBOUR: 'it returns false'. Refute it at one input. -/
def latticeNamesWrong : ChangeSpec := { name := "latticeNames", fn := fun _ => fun
  | [d1, d2, d3] => { results := [.lit (.bool false)], args := [d1, d2, d3] }
  | _ => none }
def LatticeNamesWrongFalsely : Prop := latticeNamesRow.holds Try.pinned (OpenSpec.ofChange latticeNamesWrong)

/-- 'palisadelaw01.LatticeLeast': WHATEVER THE INPUT: true; the input reads as it did. -/
def latticeLeastSpec : ChangeSpec := { name := "latticeLeast", fn := fun _ => fun
  | [d1, d2] => { results := [.lit (.bool true)], args := [d1, d2] }
  | _ => none }
def latticeLeastRow : OpenClaim := { program := "ytomjippaokakcaa", sum := "cd016317cabd86f42ea776138a464dac6181e1fe0bdd3bedcd433cbb8a3065b3", func := "palisade/palisadelaw01.LatticeLeast", spec := "latticeLeast", apart := false }
def LatticeLeastSaid : Prop := latticeLeastRow.holds Try.pinned (OpenSpec.ofChange latticeLeastSpec)

/-- ITS FALSE NEIGHBOUR: 'it returns false'. Refute it at one input. -/
def latticeLeastWrong : ChangeSpec := { name := "latticeLeast", fn := fun _ => fun
  | [d1, d2] => { results := [.lit (.bool false)], args := [d1, d2] }
  | _ => none }
def LatticeLeastWrongFalsely : Prop := latticeLeastRow.holds Try.pinned (OpenSpec.ofChange latticeLeastWrong)

/- THE SECOND FORM. 'bulk': how many values and letters a reading holds, each counted each time it is reached (what is shared counts as often as it is met; a slice's spare places count too). A statement '..UptoSaid' is the law's where the arguments, and the package variables that the reading takes, are together of bulk at most 1048576: NARROWER than '..Said'. Prove '..Said' where nothing that the law and all that it calls make is longer than what came in: it says more and counts as full. Else prove '..UptoSaid'. A law counts once. -/
mutual
def uptoBulk {H : Type} : DataW H → Nat
  | .lit (.string bytes) => bytes.length + 1
  | .lit _ => 1
  | .nil => 1
  | .ptr d => uptoBulk d + 1
  | .slice elems spare => uptoBulkAll elems + uptoBulkAll spare + 1
  | .agg parts => uptoBulkAll parts + 1
  | .iface _ d => uptoBulk d + 1
  | .map entries => uptoBulkEntries entries + 1
  | .held _ => 1
def uptoBulkAll {H : Type} : List (DataW H) → Nat
  | [] => 0
  | d :: r => uptoBulk d + uptoBulkAll r
def uptoBulkEntries {H : Type} : List (Lit × DataW H) → Nat
  | [] => 0
  | x :: r => uptoBulkEntry x + uptoBulkEntries r
def uptoBulkEntry {H : Type} : Lit × DataW H → Nat
  | (.string bytes, d) => bytes.length + uptoBulk d + 1
  | (_, d) => uptoBulk d + 1
 end
def uptoSmall : (H : Type) → List (DataW H) → Bool := fun _ ds => decide (uptoBulkAll ds ≤ 1048576)
def OpenSpec.upto (s : _root_.Go.ChangeSpec) : _root_.Go.OpenSpec := { _root_.Go.OpenSpec.ofChange s with cond := some uptoSmall }

/-- 'palisadelaw01.LatticeFormed', WHERE WHAT IT READS IS OF BULK AT MOST 1048576: true; the input reads as it did. -/
def latticeFormedUptoRow : OpenClaim := { program := "ytomjippaokakcaa", sum := "cd016317cabd86f42ea776138a464dac6181e1fe0bdd3bedcd433cbb8a3065b3", func := "palisade/palisadelaw01.LatticeFormed", spec := "latticeFormed", apart := false, narrowed := true }
def LatticeFormedUptoSaid : Prop := latticeFormedUptoRow.holds Try.pinned (OpenSpec.upto latticeFormedSpec)

/-- 'palisadelaw01.LatticeAsks', WHERE WHAT IT READS IS OF BULK AT MOST 1048576: true; the input reads as it did. -/
def latticeAsksUptoRow : OpenClaim := { program := "ytomjippaokakcaa", sum := "cd016317cabd86f42ea776138a464dac6181e1fe0bdd3bedcd433cbb8a3065b3", func := "palisade/palisadelaw01.LatticeAsks", spec := "latticeAsks", apart := false, narrowed := true }
def LatticeAsksUptoSaid : Prop := latticeAsksUptoRow.holds Try.pinned (OpenSpec.upto latticeAsksSpec)

/-- 'palisadelaw01.LatticeMakes', WHERE WHAT IT READS IS OF BULK AT MOST 1048576: true; the input reads as it did. -/
def latticeMakesUptoRow : OpenClaim := { program := "ytomjippaokakcaa", sum := "cd016317cabd86f42ea776138a464dac6181e1fe0bdd3bedcd433cbb8a3065b3", func := "palisade/palisadelaw01.LatticeMakes", spec := "latticeMakes", apart := false, narrowed := true }
def LatticeMakesUptoSaid : Prop := latticeMakesUptoRow.holds Try.pinned (OpenSpec.upto latticeMakesSpec)

/-- 'palisadelaw01.LatticeLaws', WHERE WHAT IT READS IS OF BULK AT MOST 1048576: true; the input reads as it did. -/
def latticeLawsUptoRow : OpenClaim := { program := "ytomjippaokakcaa", sum := "cd016317cabd86f42ea776138a464dac6181e1fe0bdd3bedcd433cbb8a3065b3", func := "palisade/palisadelaw01.LatticeLaws", spec := "latticeLaws", apart := false, narrowed := true }
def LatticeLawsUptoSaid : Prop := latticeLawsUptoRow.holds Try.pinned (OpenSpec.upto latticeLawsSpec)

/-- 'palisadelaw01.LatticeNames', WHERE WHAT IT READS IS OF BULK AT MOST 1048576: true; the input reads as it did. -/
def latticeNamesUptoRow : OpenClaim := { program := "ytomjippaokakcaa", sum := "cd016317cabd86f42ea776138a464dac6181e1fe0bdd3bedcd433cbb8a3065b3", func := "palisade/palisadelaw01.LatticeNames", spec := "latticeNames", unfollowed := true, recurses := true, apart := false, narrowed := true }
def LatticeNamesUptoSaid : Prop := latticeNamesUptoRow.holds Try.pinned (OpenSpec.upto latticeNamesSpec)

/-- 'palisadelaw01.LatticeLeast', WHERE WHAT IT READS IS OF BULK AT MOST 1048576: true; the input reads as it did. -/
def latticeLeastUptoRow : OpenClaim := { program := "ytomjippaokakcaa", sum := "cd016317cabd86f42ea776138a464dac6181e1fe0bdd3bedcd433cbb8a3065b3", func := "palisade/palisadelaw01.LatticeLeast", spec := "latticeLeast", apart := false, narrowed := true }
def LatticeLeastUptoSaid : Prop := latticeLeastUptoRow.holds Try.pinned (OpenSpec.upto latticeLeastSpec)

end Rows
end Go.Proofs.Ytomjippaokakcaa
