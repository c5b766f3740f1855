/-
  NARROWER THAN 'FOR EVERY INPUT', by the rows' own cells (each row's printed sentence says how): RegionsRight: loops · RegionsLeast: loops · RegionsMeet: loops · RegionsOne: loops.
  DERIVED. THE GIVEN ROWS OF THIS SEAT. 4 by the template 'for every input the law returns true; each argument reads behind the call as it read before'; 0 by the template 'total and deterministic' (their statements: YtibhcbdofadamaaTotals.lean).
  GIVEN WITH THE SEED: the statements are not yours to turn. If you find one false, say at which input.
  Laid BY PROGRAM, IN A SANDBOX (cutbox-rows.mjs): the forced cells as the released guide's own fill.sh prints them over the translation ccb0c87213fe2cb8… (all of the seat's roots in one cut). By AI agents, Wed Nov 11 2026. No macro, syntax, notation, axiom, sorry.
-/
import Derived.Test.YtibhcbdofadamaaChecked
import GoSem.Claim
import GoSem.ClaimJoined
import GoSem.ClaimMapViews
import Derived.JoinedTies
import Derived.KernelRfl
namespace Go.Proofs.Ytibhcbdofadamaa
/- THE CELL 'sum', in the pinned program and in every row, IS THE sha256 OF THE DUMP (.gsa) THAT YtibhcbdofadamaaProg.lean LOADS. Nothing in Lean hashes anything: it is a label: what it is worth is what the hold of that sum in a sandbox is worth. -/
noncomputable def Try.pinned : Pinned := { name := "ytibhcbdofadamaa", sum := "ccb0c87213fe2cb8452b3aaf8d17bc2a672acdf32eeb944dd02cc9a4b026b0fc", checked := Try.checked }
namespace Rows
def none {H : Type} : Left H := { results := [], args := [] }

/-- 'palisadelaw16.RegionsRight': WHATEVER THE INPUT: true; the input reads as it did. -/
def regionsRightSpec : ChangeSpec := { name := "regionsRight", fn := fun _ => fun
  | [d1, d2] => { results := [.lit (.bool true)], args := [d1, d2] }
  | _ => none }
def regionsRightRow : OpenClaim := { program := "ytibhcbdofadamaa", sum := "ccb0c87213fe2cb8452b3aaf8d17bc2a672acdf32eeb944dd02cc9a4b026b0fc", func := "palisade/palisadelaw16.RegionsRight", spec := "regionsRight", unfollowed := true, recurses := true, loops := true, apart := false }
def RegionsRightSaid : Prop := regionsRightRow.holds Try.pinned (OpenSpec.ofChange regionsRightSpec)

/-- ITS FALSE NEIGHBOUR: 'it returns false'. Refute it at one input. -/
def regionsRightWrong : ChangeSpec := { name := "regionsRight", fn := fun _ => fun
  | [d1, d2] => { results := [.lit (.bool false)], args := [d1, d2] }
  | _ => none }
def RegionsRightWrongFalsely : Prop := regionsRightRow.holds Try.pinned (OpenSpec.ofChange regionsRightWrong)

/-- 'palisadelaw16.RegionsLeast': WHATEVER THE INPUT: true; the input reads as it did. -/
def regionsLeastSpec : ChangeSpec := { name := "regionsLeast", fn := fun _ => fun
  | [d1, d2, d3] => { results := [.lit (.bool true)], args := [d1, d2, d3] }
  | _ => none }
def regionsLeastRow : OpenClaim := { program := "ytibhcbdofadamaa", sum := "ccb0c87213fe2cb8452b3aaf8d17bc2a672acdf32eeb944dd02cc9a4b026b0fc", func := "palisade/palisadelaw16.RegionsLeast", spec := "regionsLeast", unfollowed := true, recurses := true, loops := true, apart := false }
def RegionsLeastSaid : Prop := regionsLeastRow.holds Try.pinned (OpenSpec.ofChange regionsLeastSpec)

/-- ITS FALSE NEIGHBOUR: 'it returns false'. Refute it at one input. -/
def regionsLeastWrong : ChangeSpec := { name := "regionsLeast", fn := fun _ => fun
  | [d1, d2, d3] => { results := [.lit (.bool false)], args := [d1, d2, d3] }
  | _ => none }
def RegionsLeastWrongFalsely : Prop := regionsLeastRow.holds Try.pinned (OpenSpec.ofChange regionsLeastWrong)

/-- 'palisadelaw16.RegionsMeet': WHATEVER THE INPUT: true; the input reads as it did. -/
def regionsMeetSpec : ChangeSpec := { name := "regionsMeet", fn := fun _ => fun
  | [d1, d2, d3] => { results := [.lit (.bool true)], args := [d1, d2, d3] }
  | _ => none }
def regionsMeetRow : OpenClaim := { program := "ytibhcbdofadamaa", sum := "ccb0c87213fe2cb8452b3aaf8d17bc2a672acdf32eeb944dd02cc9a4b026b0fc", func := "palisade/palisadelaw16.RegionsMeet", spec := "regionsMeet", unfollowed := true, recurses := true, loops := true, apart := false }
def RegionsMeetSaid : Prop := regionsMeetRow.holds Try.pinned (OpenSpec.ofChange regionsMeetSpec)

/-- ITS FALSE NEIGHBOUR: 'it returns false'. Refute it at one input. -/
def regionsMeetWrong : ChangeSpec := { name := "regionsMeet", fn := fun _ => fun
  | [d1, d2, d3] => { results := [.lit (.bool false)], args := [d1, d2, d3] }
  | _ => none }
def RegionsMeetWrongFalsely : Prop := regionsMeetRow.holds Try.pinned (OpenSpec.ofChange regionsMeetWrong)

/-- 'palisadelaw16.RegionsOne': WHATEVER THE INPUT: true; the input reads as it did. -/
def regionsOneSpec : ChangeSpec := { name := "regionsOne", fn := fun _ => fun
  | [d1, d2] => { results := [.lit (.bool true)], args := [d1, d2] }
  | _ => none }
def regionsOneRow : OpenClaim := { program := "ytibhcbdofadamaa", sum := "ccb0c87213fe2cb8452b3aaf8d17bc2a672acdf32eeb944dd02cc9a4b026b0fc", func := "palisade/palisadelaw16.RegionsOne", spec := "regionsOne", unfollowed := true, recurses := true, loops := true, apart := false }
def RegionsOneSaid : Prop := regionsOneRow.holds Try.pinned (OpenSpec.ofChange regionsOneSpec)

/-- ITS FALSE NEIGHBOUR: 'it returns false'. Refute it at one input. -/
def regionsOneWrong : ChangeSpec := { name := "regionsOne", fn := fun _ => fun
  | [d1, d2] => { results := [.lit (.bool false)], args := [d1, d2] }
  | _ => none }
def RegionsOneWrongFalsely : Prop := regionsOneRow.holds Try.pinned (OpenSpec.ofChange regionsOneWrong)

/- THE SECOND FORM. 'bulk': how many values and letters a reading holds, each counted each time it is reached (what is shared counts as often as it is met; a slice's spare places count too). A statement '..UptoSaid' is the law's where the arguments, and the package variables that the reading takes, are together of bulk at most 1048576: NARROWER than '..Said'. Prove '..Said' where nothing that the law and all that it calls make is longer than what came in: it says more and counts as full. Else prove '..UptoSaid'. A law counts once. -/
mutual
def uptoBulk {H : Type} : DataW H → Nat
  | .lit (.string bytes) => bytes.length + 1
  | .lit _ => 1
  | .nil => 1
  | .ptr d => uptoBulk d + 1
  | .slice elems spare => uptoBulkAll elems + uptoBulkAll spare + 1
  | .agg parts => uptoBulkAll parts + 1
  | .iface _ d => uptoBulk d + 1
  | .map entries => uptoBulkEntries entries + 1
  | .held _ => 1
def uptoBulkAll {H : Type} : List (DataW H) → Nat
  | [] => 0
  | d :: r => uptoBulk d + uptoBulkAll r
def uptoBulkEntries {H : Type} : List (Lit × DataW H) → Nat
  | [] => 0
  | x :: r => uptoBulkEntry x + uptoBulkEntries r
def uptoBulkEntry {H : Type} : Lit × DataW H → Nat
  | (.string bytes, d) => bytes.length + uptoBulk d + 1
  | (_, d) => uptoBulk d + 1
 end
def uptoSmall : (H : Type) → List (DataW H) → Bool := fun _ ds => decide (uptoBulkAll ds ≤ 1048576)
def OpenSpec.upto (s : _root_.Go.ChangeSpec) : _root_.Go.OpenSpec := { _root_.Go.OpenSpec.ofChange s with cond := some uptoSmall }

/-- 'palisadelaw16.RegionsRight', WHERE WHAT IT READS IS OF BULK AT MOST 1048576: true; the input reads as it did. -/
def regionsRightUptoRow : OpenClaim := { program := "ytibhcbdofadamaa", sum := "ccb0c87213fe2cb8452b3aaf8d17bc2a672acdf32eeb944dd02cc9a4b026b0fc", func := "palisade/palisadelaw16.RegionsRight", spec := "regionsRight", unfollowed := true, recurses := true, loops := true, apart := false, narrowed := true }
def RegionsRightUptoSaid : Prop := regionsRightUptoRow.holds Try.pinned (OpenSpec.upto regionsRightSpec)

/-- 'palisadelaw16.RegionsLeast', WHERE WHAT IT READS IS OF BULK AT MOST 1048576: true; the input reads as it did. -/
def regionsLeastUptoRow : OpenClaim := { program := "ytibhcbdofadamaa", sum := "ccb0c87213fe2cb8452b3aaf8d17bc2a672acdf32eeb944dd02cc9a4b026b0fc", func := "palisade/palisadelaw16.RegionsLeast", spec := "regionsLeast", unfollowed := true, recurses := true, loops := true, apart := false, narrowed := true }
def RegionsLeastUptoSaid : Prop := regionsLeastUptoRow.holds Try.pinned (OpenSpec.upto regionsLeastSpec)

/-- 'palisadelaw16.RegionsMeet', WHERE WHAT IT READS IS OF BULK AT MOST 1048576: true; the input reads as it did. -/
def regionsMeetUptoRow : OpenClaim := { program := "ytibhcbdofadamaa", sum := "ccb0c87213fe2cb8452b3aaf8d17bc2a672acdf32eeb944dd02cc9a4b026b0fc", func := "palisade/palisadelaw16.RegionsMeet", spec := "regionsMeet", unfollowed := true, recurses := true, loops := true, apart := false, narrowed := true }
def RegionsMeetUptoSaid : Prop := regionsMeetUptoRow.holds Try.pinned (OpenSpec.upto regionsMeetSpec)

/-- 'palisadelaw16.RegionsOne', WHERE WHAT IT READS IS OF BULK AT MOST 1048576: true; the input reads as it did. -/
def regionsOneUptoRow : OpenClaim := { program := "ytibhcbdofadamaa", sum := "ccb0c87213fe2cb8452b3aaf8d17bc2a672acdf32eeb944dd02cc9a4b026b0fc", func := "palisade/palisadelaw16.RegionsOne", spec := "regionsOne", unfollowed := true, recurses := true, loops := true, apart := false, narrowed := true }
def RegionsOneUptoSaid : Prop := regionsOneUptoRow.holds Try.pinned (OpenSpec.upto regionsOneSpec)

end Rows
end Go.Proofs.Ytibhcbdofadamaa
