/-
  NARROWER THAN 'FOR EVERY INPUT', by the rows' own cells (each row's printed sentence says how): FreeNames: loops · FreeTables: loops · FreeOnce: loops · FreeClosed: loops · FreeParts: loops.
  DERIVED. THE GIVEN ROWS OF THIS SEAT. 5 by the template 'for every input the law returns true; each argument reads behind the call as it read before'; 0 by the template 'total and deterministic' (their statements: YtkegefbnbdcgcaaTotals.lean).
  GIVEN WITH THE SEED: the statements are not yours to turn. If you find one false, say at which input.
  Laid BY PROGRAM, IN A SANDBOX (cutbox-rows.mjs): the forced cells as the released guide's own fill.sh prints them over the translation 1eedae9626338963… (all of the seat's roots in one cut). By AI agents, Wed Nov 11 2026. No macro, syntax, notation, axiom, sorry.
-/
import Derived.Test.YtkegefbnbdcgcaaChecked
import GoSem.Claim
import GoSem.ClaimJoined
import GoSem.ClaimMapViews
import Derived.JoinedTies
import Derived.KernelRfl
namespace Go.Proofs.Ytkegefbnbdcgcaa
/- THE CELL 'sum', in the pinned program and in every row, IS THE sha256 OF THE DUMP (.gsa) THAT YtkegefbnbdcgcaaProg.lean LOADS. Nothing in Lean hashes anything: it is a label: what it is worth is what the hold of that sum in a sandbox is worth. -/
noncomputable def Try.pinned : Pinned := { name := "ytkegefbnbdcgcaa", sum := "1eedae962633896304a33d5c6ed8140c34c274f158a8759823841693bd52b8e6", checked := Try.checked }
namespace Rows
def none {H : Type} : Left H := { results := [], args := [] }

/-- 'palisadelaw08.FreeNames': WHATEVER THE INPUT: true; the input reads as it did. -/
def freeNamesSpec : ChangeSpec := { name := "freeNames", fn := fun _ => fun
  | [d1, d2, d3] => { results := [.lit (.bool true)], args := [d1, d2, d3] }
  | _ => none }
def freeNamesRow : OpenClaim := { program := "ytkegefbnbdcgcaa", sum := "1eedae962633896304a33d5c6ed8140c34c274f158a8759823841693bd52b8e6", func := "palisade/palisadelaw08.FreeNames", spec := "freeNames", unfollowed := true, recurses := true, loops := true, plainKeys := false, apart := false }
def FreeNamesSaid : Prop := freeNamesRow.holds Try.pinned (OpenSpec.ofChange freeNamesSpec)

/-- ITS FALSE NEIGHBOUR: 'it returns false'. Refute it at one input. -/
def freeNamesWrong : ChangeSpec := { name := "freeNames", fn := fun _ => fun
  | [d1, d2, d3] => { results := [.lit (.bool false)], args := [d1, d2, d3] }
  | _ => none }
def FreeNamesWrongFalsely : Prop := freeNamesRow.holds Try.pinned (OpenSpec.ofChange freeNamesWrong)

/-- 'palisadelaw08.FreeTables': WHATEVER THE INPUT: true; the input reads as it did. -/
def freeTablesSpec : ChangeSpec := { name := "freeTables", fn := fun _ => fun
  | [d1, d2] => { results := [.lit (.bool true)], args := [d1, d2] }
  | _ => none }
def freeTablesRow : OpenClaim := { program := "ytkegefbnbdcgcaa", sum := "1eedae962633896304a33d5c6ed8140c34c274f158a8759823841693bd52b8e6", func := "palisade/palisadelaw08.FreeTables", spec := "freeTables", unfollowed := true, recurses := true, loops := true, plainKeys := false, apart := false }
def FreeTablesSaid : Prop := freeTablesRow.holds Try.pinned (OpenSpec.ofChange freeTablesSpec)

/-- ITS FALSE NEIGHBOUR: 'it returns false'. Refute it at one input. -/
def freeTablesWrong : ChangeSpec := { name := "freeTables", fn := fun _ => fun
  | [d1, d2] => { results := [.lit (.bool false)], args := [d1, d2] }
  | _ => none }
def FreeTablesWrongFalsely : Prop := freeTablesRow.holds Try.pinned (OpenSpec.ofChange freeTablesWrong)

/-- 'palisadelaw08.FreeOnce': WHATEVER THE INPUT: true; the input reads as it did. -/
def freeOnceSpec : ChangeSpec := { name := "freeOnce", fn := fun _ => fun
  | [d1, d2] => { results := [.lit (.bool true)], args := [d1, d2] }
  | _ => none }
def freeOnceRow : OpenClaim := { program := "ytkegefbnbdcgcaa", sum := "1eedae962633896304a33d5c6ed8140c34c274f158a8759823841693bd52b8e6", func := "palisade/palisadelaw08.FreeOnce", spec := "freeOnce", unfollowed := true, recurses := true, loops := true, plainKeys := false, apart := false }
def FreeOnceSaid : Prop := freeOnceRow.holds Try.pinned (OpenSpec.ofChange freeOnceSpec)

/-- ITS FALSE NEIGHBOUR: 'it returns false'. Refute it at one input. -/
def freeOnceWrong : ChangeSpec := { name := "freeOnce", fn := fun _ => fun
  | [d1, d2] => { results := [.lit (.bool false)], args := [d1, d2] }
  | _ => none }
def FreeOnceWrongFalsely : Prop := freeOnceRow.holds Try.pinned (OpenSpec.ofChange freeOnceWrong)

/-- 'palisadelaw08.FreeClosed': WHATEVER THE INPUT: true; the input reads as it did. -/
def freeClosedSpec : ChangeSpec := { name := "freeClosed", fn := fun _ => fun
  | [d1, d2] => { results := [.lit (.bool true)], args := [d1, d2] }
  | _ => none }
def freeClosedRow : OpenClaim := { program := "ytkegefbnbdcgcaa", sum := "1eedae962633896304a33d5c6ed8140c34c274f158a8759823841693bd52b8e6", func := "palisade/palisadelaw08.FreeClosed", spec := "freeClosed", unfollowed := true, recurses := true, loops := true, plainKeys := false, apart := false }
def FreeClosedSaid : Prop := freeClosedRow.holds Try.pinned (OpenSpec.ofChange freeClosedSpec)

/-- ITS FALSE NEIGHBOUR: 'it returns false'. Refute it at one input. -/
def freeClosedWrong : ChangeSpec := { name := "freeClosed", fn := fun _ => fun
  | [d1, d2] => { results := [.lit (.bool false)], args := [d1, d2] }
  | _ => none }
def FreeClosedWrongFalsely : Prop := freeClosedRow.holds Try.pinned (OpenSpec.ofChange freeClosedWrong)

/-- 'palisadelaw08.FreeParts': WHATEVER THE INPUT: true; the input reads as it did. -/
def freePartsSpec : ChangeSpec := { name := "freeParts", fn := fun _ => fun
  | [d1, d2, d3] => { results := [.lit (.bool true)], args := [d1, d2, d3] }
  | _ => none }
def freePartsRow : OpenClaim := { program := "ytkegefbnbdcgcaa", sum := "1eedae962633896304a33d5c6ed8140c34c274f158a8759823841693bd52b8e6", func := "palisade/palisadelaw08.FreeParts", spec := "freeParts", unfollowed := true, recurses := true, loops := true, plainKeys := false, apart := false }
def FreePartsSaid : Prop := freePartsRow.holds Try.pinned (OpenSpec.ofChange freePartsSpec)

/-- ITS FALSE NEIGHBOUR: 'it returns false'. Refute it at one input. -/
def freePartsWrong : ChangeSpec := { name := "freeParts", fn := fun _ => fun
  | [d1, d2, d3] => { results := [.lit (.bool false)], args := [d1, d2, d3] }
  | _ => none }
def FreePartsWrongFalsely : Prop := freePartsRow.holds Try.pinned (OpenSpec.ofChange freePartsWrong)

/- THE SECOND FORM. 'bulk': how many values and letters a reading holds, each counted each time it is reached (what is shared counts as often as it is met; a slice's spare places count too). A statement '..UptoSaid' is the law's where the arguments, and the package variables that the reading takes, are together of bulk at most 1048576: NARROWER than '..Said'. Prove '..Said' where nothing that the law and all that it calls make is longer than what came in: it says more and counts as full. Else prove '..UptoSaid'. A law counts once. -/
mutual
def uptoBulk {H : Type} : DataW H → Nat
  | .lit (.string bytes) => bytes.length + 1
  | .lit _ => 1
  | .nil => 1
  | .ptr d => uptoBulk d + 1
  | .slice elems spare => uptoBulkAll elems + uptoBulkAll spare + 1
  | .agg parts => uptoBulkAll parts + 1
  | .iface _ d => uptoBulk d + 1
  | .map entries => uptoBulkEntries entries + 1
  | .held _ => 1
def uptoBulkAll {H : Type} : List (DataW H) → Nat
  | [] => 0
  | d :: r => uptoBulk d + uptoBulkAll r
def uptoBulkEntries {H : Type} : List (Lit × DataW H) → Nat
  | [] => 0
  | x :: r => uptoBulkEntry x + uptoBulkEntries r
def uptoBulkEntry {H : Type} : Lit × DataW H → Nat
  | (.string bytes, d) => bytes.length + uptoBulk d + 1
  | (_, d) => uptoBulk d + 1
 end
def uptoSmall : (H : Type) → List (DataW H) → Bool := fun _ ds => decide (uptoBulkAll ds ≤ 1048576)
def OpenSpec.upto (s : _root_.Go.ChangeSpec) : _root_.Go.OpenSpec := { _root_.Go.OpenSpec.ofChange s with cond := some uptoSmall }

/-- 'palisadelaw08.FreeNames', WHERE WHAT IT READS IS OF BULK AT MOST 1048576: true; the input reads as it did. -/
def freeNamesUptoRow : OpenClaim := { program := "ytkegefbnbdcgcaa", sum := "1eedae962633896304a33d5c6ed8140c34c274f158a8759823841693bd52b8e6", func := "palisade/palisadelaw08.FreeNames", spec := "freeNames", unfollowed := true, recurses := true, loops := true, plainKeys := false, apart := false, narrowed := true }
def FreeNamesUptoSaid : Prop := freeNamesUptoRow.holds Try.pinned (OpenSpec.upto freeNamesSpec)

/-- 'palisadelaw08.FreeTables', WHERE WHAT IT READS IS OF BULK AT MOST 1048576: true; the input reads as it did. -/
def freeTablesUptoRow : OpenClaim := { program := "ytkegefbnbdcgcaa", sum := "1eedae962633896304a33d5c6ed8140c34c274f158a8759823841693bd52b8e6", func := "palisade/palisadelaw08.FreeTables", spec := "freeTables", unfollowed := true, recurses := true, loops := true, plainKeys := false, apart := false, narrowed := true }
def FreeTablesUptoSaid : Prop := freeTablesUptoRow.holds Try.pinned (OpenSpec.upto freeTablesSpec)

/-- 'palisadelaw08.FreeOnce', WHERE WHAT IT READS IS OF BULK AT MOST 1048576: true; the input reads as it did. -/
def freeOnceUptoRow : OpenClaim := { program := "ytkegefbnbdcgcaa", sum := "1eedae962633896304a33d5c6ed8140c34c274f158a8759823841693bd52b8e6", func := "palisade/palisadelaw08.FreeOnce", spec := "freeOnce", unfollowed := true, recurses := true, loops := true, plainKeys := false, apart := false, narrowed := true }
def FreeOnceUptoSaid : Prop := freeOnceUptoRow.holds Try.pinned (OpenSpec.upto freeOnceSpec)

/-- 'palisadelaw08.FreeClosed', WHERE WHAT IT READS IS OF BULK AT MOST 1048576: true; the input reads as it did. -/
def freeClosedUptoRow : OpenClaim := { program := "ytkegefbnbdcgcaa", sum := "1eedae962633896304a33d5c6ed8140c34c274f158a8759823841693bd52b8e6", func := "palisade/palisadelaw08.FreeClosed", spec := "freeClosed", unfollowed := true, recurses := true, loops := true, plainKeys := false, apart := false, narrowed := true }
def FreeClosedUptoSaid : Prop := freeClosedUptoRow.holds Try.pinned (OpenSpec.upto freeClosedSpec)

/-- 'palisadelaw08.FreeParts', WHERE WHAT IT READS IS OF BULK AT MOST 1048576: true; the input reads as it did. -/
def freePartsUptoRow : OpenClaim := { program := "ytkegefbnbdcgcaa", sum := "1eedae962633896304a33d5c6ed8140c34c274f158a8759823841693bd52b8e6", func := "palisade/palisadelaw08.FreeParts", spec := "freeParts", unfollowed := true, recurses := true, loops := true, plainKeys := false, apart := false, narrowed := true }
def FreePartsUptoSaid : Prop := freePartsUptoRow.holds Try.pinned (OpenSpec.upto freePartsSpec)

end Rows
end Go.Proofs.Ytkegefbnbdcgcaa
