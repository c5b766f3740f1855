/-
  NARROWER THAN 'FOR EVERY INPUT', by the rows' own cells (each row's printed sentence says how): IrAmong: loops · IrSlots: loops.
  DERIVED. THE GIVEN ROWS OF THIS SEAT. 4 by the template 'for every input the law returns true; each argument reads behind the call as it read before'; 0 by the template 'total and deterministic' (their statements: YtbdhbgilaeldgaaTotals.lean).
  GIVEN WITH THE SEED: the statements are not yours to turn. If you find one false, say at which input.
  Laid BY PROGRAM, IN A SANDBOX (cutbox-rows.mjs): the forced cells as the released guide's own fill.sh prints them over the translation c3fb88d0cc31b552… (all of the seat's roots in one cut). By AI agents, Wed Nov 11 2026. No macro, syntax, notation, axiom, sorry.
-/
import Derived.Test.YtbdhbgilaeldgaaChecked
import GoSem.Claim
import GoSem.ClaimJoined
import GoSem.ClaimMapViews
import Derived.JoinedTies
import Derived.KernelRfl
namespace Go.Proofs.Ytbdhbgilaeldgaa
/- THE CELL 'sum', in the pinned program and in every row, IS THE sha256 OF THE DUMP (.gsa) THAT YtbdhbgilaeldgaaProg.lean LOADS. Nothing in Lean hashes anything: it is a label: what it is worth is what the hold of that sum in a sandbox is worth. -/
noncomputable def Try.pinned : Pinned := { name := "ytbdhbgilaeldgaa", sum := "c3fb88d0cc31b5529c07d6068ff9594fd0fb3b0bc161ca458619dba5879c32fb", checked := Try.checked }
namespace Rows
def none {H : Type} : Left H := { results := [], args := [] }

/-- 'palisadelaw10.IrAmong': WHATEVER THE INPUT: true; the input reads as it did. -/
def irAmongSpec : ChangeSpec := { name := "irAmong", fn := fun _ => fun
  | [d1, d2, d3] => { results := [.lit (.bool true)], args := [d1, d2, d3] }
  | _ => none }
def irAmongRow : OpenClaim := { program := "ytbdhbgilaeldgaa", sum := "c3fb88d0cc31b5529c07d6068ff9594fd0fb3b0bc161ca458619dba5879c32fb", func := "palisade/palisadelaw10.IrAmong", spec := "irAmong", unfollowed := true, recurses := true, loops := true, plainKeys := false, apart := false }
def IrAmongSaid : Prop := irAmongRow.holds Try.pinned (OpenSpec.ofChange irAmongSpec)

/-- ITS FALSE NEIGHBOUR: 'it returns false'. Refute it at one input. -/
def irAmongWrong : ChangeSpec := { name := "irAmong", fn := fun _ => fun
  | [d1, d2, d3] => { results := [.lit (.bool false)], args := [d1, d2, d3] }
  | _ => none }
def IrAmongWrongFalsely : Prop := irAmongRow.holds Try.pinned (OpenSpec.ofChange irAmongWrong)

/-- 'palisadelaw10.IrHigh': WHATEVER THE INPUT: true; the input reads as it did. -/
def irHighSpec : ChangeSpec := { name := "irHigh", fn := fun _ => fun
  | [d1, d2] => { results := [.lit (.bool true)], args := [d1, d2] }
  | _ => none }
def irHighRow : OpenClaim := { program := "ytbdhbgilaeldgaa", sum := "c3fb88d0cc31b5529c07d6068ff9594fd0fb3b0bc161ca458619dba5879c32fb", func := "palisade/palisadelaw10.IrHigh", spec := "irHigh", unfollowed := true, recurses := true, plainKeys := false, apart := false }
def IrHighSaid : Prop := irHighRow.holds Try.pinned (OpenSpec.ofChange irHighSpec)

/-- ITS FALSE NEIGHBOUR: 'it returns false'. Refute it at one input. -/
def irHighWrong : ChangeSpec := { name := "irHigh", fn := fun _ => fun
  | [d1, d2] => { results := [.lit (.bool false)], args := [d1, d2] }
  | _ => none }
def IrHighWrongFalsely : Prop := irHighRow.holds Try.pinned (OpenSpec.ofChange irHighWrong)

/-- 'palisadelaw10.IrEnv': WHATEVER THE INPUT: true; the input reads as it did. -/
def irEnvSpec : ChangeSpec := { name := "irEnv", fn := fun _ => fun
  | [d1, d2] => { results := [.lit (.bool true)], args := [d1, d2] }
  | _ => none }
def irEnvRow : OpenClaim := { program := "ytbdhbgilaeldgaa", sum := "c3fb88d0cc31b5529c07d6068ff9594fd0fb3b0bc161ca458619dba5879c32fb", func := "palisade/palisadelaw10.IrEnv", spec := "irEnv", unfollowed := true, recurses := true, plainKeys := false, apart := false }
def IrEnvSaid : Prop := irEnvRow.holds Try.pinned (OpenSpec.ofChange irEnvSpec)

/-- ITS FALSE NEIGHBOUR: 'it returns false'. Refute it at one input. -/
def irEnvWrong : ChangeSpec := { name := "irEnv", fn := fun _ => fun
  | [d1, d2] => { results := [.lit (.bool false)], args := [d1, d2] }
  | _ => none }
def IrEnvWrongFalsely : Prop := irEnvRow.holds Try.pinned (OpenSpec.ofChange irEnvWrong)

/-- 'palisadelaw10.IrSlots': WHATEVER THE INPUT: true; the input reads as it did. -/
def irSlotsSpec : ChangeSpec := { name := "irSlots", fn := fun _ => fun
  | [d1, d2, d3] => { results := [.lit (.bool true)], args := [d1, d2, d3] }
  | _ => none }
def irSlotsRow : OpenClaim := { program := "ytbdhbgilaeldgaa", sum := "c3fb88d0cc31b5529c07d6068ff9594fd0fb3b0bc161ca458619dba5879c32fb", func := "palisade/palisadelaw10.IrSlots", spec := "irSlots", unfollowed := true, recurses := true, loops := true, plainKeys := false, apart := false }
def IrSlotsSaid : Prop := irSlotsRow.holds Try.pinned (OpenSpec.ofChange irSlotsSpec)

/-- ITS FALSE NEIGHBOUR: 'it returns false'. Refute it at one input. -/
def irSlotsWrong : ChangeSpec := { name := "irSlots", fn := fun _ => fun
  | [d1, d2, d3] => { results := [.lit (.bool false)], args := [d1, d2, d3] }
  | _ => none }
def IrSlotsWrongFalsely : Prop := irSlotsRow.holds Try.pinned (OpenSpec.ofChange irSlotsWrong)

/- THE SECOND FORM. 'bulk': how many values and letters a reading holds, each counted each time it is reached (what is shared counts as often as it is met; a slice's spare places count too). A statement '..UptoSaid' is the law's where the arguments, and the package variables that the reading takes, are together of bulk at most 1048576: NARROWER than '..Said'. Prove '..Said' where nothing that the law and all that it calls make is longer than what came in: it says more and counts as full. Else prove '..UptoSaid'. A law counts once. -/
mutual
def uptoBulk {H : Type} : DataW H → Nat
  | .lit (.string bytes) => bytes.length + 1
  | .lit _ => 1
  | .nil => 1
  | .ptr d => uptoBulk d + 1
  | .slice elems spare => uptoBulkAll elems + uptoBulkAll spare + 1
  | .agg parts => uptoBulkAll parts + 1
  | .iface _ d => uptoBulk d + 1
  | .map entries => uptoBulkEntries entries + 1
  | .held _ => 1
def uptoBulkAll {H : Type} : List (DataW H) → Nat
  | [] => 0
  | d :: r => uptoBulk d + uptoBulkAll r
def uptoBulkEntries {H : Type} : List (Lit × DataW H) → Nat
  | [] => 0
  | x :: r => uptoBulkEntry x + uptoBulkEntries r
def uptoBulkEntry {H : Type} : Lit × DataW H → Nat
  | (.string bytes, d) => bytes.length + uptoBulk d + 1
  | (_, d) => uptoBulk d + 1
 end
def uptoSmall : (H : Type) → List (DataW H) → Bool := fun _ ds => decide (uptoBulkAll ds ≤ 1048576)
def OpenSpec.upto (s : _root_.Go.ChangeSpec) : _root_.Go.OpenSpec := { _root_.Go.OpenSpec.ofChange s with cond := some uptoSmall }

/-- 'palisadelaw10.IrAmong', WHERE WHAT IT READS IS OF BULK AT MOST 1048576: true; the input reads as it did. -/
def irAmongUptoRow : OpenClaim := { program := "ytbdhbgilaeldgaa", sum := "c3fb88d0cc31b5529c07d6068ff9594fd0fb3b0bc161ca458619dba5879c32fb", func := "palisade/palisadelaw10.IrAmong", spec := "irAmong", unfollowed := true, recurses := true, loops := true, plainKeys := false, apart := false, narrowed := true }
def IrAmongUptoSaid : Prop := irAmongUptoRow.holds Try.pinned (OpenSpec.upto irAmongSpec)

/-- 'palisadelaw10.IrHigh', WHERE WHAT IT READS IS OF BULK AT MOST 1048576: true; the input reads as it did. -/
def irHighUptoRow : OpenClaim := { program := "ytbdhbgilaeldgaa", sum := "c3fb88d0cc31b5529c07d6068ff9594fd0fb3b0bc161ca458619dba5879c32fb", func := "palisade/palisadelaw10.IrHigh", spec := "irHigh", unfollowed := true, recurses := true, plainKeys := false, apart := false, narrowed := true }
def IrHighUptoSaid : Prop := irHighUptoRow.holds Try.pinned (OpenSpec.upto irHighSpec)

/-- 'palisadelaw10.IrEnv', WHERE WHAT IT READS IS OF BULK AT MOST 1048576: true; the input reads as it did. -/
def irEnvUptoRow : OpenClaim := { program := "ytbdhbgilaeldgaa", sum := "c3fb88d0cc31b5529c07d6068ff9594fd0fb3b0bc161ca458619dba5879c32fb", func := "palisade/palisadelaw10.IrEnv", spec := "irEnv", unfollowed := true, recurses := true, plainKeys := false, apart := false, narrowed := true }
def IrEnvUptoSaid : Prop := irEnvUptoRow.holds Try.pinned (OpenSpec.upto irEnvSpec)

/-- 'palisadelaw10.IrSlots', WHERE WHAT IT READS IS OF BULK AT MOST 1048576: true; the input reads as it did. -/
def irSlotsUptoRow : OpenClaim := { program := "ytbdhbgilaeldgaa", sum := "c3fb88d0cc31b5529c07d6068ff9594fd0fb3b0bc161ca458619dba5879c32fb", func := "palisade/palisadelaw10.IrSlots", spec := "irSlots", unfollowed := true, recurses := true, loops := true, plainKeys := false, apart := false, narrowed := true }
def IrSlotsUptoSaid : Prop := irSlotsUptoRow.holds Try.pinned (OpenSpec.upto irSlotsSpec)

end Rows
end Go.Proofs.Ytbdhbgilaeldgaa
