/-
  NARROWER THAN 'FOR EVERY INPUT', by the rows' own cells (each row's printed sentence says how): TypesFormed: loops · TypesBelow: loops · TypesBounds: loops · TypesOrder: loops · TypesLeast: loops · TypesRaise: loops.
  DERIVED. THE GIVEN ROWS OF THIS SEAT. 6 by the template 'for every input the law returns true; each argument reads behind the call as it read before'; 0 by the template 'total and deterministic' (their statements: YtlknlnhbmamcbaaTotals.lean).
  GIVEN WITH THE SEED: the statements are not yours to turn. If you find one false, say at which input.
  Laid BY PROGRAM, IN A SANDBOX (cutbox-rows.mjs): the forced cells as the released guide's own fill.sh prints them over the translation 15e31f14561235ea… (all of the seat's roots in one cut). By AI agents, Wed Nov 11 2026. No macro, syntax, notation, axiom, sorry.
-/
import Derived.Test.YtlknlnhbmamcbaaChecked
import GoSem.Claim
import GoSem.ClaimJoined
import GoSem.ClaimMapViews
import Derived.JoinedTies
import Derived.KernelRfl
namespace Go.Proofs.Ytlknlnhbmamcbaa
/- THE CELL 'sum', in the pinned program and in every row, IS THE sha256 OF THE DUMP (.gsa) THAT YtlknlnhbmamcbaaProg.lean LOADS. Nothing in Lean hashes anything: it is a label: what it is worth is what the hold of that sum in a sandbox is worth. -/
noncomputable def Try.pinned : Pinned := { name := "ytlknlnhbmamcbaa", sum := "15e31f14561235ea05b2f7252e038cb6298e7ed6ce63dce29cf4bf72399a327d", checked := Try.checked }
namespace Rows
def none {H : Type} : Left H := { results := [], args := [] }

/-- 'palisadelaw02.TypesFormed': WHATEVER THE INPUT: true; the input reads as it did. -/
def typesFormedSpec : ChangeSpec := { name := "typesFormed", fn := fun _ => fun
  | [d1, d2, d3] => { results := [.lit (.bool true)], args := [d1, d2, d3] }
  | _ => none }
def typesFormedRow : OpenClaim := { program := "ytlknlnhbmamcbaa", sum := "15e31f14561235ea05b2f7252e038cb6298e7ed6ce63dce29cf4bf72399a327d", func := "palisade/palisadelaw02.TypesFormed", spec := "typesFormed", unfollowed := true, recurses := true, loops := true, plainKeys := false, apart := false }
def TypesFormedSaid : Prop := typesFormedRow.holds Try.pinned (OpenSpec.ofChange typesFormedSpec)

/-- ITS FALSE NEIGHBOUR: 'it returns false'. Refute it at one input. -/
def typesFormedWrong : ChangeSpec := { name := "typesFormed", fn := fun _ => fun
  | [d1, d2, d3] => { results := [.lit (.bool false)], args := [d1, d2, d3] }
  | _ => none }
def TypesFormedWrongFalsely : Prop := typesFormedRow.holds Try.pinned (OpenSpec.ofChange typesFormedWrong)

/-- 'palisadelaw02.TypesBelow': WHATEVER THE INPUT: true; the input reads as it did. -/
def typesBelowSpec : ChangeSpec := { name := "typesBelow", fn := fun _ => fun
  | [d1, d2, d3] => { results := [.lit (.bool true)], args := [d1, d2, d3] }
  | _ => none }
def typesBelowRow : OpenClaim := { program := "ytlknlnhbmamcbaa", sum := "15e31f14561235ea05b2f7252e038cb6298e7ed6ce63dce29cf4bf72399a327d", func := "palisade/palisadelaw02.TypesBelow", spec := "typesBelow", unfollowed := true, recurses := true, loops := true, plainKeys := false, apart := false }
def TypesBelowSaid : Prop := typesBelowRow.holds Try.pinned (OpenSpec.ofChange typesBelowSpec)

/-- ITS FALSE NEIGHBOUR: 'it returns false'. Refute it at one input. -/
def typesBelowWrong : ChangeSpec := { name := "typesBelow", fn := fun _ => fun
  | [d1, d2, d3] => { results := [.lit (.bool false)], args := [d1, d2, d3] }
  | _ => none }
def TypesBelowWrongFalsely : Prop := typesBelowRow.holds Try.pinned (OpenSpec.ofChange typesBelowWrong)

/-- 'palisadelaw02.TypesBounds': WHATEVER THE INPUT: true; the input reads as it did. -/
def typesBoundsSpec : ChangeSpec := { name := "typesBounds", fn := fun _ => fun
  | [d1, d2, d3] => { results := [.lit (.bool true)], args := [d1, d2, d3] }
  | _ => none }
def typesBoundsRow : OpenClaim := { program := "ytlknlnhbmamcbaa", sum := "15e31f14561235ea05b2f7252e038cb6298e7ed6ce63dce29cf4bf72399a327d", func := "palisade/palisadelaw02.TypesBounds", spec := "typesBounds", unfollowed := true, recurses := true, loops := true, plainKeys := false, apart := false }
def TypesBoundsSaid : Prop := typesBoundsRow.holds Try.pinned (OpenSpec.ofChange typesBoundsSpec)

/-- ITS FALSE NEIGHBOUR: 'it returns false'. Refute it at one input. -/
def typesBoundsWrong : ChangeSpec := { name := "typesBounds", fn := fun _ => fun
  | [d1, d2, d3] => { results := [.lit (.bool false)], args := [d1, d2, d3] }
  | _ => none }
def TypesBoundsWrongFalsely : Prop := typesBoundsRow.holds Try.pinned (OpenSpec.ofChange typesBoundsWrong)

/-- 'palisadelaw02.TypesOrder': WHATEVER THE INPUT: true; the input reads as it did. -/
def typesOrderSpec : ChangeSpec := { name := "typesOrder", fn := fun _ => fun
  | [d1, d2] => { results := [.lit (.bool true)], args := [d1, d2] }
  | _ => none }
def typesOrderRow : OpenClaim := { program := "ytlknlnhbmamcbaa", sum := "15e31f14561235ea05b2f7252e038cb6298e7ed6ce63dce29cf4bf72399a327d", func := "palisade/palisadelaw02.TypesOrder", spec := "typesOrder", unfollowed := true, recurses := true, loops := true, plainKeys := false, apart := false }
def TypesOrderSaid : Prop := typesOrderRow.holds Try.pinned (OpenSpec.ofChange typesOrderSpec)

/-- ITS FALSE NEIGHBOUR: 'it returns false'. Refute it at one input. -/
def typesOrderWrong : ChangeSpec := { name := "typesOrder", fn := fun _ => fun
  | [d1, d2] => { results := [.lit (.bool false)], args := [d1, d2] }
  | _ => none }
def TypesOrderWrongFalsely : Prop := typesOrderRow.holds Try.pinned (OpenSpec.ofChange typesOrderWrong)

/-- 'palisadelaw02.TypesLeast': WHATEVER THE INPUT: true; the input reads as it did. -/
def typesLeastSpec : ChangeSpec := { name := "typesLeast", fn := fun _ => fun
  | [d1, d2] => { results := [.lit (.bool true)], args := [d1, d2] }
  | _ => none }
def typesLeastRow : OpenClaim := { program := "ytlknlnhbmamcbaa", sum := "15e31f14561235ea05b2f7252e038cb6298e7ed6ce63dce29cf4bf72399a327d", func := "palisade/palisadelaw02.TypesLeast", spec := "typesLeast", unfollowed := true, recurses := true, loops := true, plainKeys := false, apart := false }
def TypesLeastSaid : Prop := typesLeastRow.holds Try.pinned (OpenSpec.ofChange typesLeastSpec)

/-- ITS FALSE NEIGHBOUR: 'it returns false'. Refute it at one input. -/
def typesLeastWrong : ChangeSpec := { name := "typesLeast", fn := fun _ => fun
  | [d1, d2] => { results := [.lit (.bool false)], args := [d1, d2] }
  | _ => none }
def TypesLeastWrongFalsely : Prop := typesLeastRow.holds Try.pinned (OpenSpec.ofChange typesLeastWrong)

/-- 'palisadelaw02.TypesRaise': WHATEVER THE INPUT: true; the input reads as it did. -/
def typesRaiseSpec : ChangeSpec := { name := "typesRaise", fn := fun _ => fun
  | [d1, d2, d3] => { results := [.lit (.bool true)], args := [d1, d2, d3] }
  | _ => none }
def typesRaiseRow : OpenClaim := { program := "ytlknlnhbmamcbaa", sum := "15e31f14561235ea05b2f7252e038cb6298e7ed6ce63dce29cf4bf72399a327d", func := "palisade/palisadelaw02.TypesRaise", spec := "typesRaise", unfollowed := true, recurses := true, loops := true, plainKeys := false, apart := false }
def TypesRaiseSaid : Prop := typesRaiseRow.holds Try.pinned (OpenSpec.ofChange typesRaiseSpec)

/-- ITS FALSE NEIGHBOUR: 'it returns false'. Refute it at one input. -/
def typesRaiseWrong : ChangeSpec := { name := "typesRaise", fn := fun _ => fun
  | [d1, d2, d3] => { results := [.lit (.bool false)], args := [d1, d2, d3] }
  | _ => none }
def TypesRaiseWrongFalsely : Prop := typesRaiseRow.holds Try.pinned (OpenSpec.ofChange typesRaiseWrong)

/- THE SECOND FORM. 'bulk': how many values and letters a reading holds, each counted each time it is reached (what is shared counts as often as it is met; a slice's spare places count too). A statement '..UptoSaid' is the law's where the arguments, and the package variables that the reading takes, are together of bulk at most 1048576: NARROWER than '..Said'. Prove '..Said' where nothing that the law and all that it calls make is longer than what came in: it says more and counts as full. Else prove '..UptoSaid'. A law counts once. -/
mutual
def uptoBulk {H : Type} : DataW H → Nat
  | .lit (.string bytes) => bytes.length + 1
  | .lit _ => 1
  | .nil => 1
  | .ptr d => uptoBulk d + 1
  | .slice elems spare => uptoBulkAll elems + uptoBulkAll spare + 1
  | .agg parts => uptoBulkAll parts + 1
  | .iface _ d => uptoBulk d + 1
  | .map entries => uptoBulkEntries entries + 1
  | .held _ => 1
def uptoBulkAll {H : Type} : List (DataW H) → Nat
  | [] => 0
  | d :: r => uptoBulk d + uptoBulkAll r
def uptoBulkEntries {H : Type} : List (Lit × DataW H) → Nat
  | [] => 0
  | x :: r => uptoBulkEntry x + uptoBulkEntries r
def uptoBulkEntry {H : Type} : Lit × DataW H → Nat
  | (.string bytes, d) => bytes.length + uptoBulk d + 1
  | (_, d) => uptoBulk d + 1
 end
def uptoSmall : (H : Type) → List (DataW H) → Bool := fun _ ds => decide (uptoBulkAll ds ≤ 1048576)
def OpenSpec.upto (s : _root_.Go.ChangeSpec) : _root_.Go.OpenSpec := { _root_.Go.OpenSpec.ofChange s with cond := some uptoSmall }

/-- 'palisadelaw02.TypesFormed', WHERE WHAT IT READS IS OF BULK AT MOST 1048576: true; the input reads as it did. -/
def typesFormedUptoRow : OpenClaim := { program := "ytlknlnhbmamcbaa", sum := "15e31f14561235ea05b2f7252e038cb6298e7ed6ce63dce29cf4bf72399a327d", func := "palisade/palisadelaw02.TypesFormed", spec := "typesFormed", unfollowed := true, recurses := true, loops := true, plainKeys := false, apart := false, narrowed := true }
def TypesFormedUptoSaid : Prop := typesFormedUptoRow.holds Try.pinned (OpenSpec.upto typesFormedSpec)

/-- 'palisadelaw02.TypesBelow', WHERE WHAT IT READS IS OF BULK AT MOST 1048576: true; the input reads as it did. -/
def typesBelowUptoRow : OpenClaim := { program := "ytlknlnhbmamcbaa", sum := "15e31f14561235ea05b2f7252e038cb6298e7ed6ce63dce29cf4bf72399a327d", func := "palisade/palisadelaw02.TypesBelow", spec := "typesBelow", unfollowed := true, recurses := true, loops := true, plainKeys := false, apart := false, narrowed := true }
def TypesBelowUptoSaid : Prop := typesBelowUptoRow.holds Try.pinned (OpenSpec.upto typesBelowSpec)

/-- 'palisadelaw02.TypesBounds', WHERE WHAT IT READS IS OF BULK AT MOST 1048576: true; the input reads as it did. -/
def typesBoundsUptoRow : OpenClaim := { program := "ytlknlnhbmamcbaa", sum := "15e31f14561235ea05b2f7252e038cb6298e7ed6ce63dce29cf4bf72399a327d", func := "palisade/palisadelaw02.TypesBounds", spec := "typesBounds", unfollowed := true, recurses := true, loops := true, plainKeys := false, apart := false, narrowed := true }
def TypesBoundsUptoSaid : Prop := typesBoundsUptoRow.holds Try.pinned (OpenSpec.upto typesBoundsSpec)

/-- 'palisadelaw02.TypesOrder', WHERE WHAT IT READS IS OF BULK AT MOST 1048576: true; the input reads as it did. -/
def typesOrderUptoRow : OpenClaim := { program := "ytlknlnhbmamcbaa", sum := "15e31f14561235ea05b2f7252e038cb6298e7ed6ce63dce29cf4bf72399a327d", func := "palisade/palisadelaw02.TypesOrder", spec := "typesOrder", unfollowed := true, recurses := true, loops := true, plainKeys := false, apart := false, narrowed := true }
def TypesOrderUptoSaid : Prop := typesOrderUptoRow.holds Try.pinned (OpenSpec.upto typesOrderSpec)

/-- 'palisadelaw02.TypesLeast', WHERE WHAT IT READS IS OF BULK AT MOST 1048576: true; the input reads as it did. -/
def typesLeastUptoRow : OpenClaim := { program := "ytlknlnhbmamcbaa", sum := "15e31f14561235ea05b2f7252e038cb6298e7ed6ce63dce29cf4bf72399a327d", func := "palisade/palisadelaw02.TypesLeast", spec := "typesLeast", unfollowed := true, recurses := true, loops := true, plainKeys := false, apart := false, narrowed := true }
def TypesLeastUptoSaid : Prop := typesLeastUptoRow.holds Try.pinned (OpenSpec.upto typesLeastSpec)

/-- 'palisadelaw02.TypesRaise', WHERE WHAT IT READS IS OF BULK AT MOST 1048576: true; the input reads as it did. -/
def typesRaiseUptoRow : OpenClaim := { program := "ytlknlnhbmamcbaa", sum := "15e31f14561235ea05b2f7252e038cb6298e7ed6ce63dce29cf4bf72399a327d", func := "palisade/palisadelaw02.TypesRaise", spec := "typesRaise", unfollowed := true, recurses := true, loops := true, plainKeys := false, apart := false, narrowed := true }
def TypesRaiseUptoSaid : Prop := typesRaiseUptoRow.holds Try.pinned (OpenSpec.upto typesRaiseSpec)

end Rows
end Go.Proofs.Ytlknlnhbmamcbaa
