/-
  NARROWER THAN 'FOR EVERY INPUT', by the rows' own cells (each row's printed sentence says how): VerifyChecks: loops, laid · VerifyForm: loops, laid · VerifyMore: loops, laid · VerifyRegions: loops, laid · VerifyTells: laid · VerifyUp: laid.
  DERIVED. THE GIVEN ROWS OF THIS SEAT. 6 by the template 'for every input the law returns true; each argument reads behind the call as it read before'; 0 by the template 'total and deterministic' (their statements: YtfobijdkoeifjaaGreatDoorTotals.lean).
  GIVEN WITH THE SEED: the statements are not yours to turn. If you find one false, say at which input.
  Laid BY PROGRAM, IN A SANDBOX (cutbox-rows.mjs): the forced cells as the released guide's own fill.sh prints them over the translation 3063fae5ded9b41d… (all of the seat's roots in one cut). By AI agents, Wed Nov 11 2026. No macro, syntax, notation, axiom, sorry.
-/
import Derived.Test.YtfobijdkoeifjaaGreatDoorChecked
import GoSem.Claim
import GoSem.ClaimJoined
import GoSem.ClaimMapViews
import Derived.JoinedTies
import Derived.KernelRfl
namespace Go.Proofs.YtfobijdkoeifjaaGreatDoor
/- THE CELL 'sum', in the pinned program and in every row, IS THE sha256 OF THE DUMP (.gsa) THAT YtfobijdkoeifjaaGreatDoorProg.lean LOADS. Nothing in Lean hashes anything: it is a label: what it is worth is what the hold of that sum in a sandbox is worth. -/
noncomputable def Tryz.pinned : Pinned := { name := "ytfobijdkoeifjaagreatdoor", sum := "3063fae5ded9b41d146a1467276271e40792565e1efdae7e2269b599e8651f37", checked := Tryz.checked }
namespace Rows
def none {H : Type} : Left H := { results := [], args := [] }

/- WHAT THE LISTED PACKAGE-LEVEL VARIABLES READ AS WHEN THE CALL BEGINS. Each datum BY PROGRAM (the guide's laid-datum.mjs) off the statement by which the dump's own 'gosem.cut.vars' lays the variable. In a bare row this is a premise. The card (YtfobijdkoeifjaaGreatDoorCards.lean) ties it to the program's text. -/
def laid_palisade_class_operands {H : Type} : DataW H := .agg [.lit (.int .i64 0), .lit (.int .i64 1), .lit (.int .i64 2), .lit (.int .i64 3), .lit (.int .i64 3), .lit (.int .i64 0), .lit (.int .i64 0), .lit (.int .i64 0), .lit (.int .i64 0), .lit (.int .i64 0), .lit (.int .i64 0), .lit (.int .i64 0), .lit (.int .i64 0), .lit (.int .i64 0), .lit (.int .i64 0), .lit (.int .i64 0), .lit (.int .i64 0), .lit (.int .i64 3), .lit (.int .i64 0), .lit (.int .i64 0), .lit (.int .i64 4), .lit (.int .i64 0), .lit (.int .i64 0), .lit (.int .i64 3), .lit (.int .i64 3), .lit (.int .i64 3), .lit (.int .i64 0), .lit (.int .i64 0)]
def laid_palisade_shape_takes {H : Type} : DataW H := .agg [.lit (.int .i64 0), .lit (.int .i64 0), .lit (.int .i64 0), .lit (.int .i64 0), .lit (.int .i64 1), .lit (.int .i64 1), .lit (.int .i64 2), .lit (.int .i64 2), .lit (.int .i64 2), .lit (.int .i64 2), .lit (.int .i64 2), .lit (.int .i64 2), .lit (.int .i64 2), .lit (.int .i64 1), .lit (.int .i64 2), .lit (.int .i64 1), .lit (.int .i64 1), .lit (.int .i64 0), .lit (.int .i64 0), .lit (.int .i64 2), .lit (.int .i64 1), .lit (.int .i64 1), .lit (.int .i64 2), .lit (.int .i64 1), .lit (.int .i64 0), .lit (.int .i64 1), .lit (.int .i64 1), .lit (.int .i64 1)]
def laid_palisade_shape_puts {H : Type} : DataW H := .agg [.lit (.int .i64 0), .lit (.int .i64 1), .lit (.int .i64 1), .lit (.int .i64 1), .lit (.int .i64 0), .lit (.int .i64 0), .lit (.int .i64 1), .lit (.int .i64 1), .lit (.int .i64 1), .lit (.int .i64 1), .lit (.int .i64 1), .lit (.int .i64 1), .lit (.int .i64 1), .lit (.int .i64 1), .lit (.int .i64 1), .lit (.int .i64 1), .lit (.int .i64 1), .lit (.int .i64 1), .lit (.int .i64 1), .lit (.int .i64 1), .lit (.int .i64 1), .lit (.int .i64 1), .lit (.int .i64 0), .lit (.int .i64 0), .lit (.int .i64 0), .lit (.int .i64 0), .lit (.int .i64 0), .lit (.int .i64 0)]

/-- 'palisadelaw17.VerifyChecks': WHATEVER THE INPUT: true; the input reads as it did. -/
def verifyChecksSpec : ChangeSpec := { name := "verifyChecks", fn := fun _ => fun
  | [d1, d2] => { results := [.lit (.bool true)], args := [d1, d2] }
  | _ => none }
def verifyChecksRow : OpenClaim := { program := "ytfobijdkoeifjaagreatdoor", sum := "3063fae5ded9b41d146a1467276271e40792565e1efdae7e2269b599e8651f37", func := "palisade/palisadelaw17.VerifyChecks", spec := "verifyChecks", unfollowed := true, recurses := true, named := ["palisade/class.operands", "palisade/shape.takes", "palisade/shape.puts"], loops := true, plainKeys := false, apart := false, laid := [("palisade/class.operands", laid_palisade_class_operands), ("palisade/shape.takes", laid_palisade_shape_takes), ("palisade/shape.puts", laid_palisade_shape_puts)] }
def VerifyChecksSaid : Prop := verifyChecksRow.holds Tryz.pinned (OpenSpec.ofChange verifyChecksSpec)

/-- ITS FALSE NEIGHBOUR: 'it returns false'. Refute it at one input. -/
def verifyChecksWrong : ChangeSpec := { name := "verifyChecks", fn := fun _ => fun
  | [d1, d2] => { results := [.lit (.bool false)], args := [d1, d2] }
  | _ => none }
def VerifyChecksWrongFalsely : Prop := verifyChecksRow.holds Tryz.pinned (OpenSpec.ofChange verifyChecksWrong)

/-- 'palisadelaw17.VerifyForm': WHATEVER THE INPUT: true; the input reads as it did. -/
def verifyFormSpec : ChangeSpec := { name := "verifyForm", fn := fun _ => fun
  | [d] => { results := [.lit (.bool true)], args := [d] }
  | _ => none }
def verifyFormRow : OpenClaim := { program := "ytfobijdkoeifjaagreatdoor", sum := "3063fae5ded9b41d146a1467276271e40792565e1efdae7e2269b599e8651f37", func := "palisade/palisadelaw17.VerifyForm", spec := "verifyForm", unfollowed := true, recurses := true, named := ["palisade/class.operands", "palisade/shape.takes", "palisade/shape.puts"], loops := true, plainKeys := false, apart := false, laid := [("palisade/class.operands", laid_palisade_class_operands), ("palisade/shape.takes", laid_palisade_shape_takes), ("palisade/shape.puts", laid_palisade_shape_puts)] }
def VerifyFormSaid : Prop := verifyFormRow.holds Tryz.pinned (OpenSpec.ofChange verifyFormSpec)

/-- ITS FALSE NEIGHBOUR: 'it returns false'. Refute it at one input. -/
def verifyFormWrong : ChangeSpec := { name := "verifyForm", fn := fun _ => fun
  | [d] => { results := [.lit (.bool false)], args := [d] }
  | _ => none }
def VerifyFormWrongFalsely : Prop := verifyFormRow.holds Tryz.pinned (OpenSpec.ofChange verifyFormWrong)

/-- 'palisadelaw17.VerifyMore': WHATEVER THE INPUT: true; the input reads as it did. -/
def verifyMoreSpec : ChangeSpec := { name := "verifyMore", fn := fun _ => fun
  | [d1, d2] => { results := [.lit (.bool true)], args := [d1, d2] }
  | _ => none }
def verifyMoreRow : OpenClaim := { program := "ytfobijdkoeifjaagreatdoor", sum := "3063fae5ded9b41d146a1467276271e40792565e1efdae7e2269b599e8651f37", func := "palisade/palisadelaw17.VerifyMore", spec := "verifyMore", unfollowed := true, recurses := true, named := ["palisade/class.operands", "palisade/shape.takes", "palisade/shape.puts"], loops := true, plainKeys := false, apart := false, laid := [("palisade/class.operands", laid_palisade_class_operands), ("palisade/shape.takes", laid_palisade_shape_takes), ("palisade/shape.puts", laid_palisade_shape_puts)] }
def VerifyMoreSaid : Prop := verifyMoreRow.holds Tryz.pinned (OpenSpec.ofChange verifyMoreSpec)

/-- ITS FALSE NEIGHBOUR: 'it returns false'. Refute it at one input. -/
def verifyMoreWrong : ChangeSpec := { name := "verifyMore", fn := fun _ => fun
  | [d1, d2] => { results := [.lit (.bool false)], args := [d1, d2] }
  | _ => none }
def VerifyMoreWrongFalsely : Prop := verifyMoreRow.holds Tryz.pinned (OpenSpec.ofChange verifyMoreWrong)

/-- 'palisadelaw17.VerifyRegions': WHATEVER THE INPUT: true; the input reads as it did. -/
def verifyRegionsSpec : ChangeSpec := { name := "verifyRegions", fn := fun _ => fun
  | [d] => { results := [.lit (.bool true)], args := [d] }
  | _ => none }
def verifyRegionsRow : OpenClaim := { program := "ytfobijdkoeifjaagreatdoor", sum := "3063fae5ded9b41d146a1467276271e40792565e1efdae7e2269b599e8651f37", func := "palisade/palisadelaw17.VerifyRegions", spec := "verifyRegions", unfollowed := true, recurses := true, named := ["palisade/class.operands", "palisade/shape.takes", "palisade/shape.puts"], loops := true, plainKeys := false, apart := false, laid := [("palisade/class.operands", laid_palisade_class_operands), ("palisade/shape.takes", laid_palisade_shape_takes), ("palisade/shape.puts", laid_palisade_shape_puts)] }
def VerifyRegionsSaid : Prop := verifyRegionsRow.holds Tryz.pinned (OpenSpec.ofChange verifyRegionsSpec)

/-- ITS FALSE NEIGHBOUR: 'it returns false'. Refute it at one input. -/
def verifyRegionsWrong : ChangeSpec := { name := "verifyRegions", fn := fun _ => fun
  | [d] => { results := [.lit (.bool false)], args := [d] }
  | _ => none }
def VerifyRegionsWrongFalsely : Prop := verifyRegionsRow.holds Tryz.pinned (OpenSpec.ofChange verifyRegionsWrong)

/-- 'palisadelaw17.VerifyTells': WHATEVER THE INPUT: true; the input reads as it did. -/
def verifyTellsSpec : ChangeSpec := { name := "verifyTells", fn := fun _ => fun
  | [d1, d2] => { results := [.lit (.bool true)], args := [d1, d2] }
  | _ => none }
def verifyTellsRow : OpenClaim := { program := "ytfobijdkoeifjaagreatdoor", sum := "3063fae5ded9b41d146a1467276271e40792565e1efdae7e2269b599e8651f37", func := "palisade/palisadelaw17.VerifyTells", spec := "verifyTells", unfollowed := true, recurses := true, named := ["palisade/class.operands", "palisade/shape.takes", "palisade/shape.puts"], plainKeys := false, apart := false, laid := [("palisade/class.operands", laid_palisade_class_operands), ("palisade/shape.takes", laid_palisade_shape_takes), ("palisade/shape.puts", laid_palisade_shape_puts)] }
def VerifyTellsSaid : Prop := verifyTellsRow.holds Tryz.pinned (OpenSpec.ofChange verifyTellsSpec)

/-- ITS FALSE NEIGHBOUR: 'it returns false'. Refute it at one input. -/
def verifyTellsWrong : ChangeSpec := { name := "verifyTells", fn := fun _ => fun
  | [d1, d2] => { results := [.lit (.bool false)], args := [d1, d2] }
  | _ => none }
def VerifyTellsWrongFalsely : Prop := verifyTellsRow.holds Tryz.pinned (OpenSpec.ofChange verifyTellsWrong)

/-- 'palisadelaw17.VerifyUp': WHATEVER THE INPUT: true; the input reads as it did. -/
def verifyUpSpec : ChangeSpec := { name := "verifyUp", fn := fun _ => fun
  | [d1, d2, d3] => { results := [.lit (.bool true)], args := [d1, d2, d3] }
  | _ => none }
def verifyUpRow : OpenClaim := { program := "ytfobijdkoeifjaagreatdoor", sum := "3063fae5ded9b41d146a1467276271e40792565e1efdae7e2269b599e8651f37", func := "palisade/palisadelaw17.VerifyUp", spec := "verifyUp", unfollowed := true, recurses := true, named := ["palisade/class.operands", "palisade/shape.takes", "palisade/shape.puts"], plainKeys := false, apart := false, laid := [("palisade/class.operands", laid_palisade_class_operands), ("palisade/shape.takes", laid_palisade_shape_takes), ("palisade/shape.puts", laid_palisade_shape_puts)] }
def VerifyUpSaid : Prop := verifyUpRow.holds Tryz.pinned (OpenSpec.ofChange verifyUpSpec)

/-- ITS FALSE NEIGHBOUR: 'it returns false'. Refute it at one input. -/
def verifyUpWrong : ChangeSpec := { name := "verifyUp", fn := fun _ => fun
  | [d1, d2, d3] => { results := [.lit (.bool false)], args := [d1, d2, d3] }
  | _ => none }
def VerifyUpWrongFalsely : Prop := verifyUpRow.holds Tryz.pinned (OpenSpec.ofChange verifyUpWrong)

/- THE SECOND FORM. 'bulk': how many values and letters a reading holds, each counted each time it is reached (what is shared counts as often as it is met; a slice's spare places count too). A statement '..UptoSaid' is the law's where the arguments, and the package variables that the reading takes, are together of bulk at most 1048576: NARROWER than '..Said'. Prove '..Said' where nothing that the law and all that it calls make is longer than what came in: it says more and counts as full. Else prove '..UptoSaid'. A law counts once. -/
mutual
def uptoBulk {H : Type} : DataW H → Nat
  | .lit (.string bytes) => bytes.length + 1
  | .lit _ => 1
  | .nil => 1
  | .ptr d => uptoBulk d + 1
  | .slice elems spare => uptoBulkAll elems + uptoBulkAll spare + 1
  | .agg parts => uptoBulkAll parts + 1
  | .iface _ d => uptoBulk d + 1
  | .map entries => uptoBulkEntries entries + 1
  | .held _ => 1
def uptoBulkAll {H : Type} : List (DataW H) → Nat
  | [] => 0
  | d :: r => uptoBulk d + uptoBulkAll r
def uptoBulkEntries {H : Type} : List (Lit × DataW H) → Nat
  | [] => 0
  | x :: r => uptoBulkEntry x + uptoBulkEntries r
def uptoBulkEntry {H : Type} : Lit × DataW H → Nat
  | (.string bytes, d) => bytes.length + uptoBulk d + 1
  | (_, d) => uptoBulk d + 1
 end
def uptoSmall : (H : Type) → List (DataW H) → Bool := fun _ ds => decide (uptoBulkAll ds ≤ 1048576)
def OpenSpec.upto (s : _root_.Go.ChangeSpec) : _root_.Go.OpenSpec := { _root_.Go.OpenSpec.ofChange s with cond := some uptoSmall }

/-- 'palisadelaw17.VerifyChecks', WHERE WHAT IT READS IS OF BULK AT MOST 1048576: true; the input reads as it did. -/
def verifyChecksUptoRow : OpenClaim := { program := "ytfobijdkoeifjaagreatdoor", sum := "3063fae5ded9b41d146a1467276271e40792565e1efdae7e2269b599e8651f37", func := "palisade/palisadelaw17.VerifyChecks", spec := "verifyChecks", unfollowed := true, recurses := true, named := ["palisade/class.operands", "palisade/shape.takes", "palisade/shape.puts"], loops := true, plainKeys := false, apart := false, laid := [("palisade/class.operands", laid_palisade_class_operands), ("palisade/shape.takes", laid_palisade_shape_takes), ("palisade/shape.puts", laid_palisade_shape_puts)], narrowed := true }
def VerifyChecksUptoSaid : Prop := verifyChecksUptoRow.holds Tryz.pinned (OpenSpec.upto verifyChecksSpec)

/-- 'palisadelaw17.VerifyForm', WHERE WHAT IT READS IS OF BULK AT MOST 1048576: true; the input reads as it did. -/
def verifyFormUptoRow : OpenClaim := { program := "ytfobijdkoeifjaagreatdoor", sum := "3063fae5ded9b41d146a1467276271e40792565e1efdae7e2269b599e8651f37", func := "palisade/palisadelaw17.VerifyForm", spec := "verifyForm", unfollowed := true, recurses := true, named := ["palisade/class.operands", "palisade/shape.takes", "palisade/shape.puts"], loops := true, plainKeys := false, apart := false, laid := [("palisade/class.operands", laid_palisade_class_operands), ("palisade/shape.takes", laid_palisade_shape_takes), ("palisade/shape.puts", laid_palisade_shape_puts)], narrowed := true }
def VerifyFormUptoSaid : Prop := verifyFormUptoRow.holds Tryz.pinned (OpenSpec.upto verifyFormSpec)

/-- 'palisadelaw17.VerifyMore', WHERE WHAT IT READS IS OF BULK AT MOST 1048576: true; the input reads as it did. -/
def verifyMoreUptoRow : OpenClaim := { program := "ytfobijdkoeifjaagreatdoor", sum := "3063fae5ded9b41d146a1467276271e40792565e1efdae7e2269b599e8651f37", func := "palisade/palisadelaw17.VerifyMore", spec := "verifyMore", unfollowed := true, recurses := true, named := ["palisade/class.operands", "palisade/shape.takes", "palisade/shape.puts"], loops := true, plainKeys := false, apart := false, laid := [("palisade/class.operands", laid_palisade_class_operands), ("palisade/shape.takes", laid_palisade_shape_takes), ("palisade/shape.puts", laid_palisade_shape_puts)], narrowed := true }
def VerifyMoreUptoSaid : Prop := verifyMoreUptoRow.holds Tryz.pinned (OpenSpec.upto verifyMoreSpec)

/-- 'palisadelaw17.VerifyRegions', WHERE WHAT IT READS IS OF BULK AT MOST 1048576: true; the input reads as it did. -/
def verifyRegionsUptoRow : OpenClaim := { program := "ytfobijdkoeifjaagreatdoor", sum := "3063fae5ded9b41d146a1467276271e40792565e1efdae7e2269b599e8651f37", func := "palisade/palisadelaw17.VerifyRegions", spec := "verifyRegions", unfollowed := true, recurses := true, named := ["palisade/class.operands", "palisade/shape.takes", "palisade/shape.puts"], loops := true, plainKeys := false, apart := false, laid := [("palisade/class.operands", laid_palisade_class_operands), ("palisade/shape.takes", laid_palisade_shape_takes), ("palisade/shape.puts", laid_palisade_shape_puts)], narrowed := true }
def VerifyRegionsUptoSaid : Prop := verifyRegionsUptoRow.holds Tryz.pinned (OpenSpec.upto verifyRegionsSpec)

/-- 'palisadelaw17.VerifyTells', WHERE WHAT IT READS IS OF BULK AT MOST 1048576: true; the input reads as it did. -/
def verifyTellsUptoRow : OpenClaim := { program := "ytfobijdkoeifjaagreatdoor", sum := "3063fae5ded9b41d146a1467276271e40792565e1efdae7e2269b599e8651f37", func := "palisade/palisadelaw17.VerifyTells", spec := "verifyTells", unfollowed := true, recurses := true, named := ["palisade/class.operands", "palisade/shape.takes", "palisade/shape.puts"], plainKeys := false, apart := false, laid := [("palisade/class.operands", laid_palisade_class_operands), ("palisade/shape.takes", laid_palisade_shape_takes), ("palisade/shape.puts", laid_palisade_shape_puts)], narrowed := true }
def VerifyTellsUptoSaid : Prop := verifyTellsUptoRow.holds Tryz.pinned (OpenSpec.upto verifyTellsSpec)

/-- 'palisadelaw17.VerifyUp', WHERE WHAT IT READS IS OF BULK AT MOST 1048576: true; the input reads as it did. -/
def verifyUpUptoRow : OpenClaim := { program := "ytfobijdkoeifjaagreatdoor", sum := "3063fae5ded9b41d146a1467276271e40792565e1efdae7e2269b599e8651f37", func := "palisade/palisadelaw17.VerifyUp", spec := "verifyUp", unfollowed := true, recurses := true, named := ["palisade/class.operands", "palisade/shape.takes", "palisade/shape.puts"], plainKeys := false, apart := false, laid := [("palisade/class.operands", laid_palisade_class_operands), ("palisade/shape.takes", laid_palisade_shape_takes), ("palisade/shape.puts", laid_palisade_shape_puts)], narrowed := true }
def VerifyUpUptoSaid : Prop := verifyUpUptoRow.holds Tryz.pinned (OpenSpec.upto verifyUpSpec)

end Rows
end Go.Proofs.YtfobijdkoeifjaaGreatDoor
