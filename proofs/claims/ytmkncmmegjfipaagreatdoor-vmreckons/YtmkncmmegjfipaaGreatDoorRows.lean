/-
  NARROWER THAN 'FOR EVERY INPUT', by the rows' own cells (each row's printed sentence says how): VmRuns: loops, laid · VmMore: loops, laid · VmRoom: loops, laid · VmEnds: loops, laid · VmReckons: laid.
  DERIVED. THE GIVEN ROWS OF THIS SEAT. 5 by the template 'for every input the law returns true; each argument reads behind the call as it read before'; 0 by the template 'total and deterministic' (their statements: YtmkncmmegjfipaaGreatDoorTotals.lean).
  GIVEN WITH THE SEED: the statements are not yours to turn. If you find one false, say at which input.
  Laid BY PROGRAM, IN A SANDBOX (cutbox-rows.mjs): the forced cells as the released guide's own fill.sh prints them over the translation fab864b2b16f1008… (all of the seat's roots in one cut). By AI agents, Wed Nov 11 2026. No macro, syntax, notation, axiom, sorry.
-/
import Derived.Test.YtmkncmmegjfipaaGreatDoorChecked
import GoSem.Claim
import GoSem.ClaimJoined
import GoSem.ClaimMapViews
import Derived.JoinedTies
import Derived.KernelRfl
namespace Go.Proofs.YtmkncmmegjfipaaGreatDoor
/- THE CELL 'sum', in the pinned program and in every row, IS THE sha256 OF THE DUMP (.gsa) THAT YtmkncmmegjfipaaGreatDoorProg.lean LOADS. Nothing in Lean hashes anything: it is a label: what it is worth is what the hold of that sum in a sandbox is worth. -/
noncomputable def Tryz.pinned : Pinned := { name := "ytmkncmmegjfipaagreatdoor", sum := "fab864b2b16f1008da517361d1a34d3683691bf95cba8269575eae7c9a54347e", checked := Tryz.checked }
namespace Rows
def none {H : Type} : Left H := { results := [], args := [] }

/- WHAT THE LISTED PACKAGE-LEVEL VARIABLES READ AS WHEN THE CALL BEGINS. Each datum BY PROGRAM (the guide's laid-datum.mjs) off the statement by which the dump's own 'gosem.cut.vars' lays the variable. In a bare row this is a premise. The card (YtmkncmmegjfipaaGreatDoorCards.lean) ties it to the program's text. -/
def laid_palisade_class_operands {H : Type} : DataW H := .agg [.lit (.int .i64 0), .lit (.int .i64 1), .lit (.int .i64 2), .lit (.int .i64 3), .lit (.int .i64 3), .lit (.int .i64 0), .lit (.int .i64 0), .lit (.int .i64 0), .lit (.int .i64 0), .lit (.int .i64 0), .lit (.int .i64 0), .lit (.int .i64 0), .lit (.int .i64 0), .lit (.int .i64 0), .lit (.int .i64 0), .lit (.int .i64 0), .lit (.int .i64 0), .lit (.int .i64 3), .lit (.int .i64 0), .lit (.int .i64 0), .lit (.int .i64 4), .lit (.int .i64 0), .lit (.int .i64 0), .lit (.int .i64 3), .lit (.int .i64 3), .lit (.int .i64 3), .lit (.int .i64 0), .lit (.int .i64 0)]
def laid_palisade_vm_needed {H : Type} : DataW H := .agg [.agg [.lit (.int .i64 0), .lit (.int .i64 0)], .agg [.lit (.int .i64 0), .lit (.int .i64 0)], .agg [.lit (.int .i64 0), .lit (.int .i64 0)], .agg [.lit (.int .i64 0), .lit (.int .i64 0)], .agg [.lit (.int .i64 (-1)), .lit (.int .i64 0)], .agg [.lit (.int .i64 (-1)), .lit (.int .i64 0)], .agg [.lit (.int .i64 1), .lit (.int .i64 1)], .agg [.lit (.int .i64 1), .lit (.int .i64 1)], .agg [.lit (.int .i64 1), .lit (.int .i64 1)], .agg [.lit (.int .i64 1), .lit (.int .i64 1)], .agg [.lit (.int .i64 1), .lit (.int .i64 1)], .agg [.lit (.int .i64 1), .lit (.int .i64 1)], .agg [.lit (.int .i64 1), .lit (.int .i64 1)], .agg [.lit (.int .i64 2), .lit (.int .i64 0)], .agg [.lit (.int .i64 (-1)), .lit (.int .i64 (-1))], .agg [.lit (.int .i64 3), .lit (.int .i64 0)], .agg [.lit (.int .i64 3), .lit (.int .i64 0)], .agg [.lit (.int .i64 0), .lit (.int .i64 0)], .agg [.lit (.int .i64 0), .lit (.int .i64 0)], .agg [.lit (.int .i64 4), .lit (.int .i64 (-1))], .agg [.lit (.int .i64 (-1)), .lit (.int .i64 0)], .agg [.lit (.int .i64 5), .lit (.int .i64 0)], .agg [.lit (.int .i64 5), .lit (.int .i64 (-1))], .agg [.lit (.int .i64 1), .lit (.int .i64 0)], .agg [.lit (.int .i64 0), .lit (.int .i64 0)], .agg [.lit (.int .i64 2), .lit (.int .i64 0)], .agg [.lit (.int .i64 1), .lit (.int .i64 0)], .agg [.lit (.int .i64 (-1)), .lit (.int .i64 0)]]

/-- 'palisadelaw18.VmRuns': WHATEVER THE INPUT: true; the input reads as it did. -/
def vmRunsSpec : ChangeSpec := { name := "vmRuns", fn := fun _ => fun
  | [d1, d2] => { results := [.lit (.bool true)], args := [d1, d2] }
  | _ => none }
def vmRunsRow : OpenClaim := { program := "ytmkncmmegjfipaagreatdoor", sum := "fab864b2b16f1008da517361d1a34d3683691bf95cba8269575eae7c9a54347e", func := "palisade/palisadelaw18.VmRuns", spec := "vmRuns", unfollowed := true, recurses := true, named := ["palisade/class.operands", "palisade/vm.needed"], loops := true, plainKeys := false, apart := false, laid := [("palisade/class.operands", laid_palisade_class_operands), ("palisade/vm.needed", laid_palisade_vm_needed)] }
def VmRunsSaid : Prop := vmRunsRow.holds Tryz.pinned (OpenSpec.ofChange vmRunsSpec)

/-- ITS FALSE NEIGHBOUR: 'it returns false'. Refute it at one input. -/
def vmRunsWrong : ChangeSpec := { name := "vmRuns", fn := fun _ => fun
  | [d1, d2] => { results := [.lit (.bool false)], args := [d1, d2] }
  | _ => none }
def VmRunsWrongFalsely : Prop := vmRunsRow.holds Tryz.pinned (OpenSpec.ofChange vmRunsWrong)

/-- 'palisadelaw18.VmMore': WHATEVER THE INPUT: true; the input reads as it did. -/
def vmMoreSpec : ChangeSpec := { name := "vmMore", fn := fun _ => fun
  | [d1, d2, d3] => { results := [.lit (.bool true)], args := [d1, d2, d3] }
  | _ => none }
def vmMoreRow : OpenClaim := { program := "ytmkncmmegjfipaagreatdoor", sum := "fab864b2b16f1008da517361d1a34d3683691bf95cba8269575eae7c9a54347e", func := "palisade/palisadelaw18.VmMore", spec := "vmMore", unfollowed := true, recurses := true, named := ["palisade/class.operands", "palisade/vm.needed"], loops := true, plainKeys := false, apart := false, laid := [("palisade/class.operands", laid_palisade_class_operands), ("palisade/vm.needed", laid_palisade_vm_needed)] }
def VmMoreSaid : Prop := vmMoreRow.holds Tryz.pinned (OpenSpec.ofChange vmMoreSpec)

/-- ITS FALSE NEIGHBOUR: 'it returns false'. Refute it at one input. -/
def vmMoreWrong : ChangeSpec := { name := "vmMore", fn := fun _ => fun
  | [d1, d2, d3] => { results := [.lit (.bool false)], args := [d1, d2, d3] }
  | _ => none }
def VmMoreWrongFalsely : Prop := vmMoreRow.holds Tryz.pinned (OpenSpec.ofChange vmMoreWrong)

/-- 'palisadelaw18.VmRoom': WHATEVER THE INPUT: true; the input reads as it did. -/
def vmRoomSpec : ChangeSpec := { name := "vmRoom", fn := fun _ => fun
  | [d1, d2, d3] => { results := [.lit (.bool true)], args := [d1, d2, d3] }
  | _ => none }
def vmRoomRow : OpenClaim := { program := "ytmkncmmegjfipaagreatdoor", sum := "fab864b2b16f1008da517361d1a34d3683691bf95cba8269575eae7c9a54347e", func := "palisade/palisadelaw18.VmRoom", spec := "vmRoom", unfollowed := true, recurses := true, named := ["palisade/class.operands", "palisade/vm.needed"], loops := true, plainKeys := false, apart := false, laid := [("palisade/class.operands", laid_palisade_class_operands), ("palisade/vm.needed", laid_palisade_vm_needed)] }
def VmRoomSaid : Prop := vmRoomRow.holds Tryz.pinned (OpenSpec.ofChange vmRoomSpec)

/-- ITS FALSE NEIGHBOUR: 'it returns false'. Refute it at one input. -/
def vmRoomWrong : ChangeSpec := { name := "vmRoom", fn := fun _ => fun
  | [d1, d2, d3] => { results := [.lit (.bool false)], args := [d1, d2, d3] }
  | _ => none }
def VmRoomWrongFalsely : Prop := vmRoomRow.holds Tryz.pinned (OpenSpec.ofChange vmRoomWrong)

/-- 'palisadelaw18.VmEnds': WHATEVER THE INPUT: true; the input reads as it did. -/
def vmEndsSpec : ChangeSpec := { name := "vmEnds", fn := fun _ => fun
  | [d1, d2] => { results := [.lit (.bool true)], args := [d1, d2] }
  | _ => none }
def vmEndsRow : OpenClaim := { program := "ytmkncmmegjfipaagreatdoor", sum := "fab864b2b16f1008da517361d1a34d3683691bf95cba8269575eae7c9a54347e", func := "palisade/palisadelaw18.VmEnds", spec := "vmEnds", unfollowed := true, recurses := true, named := ["palisade/class.operands", "palisade/vm.needed"], loops := true, plainKeys := false, apart := false, laid := [("palisade/class.operands", laid_palisade_class_operands), ("palisade/vm.needed", laid_palisade_vm_needed)] }
def VmEndsSaid : Prop := vmEndsRow.holds Tryz.pinned (OpenSpec.ofChange vmEndsSpec)

/-- ITS FALSE NEIGHBOUR: 'it returns false'. Refute it at one input. -/
def vmEndsWrong : ChangeSpec := { name := "vmEnds", fn := fun _ => fun
  | [d1, d2] => { results := [.lit (.bool false)], args := [d1, d2] }
  | _ => none }
def VmEndsWrongFalsely : Prop := vmEndsRow.holds Tryz.pinned (OpenSpec.ofChange vmEndsWrong)

/-- 'palisadelaw18.VmReckons': WHATEVER THE INPUT: true; the input reads as it did. -/
def vmReckonsSpec : ChangeSpec := { name := "vmReckons", fn := fun _ => fun
  | [d1, d2, d3] => { results := [.lit (.bool true)], args := [d1, d2, d3] }
  | _ => none }
def vmReckonsRow : OpenClaim := { program := "ytmkncmmegjfipaagreatdoor", sum := "fab864b2b16f1008da517361d1a34d3683691bf95cba8269575eae7c9a54347e", func := "palisade/palisadelaw18.VmReckons", spec := "vmReckons", unfollowed := true, recurses := true, named := ["palisade/class.operands", "palisade/vm.needed"], plainKeys := false, apart := false, laid := [("palisade/class.operands", laid_palisade_class_operands), ("palisade/vm.needed", laid_palisade_vm_needed)] }
def VmReckonsSaid : Prop := vmReckonsRow.holds Tryz.pinned (OpenSpec.ofChange vmReckonsSpec)

/-- ITS FALSE NEIGHBOUR: 'it returns false'. Refute it at one input. -/
def vmReckonsWrong : ChangeSpec := { name := "vmReckons", fn := fun _ => fun
  | [d1, d2, d3] => { results := [.lit (.bool false)], args := [d1, d2, d3] }
  | _ => none }
def VmReckonsWrongFalsely : Prop := vmReckonsRow.holds Tryz.pinned (OpenSpec.ofChange vmReckonsWrong)

/- THE SECOND FORM. 'bulk': how many values and letters a reading holds, each counted each time it is reached (what is shared counts as often as it is met; a slice's spare places count too). A statement '..UptoSaid' is the law's where the arguments, and the package variables that the reading takes, are together of bulk at most 1048576: NARROWER than '..Said'. Prove '..Said' where nothing that the law and all that it calls make is longer than what came in: it says more and counts as full. Else prove '..UptoSaid'. A law counts once. -/
mutual
def uptoBulk {H : Type} : DataW H → Nat
  | .lit (.string bytes) => bytes.length + 1
  | .lit _ => 1
  | .nil => 1
  | .ptr d => uptoBulk d + 1
  | .slice elems spare => uptoBulkAll elems + uptoBulkAll spare + 1
  | .agg parts => uptoBulkAll parts + 1
  | .iface _ d => uptoBulk d + 1
  | .map entries => uptoBulkEntries entries + 1
  | .held _ => 1
def uptoBulkAll {H : Type} : List (DataW H) → Nat
  | [] => 0
  | d :: r => uptoBulk d + uptoBulkAll r
def uptoBulkEntries {H : Type} : List (Lit × DataW H) → Nat
  | [] => 0
  | x :: r => uptoBulkEntry x + uptoBulkEntries r
def uptoBulkEntry {H : Type} : Lit × DataW H → Nat
  | (.string bytes, d) => bytes.length + uptoBulk d + 1
  | (_, d) => uptoBulk d + 1
 end
def uptoSmall : (H : Type) → List (DataW H) → Bool := fun _ ds => decide (uptoBulkAll ds ≤ 1048576)
def OpenSpec.upto (s : _root_.Go.ChangeSpec) : _root_.Go.OpenSpec := { _root_.Go.OpenSpec.ofChange s with cond := some uptoSmall }

/-- 'palisadelaw18.VmRuns', WHERE WHAT IT READS IS OF BULK AT MOST 1048576: true; the input reads as it did. -/
def vmRunsUptoRow : OpenClaim := { program := "ytmkncmmegjfipaagreatdoor", sum := "fab864b2b16f1008da517361d1a34d3683691bf95cba8269575eae7c9a54347e", func := "palisade/palisadelaw18.VmRuns", spec := "vmRuns", unfollowed := true, recurses := true, named := ["palisade/class.operands", "palisade/vm.needed"], loops := true, plainKeys := false, apart := false, laid := [("palisade/class.operands", laid_palisade_class_operands), ("palisade/vm.needed", laid_palisade_vm_needed)], narrowed := true }
def VmRunsUptoSaid : Prop := vmRunsUptoRow.holds Tryz.pinned (OpenSpec.upto vmRunsSpec)

/-- 'palisadelaw18.VmMore', WHERE WHAT IT READS IS OF BULK AT MOST 1048576: true; the input reads as it did. -/
def vmMoreUptoRow : OpenClaim := { program := "ytmkncmmegjfipaagreatdoor", sum := "fab864b2b16f1008da517361d1a34d3683691bf95cba8269575eae7c9a54347e", func := "palisade/palisadelaw18.VmMore", spec := "vmMore", unfollowed := true, recurses := true, named := ["palisade/class.operands", "palisade/vm.needed"], loops := true, plainKeys := false, apart := false, laid := [("palisade/class.operands", laid_palisade_class_operands), ("palisade/vm.needed", laid_palisade_vm_needed)], narrowed := true }
def VmMoreUptoSaid : Prop := vmMoreUptoRow.holds Tryz.pinned (OpenSpec.upto vmMoreSpec)

/-- 'palisadelaw18.VmRoom', WHERE WHAT IT READS IS OF BULK AT MOST 1048576: true; the input reads as it did. -/
def vmRoomUptoRow : OpenClaim := { program := "ytmkncmmegjfipaagreatdoor", sum := "fab864b2b16f1008da517361d1a34d3683691bf95cba8269575eae7c9a54347e", func := "palisade/palisadelaw18.VmRoom", spec := "vmRoom", unfollowed := true, recurses := true, named := ["palisade/class.operands", "palisade/vm.needed"], loops := true, plainKeys := false, apart := false, laid := [("palisade/class.operands", laid_palisade_class_operands), ("palisade/vm.needed", laid_palisade_vm_needed)], narrowed := true }
def VmRoomUptoSaid : Prop := vmRoomUptoRow.holds Tryz.pinned (OpenSpec.upto vmRoomSpec)

/-- 'palisadelaw18.VmEnds', WHERE WHAT IT READS IS OF BULK AT MOST 1048576: true; the input reads as it did. -/
def vmEndsUptoRow : OpenClaim := { program := "ytmkncmmegjfipaagreatdoor", sum := "fab864b2b16f1008da517361d1a34d3683691bf95cba8269575eae7c9a54347e", func := "palisade/palisadelaw18.VmEnds", spec := "vmEnds", unfollowed := true, recurses := true, named := ["palisade/class.operands", "palisade/vm.needed"], loops := true, plainKeys := false, apart := false, laid := [("palisade/class.operands", laid_palisade_class_operands), ("palisade/vm.needed", laid_palisade_vm_needed)], narrowed := true }
def VmEndsUptoSaid : Prop := vmEndsUptoRow.holds Tryz.pinned (OpenSpec.upto vmEndsSpec)

/-- 'palisadelaw18.VmReckons', WHERE WHAT IT READS IS OF BULK AT MOST 1048576: true; the input reads as it did. -/
def vmReckonsUptoRow : OpenClaim := { program := "ytmkncmmegjfipaagreatdoor", sum := "fab864b2b16f1008da517361d1a34d3683691bf95cba8269575eae7c9a54347e", func := "palisade/palisadelaw18.VmReckons", spec := "vmReckons", unfollowed := true, recurses := true, named := ["palisade/class.operands", "palisade/vm.needed"], plainKeys := false, apart := false, laid := [("palisade/class.operands", laid_palisade_class_operands), ("palisade/vm.needed", laid_palisade_vm_needed)], narrowed := true }
def VmReckonsUptoSaid : Prop := vmReckonsUptoRow.holds Tryz.pinned (OpenSpec.upto vmReckonsSpec)

end Rows
end Go.Proofs.YtmkncmmegjfipaaGreatDoor
