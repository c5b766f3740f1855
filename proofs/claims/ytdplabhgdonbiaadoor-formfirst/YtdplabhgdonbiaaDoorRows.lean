/-
  NARROWER THAN 'FOR EVERY INPUT', by the rows' own cells (each row's printed sentence says how): FormChecks: loops, laid · FormPops: loops, laid · FormAhead: loops, laid · FormFirst: loops, laid · FormJumps: laid · FormRegions: loops, laid.
  DERIVED. THE GIVEN ROWS OF THIS SEAT. 6 by the template 'for every input the law returns true; each argument reads behind the call as it read before'; 0 by the template 'total and deterministic' (their statements: YtdplabhgdonbiaaDoorTotals.lean).
  GIVEN WITH THE SEED: the statements are not yours to turn. If you find one false, say at which input.
  Laid BY PROGRAM, IN A SANDBOX (cutbox-rows.mjs): the forced cells as the released guide's own fill.sh prints them over the translation dcf9b85ef9b06224… (all of the seat's roots in one cut). By AI agents, Wed Nov 11 2026. No macro, syntax, notation, axiom, sorry.
-/
import Derived.Test.YtdplabhgdonbiaaDoorChecked
import GoSem.Claim
import GoSem.ClaimJoined
import GoSem.ClaimMapViews
import Derived.JoinedTies
import Derived.KernelRfl
namespace Go.Proofs.YtdplabhgdonbiaaDoor
/- THE CELL 'sum', in the pinned program and in every row, IS THE sha256 OF THE DUMP (.gsa) THAT YtdplabhgdonbiaaDoorProg.lean LOADS. Nothing in Lean hashes anything: it is a label: what it is worth is what the hold of that sum in a sandbox is worth. -/
noncomputable def Tryd.pinned : Pinned := { name := "ytdplabhgdonbiaadoor", sum := "dcf9b85ef9b06224831032fdce5b9af88064a1ce1720076df20c811885b0cf5f", checked := Tryd.checked }
namespace Rows
def none {H : Type} : Left H := { results := [], args := [] }

/- WHAT THE LISTED PACKAGE-LEVEL VARIABLES READ AS WHEN THE CALL BEGINS. Each datum BY PROGRAM (the guide's laid-datum.mjs) off the statement by which the dump's own 'gosem.cut.vars' lays the variable. In a bare row this is a premise. The card (YtdplabhgdonbiaaDoorCards.lean) ties it to the program's text. -/
def laid_palisade_class_operands {H : Type} : DataW H := .agg [.lit (.int .i64 0), .lit (.int .i64 1), .lit (.int .i64 2), .lit (.int .i64 3), .lit (.int .i64 3), .lit (.int .i64 0), .lit (.int .i64 0), .lit (.int .i64 0), .lit (.int .i64 0), .lit (.int .i64 0), .lit (.int .i64 0), .lit (.int .i64 0), .lit (.int .i64 0), .lit (.int .i64 0), .lit (.int .i64 0), .lit (.int .i64 0), .lit (.int .i64 0), .lit (.int .i64 3), .lit (.int .i64 0), .lit (.int .i64 0), .lit (.int .i64 4), .lit (.int .i64 0), .lit (.int .i64 0), .lit (.int .i64 3), .lit (.int .i64 3), .lit (.int .i64 3), .lit (.int .i64 0), .lit (.int .i64 0)]
def laid_palisade_shape_takes {H : Type} : DataW H := .agg [.lit (.int .i64 0), .lit (.int .i64 0), .lit (.int .i64 0), .lit (.int .i64 0), .lit (.int .i64 1), .lit (.int .i64 1), .lit (.int .i64 2), .lit (.int .i64 2), .lit (.int .i64 2), .lit (.int .i64 2), .lit (.int .i64 2), .lit (.int .i64 2), .lit (.int .i64 2), .lit (.int .i64 1), .lit (.int .i64 2), .lit (.int .i64 1), .lit (.int .i64 1), .lit (.int .i64 0), .lit (.int .i64 0), .lit (.int .i64 2), .lit (.int .i64 1), .lit (.int .i64 1), .lit (.int .i64 2), .lit (.int .i64 1), .lit (.int .i64 0), .lit (.int .i64 1), .lit (.int .i64 1), .lit (.int .i64 1)]
def laid_palisade_shape_puts {H : Type} : DataW H := .agg [.lit (.int .i64 0), .lit (.int .i64 1), .lit (.int .i64 1), .lit (.int .i64 1), .lit (.int .i64 0), .lit (.int .i64 0), .lit (.int .i64 1), .lit (.int .i64 1), .lit (.int .i64 1), .lit (.int .i64 1), .lit (.int .i64 1), .lit (.int .i64 1), .lit (.int .i64 1), .lit (.int .i64 1), .lit (.int .i64 1), .lit (.int .i64 1), .lit (.int .i64 1), .lit (.int .i64 1), .lit (.int .i64 1), .lit (.int .i64 1), .lit (.int .i64 1), .lit (.int .i64 1), .lit (.int .i64 0), .lit (.int .i64 0), .lit (.int .i64 0), .lit (.int .i64 0), .lit (.int .i64 0), .lit (.int .i64 0)]

/-- 'palisadelaw14.FormChecks': WHATEVER THE INPUT: true; the input reads as it did. -/
def formChecksSpec : ChangeSpec := { name := "formChecks", fn := fun _ => fun
  | [d] => { results := [.lit (.bool true)], args := [d] }
  | _ => none }
def formChecksRow : OpenClaim := { program := "ytdplabhgdonbiaadoor", sum := "dcf9b85ef9b06224831032fdce5b9af88064a1ce1720076df20c811885b0cf5f", func := "palisade/palisadelaw14.FormChecks", spec := "formChecks", unfollowed := true, recurses := true, named := ["palisade/class.operands"], loops := true, plainKeys := false, apart := false, laid := [("palisade/class.operands", laid_palisade_class_operands)] }
def FormChecksSaid : Prop := formChecksRow.holds Tryd.pinned (OpenSpec.ofChange formChecksSpec)

/-- ITS FALSE NEIGHBOUR: 'it returns false'. Refute it at one input. -/
def formChecksWrong : ChangeSpec := { name := "formChecks", fn := fun _ => fun
  | [d] => { results := [.lit (.bool false)], args := [d] }
  | _ => none }
def FormChecksWrongFalsely : Prop := formChecksRow.holds Tryd.pinned (OpenSpec.ofChange formChecksWrong)

/-- 'palisadelaw14.FormPops': WHATEVER THE INPUT: true; the input reads as it did. -/
def formPopsSpec : ChangeSpec := { name := "formPops", fn := fun _ => fun
  | [d1, d2, d3] => { results := [.lit (.bool true)], args := [d1, d2, d3] }
  | _ => none }
def formPopsRow : OpenClaim := { program := "ytdplabhgdonbiaadoor", sum := "dcf9b85ef9b06224831032fdce5b9af88064a1ce1720076df20c811885b0cf5f", func := "palisade/palisadelaw14.FormPops", spec := "formPops", unfollowed := true, recurses := true, named := ["palisade/class.operands", "palisade/shape.takes", "palisade/shape.puts"], loops := true, plainKeys := false, apart := false, laid := [("palisade/class.operands", laid_palisade_class_operands), ("palisade/shape.takes", laid_palisade_shape_takes), ("palisade/shape.puts", laid_palisade_shape_puts)] }
def FormPopsSaid : Prop := formPopsRow.holds Tryd.pinned (OpenSpec.ofChange formPopsSpec)

/-- ITS FALSE NEIGHBOUR: 'it returns false'. Refute it at one input. -/
def formPopsWrong : ChangeSpec := { name := "formPops", fn := fun _ => fun
  | [d1, d2, d3] => { results := [.lit (.bool false)], args := [d1, d2, d3] }
  | _ => none }
def FormPopsWrongFalsely : Prop := formPopsRow.holds Tryd.pinned (OpenSpec.ofChange formPopsWrong)

/-- 'palisadelaw14.FormAhead': WHATEVER THE INPUT: true; the input reads as it did. -/
def formAheadSpec : ChangeSpec := { name := "formAhead", fn := fun _ => fun
  | [d] => { results := [.lit (.bool true)], args := [d] }
  | _ => none }
def formAheadRow : OpenClaim := { program := "ytdplabhgdonbiaadoor", sum := "dcf9b85ef9b06224831032fdce5b9af88064a1ce1720076df20c811885b0cf5f", func := "palisade/palisadelaw14.FormAhead", spec := "formAhead", unfollowed := true, recurses := true, named := ["palisade/class.operands"], loops := true, plainKeys := false, apart := false, laid := [("palisade/class.operands", laid_palisade_class_operands)] }
def FormAheadSaid : Prop := formAheadRow.holds Tryd.pinned (OpenSpec.ofChange formAheadSpec)

/-- ITS FALSE NEIGHBOUR: 'it returns false'. Refute it at one input. -/
def formAheadWrong : ChangeSpec := { name := "formAhead", fn := fun _ => fun
  | [d] => { results := [.lit (.bool false)], args := [d] }
  | _ => none }
def FormAheadWrongFalsely : Prop := formAheadRow.holds Tryd.pinned (OpenSpec.ofChange formAheadWrong)

/-- 'palisadelaw14.FormFirst': WHATEVER THE INPUT: true; the input reads as it did. -/
def formFirstSpec : ChangeSpec := { name := "formFirst", fn := fun _ => fun
  | [d1, d2] => { results := [.lit (.bool true)], args := [d1, d2] }
  | _ => none }
def formFirstRow : OpenClaim := { program := "ytdplabhgdonbiaadoor", sum := "dcf9b85ef9b06224831032fdce5b9af88064a1ce1720076df20c811885b0cf5f", func := "palisade/palisadelaw14.FormFirst", spec := "formFirst", unfollowed := true, recurses := true, named := ["palisade/class.operands"], loops := true, plainKeys := false, apart := false, laid := [("palisade/class.operands", laid_palisade_class_operands)] }
def FormFirstSaid : Prop := formFirstRow.holds Tryd.pinned (OpenSpec.ofChange formFirstSpec)

/-- ITS FALSE NEIGHBOUR: 'it returns false'. Refute it at one input. -/
def formFirstWrong : ChangeSpec := { name := "formFirst", fn := fun _ => fun
  | [d1, d2] => { results := [.lit (.bool false)], args := [d1, d2] }
  | _ => none }
def FormFirstWrongFalsely : Prop := formFirstRow.holds Tryd.pinned (OpenSpec.ofChange formFirstWrong)

/-- 'palisadelaw14.FormJumps': WHATEVER THE INPUT: true; the input reads as it did. -/
def formJumpsSpec : ChangeSpec := { name := "formJumps", fn := fun _ => fun
  | [d1, d2, d3] => { results := [.lit (.bool true)], args := [d1, d2, d3] }
  | _ => none }
def formJumpsRow : OpenClaim := { program := "ytdplabhgdonbiaadoor", sum := "dcf9b85ef9b06224831032fdce5b9af88064a1ce1720076df20c811885b0cf5f", func := "palisade/palisadelaw14.FormJumps", spec := "formJumps", unfollowed := true, recurses := true, named := ["palisade/class.operands"], plainKeys := false, apart := false, laid := [("palisade/class.operands", laid_palisade_class_operands)] }
def FormJumpsSaid : Prop := formJumpsRow.holds Tryd.pinned (OpenSpec.ofChange formJumpsSpec)

/-- ITS FALSE NEIGHBOUR: 'it returns false'. Refute it at one input. -/
def formJumpsWrong : ChangeSpec := { name := "formJumps", fn := fun _ => fun
  | [d1, d2, d3] => { results := [.lit (.bool false)], args := [d1, d2, d3] }
  | _ => none }
def FormJumpsWrongFalsely : Prop := formJumpsRow.holds Tryd.pinned (OpenSpec.ofChange formJumpsWrong)

/-- 'palisadelaw14.FormRegions': WHATEVER THE INPUT: true; the input reads as it did. -/
def formRegionsSpec : ChangeSpec := { name := "formRegions", fn := fun _ => fun
  | [d1, d2] => { results := [.lit (.bool true)], args := [d1, d2] }
  | _ => none }
def formRegionsRow : OpenClaim := { program := "ytdplabhgdonbiaadoor", sum := "dcf9b85ef9b06224831032fdce5b9af88064a1ce1720076df20c811885b0cf5f", func := "palisade/palisadelaw14.FormRegions", spec := "formRegions", unfollowed := true, recurses := true, named := ["palisade/class.operands"], loops := true, plainKeys := false, apart := false, laid := [("palisade/class.operands", laid_palisade_class_operands)] }
def FormRegionsSaid : Prop := formRegionsRow.holds Tryd.pinned (OpenSpec.ofChange formRegionsSpec)

/-- ITS FALSE NEIGHBOUR: 'it returns false'. Refute it at one input. -/
def formRegionsWrong : ChangeSpec := { name := "formRegions", fn := fun _ => fun
  | [d1, d2] => { results := [.lit (.bool false)], args := [d1, d2] }
  | _ => none }
def FormRegionsWrongFalsely : Prop := formRegionsRow.holds Tryd.pinned (OpenSpec.ofChange formRegionsWrong)

/- THE SECOND FORM. 'bulk': how many values and letters a reading holds, each counted each time it is reached (what is shared counts as often as it is met; a slice's spare places count too). A statement '..UptoSaid' is the law's where the arguments, and the package variables that the reading takes, are together of bulk at most 1048576: NARROWER than '..Said'. Prove '..Said' where nothing that the law and all that it calls make is longer than what came in: it says more and counts as full. Else prove '..UptoSaid'. A law counts once. -/
mutual
def uptoBulk {H : Type} : DataW H → Nat
  | .lit (.string bytes) => bytes.length + 1
  | .lit _ => 1
  | .nil => 1
  | .ptr d => uptoBulk d + 1
  | .slice elems spare => uptoBulkAll elems + uptoBulkAll spare + 1
  | .agg parts => uptoBulkAll parts + 1
  | .iface _ d => uptoBulk d + 1
  | .map entries => uptoBulkEntries entries + 1
  | .held _ => 1
def uptoBulkAll {H : Type} : List (DataW H) → Nat
  | [] => 0
  | d :: r => uptoBulk d + uptoBulkAll r
def uptoBulkEntries {H : Type} : List (Lit × DataW H) → Nat
  | [] => 0
  | x :: r => uptoBulkEntry x + uptoBulkEntries r
def uptoBulkEntry {H : Type} : Lit × DataW H → Nat
  | (.string bytes, d) => bytes.length + uptoBulk d + 1
  | (_, d) => uptoBulk d + 1
 end
def uptoSmall : (H : Type) → List (DataW H) → Bool := fun _ ds => decide (uptoBulkAll ds ≤ 1048576)
def OpenSpec.upto (s : _root_.Go.ChangeSpec) : _root_.Go.OpenSpec := { _root_.Go.OpenSpec.ofChange s with cond := some uptoSmall }

/-- 'palisadelaw14.FormChecks', WHERE WHAT IT READS IS OF BULK AT MOST 1048576: true; the input reads as it did. -/
def formChecksUptoRow : OpenClaim := { program := "ytdplabhgdonbiaadoor", sum := "dcf9b85ef9b06224831032fdce5b9af88064a1ce1720076df20c811885b0cf5f", func := "palisade/palisadelaw14.FormChecks", spec := "formChecks", unfollowed := true, recurses := true, named := ["palisade/class.operands"], loops := true, plainKeys := false, apart := false, laid := [("palisade/class.operands", laid_palisade_class_operands)], narrowed := true }
def FormChecksUptoSaid : Prop := formChecksUptoRow.holds Tryd.pinned (OpenSpec.upto formChecksSpec)

/-- 'palisadelaw14.FormPops', WHERE WHAT IT READS IS OF BULK AT MOST 1048576: true; the input reads as it did. -/
def formPopsUptoRow : OpenClaim := { program := "ytdplabhgdonbiaadoor", sum := "dcf9b85ef9b06224831032fdce5b9af88064a1ce1720076df20c811885b0cf5f", func := "palisade/palisadelaw14.FormPops", spec := "formPops", unfollowed := true, recurses := true, named := ["palisade/class.operands", "palisade/shape.takes", "palisade/shape.puts"], loops := true, plainKeys := false, apart := false, laid := [("palisade/class.operands", laid_palisade_class_operands), ("palisade/shape.takes", laid_palisade_shape_takes), ("palisade/shape.puts", laid_palisade_shape_puts)], narrowed := true }
def FormPopsUptoSaid : Prop := formPopsUptoRow.holds Tryd.pinned (OpenSpec.upto formPopsSpec)

/-- 'palisadelaw14.FormAhead', WHERE WHAT IT READS IS OF BULK AT MOST 1048576: true; the input reads as it did. -/
def formAheadUptoRow : OpenClaim := { program := "ytdplabhgdonbiaadoor", sum := "dcf9b85ef9b06224831032fdce5b9af88064a1ce1720076df20c811885b0cf5f", func := "palisade/palisadelaw14.FormAhead", spec := "formAhead", unfollowed := true, recurses := true, named := ["palisade/class.operands"], loops := true, plainKeys := false, apart := false, laid := [("palisade/class.operands", laid_palisade_class_operands)], narrowed := true }
def FormAheadUptoSaid : Prop := formAheadUptoRow.holds Tryd.pinned (OpenSpec.upto formAheadSpec)

/-- 'palisadelaw14.FormFirst', WHERE WHAT IT READS IS OF BULK AT MOST 1048576: true; the input reads as it did. -/
def formFirstUptoRow : OpenClaim := { program := "ytdplabhgdonbiaadoor", sum := "dcf9b85ef9b06224831032fdce5b9af88064a1ce1720076df20c811885b0cf5f", func := "palisade/palisadelaw14.FormFirst", spec := "formFirst", unfollowed := true, recurses := true, named := ["palisade/class.operands"], loops := true, plainKeys := false, apart := false, laid := [("palisade/class.operands", laid_palisade_class_operands)], narrowed := true }
def FormFirstUptoSaid : Prop := formFirstUptoRow.holds Tryd.pinned (OpenSpec.upto formFirstSpec)

/-- 'palisadelaw14.FormJumps', WHERE WHAT IT READS IS OF BULK AT MOST 1048576: true; the input reads as it did. -/
def formJumpsUptoRow : OpenClaim := { program := "ytdplabhgdonbiaadoor", sum := "dcf9b85ef9b06224831032fdce5b9af88064a1ce1720076df20c811885b0cf5f", func := "palisade/palisadelaw14.FormJumps", spec := "formJumps", unfollowed := true, recurses := true, named := ["palisade/class.operands"], plainKeys := false, apart := false, laid := [("palisade/class.operands", laid_palisade_class_operands)], narrowed := true }
def FormJumpsUptoSaid : Prop := formJumpsUptoRow.holds Tryd.pinned (OpenSpec.upto formJumpsSpec)

/-- 'palisadelaw14.FormRegions', WHERE WHAT IT READS IS OF BULK AT MOST 1048576: true; the input reads as it did. -/
def formRegionsUptoRow : OpenClaim := { program := "ytdplabhgdonbiaadoor", sum := "dcf9b85ef9b06224831032fdce5b9af88064a1ce1720076df20c811885b0cf5f", func := "palisade/palisadelaw14.FormRegions", spec := "formRegions", unfollowed := true, recurses := true, named := ["palisade/class.operands"], loops := true, plainKeys := false, apart := false, laid := [("palisade/class.operands", laid_palisade_class_operands)], narrowed := true }
def FormRegionsUptoSaid : Prop := formRegionsUptoRow.holds Tryd.pinned (OpenSpec.upto formRegionsSpec)

end Rows
end Go.Proofs.YtdplabhgdonbiaaDoor
