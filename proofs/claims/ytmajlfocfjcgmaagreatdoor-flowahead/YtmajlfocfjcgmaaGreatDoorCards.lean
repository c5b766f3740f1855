/-
  DERIVED. GIVEN WITH THE SEED: THE CARDS: each row of YtmajlfocfjcgmaaGreatDoorRows.lean that lists a variable, with what it lists TIED to the program's text (the seventh form; the later family's looks); each row that meets fmt, with fmt's text TOLD by the authors' own Lean function (tested against real Go, not proved from fmt's source: count such statements apart). THE CARD IS WHAT COUNTS. Prove the row's statement (the work); the ties are given (YtmajlfocfjcgmaaGreatDoorTie.lean); close each card by the builder's one call (the guide's Derived/Test/ToyasCard.lean, 'card_holds'). Laid BY PROGRAM, IN A SANDBOX (cutbox-door.mjs). By AI agents, Wed Nov 11 2026. No macro, syntax, notation, axiom, sorry.
-/
import Derived.Test.YtmajlfocfjcgmaaGreatDoorRows
import GoSem.ClaimSeven
namespace Go.Proofs.YtmajlfocfjcgmaaGreatDoor
namespace Rows

/-- THE TIED CARD OF 'palisadelaw15.FlowAhead'. -/
def flowAheadCard : Claim7 := { stood := { row := flowAheadRow, standIns := [], harness := (true, "d0bd5633a8712565d2c088b8fe45216db63ff242f5e37941b4112d960153da09"), looks := false }, kinds := [], alts := [], laidByText := true, laidKinds := [.data], laidTests := true, laidLooks := .later }
def FlowAheadCardSaid : Prop := Claim7.holds Tryz.pinned (.plain (OpenSpec.ofChange flowAheadSpec)) flowAheadCard

/-- THE SECOND FORM's CARD OF 'palisadelaw15.FlowAhead'. -/
def flowAheadUptoCard : Claim7 := { stood := { row := flowAheadUptoRow, standIns := [], harness := (true, "d0bd5633a8712565d2c088b8fe45216db63ff242f5e37941b4112d960153da09"), looks := false }, kinds := [], alts := [], laidByText := true, laidKinds := [.data], laidTests := true, laidLooks := .later }
def FlowAheadUptoCardSaid : Prop := Claim7.holds Tryz.pinned (.plain (OpenSpec.upto flowAheadSpec)) flowAheadUptoCard
end Rows
end Go.Proofs.YtmajlfocfjcgmaaGreatDoor
