/-
  DERIVED. GIVEN WITH THE SEED: THE CARDS: each row of YtjfijpiadfkmfaaGreatDoorRows.lean that lists a variable, with what it lists TIED to the program's text (the seventh form; the later family's looks); each row that meets fmt, with fmt's text TOLD by the authors' own Lean function (tested against real Go, not proved from fmt's source: count such statements apart). THE CARD IS WHAT COUNTS. Prove the row's statement (the work); the ties are given (YtjfijpiadfkmfaaGreatDoorTie.lean); close each card by the builder's one call (the guide's Derived/Test/ToyasCard.lean, 'card_holds'). Laid BY PROGRAM, IN A SANDBOX (cutbox-door.mjs). By AI agents, Wed Nov 11 2026. No macro, syntax, notation, axiom, sorry.
-/
import Derived.Test.YtjfijpiadfkmfaaGreatDoorRows
import GoSem.ClaimSeven
namespace Go.Proofs.YtjfijpiadfkmfaaGreatDoor
namespace Rows

/-- THE TIED CARD OF 'palisadelaw13.ClassPool'. -/
def classPoolCard : Claim7 := { stood := { row := classPoolRow, standIns := [], harness := (true, "e16e2a0bc56170c196b19f219a72345accc7f39ba14a02fab3b014bdaf1a0351"), looks := false }, kinds := [], alts := [], laidByText := true, laidKinds := [.data], laidTests := true, laidLooks := .later }
def ClassPoolCardSaid : Prop := Claim7.holds Tryz.pinned (.plain (OpenSpec.ofChange classPoolSpec)) classPoolCard

/-- THE SECOND FORM's CARD OF 'palisadelaw13.ClassPool'. -/
def classPoolUptoCard : Claim7 := { stood := { row := classPoolUptoRow, standIns := [], harness := (true, "e16e2a0bc56170c196b19f219a72345accc7f39ba14a02fab3b014bdaf1a0351"), looks := false }, kinds := [], alts := [], laidByText := true, laidKinds := [.data], laidTests := true, laidLooks := .later }
def ClassPoolUptoCardSaid : Prop := Claim7.holds Tryz.pinned (.plain (OpenSpec.upto classPoolSpec)) classPoolUptoCard
end Rows
end Go.Proofs.YtjfijpiadfkmfaaGreatDoor
