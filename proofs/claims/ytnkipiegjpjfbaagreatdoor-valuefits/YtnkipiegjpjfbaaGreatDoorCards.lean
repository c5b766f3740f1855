/-
  DERIVED. GIVEN WITH THE SEED: THE CARDS: each row of YtnkipiegjpjfbaaGreatDoorRows.lean that lists a variable, with what it lists TIED to the program's text (the seventh form; the later family's looks); each row that meets fmt, with fmt's text TOLD by the authors' own Lean function (tested against real Go, not proved from fmt's source: count such statements apart). THE CARD IS WHAT COUNTS. Prove the row's statement (the work); the ties are given (YtnkipiegjpjfbaaGreatDoorTie.lean); close each card by the builder's one call (the guide's Derived/Test/ToyasCard.lean, 'card_holds'). Laid BY PROGRAM, IN A SANDBOX (cutbox-door.mjs). By AI agents, Wed Nov 11 2026. No macro, syntax, notation, axiom, sorry.
-/
import Derived.Test.YtnkipiegjpjfbaaGreatDoorRows
import GoSem.ClaimSeven
namespace Go.Proofs.YtnkipiegjpjfbaaGreatDoor
namespace Rows

/-- THE TIED CARD OF 'palisadelaw03.ValueFits'. -/
def valueFitsCard : Claim7 := { stood := { row := valueFitsRow, standIns := [], harness := (true, "a4f7cf42fb5009744c5cd2686b5bac01a3cef9753a7efd31d96145c3c5183d5d"), looks := false }, kinds := [], alts := [], laidByText := true, laidKinds := [.data, .data, .data], laidTests := true, laidLooks := .later }
def ValueFitsCardSaid : Prop := Claim7.holds Tryz.pinned (.plain (OpenSpec.ofChange valueFitsSpec)) valueFitsCard

/-- THE SECOND FORM's CARD OF 'palisadelaw03.ValueFits'. -/
def valueFitsUptoCard : Claim7 := { stood := { row := valueFitsUptoRow, standIns := [], harness := (true, "a4f7cf42fb5009744c5cd2686b5bac01a3cef9753a7efd31d96145c3c5183d5d"), looks := false }, kinds := [], alts := [], laidByText := true, laidKinds := [.data, .data, .data], laidTests := true, laidLooks := .later }
def ValueFitsUptoCardSaid : Prop := Claim7.holds Tryz.pinned (.plain (OpenSpec.upto valueFitsSpec)) valueFitsUptoCard
end Rows
end Go.Proofs.YtnkipiegjpjfbaaGreatDoor
