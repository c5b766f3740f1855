/-
  DERIVED. GIVEN WITH THE SEED: THE CARDS: each row of YtdplabhgdonbiaaDoorRows.lean that lists a variable, with what it lists TIED to the program's text (the seventh form; the later family's looks); each row that meets fmt, with fmt's text TOLD by the authors' own Lean function (tested against real Go, not proved from fmt's source: count such statements apart). THE CARD IS WHAT COUNTS. Prove the row's statement (the work); the ties are given (YtdplabhgdonbiaaDoorTie.lean); close each card by the builder's one call (the guide's Derived/Test/ToyasCard.lean, 'card_holds'). Laid BY PROGRAM, IN A SANDBOX (cutbox-door.mjs). By AI agents, Wed Nov 11 2026. No macro, syntax, notation, axiom, sorry.
-/
import Derived.Test.YtdplabhgdonbiaaDoorRows
import GoSem.ClaimSeven
namespace Go.Proofs.YtdplabhgdonbiaaDoor
namespace Rows

/-- THE TIED CARD OF 'palisadelaw14.FormChecks'. -/
def formChecksCard : Claim7 := { stood := { row := formChecksRow, standIns := [], harness := (true, "15134b618bb1b66c72d9fa4df2775ac164ea2d9fca74116b9e2aca1ac2fc95cc"), looks := false }, kinds := [], alts := [], laidByText := true, laidKinds := [.data], laidTests := true, laidLooks := .later }
def FormChecksCardSaid : Prop := Claim7.holds Tryd.pinned (.plain (OpenSpec.ofChange formChecksSpec)) formChecksCard

/-- THE TIED CARD OF 'palisadelaw14.FormPops'. -/
def formPopsCard : Claim7 := { stood := { row := formPopsRow, standIns := [], harness := (true, "15134b618bb1b66c72d9fa4df2775ac164ea2d9fca74116b9e2aca1ac2fc95cc"), looks := false }, kinds := [], alts := [], laidByText := true, laidKinds := [.data, .data, .data], laidTests := true, laidLooks := .later }
def FormPopsCardSaid : Prop := Claim7.holds Tryd.pinned (.plain (OpenSpec.ofChange formPopsSpec)) formPopsCard

/-- THE TIED CARD OF 'palisadelaw14.FormAhead'. -/
def formAheadCard : Claim7 := { stood := { row := formAheadRow, standIns := [], harness := (true, "15134b618bb1b66c72d9fa4df2775ac164ea2d9fca74116b9e2aca1ac2fc95cc"), looks := false }, kinds := [], alts := [], laidByText := true, laidKinds := [.data], laidTests := true, laidLooks := .later }
def FormAheadCardSaid : Prop := Claim7.holds Tryd.pinned (.plain (OpenSpec.ofChange formAheadSpec)) formAheadCard

/-- THE TIED CARD OF 'palisadelaw14.FormFirst'. -/
def formFirstCard : Claim7 := { stood := { row := formFirstRow, standIns := [], harness := (true, "15134b618bb1b66c72d9fa4df2775ac164ea2d9fca74116b9e2aca1ac2fc95cc"), looks := false }, kinds := [], alts := [], laidByText := true, laidKinds := [.data], laidTests := true, laidLooks := .later }
def FormFirstCardSaid : Prop := Claim7.holds Tryd.pinned (.plain (OpenSpec.ofChange formFirstSpec)) formFirstCard

/-- THE TIED CARD OF 'palisadelaw14.FormJumps'. -/
def formJumpsCard : Claim7 := { stood := { row := formJumpsRow, standIns := [], harness := (true, "15134b618bb1b66c72d9fa4df2775ac164ea2d9fca74116b9e2aca1ac2fc95cc"), looks := false }, kinds := [], alts := [], laidByText := true, laidKinds := [.data], laidTests := true, laidLooks := .later }
def FormJumpsCardSaid : Prop := Claim7.holds Tryd.pinned (.plain (OpenSpec.ofChange formJumpsSpec)) formJumpsCard

/-- THE TIED CARD OF 'palisadelaw14.FormRegions'. -/
def formRegionsCard : Claim7 := { stood := { row := formRegionsRow, standIns := [], harness := (true, "15134b618bb1b66c72d9fa4df2775ac164ea2d9fca74116b9e2aca1ac2fc95cc"), looks := false }, kinds := [], alts := [], laidByText := true, laidKinds := [.data], laidTests := true, laidLooks := .later }
def FormRegionsCardSaid : Prop := Claim7.holds Tryd.pinned (.plain (OpenSpec.ofChange formRegionsSpec)) formRegionsCard

/-- THE SECOND FORM's CARD OF 'palisadelaw14.FormChecks'. -/
def formChecksUptoCard : Claim7 := { stood := { row := formChecksUptoRow, standIns := [], harness := (true, "15134b618bb1b66c72d9fa4df2775ac164ea2d9fca74116b9e2aca1ac2fc95cc"), looks := false }, kinds := [], alts := [], laidByText := true, laidKinds := [.data], laidTests := true, laidLooks := .later }
def FormChecksUptoCardSaid : Prop := Claim7.holds Tryd.pinned (.plain (OpenSpec.upto formChecksSpec)) formChecksUptoCard

/-- THE SECOND FORM's CARD OF 'palisadelaw14.FormPops'. -/
def formPopsUptoCard : Claim7 := { stood := { row := formPopsUptoRow, standIns := [], harness := (true, "15134b618bb1b66c72d9fa4df2775ac164ea2d9fca74116b9e2aca1ac2fc95cc"), looks := false }, kinds := [], alts := [], laidByText := true, laidKinds := [.data, .data, .data], laidTests := true, laidLooks := .later }
def FormPopsUptoCardSaid : Prop := Claim7.holds Tryd.pinned (.plain (OpenSpec.upto formPopsSpec)) formPopsUptoCard

/-- THE SECOND FORM's CARD OF 'palisadelaw14.FormAhead'. -/
def formAheadUptoCard : Claim7 := { stood := { row := formAheadUptoRow, standIns := [], harness := (true, "15134b618bb1b66c72d9fa4df2775ac164ea2d9fca74116b9e2aca1ac2fc95cc"), looks := false }, kinds := [], alts := [], laidByText := true, laidKinds := [.data], laidTests := true, laidLooks := .later }
def FormAheadUptoCardSaid : Prop := Claim7.holds Tryd.pinned (.plain (OpenSpec.upto formAheadSpec)) formAheadUptoCard

/-- THE SECOND FORM's CARD OF 'palisadelaw14.FormFirst'. -/
def formFirstUptoCard : Claim7 := { stood := { row := formFirstUptoRow, standIns := [], harness := (true, "15134b618bb1b66c72d9fa4df2775ac164ea2d9fca74116b9e2aca1ac2fc95cc"), looks := false }, kinds := [], alts := [], laidByText := true, laidKinds := [.data], laidTests := true, laidLooks := .later }
def FormFirstUptoCardSaid : Prop := Claim7.holds Tryd.pinned (.plain (OpenSpec.upto formFirstSpec)) formFirstUptoCard

/-- THE SECOND FORM's CARD OF 'palisadelaw14.FormJumps'. -/
def formJumpsUptoCard : Claim7 := { stood := { row := formJumpsUptoRow, standIns := [], harness := (true, "15134b618bb1b66c72d9fa4df2775ac164ea2d9fca74116b9e2aca1ac2fc95cc"), looks := false }, kinds := [], alts := [], laidByText := true, laidKinds := [.data], laidTests := true, laidLooks := .later }
def FormJumpsUptoCardSaid : Prop := Claim7.holds Tryd.pinned (.plain (OpenSpec.upto formJumpsSpec)) formJumpsUptoCard

/-- THE SECOND FORM's CARD OF 'palisadelaw14.FormRegions'. -/
def formRegionsUptoCard : Claim7 := { stood := { row := formRegionsUptoRow, standIns := [], harness := (true, "15134b618bb1b66c72d9fa4df2775ac164ea2d9fca74116b9e2aca1ac2fc95cc"), looks := false }, kinds := [], alts := [], laidByText := true, laidKinds := [.data], laidTests := true, laidLooks := .later }
def FormRegionsUptoCardSaid : Prop := Claim7.holds Tryd.pinned (.plain (OpenSpec.upto formRegionsSpec)) formRegionsUptoCard
end Rows
end Go.Proofs.YtdplabhgdonbiaaDoor
