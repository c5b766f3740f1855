/-
  DERIVED. GIVEN WITH THE SEED: THE CARDS: each row of YtfobijdkoeifjaaGreatDoorRows.lean that lists a variable, with what it lists TIED to the program's text (the seventh form; the later family's looks); each row that meets fmt, with fmt's text TOLD by the authors' own Lean function (tested against real Go, not proved from fmt's source: count such statements apart). THE CARD IS WHAT COUNTS. Prove the row's statement (the work); the ties are given (YtfobijdkoeifjaaGreatDoorTie.lean); close each card by the builder's one call (the guide's Derived/Test/ToyasCard.lean, 'card_holds'). Laid BY PROGRAM, IN A SANDBOX (cutbox-door.mjs). By AI agents, Wed Nov 11 2026. No macro, syntax, notation, axiom, sorry.
-/
import Derived.Test.YtfobijdkoeifjaaGreatDoorRows
import GoSem.ClaimSeven
namespace Go.Proofs.YtfobijdkoeifjaaGreatDoor
namespace Rows

/-- THE TIED CARD OF 'palisadelaw17.VerifyChecks'. -/
def verifyChecksCard : Claim7 := { stood := { row := verifyChecksRow, standIns := [], harness := (true, "213769c29250ae34d8a8e78064170c267ee0a82d52efaadaf9ef7ecfa37ffc34"), looks := false }, kinds := [], alts := [], laidByText := true, laidKinds := [.data, .data, .data], laidTests := true, laidLooks := .later }
def VerifyChecksCardSaid : Prop := Claim7.holds Tryz.pinned (.plain (OpenSpec.ofChange verifyChecksSpec)) verifyChecksCard

/-- THE TIED CARD OF 'palisadelaw17.VerifyForm'. -/
def verifyFormCard : Claim7 := { stood := { row := verifyFormRow, standIns := [], harness := (true, "213769c29250ae34d8a8e78064170c267ee0a82d52efaadaf9ef7ecfa37ffc34"), looks := false }, kinds := [], alts := [], laidByText := true, laidKinds := [.data, .data, .data], laidTests := true, laidLooks := .later }
def VerifyFormCardSaid : Prop := Claim7.holds Tryz.pinned (.plain (OpenSpec.ofChange verifyFormSpec)) verifyFormCard

/-- THE TIED CARD OF 'palisadelaw17.VerifyMore'. -/
def verifyMoreCard : Claim7 := { stood := { row := verifyMoreRow, standIns := [], harness := (true, "213769c29250ae34d8a8e78064170c267ee0a82d52efaadaf9ef7ecfa37ffc34"), looks := false }, kinds := [], alts := [], laidByText := true, laidKinds := [.data, .data, .data], laidTests := true, laidLooks := .later }
def VerifyMoreCardSaid : Prop := Claim7.holds Tryz.pinned (.plain (OpenSpec.ofChange verifyMoreSpec)) verifyMoreCard

/-- THE TIED CARD OF 'palisadelaw17.VerifyRegions'. -/
def verifyRegionsCard : Claim7 := { stood := { row := verifyRegionsRow, standIns := [], harness := (true, "213769c29250ae34d8a8e78064170c267ee0a82d52efaadaf9ef7ecfa37ffc34"), looks := false }, kinds := [], alts := [], laidByText := true, laidKinds := [.data, .data, .data], laidTests := true, laidLooks := .later }
def VerifyRegionsCardSaid : Prop := Claim7.holds Tryz.pinned (.plain (OpenSpec.ofChange verifyRegionsSpec)) verifyRegionsCard

/-- THE TIED CARD OF 'palisadelaw17.VerifyTells'. -/
def verifyTellsCard : Claim7 := { stood := { row := verifyTellsRow, standIns := [], harness := (true, "213769c29250ae34d8a8e78064170c267ee0a82d52efaadaf9ef7ecfa37ffc34"), looks := false }, kinds := [], alts := [], laidByText := true, laidKinds := [.data, .data, .data], laidTests := true, laidLooks := .later }
def VerifyTellsCardSaid : Prop := Claim7.holds Tryz.pinned (.plain (OpenSpec.ofChange verifyTellsSpec)) verifyTellsCard

/-- THE TIED CARD OF 'palisadelaw17.VerifyUp'. -/
def verifyUpCard : Claim7 := { stood := { row := verifyUpRow, standIns := [], harness := (true, "213769c29250ae34d8a8e78064170c267ee0a82d52efaadaf9ef7ecfa37ffc34"), looks := false }, kinds := [], alts := [], laidByText := true, laidKinds := [.data, .data, .data], laidTests := true, laidLooks := .later }
def VerifyUpCardSaid : Prop := Claim7.holds Tryz.pinned (.plain (OpenSpec.ofChange verifyUpSpec)) verifyUpCard

/-- THE SECOND FORM's CARD OF 'palisadelaw17.VerifyChecks'. -/
def verifyChecksUptoCard : Claim7 := { stood := { row := verifyChecksUptoRow, standIns := [], harness := (true, "213769c29250ae34d8a8e78064170c267ee0a82d52efaadaf9ef7ecfa37ffc34"), looks := false }, kinds := [], alts := [], laidByText := true, laidKinds := [.data, .data, .data], laidTests := true, laidLooks := .later }
def VerifyChecksUptoCardSaid : Prop := Claim7.holds Tryz.pinned (.plain (OpenSpec.upto verifyChecksSpec)) verifyChecksUptoCard

/-- THE SECOND FORM's CARD OF 'palisadelaw17.VerifyForm'. -/
def verifyFormUptoCard : Claim7 := { stood := { row := verifyFormUptoRow, standIns := [], harness := (true, "213769c29250ae34d8a8e78064170c267ee0a82d52efaadaf9ef7ecfa37ffc34"), looks := false }, kinds := [], alts := [], laidByText := true, laidKinds := [.data, .data, .data], laidTests := true, laidLooks := .later }
def VerifyFormUptoCardSaid : Prop := Claim7.holds Tryz.pinned (.plain (OpenSpec.upto verifyFormSpec)) verifyFormUptoCard

/-- THE SECOND FORM's CARD OF 'palisadelaw17.VerifyMore'. -/
def verifyMoreUptoCard : Claim7 := { stood := { row := verifyMoreUptoRow, standIns := [], harness := (true, "213769c29250ae34d8a8e78064170c267ee0a82d52efaadaf9ef7ecfa37ffc34"), looks := false }, kinds := [], alts := [], laidByText := true, laidKinds := [.data, .data, .data], laidTests := true, laidLooks := .later }
def VerifyMoreUptoCardSaid : Prop := Claim7.holds Tryz.pinned (.plain (OpenSpec.upto verifyMoreSpec)) verifyMoreUptoCard

/-- THE SECOND FORM's CARD OF 'palisadelaw17.VerifyRegions'. -/
def verifyRegionsUptoCard : Claim7 := { stood := { row := verifyRegionsUptoRow, standIns := [], harness := (true, "213769c29250ae34d8a8e78064170c267ee0a82d52efaadaf9ef7ecfa37ffc34"), looks := false }, kinds := [], alts := [], laidByText := true, laidKinds := [.data, .data, .data], laidTests := true, laidLooks := .later }
def VerifyRegionsUptoCardSaid : Prop := Claim7.holds Tryz.pinned (.plain (OpenSpec.upto verifyRegionsSpec)) verifyRegionsUptoCard

/-- THE SECOND FORM's CARD OF 'palisadelaw17.VerifyTells'. -/
def verifyTellsUptoCard : Claim7 := { stood := { row := verifyTellsUptoRow, standIns := [], harness := (true, "213769c29250ae34d8a8e78064170c267ee0a82d52efaadaf9ef7ecfa37ffc34"), looks := false }, kinds := [], alts := [], laidByText := true, laidKinds := [.data, .data, .data], laidTests := true, laidLooks := .later }
def VerifyTellsUptoCardSaid : Prop := Claim7.holds Tryz.pinned (.plain (OpenSpec.upto verifyTellsSpec)) verifyTellsUptoCard

/-- THE SECOND FORM's CARD OF 'palisadelaw17.VerifyUp'. -/
def verifyUpUptoCard : Claim7 := { stood := { row := verifyUpUptoRow, standIns := [], harness := (true, "213769c29250ae34d8a8e78064170c267ee0a82d52efaadaf9ef7ecfa37ffc34"), looks := false }, kinds := [], alts := [], laidByText := true, laidKinds := [.data, .data, .data], laidTests := true, laidLooks := .later }
def VerifyUpUptoCardSaid : Prop := Claim7.holds Tryz.pinned (.plain (OpenSpec.upto verifyUpSpec)) verifyUpUptoCard
end Rows
end Go.Proofs.YtfobijdkoeifjaaGreatDoor
