/-
  DERIVED. GIVEN WITH THE SEED: THE CARDS: each row of YtmkncmmegjfipaaGreatDoorRows.lean that lists a variable, with what it lists TIED to the program's text (the seventh form; the later family's looks); each row that meets fmt, with fmt's text TOLD by the authors' own Lean function (tested against real Go, not proved from fmt's source: count such statements apart). THE CARD IS WHAT COUNTS. Prove the row's statement (the work); the ties are given (YtmkncmmegjfipaaGreatDoorTie.lean); close each card by the builder's one call (the guide's Derived/Test/ToyasCard.lean, 'card_holds'). Laid BY PROGRAM, IN A SANDBOX (cutbox-door.mjs). By AI agents, Wed Nov 11 2026. No macro, syntax, notation, axiom, sorry.
-/
import Derived.Test.YtmkncmmegjfipaaGreatDoorRows
import GoSem.ClaimSeven
namespace Go.Proofs.YtmkncmmegjfipaaGreatDoor
namespace Rows

/-- THE TIED CARD OF 'palisadelaw18.VmRuns'. -/
def vmRunsCard : Claim7 := { stood := { row := vmRunsRow, standIns := [], harness := (true, "97b61f0bd623ef3d69fbddfb02319582ff50019dec0b3188b78601686497a169"), looks := false }, kinds := [], alts := [], laidByText := true, laidKinds := [.data, .data], laidTests := true, laidLooks := .later }
def VmRunsCardSaid : Prop := Claim7.holds Tryz.pinned (.plain (OpenSpec.ofChange vmRunsSpec)) vmRunsCard

/-- THE TIED CARD OF 'palisadelaw18.VmMore'. -/
def vmMoreCard : Claim7 := { stood := { row := vmMoreRow, standIns := [], harness := (true, "97b61f0bd623ef3d69fbddfb02319582ff50019dec0b3188b78601686497a169"), looks := false }, kinds := [], alts := [], laidByText := true, laidKinds := [.data, .data], laidTests := true, laidLooks := .later }
def VmMoreCardSaid : Prop := Claim7.holds Tryz.pinned (.plain (OpenSpec.ofChange vmMoreSpec)) vmMoreCard

/-- THE TIED CARD OF 'palisadelaw18.VmRoom'. -/
def vmRoomCard : Claim7 := { stood := { row := vmRoomRow, standIns := [], harness := (true, "97b61f0bd623ef3d69fbddfb02319582ff50019dec0b3188b78601686497a169"), looks := false }, kinds := [], alts := [], laidByText := true, laidKinds := [.data, .data], laidTests := true, laidLooks := .later }
def VmRoomCardSaid : Prop := Claim7.holds Tryz.pinned (.plain (OpenSpec.ofChange vmRoomSpec)) vmRoomCard

/-- THE TIED CARD OF 'palisadelaw18.VmEnds'. -/
def vmEndsCard : Claim7 := { stood := { row := vmEndsRow, standIns := [], harness := (true, "97b61f0bd623ef3d69fbddfb02319582ff50019dec0b3188b78601686497a169"), looks := false }, kinds := [], alts := [], laidByText := true, laidKinds := [.data, .data], laidTests := true, laidLooks := .later }
def VmEndsCardSaid : Prop := Claim7.holds Tryz.pinned (.plain (OpenSpec.ofChange vmEndsSpec)) vmEndsCard

/-- THE TIED CARD OF 'palisadelaw18.VmReckons'. -/
def vmReckonsCard : Claim7 := { stood := { row := vmReckonsRow, standIns := [], harness := (true, "97b61f0bd623ef3d69fbddfb02319582ff50019dec0b3188b78601686497a169"), looks := false }, kinds := [], alts := [], laidByText := true, laidKinds := [.data, .data], laidTests := true, laidLooks := .later }
def VmReckonsCardSaid : Prop := Claim7.holds Tryz.pinned (.plain (OpenSpec.ofChange vmReckonsSpec)) vmReckonsCard

/-- THE SECOND FORM's CARD OF 'palisadelaw18.VmRuns'. -/
def vmRunsUptoCard : Claim7 := { stood := { row := vmRunsUptoRow, standIns := [], harness := (true, "97b61f0bd623ef3d69fbddfb02319582ff50019dec0b3188b78601686497a169"), looks := false }, kinds := [], alts := [], laidByText := true, laidKinds := [.data, .data], laidTests := true, laidLooks := .later }
def VmRunsUptoCardSaid : Prop := Claim7.holds Tryz.pinned (.plain (OpenSpec.upto vmRunsSpec)) vmRunsUptoCard

/-- THE SECOND FORM's CARD OF 'palisadelaw18.VmMore'. -/
def vmMoreUptoCard : Claim7 := { stood := { row := vmMoreUptoRow, standIns := [], harness := (true, "97b61f0bd623ef3d69fbddfb02319582ff50019dec0b3188b78601686497a169"), looks := false }, kinds := [], alts := [], laidByText := true, laidKinds := [.data, .data], laidTests := true, laidLooks := .later }
def VmMoreUptoCardSaid : Prop := Claim7.holds Tryz.pinned (.plain (OpenSpec.upto vmMoreSpec)) vmMoreUptoCard

/-- THE SECOND FORM's CARD OF 'palisadelaw18.VmRoom'. -/
def vmRoomUptoCard : Claim7 := { stood := { row := vmRoomUptoRow, standIns := [], harness := (true, "97b61f0bd623ef3d69fbddfb02319582ff50019dec0b3188b78601686497a169"), looks := false }, kinds := [], alts := [], laidByText := true, laidKinds := [.data, .data], laidTests := true, laidLooks := .later }
def VmRoomUptoCardSaid : Prop := Claim7.holds Tryz.pinned (.plain (OpenSpec.upto vmRoomSpec)) vmRoomUptoCard

/-- THE SECOND FORM's CARD OF 'palisadelaw18.VmEnds'. -/
def vmEndsUptoCard : Claim7 := { stood := { row := vmEndsUptoRow, standIns := [], harness := (true, "97b61f0bd623ef3d69fbddfb02319582ff50019dec0b3188b78601686497a169"), looks := false }, kinds := [], alts := [], laidByText := true, laidKinds := [.data, .data], laidTests := true, laidLooks := .later }
def VmEndsUptoCardSaid : Prop := Claim7.holds Tryz.pinned (.plain (OpenSpec.upto vmEndsSpec)) vmEndsUptoCard

/-- THE SECOND FORM's CARD OF 'palisadelaw18.VmReckons'. -/
def vmReckonsUptoCard : Claim7 := { stood := { row := vmReckonsUptoRow, standIns := [], harness := (true, "97b61f0bd623ef3d69fbddfb02319582ff50019dec0b3188b78601686497a169"), looks := false }, kinds := [], alts := [], laidByText := true, laidKinds := [.data, .data], laidTests := true, laidLooks := .later }
def VmReckonsUptoCardSaid : Prop := Claim7.holds Tryz.pinned (.plain (OpenSpec.upto vmReckonsSpec)) vmReckonsUptoCard
end Rows
end Go.Proofs.YtmkncmmegjfipaaGreatDoor
