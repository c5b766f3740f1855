/-
  DERIVED. GIVEN WITH THE SEED: THE CARDS: each row of YtnkipiegjpjfbaaDoorRows.lean that lists a variable, with what it lists TIED to the program's text (the seventh form; the later family's looks); each row that meets fmt, with fmt's text TOLD by the authors' own Lean function (tested against real Go, not proved from fmt's source: count such statements apart). THE CARD IS WHAT COUNTS. Prove the row's statement (the work); the ties are given (YtnkipiegjpjfbaaDoorTie.lean); close each card by the builder's one call (the guide's Derived/Test/ToyasCard.lean, 'card_holds'). Laid BY PROGRAM, IN A SANDBOX (cutbox-door.mjs). By AI agents, Wed Nov 11 2026. No macro, syntax, notation, axiom, sorry.
-/
import Derived.Test.YtnkipiegjpjfbaaDoorRows
import GoSem.ClaimSeven
namespace Go.Proofs.YtnkipiegjpjfbaaDoor
namespace Rows

/-- THE TIED CARD OF 'palisadelaw03.ValueTells'. -/
def valueTellsCard : Claim7 := { stood := { row := valueTellsRow, standIns := [], harness := (true, "225abf8615c159262f6da663eaf985ad0da94c1cbb296d29250d0f36cb9458c5"), looks := false }, kinds := [], alts := [], laidByText := true, laidKinds := [.data, .data, .data], laidTests := true, laidLooks := .later }
def ValueTellsCardSaid : Prop := Claim7.holds Tryd.pinned (.plain (OpenSpec.ofChange valueTellsSpec)) valueTellsCard

/-- THE TIED CARD OF 'palisadelaw03.ValueAbove'. -/
def valueAboveCard : Claim7 := { stood := { row := valueAboveRow, standIns := [], harness := (true, "225abf8615c159262f6da663eaf985ad0da94c1cbb296d29250d0f36cb9458c5"), looks := false }, kinds := [], alts := [], laidByText := true, laidKinds := [.data, .data, .data], laidTests := true, laidLooks := .later }
def ValueAboveCardSaid : Prop := Claim7.holds Tryd.pinned (.plain (OpenSpec.ofChange valueAboveSpec)) valueAboveCard

/-- THE TIED CARD OF 'palisadelaw03.ValueMore'. -/
def valueMoreCard : Claim7 := { stood := { row := valueMoreRow, standIns := [], harness := (true, "225abf8615c159262f6da663eaf985ad0da94c1cbb296d29250d0f36cb9458c5"), looks := false }, kinds := [], alts := [], laidByText := true, laidKinds := [.data, .data, .data], laidTests := true, laidLooks := .later }
def ValueMoreCardSaid : Prop := Claim7.holds Tryd.pinned (.plain (OpenSpec.ofChange valueMoreSpec)) valueMoreCard

/-- THE TIED CARD OF 'palisadelaw03.ValueTexts'. -/
def valueTextsCard : Claim7 := { stood := { row := valueTextsRow, standIns := [], harness := (true, "225abf8615c159262f6da663eaf985ad0da94c1cbb296d29250d0f36cb9458c5"), looks := false }, kinds := [], alts := [], laidByText := true, laidKinds := [.data, .data, .data], laidTests := true, laidLooks := .later }
def ValueTextsCardSaid : Prop := Claim7.holds Tryd.pinned (.plain (OpenSpec.ofChange valueTextsSpec)) valueTextsCard

/-- THE TIED CARD OF 'palisadelaw03.ValuePairs'. -/
def valuePairsCard : Claim7 := { stood := { row := valuePairsRow, standIns := [], harness := (true, "225abf8615c159262f6da663eaf985ad0da94c1cbb296d29250d0f36cb9458c5"), looks := false }, kinds := [], alts := [], laidByText := true, laidKinds := [.data, .data, .data], laidTests := true, laidLooks := .later }
def ValuePairsCardSaid : Prop := Claim7.holds Tryd.pinned (.plain (OpenSpec.ofChange valuePairsSpec)) valuePairsCard

/-- THE SECOND FORM's CARD OF 'palisadelaw03.ValueTells'. -/
def valueTellsUptoCard : Claim7 := { stood := { row := valueTellsUptoRow, standIns := [], harness := (true, "225abf8615c159262f6da663eaf985ad0da94c1cbb296d29250d0f36cb9458c5"), looks := false }, kinds := [], alts := [], laidByText := true, laidKinds := [.data, .data, .data], laidTests := true, laidLooks := .later }
def ValueTellsUptoCardSaid : Prop := Claim7.holds Tryd.pinned (.plain (OpenSpec.upto valueTellsSpec)) valueTellsUptoCard

/-- THE SECOND FORM's CARD OF 'palisadelaw03.ValueAbove'. -/
def valueAboveUptoCard : Claim7 := { stood := { row := valueAboveUptoRow, standIns := [], harness := (true, "225abf8615c159262f6da663eaf985ad0da94c1cbb296d29250d0f36cb9458c5"), looks := false }, kinds := [], alts := [], laidByText := true, laidKinds := [.data, .data, .data], laidTests := true, laidLooks := .later }
def ValueAboveUptoCardSaid : Prop := Claim7.holds Tryd.pinned (.plain (OpenSpec.upto valueAboveSpec)) valueAboveUptoCard

/-- THE SECOND FORM's CARD OF 'palisadelaw03.ValueMore'. -/
def valueMoreUptoCard : Claim7 := { stood := { row := valueMoreUptoRow, standIns := [], harness := (true, "225abf8615c159262f6da663eaf985ad0da94c1cbb296d29250d0f36cb9458c5"), looks := false }, kinds := [], alts := [], laidByText := true, laidKinds := [.data, .data, .data], laidTests := true, laidLooks := .later }
def ValueMoreUptoCardSaid : Prop := Claim7.holds Tryd.pinned (.plain (OpenSpec.upto valueMoreSpec)) valueMoreUptoCard

/-- THE SECOND FORM's CARD OF 'palisadelaw03.ValueTexts'. -/
def valueTextsUptoCard : Claim7 := { stood := { row := valueTextsUptoRow, standIns := [], harness := (true, "225abf8615c159262f6da663eaf985ad0da94c1cbb296d29250d0f36cb9458c5"), looks := false }, kinds := [], alts := [], laidByText := true, laidKinds := [.data, .data, .data], laidTests := true, laidLooks := .later }
def ValueTextsUptoCardSaid : Prop := Claim7.holds Tryd.pinned (.plain (OpenSpec.upto valueTextsSpec)) valueTextsUptoCard

/-- THE SECOND FORM's CARD OF 'palisadelaw03.ValuePairs'. -/
def valuePairsUptoCard : Claim7 := { stood := { row := valuePairsUptoRow, standIns := [], harness := (true, "225abf8615c159262f6da663eaf985ad0da94c1cbb296d29250d0f36cb9458c5"), looks := false }, kinds := [], alts := [], laidByText := true, laidKinds := [.data, .data, .data], laidTests := true, laidLooks := .later }
def ValuePairsUptoCardSaid : Prop := Claim7.holds Tryd.pinned (.plain (OpenSpec.upto valuePairsSpec)) valuePairsUptoCard
end Rows
end Go.Proofs.YtnkipiegjpjfbaaDoor
