/-
  DERIVED. GIVEN WITH THE SEED: THE CARDS: each row of YtpcijjdlppoblaaGreatDoorRows.lean that lists a variable, with what it lists TIED to the program's text (the seventh form; the later family's looks); each row that meets fmt, with fmt's text TOLD by the authors' own Lean function (tested against real Go, not proved from fmt's source: count such statements apart). THE CARD IS WHAT COUNTS. Prove the row's statement (the work); the ties are given (YtpcijjdlppoblaaGreatDoorTie.lean); close each card by the builder's one call (the guide's Derived/Test/ToyasCard.lean, 'card_holds'). Laid BY PROGRAM, IN A SANDBOX (cutbox-door.mjs). By AI agents, Wed Nov 11 2026. No macro, syntax, notation, axiom, sorry.
-/
import Derived.Test.YtpcijjdlppoblaaGreatDoorRows
import GoSem.ClaimSeven
namespace Go.Proofs.YtpcijjdlppoblaaGreatDoor
namespace Rows

/-- THE TIED CARD OF 'copperplatelaw16.MarkTells'. -/
def markTellsCard : Claim7 := { stood := { row := markTellsRow, standIns := [], harness := (true, "3a4d4df740528fe6fe9500bae3e0af8525833ee94fcab2a7dc23dfca5a7b9f00"), looks := true }, kinds := [], alts := [], laidByText := true, laidKinds := [.data, .data, .data], laidTests := true, laidLooks := .later }
def MarkTellsCardSaid : Prop := Claim7.holds Tryz.pinned (.plain (OpenSpec.ofChange markTellsSpec)) markTellsCard

/-- THE TIED CARD OF 'copperplatelaw16.MarkParsed'. -/
def markParsedCard : Claim7 := { stood := { row := markParsedRow, standIns := [], harness := (true, "3a4d4df740528fe6fe9500bae3e0af8525833ee94fcab2a7dc23dfca5a7b9f00"), looks := true }, kinds := [], alts := [], laidByText := true, laidKinds := [.data, .data, .data], laidTests := true, laidLooks := .later }
def MarkParsedCardSaid : Prop := Claim7.holds Tryz.pinned (.plain (OpenSpec.ofChange markParsedSpec)) markParsedCard

/-- THE TIED CARD OF 'copperplatelaw16.MarkMay'. -/
def markMayCard : Claim7 := { stood := { row := markMayRow, standIns := [], harness := (true, "3a4d4df740528fe6fe9500bae3e0af8525833ee94fcab2a7dc23dfca5a7b9f00"), looks := true }, kinds := [], alts := [], laidByText := true, laidKinds := [.data, .data, .data], laidTests := true, laidLooks := .later }
def MarkMayCardSaid : Prop := Claim7.holds Tryz.pinned (.plain (OpenSpec.ofChange markMaySpec)) markMayCard

/-- THE TIED CARD OF 'copperplatelaw16.MarkWords'. -/
def markWordsCard : Claim7 := { stood := { row := markWordsRow, standIns := [], harness := (true, "3a4d4df740528fe6fe9500bae3e0af8525833ee94fcab2a7dc23dfca5a7b9f00"), looks := true }, kinds := [], alts := [], laidByText := true, laidKinds := [.data, .data, .data], laidTests := true, laidLooks := .later }
def MarkWordsCardSaid : Prop := Claim7.holds Tryz.pinned (.plain (OpenSpec.ofChange markWordsSpec)) markWordsCard

/-- THE TIED CARD OF 'copperplatelaw16.MarkTexts'. -/
def markTextsCard : Claim7 := { stood := { row := markTextsRow, standIns := [], harness := (true, "3a4d4df740528fe6fe9500bae3e0af8525833ee94fcab2a7dc23dfca5a7b9f00"), looks := true }, kinds := [], alts := [], laidByText := true, laidKinds := [.data, .data, .data], laidTests := true, laidLooks := .later }
def MarkTextsCardSaid : Prop := Claim7.holds Tryz.pinned (.plain (OpenSpec.ofChange markTextsSpec)) markTextsCard

/-- THE TIED CARD OF 'copperplatelaw16.MarkOnly'. -/
def markOnlyCard : Claim7 := { stood := { row := markOnlyRow, standIns := [], harness := (true, "3a4d4df740528fe6fe9500bae3e0af8525833ee94fcab2a7dc23dfca5a7b9f00"), looks := true }, kinds := [], alts := [], laidByText := true, laidKinds := [.data, .data, .data], laidTests := true, laidLooks := .later }
def MarkOnlyCardSaid : Prop := Claim7.holds Tryz.pinned (.plain (OpenSpec.ofChange markOnlySpec)) markOnlyCard

/-- THE SECOND FORM's CARD OF 'copperplatelaw16.MarkTells'. -/
def markTellsUptoCard : Claim7 := { stood := { row := markTellsUptoRow, standIns := [], harness := (true, "3a4d4df740528fe6fe9500bae3e0af8525833ee94fcab2a7dc23dfca5a7b9f00"), looks := true }, kinds := [], alts := [], laidByText := true, laidKinds := [.data, .data, .data], laidTests := true, laidLooks := .later }
def MarkTellsUptoCardSaid : Prop := Claim7.holds Tryz.pinned (.plain (OpenSpec.upto markTellsSpec)) markTellsUptoCard

/-- THE SECOND FORM's CARD OF 'copperplatelaw16.MarkParsed'. -/
def markParsedUptoCard : Claim7 := { stood := { row := markParsedUptoRow, standIns := [], harness := (true, "3a4d4df740528fe6fe9500bae3e0af8525833ee94fcab2a7dc23dfca5a7b9f00"), looks := true }, kinds := [], alts := [], laidByText := true, laidKinds := [.data, .data, .data], laidTests := true, laidLooks := .later }
def MarkParsedUptoCardSaid : Prop := Claim7.holds Tryz.pinned (.plain (OpenSpec.upto markParsedSpec)) markParsedUptoCard

/-- THE SECOND FORM's CARD OF 'copperplatelaw16.MarkMay'. -/
def markMayUptoCard : Claim7 := { stood := { row := markMayUptoRow, standIns := [], harness := (true, "3a4d4df740528fe6fe9500bae3e0af8525833ee94fcab2a7dc23dfca5a7b9f00"), looks := true }, kinds := [], alts := [], laidByText := true, laidKinds := [.data, .data, .data], laidTests := true, laidLooks := .later }
def MarkMayUptoCardSaid : Prop := Claim7.holds Tryz.pinned (.plain (OpenSpec.upto markMaySpec)) markMayUptoCard

/-- THE SECOND FORM's CARD OF 'copperplatelaw16.MarkWords'. -/
def markWordsUptoCard : Claim7 := { stood := { row := markWordsUptoRow, standIns := [], harness := (true, "3a4d4df740528fe6fe9500bae3e0af8525833ee94fcab2a7dc23dfca5a7b9f00"), looks := true }, kinds := [], alts := [], laidByText := true, laidKinds := [.data, .data, .data], laidTests := true, laidLooks := .later }
def MarkWordsUptoCardSaid : Prop := Claim7.holds Tryz.pinned (.plain (OpenSpec.upto markWordsSpec)) markWordsUptoCard

/-- THE SECOND FORM's CARD OF 'copperplatelaw16.MarkTexts'. -/
def markTextsUptoCard : Claim7 := { stood := { row := markTextsUptoRow, standIns := [], harness := (true, "3a4d4df740528fe6fe9500bae3e0af8525833ee94fcab2a7dc23dfca5a7b9f00"), looks := true }, kinds := [], alts := [], laidByText := true, laidKinds := [.data, .data, .data], laidTests := true, laidLooks := .later }
def MarkTextsUptoCardSaid : Prop := Claim7.holds Tryz.pinned (.plain (OpenSpec.upto markTextsSpec)) markTextsUptoCard

/-- THE SECOND FORM's CARD OF 'copperplatelaw16.MarkOnly'. -/
def markOnlyUptoCard : Claim7 := { stood := { row := markOnlyUptoRow, standIns := [], harness := (true, "3a4d4df740528fe6fe9500bae3e0af8525833ee94fcab2a7dc23dfca5a7b9f00"), looks := true }, kinds := [], alts := [], laidByText := true, laidKinds := [.data, .data, .data], laidTests := true, laidLooks := .later }
def MarkOnlyUptoCardSaid : Prop := Claim7.holds Tryz.pinned (.plain (OpenSpec.upto markOnlySpec)) markOnlyUptoCard
end Rows
end Go.Proofs.YtpcijjdlppoblaaGreatDoor
