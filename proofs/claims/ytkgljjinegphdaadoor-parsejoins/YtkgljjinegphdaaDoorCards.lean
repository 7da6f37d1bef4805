/-
  DERIVED. GIVEN WITH THE SEED: THE CARDS: each row of YtkgljjinegphdaaDoorRows.lean that lists a variable, with what it lists TIED to the program's text (the seventh form; the later family's looks); each row that meets fmt, with fmt's text TOLD by the authors' own Lean function (tested against real Go, not proved from fmt's source: count such statements apart). THE CARD IS WHAT COUNTS. Prove the row's statement (the work); the ties are given (YtkgljjinegphdaaDoorTie.lean); close each card by the builder's one call (the guide's Derived/Test/ToyasCard.lean, 'card_holds'). Laid BY PROGRAM, IN A SANDBOX (cutbox-door.mjs). By AI agents, Wed Nov 11 2026. No macro, syntax, notation, axiom, sorry.
-/
import Derived.Test.YtkgljjinegphdaaDoorRows
import GoSem.ClaimSeven
namespace Go.Proofs.YtkgljjinegphdaaDoor
namespace Rows

/-- THE TIED CARD OF 'copperplatelaw13.ParseTells'. -/
def parseTellsCard : Claim7 := { stood := { row := parseTellsRow, standIns := [], harness := (true, "f7aed24eff0ec981d0b7f8a4ebecb3ea8cec081af1eee453cd0ed0368e970b85"), looks := false }, kinds := [], alts := [], laidByText := true, laidKinds := [.data], laidTests := true, laidLooks := .later }
def ParseTellsCardSaid : Prop := Claim7.holds Tryd.pinned (.plain (OpenSpec.ofChange parseTellsSpec)) parseTellsCard

/-- THE TIED CARD OF 'copperplatelaw13.ParseFirst'. -/
def parseFirstCard : Claim7 := { stood := { row := parseFirstRow, standIns := [], harness := (true, "f7aed24eff0ec981d0b7f8a4ebecb3ea8cec081af1eee453cd0ed0368e970b85"), looks := false }, kinds := [], alts := [], laidByText := true, laidKinds := [.data], laidTests := true, laidLooks := .later }
def ParseFirstCardSaid : Prop := Claim7.holds Tryd.pinned (.plain (OpenSpec.ofChange parseFirstSpec)) parseFirstCard

/-- THE TIED CARD OF 'copperplatelaw13.ParseSteps'. -/
def parseStepsCard : Claim7 := { stood := { row := parseStepsRow, standIns := [], harness := (true, "f7aed24eff0ec981d0b7f8a4ebecb3ea8cec081af1eee453cd0ed0368e970b85"), looks := false }, kinds := [], alts := [], laidByText := true, laidKinds := [.data], laidTests := true, laidLooks := .later }
def ParseStepsCardSaid : Prop := Claim7.holds Tryd.pinned (.plain (OpenSpec.ofChange parseStepsSpec)) parseStepsCard

/-- THE TIED CARD OF 'copperplatelaw13.ParseNames'. -/
def parseNamesCard : Claim7 := { stood := { row := parseNamesRow, standIns := [], harness := (true, "f7aed24eff0ec981d0b7f8a4ebecb3ea8cec081af1eee453cd0ed0368e970b85"), looks := false }, kinds := [], alts := [], laidByText := true, laidKinds := [.data], laidTests := true, laidLooks := .later }
def ParseNamesCardSaid : Prop := Claim7.holds Tryd.pinned (.plain (OpenSpec.ofChange parseNamesSpec)) parseNamesCard

/-- THE TIED CARD OF 'copperplatelaw13.ParseBraces'. -/
def parseBracesCard : Claim7 := { stood := { row := parseBracesRow, standIns := [], harness := (true, "f7aed24eff0ec981d0b7f8a4ebecb3ea8cec081af1eee453cd0ed0368e970b85"), looks := false }, kinds := [], alts := [], laidByText := true, laidKinds := [.data], laidTests := true, laidLooks := .later }
def ParseBracesCardSaid : Prop := Claim7.holds Tryd.pinned (.plain (OpenSpec.ofChange parseBracesSpec)) parseBracesCard

/-- THE TIED CARD OF 'copperplatelaw13.ParseJoins'. -/
def parseJoinsCard : Claim7 := { stood := { row := parseJoinsRow, standIns := [], harness := (true, "f7aed24eff0ec981d0b7f8a4ebecb3ea8cec081af1eee453cd0ed0368e970b85"), looks := false }, kinds := [], alts := [], laidByText := true, laidKinds := [.data], laidTests := true, laidLooks := .later }
def ParseJoinsCardSaid : Prop := Claim7.holds Tryd.pinned (.plain (OpenSpec.ofChange parseJoinsSpec)) parseJoinsCard

/-- THE TIED CARD OF 'copperplatelaw13.ParseNone'. -/
def parseNoneCard : Claim7 := { stood := { row := parseNoneRow, standIns := [], harness := (true, "f7aed24eff0ec981d0b7f8a4ebecb3ea8cec081af1eee453cd0ed0368e970b85"), looks := false }, kinds := [], alts := [], laidByText := true, laidKinds := [.data], laidTests := true, laidLooks := .later }
def ParseNoneCardSaid : Prop := Claim7.holds Tryd.pinned (.plain (OpenSpec.ofChange parseNoneSpec)) parseNoneCard

/-- THE SECOND FORM's CARD OF 'copperplatelaw13.ParseTells'. -/
def parseTellsUptoCard : Claim7 := { stood := { row := parseTellsUptoRow, standIns := [], harness := (true, "f7aed24eff0ec981d0b7f8a4ebecb3ea8cec081af1eee453cd0ed0368e970b85"), looks := false }, kinds := [], alts := [], laidByText := true, laidKinds := [.data], laidTests := true, laidLooks := .later }
def ParseTellsUptoCardSaid : Prop := Claim7.holds Tryd.pinned (.plain (OpenSpec.upto parseTellsSpec)) parseTellsUptoCard

/-- THE SECOND FORM's CARD OF 'copperplatelaw13.ParseFirst'. -/
def parseFirstUptoCard : Claim7 := { stood := { row := parseFirstUptoRow, standIns := [], harness := (true, "f7aed24eff0ec981d0b7f8a4ebecb3ea8cec081af1eee453cd0ed0368e970b85"), looks := false }, kinds := [], alts := [], laidByText := true, laidKinds := [.data], laidTests := true, laidLooks := .later }
def ParseFirstUptoCardSaid : Prop := Claim7.holds Tryd.pinned (.plain (OpenSpec.upto parseFirstSpec)) parseFirstUptoCard

/-- THE SECOND FORM's CARD OF 'copperplatelaw13.ParseSteps'. -/
def parseStepsUptoCard : Claim7 := { stood := { row := parseStepsUptoRow, standIns := [], harness := (true, "f7aed24eff0ec981d0b7f8a4ebecb3ea8cec081af1eee453cd0ed0368e970b85"), looks := false }, kinds := [], alts := [], laidByText := true, laidKinds := [.data], laidTests := true, laidLooks := .later }
def ParseStepsUptoCardSaid : Prop := Claim7.holds Tryd.pinned (.plain (OpenSpec.upto parseStepsSpec)) parseStepsUptoCard

/-- THE SECOND FORM's CARD OF 'copperplatelaw13.ParseNames'. -/
def parseNamesUptoCard : Claim7 := { stood := { row := parseNamesUptoRow, standIns := [], harness := (true, "f7aed24eff0ec981d0b7f8a4ebecb3ea8cec081af1eee453cd0ed0368e970b85"), looks := false }, kinds := [], alts := [], laidByText := true, laidKinds := [.data], laidTests := true, laidLooks := .later }
def ParseNamesUptoCardSaid : Prop := Claim7.holds Tryd.pinned (.plain (OpenSpec.upto parseNamesSpec)) parseNamesUptoCard

/-- THE SECOND FORM's CARD OF 'copperplatelaw13.ParseBraces'. -/
def parseBracesUptoCard : Claim7 := { stood := { row := parseBracesUptoRow, standIns := [], harness := (true, "f7aed24eff0ec981d0b7f8a4ebecb3ea8cec081af1eee453cd0ed0368e970b85"), looks := false }, kinds := [], alts := [], laidByText := true, laidKinds := [.data], laidTests := true, laidLooks := .later }
def ParseBracesUptoCardSaid : Prop := Claim7.holds Tryd.pinned (.plain (OpenSpec.upto parseBracesSpec)) parseBracesUptoCard

/-- THE SECOND FORM's CARD OF 'copperplatelaw13.ParseJoins'. -/
def parseJoinsUptoCard : Claim7 := { stood := { row := parseJoinsUptoRow, standIns := [], harness := (true, "f7aed24eff0ec981d0b7f8a4ebecb3ea8cec081af1eee453cd0ed0368e970b85"), looks := false }, kinds := [], alts := [], laidByText := true, laidKinds := [.data], laidTests := true, laidLooks := .later }
def ParseJoinsUptoCardSaid : Prop := Claim7.holds Tryd.pinned (.plain (OpenSpec.upto parseJoinsSpec)) parseJoinsUptoCard

/-- THE SECOND FORM's CARD OF 'copperplatelaw13.ParseNone'. -/
def parseNoneUptoCard : Claim7 := { stood := { row := parseNoneUptoRow, standIns := [], harness := (true, "f7aed24eff0ec981d0b7f8a4ebecb3ea8cec081af1eee453cd0ed0368e970b85"), looks := false }, kinds := [], alts := [], laidByText := true, laidKinds := [.data], laidTests := true, laidLooks := .later }
def ParseNoneUptoCardSaid : Prop := Claim7.holds Tryd.pinned (.plain (OpenSpec.upto parseNoneSpec)) parseNoneUptoCard
end Rows
end Go.Proofs.YtkgljjinegphdaaDoor
