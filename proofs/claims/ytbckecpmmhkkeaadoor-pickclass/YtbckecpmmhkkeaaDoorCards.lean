/-
  DERIVED. GIVEN WITH THE SEED: THE CARDS: each row of YtbckecpmmhkkeaaDoorRows.lean that lists a variable, with what it lists TIED to the program's text (the seventh form; the later family's looks); each row that meets fmt, with fmt's text TOLD by the authors' own Lean function (tested against real Go, not proved from fmt's source: count such statements apart). THE CARD IS WHAT COUNTS. Prove the row's statement (the work); the ties are given (YtbckecpmmhkkeaaDoorTie.lean); close each card by the builder's one call (the guide's Derived/Test/ToyasCard.lean, 'card_holds'). Laid BY PROGRAM, IN A SANDBOX (cutbox-door.mjs). By AI agents, Wed Nov 11 2026. No macro, syntax, notation, axiom, sorry.
-/
import Derived.Test.YtbckecpmmhkkeaaDoorRows
import GoSem.ClaimSeven
namespace Go.Proofs.YtbckecpmmhkkeaaDoor
namespace Rows

/-- THE TIED CARD OF 'copperplatelaw12.PickTells'. -/
def pickTellsCard : Claim7 := { stood := { row := pickTellsRow, standIns := [], harness := (true, "018a4b81fec19a0eb55b1bdb020c6ad6582619bc0dc153f213cae0e965244f90"), looks := false }, kinds := [], alts := [], laidByText := true, laidKinds := [.data], laidTests := true, laidLooks := .later }
def PickTellsCardSaid : Prop := Claim7.holds Tryd.pinned (.plain (OpenSpec.ofChange pickTellsSpec)) pickTellsCard

/-- THE TIED CARD OF 'copperplatelaw12.PickOne'. -/
def pickOneCard : Claim7 := { stood := { row := pickOneRow, standIns := [], harness := (true, "018a4b81fec19a0eb55b1bdb020c6ad6582619bc0dc153f213cae0e965244f90"), looks := false }, kinds := [], alts := [], laidByText := true, laidKinds := [.data], laidTests := true, laidLooks := .later }
def PickOneCardSaid : Prop := Claim7.holds Tryd.pinned (.plain (OpenSpec.ofChange pickOneSpec)) pickOneCard

/-- THE TIED CARD OF 'copperplatelaw12.PickEnd'. -/
def pickEndCard : Claim7 := { stood := { row := pickEndRow, standIns := [], harness := (true, "018a4b81fec19a0eb55b1bdb020c6ad6582619bc0dc153f213cae0e965244f90"), looks := false }, kinds := [], alts := [], laidByText := true, laidKinds := [.data], laidTests := true, laidLooks := .later }
def PickEndCardSaid : Prop := Claim7.holds Tryd.pinned (.plain (OpenSpec.ofChange pickEndSpec)) pickEndCard

/-- THE TIED CARD OF 'copperplatelaw12.PickFollows'. -/
def pickFollowsCard : Claim7 := { stood := { row := pickFollowsRow, standIns := [], harness := (true, "018a4b81fec19a0eb55b1bdb020c6ad6582619bc0dc153f213cae0e965244f90"), looks := false }, kinds := [], alts := [], laidByText := true, laidKinds := [.data], laidTests := true, laidLooks := .later }
def PickFollowsCardSaid : Prop := Claim7.holds Tryd.pinned (.plain (OpenSpec.ofChange pickFollowsSpec)) pickFollowsCard

/-- THE TIED CARD OF 'copperplatelaw12.PickClass'. -/
def pickClassCard : Claim7 := { stood := { row := pickClassRow, standIns := [], harness := (true, "018a4b81fec19a0eb55b1bdb020c6ad6582619bc0dc153f213cae0e965244f90"), looks := false }, kinds := [], alts := [], laidByText := true, laidKinds := [.data], laidTests := true, laidLooks := .later }
def PickClassCardSaid : Prop := Claim7.holds Tryd.pinned (.plain (OpenSpec.ofChange pickClassSpec)) pickClassCard

/-- THE TIED CARD OF 'copperplatelaw12.PickRule'. -/
def pickRuleCard : Claim7 := { stood := { row := pickRuleRow, standIns := [], harness := (true, "018a4b81fec19a0eb55b1bdb020c6ad6582619bc0dc153f213cae0e965244f90"), looks := false }, kinds := [], alts := [], laidByText := true, laidKinds := [.data], laidTests := true, laidLooks := .later }
def PickRuleCardSaid : Prop := Claim7.holds Tryd.pinned (.plain (OpenSpec.ofChange pickRuleSpec)) pickRuleCard

/-- THE TIED CARD OF 'copperplatelaw12.PickBegins'. -/
def pickBeginsCard : Claim7 := { stood := { row := pickBeginsRow, standIns := [], harness := (true, "018a4b81fec19a0eb55b1bdb020c6ad6582619bc0dc153f213cae0e965244f90"), looks := false }, kinds := [], alts := [], laidByText := true, laidKinds := [.data], laidTests := true, laidLooks := .later }
def PickBeginsCardSaid : Prop := Claim7.holds Tryd.pinned (.plain (OpenSpec.ofChange pickBeginsSpec)) pickBeginsCard

/-- THE SECOND FORM's CARD OF 'copperplatelaw12.PickTells'. -/
def pickTellsUptoCard : Claim7 := { stood := { row := pickTellsUptoRow, standIns := [], harness := (true, "018a4b81fec19a0eb55b1bdb020c6ad6582619bc0dc153f213cae0e965244f90"), looks := false }, kinds := [], alts := [], laidByText := true, laidKinds := [.data], laidTests := true, laidLooks := .later }
def PickTellsUptoCardSaid : Prop := Claim7.holds Tryd.pinned (.plain (OpenSpec.upto pickTellsSpec)) pickTellsUptoCard

/-- THE SECOND FORM's CARD OF 'copperplatelaw12.PickOne'. -/
def pickOneUptoCard : Claim7 := { stood := { row := pickOneUptoRow, standIns := [], harness := (true, "018a4b81fec19a0eb55b1bdb020c6ad6582619bc0dc153f213cae0e965244f90"), looks := false }, kinds := [], alts := [], laidByText := true, laidKinds := [.data], laidTests := true, laidLooks := .later }
def PickOneUptoCardSaid : Prop := Claim7.holds Tryd.pinned (.plain (OpenSpec.upto pickOneSpec)) pickOneUptoCard

/-- THE SECOND FORM's CARD OF 'copperplatelaw12.PickEnd'. -/
def pickEndUptoCard : Claim7 := { stood := { row := pickEndUptoRow, standIns := [], harness := (true, "018a4b81fec19a0eb55b1bdb020c6ad6582619bc0dc153f213cae0e965244f90"), looks := false }, kinds := [], alts := [], laidByText := true, laidKinds := [.data], laidTests := true, laidLooks := .later }
def PickEndUptoCardSaid : Prop := Claim7.holds Tryd.pinned (.plain (OpenSpec.upto pickEndSpec)) pickEndUptoCard

/-- THE SECOND FORM's CARD OF 'copperplatelaw12.PickFollows'. -/
def pickFollowsUptoCard : Claim7 := { stood := { row := pickFollowsUptoRow, standIns := [], harness := (true, "018a4b81fec19a0eb55b1bdb020c6ad6582619bc0dc153f213cae0e965244f90"), looks := false }, kinds := [], alts := [], laidByText := true, laidKinds := [.data], laidTests := true, laidLooks := .later }
def PickFollowsUptoCardSaid : Prop := Claim7.holds Tryd.pinned (.plain (OpenSpec.upto pickFollowsSpec)) pickFollowsUptoCard

/-- THE SECOND FORM's CARD OF 'copperplatelaw12.PickClass'. -/
def pickClassUptoCard : Claim7 := { stood := { row := pickClassUptoRow, standIns := [], harness := (true, "018a4b81fec19a0eb55b1bdb020c6ad6582619bc0dc153f213cae0e965244f90"), looks := false }, kinds := [], alts := [], laidByText := true, laidKinds := [.data], laidTests := true, laidLooks := .later }
def PickClassUptoCardSaid : Prop := Claim7.holds Tryd.pinned (.plain (OpenSpec.upto pickClassSpec)) pickClassUptoCard

/-- THE SECOND FORM's CARD OF 'copperplatelaw12.PickRule'. -/
def pickRuleUptoCard : Claim7 := { stood := { row := pickRuleUptoRow, standIns := [], harness := (true, "018a4b81fec19a0eb55b1bdb020c6ad6582619bc0dc153f213cae0e965244f90"), looks := false }, kinds := [], alts := [], laidByText := true, laidKinds := [.data], laidTests := true, laidLooks := .later }
def PickRuleUptoCardSaid : Prop := Claim7.holds Tryd.pinned (.plain (OpenSpec.upto pickRuleSpec)) pickRuleUptoCard

/-- THE SECOND FORM's CARD OF 'copperplatelaw12.PickBegins'. -/
def pickBeginsUptoCard : Claim7 := { stood := { row := pickBeginsUptoRow, standIns := [], harness := (true, "018a4b81fec19a0eb55b1bdb020c6ad6582619bc0dc153f213cae0e965244f90"), looks := false }, kinds := [], alts := [], laidByText := true, laidKinds := [.data], laidTests := true, laidLooks := .later }
def PickBeginsUptoCardSaid : Prop := Claim7.holds Tryd.pinned (.plain (OpenSpec.upto pickBeginsSpec)) pickBeginsUptoCard
end Rows
end Go.Proofs.YtbckecpmmhkkeaaDoor
