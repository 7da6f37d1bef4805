/-
  DERIVED. GIVEN WITH THE SEED: THE CARDS: each row of YtgjinkekepfnnaaDoorRows.lean that lists a variable, with what it lists TIED to the program's text (the seventh form; the later family's looks); each row that meets fmt, with fmt's text TOLD by the authors' own Lean function (tested against real Go, not proved from fmt's source: count such statements apart). THE CARD IS WHAT COUNTS. Prove the row's statement (the work); the ties are given (YtgjinkekepfnnaaDoorTie.lean); close each card by the builder's one call (the guide's Derived/Test/ToyasCard.lean, 'card_holds'). Laid BY PROGRAM, IN A SANDBOX (cutbox-door.mjs). By AI agents, Wed Nov 11 2026. No macro, syntax, notation, axiom, sorry.
-/
import Derived.Test.YtgjinkekepfnnaaDoorRows
import GoSem.ClaimSeven
namespace Go.Proofs.YtgjinkekepfnnaaDoor
namespace Rows

/-- THE TIED CARD OF 'copperplatelaw11.RuleTells'. -/
def ruleTellsCard : Claim7 := { stood := { row := ruleTellsRow, standIns := [], harness := (true, "6a6f65b3677868c34b4301f753f99968161d65dff22ea2de534f34fdff30d086"), looks := false }, kinds := [], alts := [], laidByText := true, laidKinds := [.data], laidTests := true, laidLooks := .later }
def RuleTellsCardSaid : Prop := Claim7.holds Tryd.pinned (.plain (OpenSpec.ofChange ruleTellsSpec)) ruleTellsCard

/-- THE TIED CARD OF 'copperplatelaw11.RuleOf'. -/
def ruleOfCard : Claim7 := { stood := { row := ruleOfRow, standIns := [], harness := (true, "6a6f65b3677868c34b4301f753f99968161d65dff22ea2de534f34fdff30d086"), looks := false }, kinds := [], alts := [], laidByText := true, laidKinds := [.data], laidTests := true, laidLooks := .later }
def RuleOfCardSaid : Prop := Claim7.holds Tryd.pinned (.plain (OpenSpec.ofChange ruleOfSpec)) ruleOfCard

/-- THE TIED CARD OF 'copperplatelaw11.RuleMarks'. -/
def ruleMarksCard : Claim7 := { stood := { row := ruleMarksRow, standIns := [], harness := (true, "6a6f65b3677868c34b4301f753f99968161d65dff22ea2de534f34fdff30d086"), looks := false }, kinds := [], alts := [], laidByText := true, laidKinds := [.data], laidTests := true, laidLooks := .later }
def RuleMarksCardSaid : Prop := Claim7.holds Tryd.pinned (.plain (OpenSpec.ofChange ruleMarksSpec)) ruleMarksCard

/-- THE TIED CARD OF 'copperplatelaw11.RulePlain'. -/
def rulePlainCard : Claim7 := { stood := { row := rulePlainRow, standIns := [], harness := (true, "6a6f65b3677868c34b4301f753f99968161d65dff22ea2de534f34fdff30d086"), looks := false }, kinds := [], alts := [], laidByText := true, laidKinds := [.data], laidTests := true, laidLooks := .later }
def RulePlainCardSaid : Prop := Claim7.holds Tryd.pinned (.plain (OpenSpec.ofChange rulePlainSpec)) rulePlainCard

/-- THE TIED CARD OF 'copperplatelaw11.RuleApart'. -/
def ruleApartCard : Claim7 := { stood := { row := ruleApartRow, standIns := [], harness := (true, "6a6f65b3677868c34b4301f753f99968161d65dff22ea2de534f34fdff30d086"), looks := false }, kinds := [], alts := [], laidByText := true, laidKinds := [.data], laidTests := true, laidLooks := .later }
def RuleApartCardSaid : Prop := Claim7.holds Tryd.pinned (.plain (OpenSpec.ofChange ruleApartSpec)) ruleApartCard

/-- THE TIED CARD OF 'copperplatelaw11.RuleUsed'. -/
def ruleUsedCard : Claim7 := { stood := { row := ruleUsedRow, standIns := [], harness := (true, "6a6f65b3677868c34b4301f753f99968161d65dff22ea2de534f34fdff30d086"), looks := false }, kinds := [], alts := [], laidByText := true, laidKinds := [.data], laidTests := true, laidLooks := .later }
def RuleUsedCardSaid : Prop := Claim7.holds Tryd.pinned (.plain (OpenSpec.ofChange ruleUsedSpec)) ruleUsedCard

/-- THE SECOND FORM's CARD OF 'copperplatelaw11.RuleTells'. -/
def ruleTellsUptoCard : Claim7 := { stood := { row := ruleTellsUptoRow, standIns := [], harness := (true, "6a6f65b3677868c34b4301f753f99968161d65dff22ea2de534f34fdff30d086"), looks := false }, kinds := [], alts := [], laidByText := true, laidKinds := [.data], laidTests := true, laidLooks := .later }
def RuleTellsUptoCardSaid : Prop := Claim7.holds Tryd.pinned (.plain (OpenSpec.upto ruleTellsSpec)) ruleTellsUptoCard

/-- THE SECOND FORM's CARD OF 'copperplatelaw11.RuleOf'. -/
def ruleOfUptoCard : Claim7 := { stood := { row := ruleOfUptoRow, standIns := [], harness := (true, "6a6f65b3677868c34b4301f753f99968161d65dff22ea2de534f34fdff30d086"), looks := false }, kinds := [], alts := [], laidByText := true, laidKinds := [.data], laidTests := true, laidLooks := .later }
def RuleOfUptoCardSaid : Prop := Claim7.holds Tryd.pinned (.plain (OpenSpec.upto ruleOfSpec)) ruleOfUptoCard

/-- THE SECOND FORM's CARD OF 'copperplatelaw11.RuleMarks'. -/
def ruleMarksUptoCard : Claim7 := { stood := { row := ruleMarksUptoRow, standIns := [], harness := (true, "6a6f65b3677868c34b4301f753f99968161d65dff22ea2de534f34fdff30d086"), looks := false }, kinds := [], alts := [], laidByText := true, laidKinds := [.data], laidTests := true, laidLooks := .later }
def RuleMarksUptoCardSaid : Prop := Claim7.holds Tryd.pinned (.plain (OpenSpec.upto ruleMarksSpec)) ruleMarksUptoCard

/-- THE SECOND FORM's CARD OF 'copperplatelaw11.RulePlain'. -/
def rulePlainUptoCard : Claim7 := { stood := { row := rulePlainUptoRow, standIns := [], harness := (true, "6a6f65b3677868c34b4301f753f99968161d65dff22ea2de534f34fdff30d086"), looks := false }, kinds := [], alts := [], laidByText := true, laidKinds := [.data], laidTests := true, laidLooks := .later }
def RulePlainUptoCardSaid : Prop := Claim7.holds Tryd.pinned (.plain (OpenSpec.upto rulePlainSpec)) rulePlainUptoCard

/-- THE SECOND FORM's CARD OF 'copperplatelaw11.RuleApart'. -/
def ruleApartUptoCard : Claim7 := { stood := { row := ruleApartUptoRow, standIns := [], harness := (true, "6a6f65b3677868c34b4301f753f99968161d65dff22ea2de534f34fdff30d086"), looks := false }, kinds := [], alts := [], laidByText := true, laidKinds := [.data], laidTests := true, laidLooks := .later }
def RuleApartUptoCardSaid : Prop := Claim7.holds Tryd.pinned (.plain (OpenSpec.upto ruleApartSpec)) ruleApartUptoCard

/-- THE SECOND FORM's CARD OF 'copperplatelaw11.RuleUsed'. -/
def ruleUsedUptoCard : Claim7 := { stood := { row := ruleUsedUptoRow, standIns := [], harness := (true, "6a6f65b3677868c34b4301f753f99968161d65dff22ea2de534f34fdff30d086"), looks := false }, kinds := [], alts := [], laidByText := true, laidKinds := [.data], laidTests := true, laidLooks := .later }
def RuleUsedUptoCardSaid : Prop := Claim7.holds Tryd.pinned (.plain (OpenSpec.upto ruleUsedSpec)) ruleUsedUptoCard
end Rows
end Go.Proofs.YtgjinkekepfnnaaDoor
