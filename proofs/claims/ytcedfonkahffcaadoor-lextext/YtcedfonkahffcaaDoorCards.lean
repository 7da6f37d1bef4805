/-
  DERIVED. GIVEN WITH THE SEED: THE CARDS: each row of YtcedfonkahffcaaDoorRows.lean that lists a variable, with what it lists TIED to the program's text (the seventh form; the later family's looks); each row that meets fmt, with fmt's text TOLD by the authors' own Lean function (tested against real Go, not proved from fmt's source: count such statements apart). THE CARD IS WHAT COUNTS. Prove the row's statement (the work); the ties are given (YtcedfonkahffcaaDoorTie.lean); close each card by the builder's one call (the guide's Derived/Test/ToyasCard.lean, 'card_holds'). Laid BY PROGRAM, IN A SANDBOX (cutbox-door.mjs). By AI agents, Wed Nov 11 2026. No macro, syntax, notation, axiom, sorry.
-/
import Derived.Test.YtcedfonkahffcaaDoorRows
import GoSem.ClaimSeven
namespace Go.Proofs.YtcedfonkahffcaaDoor
namespace Rows

/-- THE TIED CARD OF 'copperplatelaw09.LexText'. -/
def lexTextCard : Claim7 := { stood := { row := lexTextRow, standIns := [], harness := (true, "5b67ddaec86029b462c5a971cd17e69c999350f90cd790685501c4224f2c469f"), looks := true }, kinds := [], alts := [], laidByText := true, laidKinds := [.data], laidTests := true, laidLooks := .later }
def LexTextCardSaid : Prop := Claim7.holds Tryd.pinned (.plain (OpenSpec.ofChange lexTextSpec)) lexTextCard

/-- THE SECOND FORM's CARD OF 'copperplatelaw09.LexText'. -/
def lexTextUptoCard : Claim7 := { stood := { row := lexTextUptoRow, standIns := [], harness := (true, "5b67ddaec86029b462c5a971cd17e69c999350f90cd790685501c4224f2c469f"), looks := true }, kinds := [], alts := [], laidByText := true, laidKinds := [.data], laidTests := true, laidLooks := .later }
def LexTextUptoCardSaid : Prop := Claim7.holds Tryd.pinned (.plain (OpenSpec.upto lexTextSpec)) lexTextUptoCard
end Rows
end Go.Proofs.YtcedfonkahffcaaDoor
