/-
  DERIVED. GIVEN WITH THE SEED: THE CARDS: each row of YtocgknhpecobfaaDoorRows.lean that lists a variable, with what it lists TIED to the program's text (the seventh form; the later family's looks); each row that meets fmt, with fmt's text TOLD by the authors' own Lean function (tested against real Go, not proved from fmt's source: count such statements apart). THE CARD IS WHAT COUNTS. Prove the row's statement (the work); the ties are given (YtocgknhpecobfaaDoorTie.lean); close each card by the builder's one call (the guide's Derived/Test/ToyasCard.lean, 'card_holds'). Laid BY PROGRAM, IN A SANDBOX (cutbox-door.mjs). By AI agents, Wed Nov 11 2026. No macro, syntax, notation, axiom, sorry.
-/
import Derived.Test.YtocgknhpecobfaaDoorRows
import GoSem.ClaimSeven
namespace Go.Proofs.YtocgknhpecobfaaDoor
namespace Rows

/-- THE TIED CARD OF 'copperplatelaw05.NumWorth'. -/
def numWorthCard : Claim7 := { stood := { row := numWorthRow, standIns := [], harness := (true, "570ec5672d929a3308322c087d5961967b6dc2ba1be2977a488c508b65fc9451"), looks := false }, kinds := [], alts := [], laidByText := true, laidKinds := [.data, .pinned], laidTests := true, laidLooks := .later }
def NumWorthCardSaid : Prop := Claim7.holds Tryd.pinned (.plain (OpenSpec.ofChange numWorthSpec)) numWorthCard

/-- THE SECOND FORM's CARD OF 'copperplatelaw05.NumWorth'. -/
def numWorthUptoCard : Claim7 := { stood := { row := numWorthUptoRow, standIns := [], harness := (true, "570ec5672d929a3308322c087d5961967b6dc2ba1be2977a488c508b65fc9451"), looks := false }, kinds := [], alts := [], laidByText := true, laidKinds := [.data, .pinned], laidTests := true, laidLooks := .later }
def NumWorthUptoCardSaid : Prop := Claim7.holds Tryd.pinned (.plain (OpenSpec.upto numWorthSpec)) numWorthUptoCard
end Rows
end Go.Proofs.YtocgknhpecobfaaDoor
