/-
  DERIVED. GIVEN WITH THE SEED: THE CARDS: each row of YtfgmojnohienfaaDoorRows.lean that lists a variable, with what it lists TIED to the program's text (the seventh form; the later family's looks); each row that meets fmt, with fmt's text TOLD by the authors' own Lean function (tested against real Go, not proved from fmt's source: count such statements apart). THE CARD IS WHAT COUNTS. Prove the row's statement (the work); the ties are given (YtfgmojnohienfaaDoorTie.lean); close each card by the builder's one call (the guide's Derived/Test/ToyasCard.lean, 'card_holds'). Laid BY PROGRAM, IN A SANDBOX (cutbox-door.mjs). By AI agents, Wed Nov 11 2026. No macro, syntax, notation, axiom, sorry.
-/
import Derived.Test.YtfgmojnohienfaaDoorRows
import GoSem.ClaimSeven
namespace Go.Proofs.YtfgmojnohienfaaDoor
namespace Rows

/-- THE TIED CARD OF 'copperplatelaw15.DepthParsed'. -/
def depthParsedCard : Claim7 := { stood := { row := depthParsedRow, standIns := [], harness := (true, "1d044a69718aba2581e0edbfb4e5c749ce3cfed8c03b97ab6f5a1fb19afa2cc9"), looks := false }, kinds := [], alts := [], laidByText := true, laidKinds := [.data], laidTests := true, laidLooks := .later }
def DepthParsedCardSaid : Prop := Claim7.holds Tryd.pinned (.plain (OpenSpec.ofChange depthParsedSpec)) depthParsedCard

/-- THE SECOND FORM's CARD OF 'copperplatelaw15.DepthParsed'. -/
def depthParsedUptoCard : Claim7 := { stood := { row := depthParsedUptoRow, standIns := [], harness := (true, "1d044a69718aba2581e0edbfb4e5c749ce3cfed8c03b97ab6f5a1fb19afa2cc9"), looks := false }, kinds := [], alts := [], laidByText := true, laidKinds := [.data], laidTests := true, laidLooks := .later }
def DepthParsedUptoCardSaid : Prop := Claim7.holds Tryd.pinned (.plain (OpenSpec.upto depthParsedSpec)) depthParsedUptoCard
end Rows
end Go.Proofs.YtfgmojnohienfaaDoor
