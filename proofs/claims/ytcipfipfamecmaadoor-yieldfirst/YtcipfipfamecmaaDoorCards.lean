/-
  DERIVED. GIVEN WITH THE SEED: THE CARDS: each row of YtcipfipfamecmaaDoorRows.lean that lists a variable, with what it lists TIED to the program's text (the seventh form; the later family's looks); each row that meets fmt, with fmt's text TOLD by the authors' own Lean function (tested against real Go, not proved from fmt's source: count such statements apart). THE CARD IS WHAT COUNTS. Prove the row's statement (the work); the ties are given (YtcipfipfamecmaaDoorTie.lean); close each card by the builder's one call (the guide's Derived/Test/ToyasCard.lean, 'card_holds'). Laid BY PROGRAM, IN A SANDBOX (cutbox-door.mjs). By AI agents, Wed Nov 11 2026. No macro, syntax, notation, axiom, sorry.
-/
import Derived.Test.YtcipfipfamecmaaDoorRows
import GoSem.ClaimSeven
namespace Go.Proofs.YtcipfipfamecmaaDoor
namespace Rows

/-- THE TIED CARD OF 'copperplatelaw14.YieldTells'. -/
def yieldTellsCard : Claim7 := { stood := { row := yieldTellsRow, standIns := [], harness := (true, "011e447c2f383ba4201d7df3f7d0b88ccb3645e9bde8285833eb23381459f8ab"), looks := true }, kinds := [], alts := [], laidByText := true, laidKinds := [.data], laidTests := true, laidLooks := .later }
def YieldTellsCardSaid : Prop := Claim7.holds Tryd.pinned (.plain (OpenSpec.ofChange yieldTellsSpec)) yieldTellsCard

/-- THE TIED CARD OF 'copperplatelaw14.YieldBack'. -/
def yieldBackCard : Claim7 := { stood := { row := yieldBackRow, standIns := [], harness := (true, "011e447c2f383ba4201d7df3f7d0b88ccb3645e9bde8285833eb23381459f8ab"), looks := true }, kinds := [], alts := [], laidByText := true, laidKinds := [.data], laidTests := true, laidLooks := .later }
def YieldBackCardSaid : Prop := Claim7.holds Tryd.pinned (.plain (OpenSpec.ofChange yieldBackSpec)) yieldBackCard

/-- THE TIED CARD OF 'copperplatelaw14.YieldOnly'. -/
def yieldOnlyCard : Claim7 := { stood := { row := yieldOnlyRow, standIns := [], harness := (true, "011e447c2f383ba4201d7df3f7d0b88ccb3645e9bde8285833eb23381459f8ab"), looks := true }, kinds := [], alts := [], laidByText := true, laidKinds := [.data], laidTests := true, laidLooks := .later }
def YieldOnlyCardSaid : Prop := Claim7.holds Tryd.pinned (.plain (OpenSpec.ofChange yieldOnlySpec)) yieldOnlyCard

/-- THE TIED CARD OF 'copperplatelaw14.YieldFails'. -/
def yieldFailsCard : Claim7 := { stood := { row := yieldFailsRow, standIns := [], harness := (true, "011e447c2f383ba4201d7df3f7d0b88ccb3645e9bde8285833eb23381459f8ab"), looks := true }, kinds := [], alts := [], laidByText := true, laidKinds := [.data], laidTests := true, laidLooks := .later }
def YieldFailsCardSaid : Prop := Claim7.holds Tryd.pinned (.plain (OpenSpec.ofChange yieldFailsSpec)) yieldFailsCard

/-- THE TIED CARD OF 'copperplatelaw14.YieldPlain'. -/
def yieldPlainCard : Claim7 := { stood := { row := yieldPlainRow, standIns := [], harness := (true, "011e447c2f383ba4201d7df3f7d0b88ccb3645e9bde8285833eb23381459f8ab"), looks := true }, kinds := [], alts := [], laidByText := true, laidKinds := [.data], laidTests := true, laidLooks := .later }
def YieldPlainCardSaid : Prop := Claim7.holds Tryd.pinned (.plain (OpenSpec.ofChange yieldPlainSpec)) yieldPlainCard

/-- THE TIED CARD OF 'copperplatelaw14.YieldFirst'. -/
def yieldFirstCard : Claim7 := { stood := { row := yieldFirstRow, standIns := [], harness := (true, "011e447c2f383ba4201d7df3f7d0b88ccb3645e9bde8285833eb23381459f8ab"), looks := true }, kinds := [], alts := [], laidByText := true, laidKinds := [.data], laidTests := true, laidLooks := .later }
def YieldFirstCardSaid : Prop := Claim7.holds Tryd.pinned (.plain (OpenSpec.ofChange yieldFirstSpec)) yieldFirstCard

/-- THE TIED CARD OF 'copperplatelaw14.YieldJoins'. -/
def yieldJoinsCard : Claim7 := { stood := { row := yieldJoinsRow, standIns := [], harness := (true, "011e447c2f383ba4201d7df3f7d0b88ccb3645e9bde8285833eb23381459f8ab"), looks := true }, kinds := [], alts := [], laidByText := true, laidKinds := [.data], laidTests := true, laidLooks := .later }
def YieldJoinsCardSaid : Prop := Claim7.holds Tryd.pinned (.plain (OpenSpec.ofChange yieldJoinsSpec)) yieldJoinsCard

/-- THE SECOND FORM's CARD OF 'copperplatelaw14.YieldTells'. -/
def yieldTellsUptoCard : Claim7 := { stood := { row := yieldTellsUptoRow, standIns := [], harness := (true, "011e447c2f383ba4201d7df3f7d0b88ccb3645e9bde8285833eb23381459f8ab"), looks := true }, kinds := [], alts := [], laidByText := true, laidKinds := [.data], laidTests := true, laidLooks := .later }
def YieldTellsUptoCardSaid : Prop := Claim7.holds Tryd.pinned (.plain (OpenSpec.upto yieldTellsSpec)) yieldTellsUptoCard

/-- THE SECOND FORM's CARD OF 'copperplatelaw14.YieldBack'. -/
def yieldBackUptoCard : Claim7 := { stood := { row := yieldBackUptoRow, standIns := [], harness := (true, "011e447c2f383ba4201d7df3f7d0b88ccb3645e9bde8285833eb23381459f8ab"), looks := true }, kinds := [], alts := [], laidByText := true, laidKinds := [.data], laidTests := true, laidLooks := .later }
def YieldBackUptoCardSaid : Prop := Claim7.holds Tryd.pinned (.plain (OpenSpec.upto yieldBackSpec)) yieldBackUptoCard

/-- THE SECOND FORM's CARD OF 'copperplatelaw14.YieldOnly'. -/
def yieldOnlyUptoCard : Claim7 := { stood := { row := yieldOnlyUptoRow, standIns := [], harness := (true, "011e447c2f383ba4201d7df3f7d0b88ccb3645e9bde8285833eb23381459f8ab"), looks := true }, kinds := [], alts := [], laidByText := true, laidKinds := [.data], laidTests := true, laidLooks := .later }
def YieldOnlyUptoCardSaid : Prop := Claim7.holds Tryd.pinned (.plain (OpenSpec.upto yieldOnlySpec)) yieldOnlyUptoCard

/-- THE SECOND FORM's CARD OF 'copperplatelaw14.YieldFails'. -/
def yieldFailsUptoCard : Claim7 := { stood := { row := yieldFailsUptoRow, standIns := [], harness := (true, "011e447c2f383ba4201d7df3f7d0b88ccb3645e9bde8285833eb23381459f8ab"), looks := true }, kinds := [], alts := [], laidByText := true, laidKinds := [.data], laidTests := true, laidLooks := .later }
def YieldFailsUptoCardSaid : Prop := Claim7.holds Tryd.pinned (.plain (OpenSpec.upto yieldFailsSpec)) yieldFailsUptoCard

/-- THE SECOND FORM's CARD OF 'copperplatelaw14.YieldPlain'. -/
def yieldPlainUptoCard : Claim7 := { stood := { row := yieldPlainUptoRow, standIns := [], harness := (true, "011e447c2f383ba4201d7df3f7d0b88ccb3645e9bde8285833eb23381459f8ab"), looks := true }, kinds := [], alts := [], laidByText := true, laidKinds := [.data], laidTests := true, laidLooks := .later }
def YieldPlainUptoCardSaid : Prop := Claim7.holds Tryd.pinned (.plain (OpenSpec.upto yieldPlainSpec)) yieldPlainUptoCard

/-- THE SECOND FORM's CARD OF 'copperplatelaw14.YieldFirst'. -/
def yieldFirstUptoCard : Claim7 := { stood := { row := yieldFirstUptoRow, standIns := [], harness := (true, "011e447c2f383ba4201d7df3f7d0b88ccb3645e9bde8285833eb23381459f8ab"), looks := true }, kinds := [], alts := [], laidByText := true, laidKinds := [.data], laidTests := true, laidLooks := .later }
def YieldFirstUptoCardSaid : Prop := Claim7.holds Tryd.pinned (.plain (OpenSpec.upto yieldFirstSpec)) yieldFirstUptoCard

/-- THE SECOND FORM's CARD OF 'copperplatelaw14.YieldJoins'. -/
def yieldJoinsUptoCard : Claim7 := { stood := { row := yieldJoinsUptoRow, standIns := [], harness := (true, "011e447c2f383ba4201d7df3f7d0b88ccb3645e9bde8285833eb23381459f8ab"), looks := true }, kinds := [], alts := [], laidByText := true, laidKinds := [.data], laidTests := true, laidLooks := .later }
def YieldJoinsUptoCardSaid : Prop := Claim7.holds Tryd.pinned (.plain (OpenSpec.upto yieldJoinsSpec)) yieldJoinsUptoCard
end Rows
end Go.Proofs.YtcipfipfamecmaaDoor
