/-
  DERIVED. GIVEN WITH THE SEED: THE CARDS: each row of YtfaacngfccceeaaDoorRows.lean that lists a variable, with what it lists TIED to the program's text (the seventh form; the later family's looks); each row that meets fmt, with fmt's text TOLD by the authors' own Lean function (tested against real Go, not proved from fmt's source: count such statements apart). THE CARD IS WHAT COUNTS. Prove the row's statement (the work); the ties are given (YtfaacngfccceeaaDoorTie.lean); close each card by the builder's one call (the guide's Derived/Test/ToyasCard.lean, 'card_holds'). Laid BY PROGRAM, IN A SANDBOX (cutbox-door.mjs). By AI agents, Wed Nov 11 2026. No macro, syntax, notation, axiom, sorry.
-/
import Derived.Test.YtfaacngfccceeaaDoorRows
import GoSem.ClaimSeven
namespace Go.Proofs.YtfaacngfccceeaaDoor
namespace Rows

/-- THE TIED CARD OF 'copperplatelaw08.QuoteTells'. -/
def quoteTellsCard : Claim7 := { stood := { row := quoteTellsRow, standIns := [], harness := (true, "c74f8b7a8a5f5b553c03ef4cc1240302f82fa5c792e0522b026c29e7518de840"), looks := true }, kinds := [], alts := [], laidByText := true, laidKinds := [.data], laidTests := true, laidLooks := .later }
def QuoteTellsCardSaid : Prop := Claim7.holds Tryd.pinned (.plain (OpenSpec.ofChange quoteTellsSpec)) quoteTellsCard

/-- THE TIED CARD OF 'copperplatelaw08.QuoteBack'. -/
def quoteBackCard : Claim7 := { stood := { row := quoteBackRow, standIns := [], harness := (true, "c74f8b7a8a5f5b553c03ef4cc1240302f82fa5c792e0522b026c29e7518de840"), looks := true }, kinds := [], alts := [], laidByText := true, laidKinds := [.data], laidTests := true, laidLooks := .later }
def QuoteBackCardSaid : Prop := Claim7.holds Tryd.pinned (.plain (OpenSpec.ofChange quoteBackSpec)) quoteBackCard

/-- THE TIED CARD OF 'copperplatelaw08.QuoteApart'. -/
def quoteApartCard : Claim7 := { stood := { row := quoteApartRow, standIns := [], harness := (true, "c74f8b7a8a5f5b553c03ef4cc1240302f82fa5c792e0522b026c29e7518de840"), looks := true }, kinds := [], alts := [], laidByText := true, laidKinds := [.data], laidTests := true, laidLooks := .later }
def QuoteApartCardSaid : Prop := Claim7.holds Tryd.pinned (.plain (OpenSpec.ofChange quoteApartSpec)) quoteApartCard

/-- THE TIED CARD OF 'copperplatelaw08.QuoteText'. -/
def quoteTextCard : Claim7 := { stood := { row := quoteTextRow, standIns := [], harness := (true, "c74f8b7a8a5f5b553c03ef4cc1240302f82fa5c792e0522b026c29e7518de840"), looks := true }, kinds := [], alts := [], laidByText := true, laidKinds := [.data], laidTests := true, laidLooks := .later }
def QuoteTextCardSaid : Prop := Claim7.holds Tryd.pinned (.plain (OpenSpec.ofChange quoteTextSpec)) quoteTextCard

/-- THE TIED CARD OF 'copperplatelaw08.QuotePlain'. -/
def quotePlainCard : Claim7 := { stood := { row := quotePlainRow, standIns := [], harness := (true, "c74f8b7a8a5f5b553c03ef4cc1240302f82fa5c792e0522b026c29e7518de840"), looks := true }, kinds := [], alts := [], laidByText := true, laidKinds := [.data], laidTests := true, laidLooks := .later }
def QuotePlainCardSaid : Prop := Claim7.holds Tryd.pinned (.plain (OpenSpec.ofChange quotePlainSpec)) quotePlainCard

/-- THE TIED CARD OF 'copperplatelaw08.QuoteByte'. -/
def quoteByteCard : Claim7 := { stood := { row := quoteByteRow, standIns := [], harness := (true, "c74f8b7a8a5f5b553c03ef4cc1240302f82fa5c792e0522b026c29e7518de840"), looks := true }, kinds := [], alts := [], laidByText := true, laidKinds := [.data], laidTests := true, laidLooks := .later }
def QuoteByteCardSaid : Prop := Claim7.holds Tryd.pinned (.plain (OpenSpec.ofChange quoteByteSpec)) quoteByteCard

/-- THE SECOND FORM's CARD OF 'copperplatelaw08.QuoteTells'. -/
def quoteTellsUptoCard : Claim7 := { stood := { row := quoteTellsUptoRow, standIns := [], harness := (true, "c74f8b7a8a5f5b553c03ef4cc1240302f82fa5c792e0522b026c29e7518de840"), looks := true }, kinds := [], alts := [], laidByText := true, laidKinds := [.data], laidTests := true, laidLooks := .later }
def QuoteTellsUptoCardSaid : Prop := Claim7.holds Tryd.pinned (.plain (OpenSpec.upto quoteTellsSpec)) quoteTellsUptoCard

/-- THE SECOND FORM's CARD OF 'copperplatelaw08.QuoteBack'. -/
def quoteBackUptoCard : Claim7 := { stood := { row := quoteBackUptoRow, standIns := [], harness := (true, "c74f8b7a8a5f5b553c03ef4cc1240302f82fa5c792e0522b026c29e7518de840"), looks := true }, kinds := [], alts := [], laidByText := true, laidKinds := [.data], laidTests := true, laidLooks := .later }
def QuoteBackUptoCardSaid : Prop := Claim7.holds Tryd.pinned (.plain (OpenSpec.upto quoteBackSpec)) quoteBackUptoCard

/-- THE SECOND FORM's CARD OF 'copperplatelaw08.QuoteApart'. -/
def quoteApartUptoCard : Claim7 := { stood := { row := quoteApartUptoRow, standIns := [], harness := (true, "c74f8b7a8a5f5b553c03ef4cc1240302f82fa5c792e0522b026c29e7518de840"), looks := true }, kinds := [], alts := [], laidByText := true, laidKinds := [.data], laidTests := true, laidLooks := .later }
def QuoteApartUptoCardSaid : Prop := Claim7.holds Tryd.pinned (.plain (OpenSpec.upto quoteApartSpec)) quoteApartUptoCard

/-- THE SECOND FORM's CARD OF 'copperplatelaw08.QuoteText'. -/
def quoteTextUptoCard : Claim7 := { stood := { row := quoteTextUptoRow, standIns := [], harness := (true, "c74f8b7a8a5f5b553c03ef4cc1240302f82fa5c792e0522b026c29e7518de840"), looks := true }, kinds := [], alts := [], laidByText := true, laidKinds := [.data], laidTests := true, laidLooks := .later }
def QuoteTextUptoCardSaid : Prop := Claim7.holds Tryd.pinned (.plain (OpenSpec.upto quoteTextSpec)) quoteTextUptoCard

/-- THE SECOND FORM's CARD OF 'copperplatelaw08.QuotePlain'. -/
def quotePlainUptoCard : Claim7 := { stood := { row := quotePlainUptoRow, standIns := [], harness := (true, "c74f8b7a8a5f5b553c03ef4cc1240302f82fa5c792e0522b026c29e7518de840"), looks := true }, kinds := [], alts := [], laidByText := true, laidKinds := [.data], laidTests := true, laidLooks := .later }
def QuotePlainUptoCardSaid : Prop := Claim7.holds Tryd.pinned (.plain (OpenSpec.upto quotePlainSpec)) quotePlainUptoCard

/-- THE SECOND FORM's CARD OF 'copperplatelaw08.QuoteByte'. -/
def quoteByteUptoCard : Claim7 := { stood := { row := quoteByteUptoRow, standIns := [], harness := (true, "c74f8b7a8a5f5b553c03ef4cc1240302f82fa5c792e0522b026c29e7518de840"), looks := true }, kinds := [], alts := [], laidByText := true, laidKinds := [.data], laidTests := true, laidLooks := .later }
def QuoteByteUptoCardSaid : Prop := Claim7.holds Tryd.pinned (.plain (OpenSpec.upto quoteByteSpec)) quoteByteUptoCard
end Rows
end Go.Proofs.YtfaacngfccceeaaDoor
