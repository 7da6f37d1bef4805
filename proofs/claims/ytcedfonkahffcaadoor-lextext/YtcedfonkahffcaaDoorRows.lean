/-
  NARROWER THAN 'FOR EVERY INPUT', by the rows' own cells (each row's printed sentence says how): LexText: laid.
  DERIVED. THE GIVEN ROWS OF THIS SEAT. 1 by the template 'for every input the law returns true; each argument reads behind the call as it read before'; 0 by the template 'total and deterministic' (their statements: YtcedfonkahffcaaDoorTotals.lean).
  GIVEN WITH THE SEED: the statements are not yours to turn. If you find one false, say at which input.
  Laid BY PROGRAM, IN A SANDBOX (cutbox-rows.mjs): the forced cells as the released guide's own fill.sh prints them over the translation 5f16429cbae874d3… (all of the seat's roots in one cut). By AI agents, Wed Nov 11 2026. No macro, syntax, notation, axiom, sorry.
-/
import Derived.Test.YtcedfonkahffcaaDoorChecked
import GoSem.Claim
import GoSem.ClaimJoined
import GoSem.ClaimMapViews
import Derived.JoinedTies
import Derived.KernelRfl
namespace Go.Proofs.YtcedfonkahffcaaDoor
/- THE CELL 'sum', in the pinned program and in every row, IS THE sha256 OF THE DUMP (.gsa) THAT YtcedfonkahffcaaDoorProg.lean LOADS. Nothing in Lean hashes anything: it is a label: what it is worth is what the hold of that sum in a sandbox is worth. -/
noncomputable def Tryd.pinned : Pinned := { name := "ytcedfonkahffcaadoor", sum := "5f16429cbae874d3f88d20ea605782d78faafe2da689203e05dbdd1b333ed422", checked := Tryd.checked }
namespace Rows
def none {H : Type} : Left H := { results := [], args := [] }

/- WHAT THE LISTED PACKAGE-LEVEL VARIABLES READ AS WHEN THE CALL BEGINS. Each datum BY PROGRAM (the guide's laid-datum.mjs) off the statement by which the dump's own 'gosem.cut.vars' lays the variable. In a bare row this is a premise. The card (YtcedfonkahffcaaDoorCards.lean) ties it to the program's text. -/
def laid_copperplate_quote_standsFor {H : Type} : DataW H := .agg [.lit (.string [92, 117, 48, 48, 48, 48]), .lit (.string [92, 117, 48, 48, 48, 49]), .lit (.string [92, 117, 48, 48, 48, 50]), .lit (.string [92, 117, 48, 48, 48, 51]), .lit (.string [92, 117, 48, 48, 48, 52]), .lit (.string [92, 117, 48, 48, 48, 53]), .lit (.string [92, 117, 48, 48, 48, 54]), .lit (.string [92, 117, 48, 48, 48, 55]), .lit (.string [92, 98]), .lit (.string [92, 116]), .lit (.string [92, 110]), .lit (.string [92, 117, 48, 48, 48, 98]), .lit (.string [92, 102]), .lit (.string [92, 114]), .lit (.string [92, 117, 48, 48, 48, 101]), .lit (.string [92, 117, 48, 48, 48, 102]), .lit (.string [92, 117, 48, 48, 49, 48]), .lit (.string [92, 117, 48, 48, 49, 49]), .lit (.string [92, 117, 48, 48, 49, 50]), .lit (.string [92, 117, 48, 48, 49, 51]), .lit (.string [92, 117, 48, 48, 49, 52]), .lit (.string [92, 117, 48, 48, 49, 53]), .lit (.string [92, 117, 48, 48, 49, 54]), .lit (.string [92, 117, 48, 48, 49, 55]), .lit (.string [92, 117, 48, 48, 49, 56]), .lit (.string [92, 117, 48, 48, 49, 57]), .lit (.string [92, 117, 48, 48, 49, 97]), .lit (.string [92, 117, 48, 48, 49, 98]), .lit (.string [92, 117, 48, 48, 49, 99]), .lit (.string [92, 117, 48, 48, 49, 100]), .lit (.string [92, 117, 48, 48, 49, 101]), .lit (.string [92, 117, 48, 48, 49, 102]), .lit (.string []), .lit (.string []), .lit (.string [92, 34]), .lit (.string []), .lit (.string []), .lit (.string []), .lit (.string []), .lit (.string []), .lit (.string []), .lit (.string []), .lit (.string []), .lit (.string []), .lit (.string []), .lit (.string []), .lit (.string []), .lit (.string []), .lit (.string []), .lit (.string []), .lit (.string []), .lit (.string []), .lit (.string []), .lit (.string []), .lit (.string []), .lit (.string []), .lit (.string []), .lit (.string []), .lit (.string []), .lit (.string []), .lit (.string []), .lit (.string []), .lit (.string []), .lit (.string []), .lit (.string []), .lit (.string []), .lit (.string []), .lit (.string []), .lit (.string []), .lit (.string []), .lit (.string []), .lit (.string []), .lit (.string []), .lit (.string []), .lit (.string []), .lit (.string []), .lit (.string []), .lit (.string []), .lit (.string []), .lit (.string []), .lit (.string []), .lit (.string []), .lit (.string []), .lit (.string []), .lit (.string []), .lit (.string []), .lit (.string []), .lit (.string []), .lit (.string []), .lit (.string []), .lit (.string []), .lit (.string []), .lit (.string [92, 92])]

/-- 'copperplatelaw09.LexText': WHATEVER THE INPUT: true; the input reads as it did. -/
def lexTextSpec : ChangeSpec := { name := "lexText", fn := fun _ => fun
  | [d1, d2] => { results := [.lit (.bool true)], args := [d1, d2] }
  | _ => none }
def lexTextRow : OpenClaim := { program := "ytcedfonkahffcaadoor", sum := "5f16429cbae874d3f88d20ea605782d78faafe2da689203e05dbdd1b333ed422", func := "copperplate/copperplatelaw09.LexText", spec := "lexText", inPlace := ["internal/bytealg.IndexByteString", "internal/abi.NoEscape", "internal/bytealg.MakeNoZero"], unfollowed := true, recurses := true, named := ["copperplate/quote.standsFor"], apart := false, laid := [("copperplate/quote.standsFor", laid_copperplate_quote_standsFor)] }
def LexTextSaid : Prop := lexTextRow.holds Tryd.pinned (OpenSpec.ofChange lexTextSpec)

/-- ITS FALSE NEIGHBOUR: 'it returns false'. Refute it at one input. -/
def lexTextWrong : ChangeSpec := { name := "lexText", fn := fun _ => fun
  | [d1, d2] => { results := [.lit (.bool false)], args := [d1, d2] }
  | _ => none }
def LexTextWrongFalsely : Prop := lexTextRow.holds Tryd.pinned (OpenSpec.ofChange lexTextWrong)

/- THE SECOND FORM. 'bulk': how many values and letters a reading holds, each counted each time it is reached (what is shared counts as often as it is met; a slice's spare places count too). A statement '..UptoSaid' is the law's where the arguments, and the package variables that the reading takes, are together of bulk at most 1048576: NARROWER than '..Said'. Prove '..Said' where nothing that the law and all that it calls make is longer than what came in: it says more and counts as full. Else prove '..UptoSaid'. A law counts once. -/
mutual
def uptoBulk {H : Type} : DataW H → Nat
  | .lit (.string bytes) => bytes.length + 1
  | .lit _ => 1
  | .nil => 1
  | .ptr d => uptoBulk d + 1
  | .slice elems spare => uptoBulkAll elems + uptoBulkAll spare + 1
  | .agg parts => uptoBulkAll parts + 1
  | .iface _ d => uptoBulk d + 1
  | .map entries => uptoBulkEntries entries + 1
  | .held _ => 1
def uptoBulkAll {H : Type} : List (DataW H) → Nat
  | [] => 0
  | d :: r => uptoBulk d + uptoBulkAll r
def uptoBulkEntries {H : Type} : List (Lit × DataW H) → Nat
  | [] => 0
  | x :: r => uptoBulkEntry x + uptoBulkEntries r
def uptoBulkEntry {H : Type} : Lit × DataW H → Nat
  | (.string bytes, d) => bytes.length + uptoBulk d + 1
  | (_, d) => uptoBulk d + 1
 end
def uptoSmall : (H : Type) → List (DataW H) → Bool := fun _ ds => decide (uptoBulkAll ds ≤ 1048576)
def OpenSpec.upto (s : _root_.Go.ChangeSpec) : _root_.Go.OpenSpec := { _root_.Go.OpenSpec.ofChange s with cond := some uptoSmall }

/-- 'copperplatelaw09.LexText', WHERE WHAT IT READS IS OF BULK AT MOST 1048576: true; the input reads as it did. -/
def lexTextUptoRow : OpenClaim := { program := "ytcedfonkahffcaadoor", sum := "5f16429cbae874d3f88d20ea605782d78faafe2da689203e05dbdd1b333ed422", func := "copperplate/copperplatelaw09.LexText", spec := "lexText", inPlace := ["internal/bytealg.IndexByteString", "internal/abi.NoEscape", "internal/bytealg.MakeNoZero"], unfollowed := true, recurses := true, named := ["copperplate/quote.standsFor"], apart := false, laid := [("copperplate/quote.standsFor", laid_copperplate_quote_standsFor)], narrowed := true }
def LexTextUptoSaid : Prop := lexTextUptoRow.holds Tryd.pinned (OpenSpec.upto lexTextSpec)

end Rows
end Go.Proofs.YtcedfonkahffcaaDoor
