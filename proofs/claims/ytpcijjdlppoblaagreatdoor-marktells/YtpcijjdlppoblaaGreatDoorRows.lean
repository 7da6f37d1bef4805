/-
  NARROWER THAN 'FOR EVERY INPUT', by the rows' own cells (each row's printed sentence says how): MarkTells: laid · MarkParsed: laid · MarkMay: laid · MarkWords: laid · MarkTexts: laid · MarkOnly: laid.
  DERIVED. THE GIVEN ROWS OF THIS SEAT. 6 by the template 'for every input the law returns true; each argument reads behind the call as it read before'; 0 by the template 'total and deterministic' (their statements: YtpcijjdlppoblaaGreatDoorTotals.lean).
  GIVEN WITH THE SEED: the statements are not yours to turn. If you find one false, say at which input.
  Laid BY PROGRAM, IN A SANDBOX (cutbox-rows.mjs): the forced cells as the released guide's own fill.sh prints them over the translation f0b73ba4a16c1468… (all of the seat's roots in one cut). By AI agents, Wed Nov 11 2026. No macro, syntax, notation, axiom, sorry.
-/
import Derived.Test.YtpcijjdlppoblaaGreatDoorChecked
import GoSem.Claim
import GoSem.ClaimJoined
import GoSem.ClaimMapViews
import Derived.JoinedTies
import Derived.KernelRfl
namespace Go.Proofs.YtpcijjdlppoblaaGreatDoor
/- THE CELL 'sum', in the pinned program and in every row, IS THE sha256 OF THE DUMP (.gsa) THAT YtpcijjdlppoblaaGreatDoorProg.lean LOADS. Nothing in Lean hashes anything: it is a label: what it is worth is what the hold of that sum in a sandbox is worth. -/
noncomputable def Tryz.pinned : Pinned := { name := "ytpcijjdlppoblaagreatdoor", sum := "f0b73ba4a16c1468963cd895b125f385056a58fbd9a4128796af71a2f95ec3f0", checked := Tryz.checked }
namespace Rows
def none {H : Type} : Left H := { results := [], args := [] }

/- WHAT THE LISTED PACKAGE-LEVEL VARIABLES READ AS WHEN THE CALL BEGINS. Each datum BY PROGRAM (the guide's laid-datum.mjs) off the statement by which the dump's own 'gosem.cut.vars' lays the variable. In a bare row this is a premise. The card (YtpcijjdlppoblaaGreatDoorCards.lean) ties it to the program's text. -/
def laid_copperplate_kind_texts {H : Type} : DataW H := .agg [.lit (.string []), .lit (.string [33]), .lit (.string [36]), .lit (.string [38]), .lit (.string [40]), .lit (.string [41]), .lit (.string [46, 46, 46]), .lit (.string [58]), .lit (.string [61]), .lit (.string [64]), .lit (.string [91]), .lit (.string [93]), .lit (.string [123]), .lit (.string [124]), .lit (.string [125]), .lit (.string []), .lit (.string []), .lit (.string []), .lit (.string []), .lit (.string [113, 117, 101, 114, 121]), .lit (.string [109, 117, 116, 97, 116, 105, 111, 110]), .lit (.string [115, 117, 98, 115, 99, 114, 105, 112, 116, 105, 111, 110]), .lit (.string [102, 114, 97, 103, 109, 101, 110, 116]), .lit (.string [111, 110]), .lit (.string [116, 121, 112, 101]), .lit (.string [105, 110, 116, 101, 114, 102, 97, 99, 101]), .lit (.string [101, 110, 117, 109]), .lit (.string [117, 110, 105, 111, 110]), .lit (.string [105, 110, 112, 117, 116]), .lit (.string [115, 99, 97, 108, 97, 114]), .lit (.string [105, 109, 112, 108, 101, 109, 101, 110, 116, 115])]
def laid_copperplate_rule_rules {H : Type} : DataW H := .agg [.lit (.string [0, 2, 1]), .lit (.string [1]), .lit (.string [1, 103, 103, 2, 1]), .lit (.string [2, 18]), .lit (.string [2, 97, 3, 4, 10, 99, 18]), .lit (.string [2, 86, 99, 96, 99, 87, 99, 95, 10, 99, 18]), .lit (.string [2, 24]), .lit (.string [2, 81, 103, 24]), .lit (.string [3]), .lit (.string [3, 99, 95]), .lit (.string [4]), .lit (.string [4, 104, 68, 106, 101, 6, 5, 107, 101, 69, 105]), .lit (.string [5]), .lit (.string [5, 102, 6, 5]), .lit (.string [6, 66, 95, 71, 99, 8, 7, 10]), .lit (.string [7]), .lit (.string [7, 99, 72, 99, 14]), .lit (.string [8, 95, 9]), .lit (.string [8, 74, 8, 75, 9]), .lit (.string [9]), .lit (.string [9, 65]), .lit (.string [10]), .lit (.string [10, 99, 73, 95, 11, 10]), .lit (.string [11]), .lit (.string [11, 104, 68, 106, 101, 13, 12, 107, 101, 69, 105]), .lit (.string [12]), .lit (.string [12, 102, 13, 12]), .lit (.string [13, 95, 71, 99, 14]), .lit (.string [14, 66, 95]), .lit (.string [14, 79]), .lit (.string [14, 80]), .lit (.string [14, 81]), .lit (.string [14, 95]), .lit (.string [14, 104, 74, 15, 75, 105]), .lit (.string [14, 104, 76, 17, 78, 105]), .lit (.string [15]), .lit (.string [15, 106, 101, 14, 16, 107, 101]), .lit (.string [16]), .lit (.string [16, 102, 14, 16]), .lit (.string [17]), .lit (.string [17, 106, 100, 13, 12, 107, 100]), .lit (.string [18, 76, 106, 103, 20, 19, 107, 103, 78]), .lit (.string [19]), .lit (.string [19, 103, 20, 19]), .lit (.string [20, 95, 21, 11, 10, 22]), .lit (.string [20, 70, 23]), .lit (.string [21]), .lit (.string [21, 71, 99, 95]), .lit (.string [22]), .lit (.string [22, 99, 18]), .lit (.string [23, 99, 87, 99, 95, 10, 99, 18]), .lit (.string [23, 96, 10]), .lit (.string [23, 99, 73, 95, 11, 10, 99, 18]), .lit (.string [23, 99, 18]), .lit (.string [24, 93, 99, 95, 10]), .lit (.string [24, 88, 99, 95, 25, 10, 99, 28]), .lit (.string [24, 89, 99, 95, 25, 10, 99, 28]), .lit (.string [24, 90, 99, 95, 10, 99, 35]), .lit (.string [24, 91, 99, 95, 10, 38]), .lit (.string [24, 92, 99, 95, 10, 99, 41]), .lit (.string [25]), .lit (.string [25, 99, 94, 99, 26, 95, 27]), .lit (.string [26]), .lit (.string [26, 67, 99]), .lit (.string [27]), .lit (.string [27, 99, 67, 99, 95, 27]), .lit (.string [28, 76, 106, 103, 30, 29, 107, 103, 78]), .lit (.string [29]), .lit (.string [29, 103, 30, 29]), .lit (.string [30, 31, 95, 32, 71, 99, 8, 10]), .lit (.string [31]), .lit (.string [31, 81, 103]), .lit (.string [32]), .lit (.string [32, 104, 68, 106, 101, 34, 33, 107, 101, 69, 105]), .lit (.string [33]), .lit (.string [33, 102, 34, 33]), .lit (.string [34, 31, 95, 71, 99, 8, 7, 10]), .lit (.string [35, 76, 106, 103, 37, 36, 107, 103, 78]), .lit (.string [36]), .lit (.string [36, 103, 37, 36]), .lit (.string [37, 31, 95, 10]), .lit (.string [38]), .lit (.string [38, 99, 72, 99, 39, 95, 40]), .lit (.string [39]), .lit (.string [39, 77, 99]), .lit (.string [40]), .lit (.string [40, 99, 77, 99, 95, 40]), .lit (.string [41, 76, 106, 103, 34, 42, 107, 103, 78]), .lit (.string [42]), .lit (.string [42, 103, 34, 42])]
def laid_copperplate_quote_standsFor {H : Type} : DataW H := .agg [.lit (.string [92, 117, 48, 48, 48, 48]), .lit (.string [92, 117, 48, 48, 48, 49]), .lit (.string [92, 117, 48, 48, 48, 50]), .lit (.string [92, 117, 48, 48, 48, 51]), .lit (.string [92, 117, 48, 48, 48, 52]), .lit (.string [92, 117, 48, 48, 48, 53]), .lit (.string [92, 117, 48, 48, 48, 54]), .lit (.string [92, 117, 48, 48, 48, 55]), .lit (.string [92, 98]), .lit (.string [92, 116]), .lit (.string [92, 110]), .lit (.string [92, 117, 48, 48, 48, 98]), .lit (.string [92, 102]), .lit (.string [92, 114]), .lit (.string [92, 117, 48, 48, 48, 101]), .lit (.string [92, 117, 48, 48, 48, 102]), .lit (.string [92, 117, 48, 48, 49, 48]), .lit (.string [92, 117, 48, 48, 49, 49]), .lit (.string [92, 117, 48, 48, 49, 50]), .lit (.string [92, 117, 48, 48, 49, 51]), .lit (.string [92, 117, 48, 48, 49, 52]), .lit (.string [92, 117, 48, 48, 49, 53]), .lit (.string [92, 117, 48, 48, 49, 54]), .lit (.string [92, 117, 48, 48, 49, 55]), .lit (.string [92, 117, 48, 48, 49, 56]), .lit (.string [92, 117, 48, 48, 49, 57]), .lit (.string [92, 117, 48, 48, 49, 97]), .lit (.string [92, 117, 48, 48, 49, 98]), .lit (.string [92, 117, 48, 48, 49, 99]), .lit (.string [92, 117, 48, 48, 49, 100]), .lit (.string [92, 117, 48, 48, 49, 101]), .lit (.string [92, 117, 48, 48, 49, 102]), .lit (.string []), .lit (.string []), .lit (.string [92, 34]), .lit (.string []), .lit (.string []), .lit (.string []), .lit (.string []), .lit (.string []), .lit (.string []), .lit (.string []), .lit (.string []), .lit (.string []), .lit (.string []), .lit (.string []), .lit (.string []), .lit (.string []), .lit (.string []), .lit (.string []), .lit (.string []), .lit (.string []), .lit (.string []), .lit (.string []), .lit (.string []), .lit (.string []), .lit (.string []), .lit (.string []), .lit (.string []), .lit (.string []), .lit (.string []), .lit (.string []), .lit (.string []), .lit (.string []), .lit (.string []), .lit (.string []), .lit (.string []), .lit (.string []), .lit (.string []), .lit (.string []), .lit (.string []), .lit (.string []), .lit (.string []), .lit (.string []), .lit (.string []), .lit (.string []), .lit (.string []), .lit (.string []), .lit (.string []), .lit (.string []), .lit (.string []), .lit (.string []), .lit (.string []), .lit (.string []), .lit (.string []), .lit (.string []), .lit (.string []), .lit (.string []), .lit (.string []), .lit (.string []), .lit (.string []), .lit (.string []), .lit (.string [92, 92])]

/-- 'copperplatelaw16.MarkTells': WHATEVER THE INPUT: true; the input reads as it did. -/
def markTellsSpec : ChangeSpec := { name := "markTells", fn := fun _ => fun
  | [d1, d2, d3, d4] => { results := [.lit (.bool true)], args := [d1, d2, d3, d4] }
  | _ => none }
def markTellsRow : OpenClaim := { program := "ytpcijjdlppoblaagreatdoor", sum := "f0b73ba4a16c1468963cd895b125f385056a58fbd9a4128796af71a2f95ec3f0", func := "copperplate/copperplatelaw16.MarkTells", spec := "markTells", inPlace := ["internal/bytealg.IndexByteString", "internal/abi.NoEscape", "internal/bytealg.MakeNoZero"], unfollowed := true, recurses := true, named := ["copperplate/kind.texts", "copperplate/rule.rules", "copperplate/quote.standsFor"], apart := false, laid := [("copperplate/kind.texts", laid_copperplate_kind_texts), ("copperplate/rule.rules", laid_copperplate_rule_rules), ("copperplate/quote.standsFor", laid_copperplate_quote_standsFor)] }
def MarkTellsSaid : Prop := markTellsRow.holds Tryz.pinned (OpenSpec.ofChange markTellsSpec)

/-- ITS FALSE NEIGHBOUR: 'it returns false'. Refute it at one input. -/
def markTellsWrong : ChangeSpec := { name := "markTells", fn := fun _ => fun
  | [d1, d2, d3, d4] => { results := [.lit (.bool false)], args := [d1, d2, d3, d4] }
  | _ => none }
def MarkTellsWrongFalsely : Prop := markTellsRow.holds Tryz.pinned (OpenSpec.ofChange markTellsWrong)

/-- 'copperplatelaw16.MarkParsed': WHATEVER THE INPUT: true; the input reads as it did. -/
def markParsedSpec : ChangeSpec := { name := "markParsed", fn := fun _ => fun
  | [d1, d2] => { results := [.lit (.bool true)], args := [d1, d2] }
  | _ => none }
def markParsedRow : OpenClaim := { program := "ytpcijjdlppoblaagreatdoor", sum := "f0b73ba4a16c1468963cd895b125f385056a58fbd9a4128796af71a2f95ec3f0", func := "copperplate/copperplatelaw16.MarkParsed", spec := "markParsed", inPlace := ["internal/bytealg.IndexByteString", "internal/abi.NoEscape", "internal/bytealg.MakeNoZero"], unfollowed := true, recurses := true, named := ["copperplate/kind.texts", "copperplate/rule.rules", "copperplate/quote.standsFor"], apart := false, laid := [("copperplate/kind.texts", laid_copperplate_kind_texts), ("copperplate/rule.rules", laid_copperplate_rule_rules), ("copperplate/quote.standsFor", laid_copperplate_quote_standsFor)] }
def MarkParsedSaid : Prop := markParsedRow.holds Tryz.pinned (OpenSpec.ofChange markParsedSpec)

/-- ITS FALSE NEIGHBOUR: 'it returns false'. Refute it at one input. -/
def markParsedWrong : ChangeSpec := { name := "markParsed", fn := fun _ => fun
  | [d1, d2] => { results := [.lit (.bool false)], args := [d1, d2] }
  | _ => none }
def MarkParsedWrongFalsely : Prop := markParsedRow.holds Tryz.pinned (OpenSpec.ofChange markParsedWrong)

/-- 'copperplatelaw16.MarkMay': WHATEVER THE INPUT: true; the input reads as it did. -/
def markMaySpec : ChangeSpec := { name := "markMay", fn := fun _ => fun
  | [d1, d2, d3] => { results := [.lit (.bool true)], args := [d1, d2, d3] }
  | _ => none }
def markMayRow : OpenClaim := { program := "ytpcijjdlppoblaagreatdoor", sum := "f0b73ba4a16c1468963cd895b125f385056a58fbd9a4128796af71a2f95ec3f0", func := "copperplate/copperplatelaw16.MarkMay", spec := "markMay", inPlace := ["internal/bytealg.IndexByteString", "internal/abi.NoEscape", "internal/bytealg.MakeNoZero"], unfollowed := true, recurses := true, named := ["copperplate/kind.texts", "copperplate/rule.rules", "copperplate/quote.standsFor"], apart := false, laid := [("copperplate/kind.texts", laid_copperplate_kind_texts), ("copperplate/rule.rules", laid_copperplate_rule_rules), ("copperplate/quote.standsFor", laid_copperplate_quote_standsFor)] }
def MarkMaySaid : Prop := markMayRow.holds Tryz.pinned (OpenSpec.ofChange markMaySpec)

/-- ITS FALSE NEIGHBOUR: 'it returns false'. Refute it at one input. -/
def markMayWrong : ChangeSpec := { name := "markMay", fn := fun _ => fun
  | [d1, d2, d3] => { results := [.lit (.bool false)], args := [d1, d2, d3] }
  | _ => none }
def MarkMayWrongFalsely : Prop := markMayRow.holds Tryz.pinned (OpenSpec.ofChange markMayWrong)

/-- 'copperplatelaw16.MarkWords': WHATEVER THE INPUT: true; the input reads as it did. -/
def markWordsSpec : ChangeSpec := { name := "markWords", fn := fun _ => fun
  | [d1, d2] => { results := [.lit (.bool true)], args := [d1, d2] }
  | _ => none }
def markWordsRow : OpenClaim := { program := "ytpcijjdlppoblaagreatdoor", sum := "f0b73ba4a16c1468963cd895b125f385056a58fbd9a4128796af71a2f95ec3f0", func := "copperplate/copperplatelaw16.MarkWords", spec := "markWords", inPlace := ["internal/bytealg.IndexByteString", "internal/abi.NoEscape", "internal/bytealg.MakeNoZero"], unfollowed := true, recurses := true, named := ["copperplate/kind.texts", "copperplate/rule.rules", "copperplate/quote.standsFor"], apart := false, laid := [("copperplate/kind.texts", laid_copperplate_kind_texts), ("copperplate/rule.rules", laid_copperplate_rule_rules), ("copperplate/quote.standsFor", laid_copperplate_quote_standsFor)] }
def MarkWordsSaid : Prop := markWordsRow.holds Tryz.pinned (OpenSpec.ofChange markWordsSpec)

/-- ITS FALSE NEIGHBOUR: 'it returns false'. Refute it at one input. -/
def markWordsWrong : ChangeSpec := { name := "markWords", fn := fun _ => fun
  | [d1, d2] => { results := [.lit (.bool false)], args := [d1, d2] }
  | _ => none }
def MarkWordsWrongFalsely : Prop := markWordsRow.holds Tryz.pinned (OpenSpec.ofChange markWordsWrong)

/-- 'copperplatelaw16.MarkTexts': WHATEVER THE INPUT: true; the input reads as it did. -/
def markTextsSpec : ChangeSpec := { name := "markTexts", fn := fun _ => fun
  | [d1, d2, d3] => { results := [.lit (.bool true)], args := [d1, d2, d3] }
  | _ => none }
def markTextsRow : OpenClaim := { program := "ytpcijjdlppoblaagreatdoor", sum := "f0b73ba4a16c1468963cd895b125f385056a58fbd9a4128796af71a2f95ec3f0", func := "copperplate/copperplatelaw16.MarkTexts", spec := "markTexts", inPlace := ["internal/bytealg.IndexByteString", "internal/abi.NoEscape", "internal/bytealg.MakeNoZero"], unfollowed := true, recurses := true, named := ["copperplate/kind.texts", "copperplate/rule.rules", "copperplate/quote.standsFor"], apart := false, laid := [("copperplate/kind.texts", laid_copperplate_kind_texts), ("copperplate/rule.rules", laid_copperplate_rule_rules), ("copperplate/quote.standsFor", laid_copperplate_quote_standsFor)] }
def MarkTextsSaid : Prop := markTextsRow.holds Tryz.pinned (OpenSpec.ofChange markTextsSpec)

/-- ITS FALSE NEIGHBOUR: 'it returns false'. Refute it at one input. -/
def markTextsWrong : ChangeSpec := { name := "markTexts", fn := fun _ => fun
  | [d1, d2, d3] => { results := [.lit (.bool false)], args := [d1, d2, d3] }
  | _ => none }
def MarkTextsWrongFalsely : Prop := markTextsRow.holds Tryz.pinned (OpenSpec.ofChange markTextsWrong)

/-- 'copperplatelaw16.MarkOnly': WHATEVER THE INPUT: true; the input reads as it did. -/
def markOnlySpec : ChangeSpec := { name := "markOnly", fn := fun _ => fun
  | [d1, d2] => { results := [.lit (.bool true)], args := [d1, d2] }
  | _ => none }
def markOnlyRow : OpenClaim := { program := "ytpcijjdlppoblaagreatdoor", sum := "f0b73ba4a16c1468963cd895b125f385056a58fbd9a4128796af71a2f95ec3f0", func := "copperplate/copperplatelaw16.MarkOnly", spec := "markOnly", inPlace := ["internal/bytealg.IndexByteString", "internal/abi.NoEscape", "internal/bytealg.MakeNoZero"], unfollowed := true, recurses := true, named := ["copperplate/kind.texts", "copperplate/rule.rules", "copperplate/quote.standsFor"], apart := false, laid := [("copperplate/kind.texts", laid_copperplate_kind_texts), ("copperplate/rule.rules", laid_copperplate_rule_rules), ("copperplate/quote.standsFor", laid_copperplate_quote_standsFor)] }
def MarkOnlySaid : Prop := markOnlyRow.holds Tryz.pinned (OpenSpec.ofChange markOnlySpec)

/-- ITS FALSE NEIGHBOUR: 'it returns false'. Refute it at one input. -/
def markOnlyWrong : ChangeSpec := { name := "markOnly", fn := fun _ => fun
  | [d1, d2] => { results := [.lit (.bool false)], args := [d1, d2] }
  | _ => none }
def MarkOnlyWrongFalsely : Prop := markOnlyRow.holds Tryz.pinned (OpenSpec.ofChange markOnlyWrong)

/- THE SECOND FORM. 'bulk': how many values and letters a reading holds, each counted each time it is reached (what is shared counts as often as it is met; a slice's spare places count too). A statement '..UptoSaid' is the law's where the arguments, and the package variables that the reading takes, are together of bulk at most 1048576: NARROWER than '..Said'. Prove '..Said' where nothing that the law and all that it calls make is longer than what came in: it says more and counts as full. Else prove '..UptoSaid'. A law counts once. -/
mutual
def uptoBulk {H : Type} : DataW H → Nat
  | .lit (.string bytes) => bytes.length + 1
  | .lit _ => 1
  | .nil => 1
  | .ptr d => uptoBulk d + 1
  | .slice elems spare => uptoBulkAll elems + uptoBulkAll spare + 1
  | .agg parts => uptoBulkAll parts + 1
  | .iface _ d => uptoBulk d + 1
  | .map entries => uptoBulkEntries entries + 1
  | .held _ => 1
def uptoBulkAll {H : Type} : List (DataW H) → Nat
  | [] => 0
  | d :: r => uptoBulk d + uptoBulkAll r
def uptoBulkEntries {H : Type} : List (Lit × DataW H) → Nat
  | [] => 0
  | x :: r => uptoBulkEntry x + uptoBulkEntries r
def uptoBulkEntry {H : Type} : Lit × DataW H → Nat
  | (.string bytes, d) => bytes.length + uptoBulk d + 1
  | (_, d) => uptoBulk d + 1
 end
def uptoSmall : (H : Type) → List (DataW H) → Bool := fun _ ds => decide (uptoBulkAll ds ≤ 1048576)
def OpenSpec.upto (s : _root_.Go.ChangeSpec) : _root_.Go.OpenSpec := { _root_.Go.OpenSpec.ofChange s with cond := some uptoSmall }

/-- 'copperplatelaw16.MarkTells', WHERE WHAT IT READS IS OF BULK AT MOST 1048576: true; the input reads as it did. -/
def markTellsUptoRow : OpenClaim := { program := "ytpcijjdlppoblaagreatdoor", sum := "f0b73ba4a16c1468963cd895b125f385056a58fbd9a4128796af71a2f95ec3f0", func := "copperplate/copperplatelaw16.MarkTells", spec := "markTells", inPlace := ["internal/bytealg.IndexByteString", "internal/abi.NoEscape", "internal/bytealg.MakeNoZero"], unfollowed := true, recurses := true, named := ["copperplate/kind.texts", "copperplate/rule.rules", "copperplate/quote.standsFor"], apart := false, laid := [("copperplate/kind.texts", laid_copperplate_kind_texts), ("copperplate/rule.rules", laid_copperplate_rule_rules), ("copperplate/quote.standsFor", laid_copperplate_quote_standsFor)], narrowed := true }
def MarkTellsUptoSaid : Prop := markTellsUptoRow.holds Tryz.pinned (OpenSpec.upto markTellsSpec)

/-- 'copperplatelaw16.MarkParsed', WHERE WHAT IT READS IS OF BULK AT MOST 1048576: true; the input reads as it did. -/
def markParsedUptoRow : OpenClaim := { program := "ytpcijjdlppoblaagreatdoor", sum := "f0b73ba4a16c1468963cd895b125f385056a58fbd9a4128796af71a2f95ec3f0", func := "copperplate/copperplatelaw16.MarkParsed", spec := "markParsed", inPlace := ["internal/bytealg.IndexByteString", "internal/abi.NoEscape", "internal/bytealg.MakeNoZero"], unfollowed := true, recurses := true, named := ["copperplate/kind.texts", "copperplate/rule.rules", "copperplate/quote.standsFor"], apart := false, laid := [("copperplate/kind.texts", laid_copperplate_kind_texts), ("copperplate/rule.rules", laid_copperplate_rule_rules), ("copperplate/quote.standsFor", laid_copperplate_quote_standsFor)], narrowed := true }
def MarkParsedUptoSaid : Prop := markParsedUptoRow.holds Tryz.pinned (OpenSpec.upto markParsedSpec)

/-- 'copperplatelaw16.MarkMay', WHERE WHAT IT READS IS OF BULK AT MOST 1048576: true; the input reads as it did. -/
def markMayUptoRow : OpenClaim := { program := "ytpcijjdlppoblaagreatdoor", sum := "f0b73ba4a16c1468963cd895b125f385056a58fbd9a4128796af71a2f95ec3f0", func := "copperplate/copperplatelaw16.MarkMay", spec := "markMay", inPlace := ["internal/bytealg.IndexByteString", "internal/abi.NoEscape", "internal/bytealg.MakeNoZero"], unfollowed := true, recurses := true, named := ["copperplate/kind.texts", "copperplate/rule.rules", "copperplate/quote.standsFor"], apart := false, laid := [("copperplate/kind.texts", laid_copperplate_kind_texts), ("copperplate/rule.rules", laid_copperplate_rule_rules), ("copperplate/quote.standsFor", laid_copperplate_quote_standsFor)], narrowed := true }
def MarkMayUptoSaid : Prop := markMayUptoRow.holds Tryz.pinned (OpenSpec.upto markMaySpec)

/-- 'copperplatelaw16.MarkWords', WHERE WHAT IT READS IS OF BULK AT MOST 1048576: true; the input reads as it did. -/
def markWordsUptoRow : OpenClaim := { program := "ytpcijjdlppoblaagreatdoor", sum := "f0b73ba4a16c1468963cd895b125f385056a58fbd9a4128796af71a2f95ec3f0", func := "copperplate/copperplatelaw16.MarkWords", spec := "markWords", inPlace := ["internal/bytealg.IndexByteString", "internal/abi.NoEscape", "internal/bytealg.MakeNoZero"], unfollowed := true, recurses := true, named := ["copperplate/kind.texts", "copperplate/rule.rules", "copperplate/quote.standsFor"], apart := false, laid := [("copperplate/kind.texts", laid_copperplate_kind_texts), ("copperplate/rule.rules", laid_copperplate_rule_rules), ("copperplate/quote.standsFor", laid_copperplate_quote_standsFor)], narrowed := true }
def MarkWordsUptoSaid : Prop := markWordsUptoRow.holds Tryz.pinned (OpenSpec.upto markWordsSpec)

/-- 'copperplatelaw16.MarkTexts', WHERE WHAT IT READS IS OF BULK AT MOST 1048576: true; the input reads as it did. -/
def markTextsUptoRow : OpenClaim := { program := "ytpcijjdlppoblaagreatdoor", sum := "f0b73ba4a16c1468963cd895b125f385056a58fbd9a4128796af71a2f95ec3f0", func := "copperplate/copperplatelaw16.MarkTexts", spec := "markTexts", inPlace := ["internal/bytealg.IndexByteString", "internal/abi.NoEscape", "internal/bytealg.MakeNoZero"], unfollowed := true, recurses := true, named := ["copperplate/kind.texts", "copperplate/rule.rules", "copperplate/quote.standsFor"], apart := false, laid := [("copperplate/kind.texts", laid_copperplate_kind_texts), ("copperplate/rule.rules", laid_copperplate_rule_rules), ("copperplate/quote.standsFor", laid_copperplate_quote_standsFor)], narrowed := true }
def MarkTextsUptoSaid : Prop := markTextsUptoRow.holds Tryz.pinned (OpenSpec.upto markTextsSpec)

/-- 'copperplatelaw16.MarkOnly', WHERE WHAT IT READS IS OF BULK AT MOST 1048576: true; the input reads as it did. -/
def markOnlyUptoRow : OpenClaim := { program := "ytpcijjdlppoblaagreatdoor", sum := "f0b73ba4a16c1468963cd895b125f385056a58fbd9a4128796af71a2f95ec3f0", func := "copperplate/copperplatelaw16.MarkOnly", spec := "markOnly", inPlace := ["internal/bytealg.IndexByteString", "internal/abi.NoEscape", "internal/bytealg.MakeNoZero"], unfollowed := true, recurses := true, named := ["copperplate/kind.texts", "copperplate/rule.rules", "copperplate/quote.standsFor"], apart := false, laid := [("copperplate/kind.texts", laid_copperplate_kind_texts), ("copperplate/rule.rules", laid_copperplate_rule_rules), ("copperplate/quote.standsFor", laid_copperplate_quote_standsFor)], narrowed := true }
def MarkOnlyUptoSaid : Prop := markOnlyUptoRow.holds Tryz.pinned (OpenSpec.upto markOnlySpec)

end Rows
end Go.Proofs.YtpcijjdlppoblaaGreatDoor
