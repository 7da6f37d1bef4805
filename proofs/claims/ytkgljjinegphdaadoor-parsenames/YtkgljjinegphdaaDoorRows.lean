/-
  NARROWER THAN 'FOR EVERY INPUT', by the rows' own cells (each row's printed sentence says how): ParseTells: laid · ParseFirst: laid · ParseSteps: laid · ParseNames: laid · ParseBraces: laid · ParseJoins: laid · ParseNone: laid.
  DERIVED. THE GIVEN ROWS OF THIS SEAT. 7 by the template 'for every input the law returns true; each argument reads behind the call as it read before'; 0 by the template 'total and deterministic' (their statements: YtkgljjinegphdaaDoorTotals.lean).
  GIVEN WITH THE SEED: the statements are not yours to turn. If you find one false, say at which input.
  Laid BY PROGRAM, IN A SANDBOX (cutbox-rows.mjs): the forced cells as the released guide's own fill.sh prints them over the translation 8cf2b7f9b1a1a08b… (all of the seat's roots in one cut). By AI agents, Wed Nov 11 2026. No macro, syntax, notation, axiom, sorry.
-/
import Derived.Test.YtkgljjinegphdaaDoorChecked
import GoSem.Claim
import GoSem.ClaimJoined
import GoSem.ClaimMapViews
import Derived.JoinedTies
import Derived.KernelRfl
namespace Go.Proofs.YtkgljjinegphdaaDoor
/- THE CELL 'sum', in the pinned program and in every row, IS THE sha256 OF THE DUMP (.gsa) THAT YtkgljjinegphdaaDoorProg.lean LOADS. Nothing in Lean hashes anything: it is a label: what it is worth is what the hold of that sum in a sandbox is worth. -/
noncomputable def Tryd.pinned : Pinned := { name := "ytkgljjinegphdaadoor", sum := "8cf2b7f9b1a1a08b842b716a56d9f5aaa145ed93c772506af0cb2056f85fcf04", checked := Tryd.checked }
namespace Rows
def none {H : Type} : Left H := { results := [], args := [] }

/- WHAT THE LISTED PACKAGE-LEVEL VARIABLES READ AS WHEN THE CALL BEGINS. Each datum BY PROGRAM (the guide's laid-datum.mjs) off the statement by which the dump's own 'gosem.cut.vars' lays the variable. In a bare row this is a premise. The card (YtkgljjinegphdaaDoorCards.lean) ties it to the program's text. -/
def laid_copperplate_rule_rules {H : Type} : DataW H := .agg [.lit (.string [0, 2, 1]), .lit (.string [1]), .lit (.string [1, 103, 103, 2, 1]), .lit (.string [2, 18]), .lit (.string [2, 97, 3, 4, 10, 99, 18]), .lit (.string [2, 86, 99, 96, 99, 87, 99, 95, 10, 99, 18]), .lit (.string [2, 24]), .lit (.string [2, 81, 103, 24]), .lit (.string [3]), .lit (.string [3, 99, 95]), .lit (.string [4]), .lit (.string [4, 104, 68, 106, 101, 6, 5, 107, 101, 69, 105]), .lit (.string [5]), .lit (.string [5, 102, 6, 5]), .lit (.string [6, 66, 95, 71, 99, 8, 7, 10]), .lit (.string [7]), .lit (.string [7, 99, 72, 99, 14]), .lit (.string [8, 95, 9]), .lit (.string [8, 74, 8, 75, 9]), .lit (.string [9]), .lit (.string [9, 65]), .lit (.string [10]), .lit (.string [10, 99, 73, 95, 11, 10]), .lit (.string [11]), .lit (.string [11, 104, 68, 106, 101, 13, 12, 107, 101, 69, 105]), .lit (.string [12]), .lit (.string [12, 102, 13, 12]), .lit (.string [13, 95, 71, 99, 14]), .lit (.string [14, 66, 95]), .lit (.string [14, 79]), .lit (.string [14, 80]), .lit (.string [14, 81]), .lit (.string [14, 95]), .lit (.string [14, 104, 74, 15, 75, 105]), .lit (.string [14, 104, 76, 17, 78, 105]), .lit (.string [15]), .lit (.string [15, 106, 101, 14, 16, 107, 101]), .lit (.string [16]), .lit (.string [16, 102, 14, 16]), .lit (.string [17]), .lit (.string [17, 106, 100, 13, 12, 107, 100]), .lit (.string [18, 76, 106, 103, 20, 19, 107, 103, 78]), .lit (.string [19]), .lit (.string [19, 103, 20, 19]), .lit (.string [20, 95, 21, 11, 10, 22]), .lit (.string [20, 70, 23]), .lit (.string [21]), .lit (.string [21, 71, 99, 95]), .lit (.string [22]), .lit (.string [22, 99, 18]), .lit (.string [23, 99, 87, 99, 95, 10, 99, 18]), .lit (.string [23, 96, 10]), .lit (.string [23, 99, 73, 95, 11, 10, 99, 18]), .lit (.string [23, 99, 18]), .lit (.string [24, 93, 99, 95, 10]), .lit (.string [24, 88, 99, 95, 25, 10, 99, 28]), .lit (.string [24, 89, 99, 95, 25, 10, 99, 28]), .lit (.string [24, 90, 99, 95, 10, 99, 35]), .lit (.string [24, 91, 99, 95, 10, 38]), .lit (.string [24, 92, 99, 95, 10, 99, 41]), .lit (.string [25]), .lit (.string [25, 99, 94, 99, 26, 95, 27]), .lit (.string [26]), .lit (.string [26, 67, 99]), .lit (.string [27]), .lit (.string [27, 99, 67, 99, 95, 27]), .lit (.string [28, 76, 106, 103, 30, 29, 107, 103, 78]), .lit (.string [29]), .lit (.string [29, 103, 30, 29]), .lit (.string [30, 31, 95, 32, 71, 99, 8, 10]), .lit (.string [31]), .lit (.string [31, 81, 103]), .lit (.string [32]), .lit (.string [32, 104, 68, 106, 101, 34, 33, 107, 101, 69, 105]), .lit (.string [33]), .lit (.string [33, 102, 34, 33]), .lit (.string [34, 31, 95, 71, 99, 8, 7, 10]), .lit (.string [35, 76, 106, 103, 37, 36, 107, 103, 78]), .lit (.string [36]), .lit (.string [36, 103, 37, 36]), .lit (.string [37, 31, 95, 10]), .lit (.string [38]), .lit (.string [38, 99, 72, 99, 39, 95, 40]), .lit (.string [39]), .lit (.string [39, 77, 99]), .lit (.string [40]), .lit (.string [40, 99, 77, 99, 95, 40]), .lit (.string [41, 76, 106, 103, 34, 42, 107, 103, 78]), .lit (.string [42]), .lit (.string [42, 103, 34, 42])]

/-- 'copperplatelaw13.ParseTells': WHATEVER THE INPUT: true; the input reads as it did. -/
def parseTellsSpec : ChangeSpec := { name := "parseTells", fn := fun _ => fun
  | [d] => { results := [.lit (.bool true)], args := [d] }
  | _ => none }
def parseTellsRow : OpenClaim := { program := "ytkgljjinegphdaadoor", sum := "8cf2b7f9b1a1a08b842b716a56d9f5aaa145ed93c772506af0cb2056f85fcf04", func := "copperplate/copperplatelaw13.ParseTells", spec := "parseTells", unfollowed := true, recurses := true, named := ["copperplate/rule.rules"], apart := false, laid := [("copperplate/rule.rules", laid_copperplate_rule_rules)] }
def ParseTellsSaid : Prop := parseTellsRow.holds Tryd.pinned (OpenSpec.ofChange parseTellsSpec)

/-- ITS FALSE NEIGHBOUR: 'it returns false'. Refute it at one input. -/
def parseTellsWrong : ChangeSpec := { name := "parseTells", fn := fun _ => fun
  | [d] => { results := [.lit (.bool false)], args := [d] }
  | _ => none }
def ParseTellsWrongFalsely : Prop := parseTellsRow.holds Tryd.pinned (OpenSpec.ofChange parseTellsWrong)

/-- 'copperplatelaw13.ParseFirst': WHATEVER THE INPUT: true; the input reads as it did. -/
def parseFirstSpec : ChangeSpec := { name := "parseFirst", fn := fun _ => fun
  | [d1, d2] => { results := [.lit (.bool true)], args := [d1, d2] }
  | _ => none }
def parseFirstRow : OpenClaim := { program := "ytkgljjinegphdaadoor", sum := "8cf2b7f9b1a1a08b842b716a56d9f5aaa145ed93c772506af0cb2056f85fcf04", func := "copperplate/copperplatelaw13.ParseFirst", spec := "parseFirst", unfollowed := true, recurses := true, named := ["copperplate/rule.rules"], apart := false, laid := [("copperplate/rule.rules", laid_copperplate_rule_rules)] }
def ParseFirstSaid : Prop := parseFirstRow.holds Tryd.pinned (OpenSpec.ofChange parseFirstSpec)

/-- ITS FALSE NEIGHBOUR: 'it returns false'. Refute it at one input. -/
def parseFirstWrong : ChangeSpec := { name := "parseFirst", fn := fun _ => fun
  | [d1, d2] => { results := [.lit (.bool false)], args := [d1, d2] }
  | _ => none }
def ParseFirstWrongFalsely : Prop := parseFirstRow.holds Tryd.pinned (OpenSpec.ofChange parseFirstWrong)

/-- 'copperplatelaw13.ParseSteps': WHATEVER THE INPUT: true; the input reads as it did. -/
def parseStepsSpec : ChangeSpec := { name := "parseSteps", fn := fun _ => fun
  | [d] => { results := [.lit (.bool true)], args := [d] }
  | _ => none }
def parseStepsRow : OpenClaim := { program := "ytkgljjinegphdaadoor", sum := "8cf2b7f9b1a1a08b842b716a56d9f5aaa145ed93c772506af0cb2056f85fcf04", func := "copperplate/copperplatelaw13.ParseSteps", spec := "parseSteps", unfollowed := true, recurses := true, named := ["copperplate/rule.rules"], apart := false, laid := [("copperplate/rule.rules", laid_copperplate_rule_rules)] }
def ParseStepsSaid : Prop := parseStepsRow.holds Tryd.pinned (OpenSpec.ofChange parseStepsSpec)

/-- ITS FALSE NEIGHBOUR: 'it returns false'. Refute it at one input. -/
def parseStepsWrong : ChangeSpec := { name := "parseSteps", fn := fun _ => fun
  | [d] => { results := [.lit (.bool false)], args := [d] }
  | _ => none }
def ParseStepsWrongFalsely : Prop := parseStepsRow.holds Tryd.pinned (OpenSpec.ofChange parseStepsWrong)

/-- 'copperplatelaw13.ParseNames': WHATEVER THE INPUT: true; the input reads as it did. -/
def parseNamesSpec : ChangeSpec := { name := "parseNames", fn := fun _ => fun
  | [d1, d2] => { results := [.lit (.bool true)], args := [d1, d2] }
  | _ => none }
def parseNamesRow : OpenClaim := { program := "ytkgljjinegphdaadoor", sum := "8cf2b7f9b1a1a08b842b716a56d9f5aaa145ed93c772506af0cb2056f85fcf04", func := "copperplate/copperplatelaw13.ParseNames", spec := "parseNames", unfollowed := true, recurses := true, named := ["copperplate/rule.rules"], apart := false, laid := [("copperplate/rule.rules", laid_copperplate_rule_rules)] }
def ParseNamesSaid : Prop := parseNamesRow.holds Tryd.pinned (OpenSpec.ofChange parseNamesSpec)

/-- ITS FALSE NEIGHBOUR: 'it returns false'. Refute it at one input. -/
def parseNamesWrong : ChangeSpec := { name := "parseNames", fn := fun _ => fun
  | [d1, d2] => { results := [.lit (.bool false)], args := [d1, d2] }
  | _ => none }
def ParseNamesWrongFalsely : Prop := parseNamesRow.holds Tryd.pinned (OpenSpec.ofChange parseNamesWrong)

/-- 'copperplatelaw13.ParseBraces': WHATEVER THE INPUT: true; the input reads as it did. -/
def parseBracesSpec : ChangeSpec := { name := "parseBraces", fn := fun _ => fun
  | [d1, d2] => { results := [.lit (.bool true)], args := [d1, d2] }
  | _ => none }
def parseBracesRow : OpenClaim := { program := "ytkgljjinegphdaadoor", sum := "8cf2b7f9b1a1a08b842b716a56d9f5aaa145ed93c772506af0cb2056f85fcf04", func := "copperplate/copperplatelaw13.ParseBraces", spec := "parseBraces", unfollowed := true, recurses := true, named := ["copperplate/rule.rules"], apart := false, laid := [("copperplate/rule.rules", laid_copperplate_rule_rules)] }
def ParseBracesSaid : Prop := parseBracesRow.holds Tryd.pinned (OpenSpec.ofChange parseBracesSpec)

/-- ITS FALSE NEIGHBOUR: 'it returns false'. Refute it at one input. -/
def parseBracesWrong : ChangeSpec := { name := "parseBraces", fn := fun _ => fun
  | [d1, d2] => { results := [.lit (.bool false)], args := [d1, d2] }
  | _ => none }
def ParseBracesWrongFalsely : Prop := parseBracesRow.holds Tryd.pinned (OpenSpec.ofChange parseBracesWrong)

/-- 'copperplatelaw13.ParseJoins': WHATEVER THE INPUT: true; the input reads as it did. -/
def parseJoinsSpec : ChangeSpec := { name := "parseJoins", fn := fun _ => fun
  | [d1, d2] => { results := [.lit (.bool true)], args := [d1, d2] }
  | _ => none }
def parseJoinsRow : OpenClaim := { program := "ytkgljjinegphdaadoor", sum := "8cf2b7f9b1a1a08b842b716a56d9f5aaa145ed93c772506af0cb2056f85fcf04", func := "copperplate/copperplatelaw13.ParseJoins", spec := "parseJoins", unfollowed := true, recurses := true, named := ["copperplate/rule.rules"], apart := false, laid := [("copperplate/rule.rules", laid_copperplate_rule_rules)] }
def ParseJoinsSaid : Prop := parseJoinsRow.holds Tryd.pinned (OpenSpec.ofChange parseJoinsSpec)

/-- ITS FALSE NEIGHBOUR: 'it returns false'. Refute it at one input. -/
def parseJoinsWrong : ChangeSpec := { name := "parseJoins", fn := fun _ => fun
  | [d1, d2] => { results := [.lit (.bool false)], args := [d1, d2] }
  | _ => none }
def ParseJoinsWrongFalsely : Prop := parseJoinsRow.holds Tryd.pinned (OpenSpec.ofChange parseJoinsWrong)

/-- 'copperplatelaw13.ParseNone': WHATEVER THE INPUT: true; the input reads as it did. -/
def parseNoneSpec : ChangeSpec := { name := "parseNone", fn := fun _ => fun
  | [d] => { results := [.lit (.bool true)], args := [d] }
  | _ => none }
def parseNoneRow : OpenClaim := { program := "ytkgljjinegphdaadoor", sum := "8cf2b7f9b1a1a08b842b716a56d9f5aaa145ed93c772506af0cb2056f85fcf04", func := "copperplate/copperplatelaw13.ParseNone", spec := "parseNone", unfollowed := true, recurses := true, named := ["copperplate/rule.rules"], apart := false, laid := [("copperplate/rule.rules", laid_copperplate_rule_rules)] }
def ParseNoneSaid : Prop := parseNoneRow.holds Tryd.pinned (OpenSpec.ofChange parseNoneSpec)

/-- ITS FALSE NEIGHBOUR: 'it returns false'. Refute it at one input. -/
def parseNoneWrong : ChangeSpec := { name := "parseNone", fn := fun _ => fun
  | [d] => { results := [.lit (.bool false)], args := [d] }
  | _ => none }
def ParseNoneWrongFalsely : Prop := parseNoneRow.holds Tryd.pinned (OpenSpec.ofChange parseNoneWrong)

/- THE SECOND FORM. 'bulk': how many values and letters a reading holds, each counted each time it is reached (what is shared counts as often as it is met; a slice's spare places count too). A statement '..UptoSaid' is the law's where the arguments, and the package variables that the reading takes, are together of bulk at most 1048576: NARROWER than '..Said'. Prove '..Said' where nothing that the law and all that it calls make is longer than what came in: it says more and counts as full. Else prove '..UptoSaid'. A law counts once. -/
mutual
def uptoBulk {H : Type} : DataW H → Nat
  | .lit (.string bytes) => bytes.length + 1
  | .lit _ => 1
  | .nil => 1
  | .ptr d => uptoBulk d + 1
  | .slice elems spare => uptoBulkAll elems + uptoBulkAll spare + 1
  | .agg parts => uptoBulkAll parts + 1
  | .iface _ d => uptoBulk d + 1
  | .map entries => uptoBulkEntries entries + 1
  | .held _ => 1
def uptoBulkAll {H : Type} : List (DataW H) → Nat
  | [] => 0
  | d :: r => uptoBulk d + uptoBulkAll r
def uptoBulkEntries {H : Type} : List (Lit × DataW H) → Nat
  | [] => 0
  | x :: r => uptoBulkEntry x + uptoBulkEntries r
def uptoBulkEntry {H : Type} : Lit × DataW H → Nat
  | (.string bytes, d) => bytes.length + uptoBulk d + 1
  | (_, d) => uptoBulk d + 1
 end
def uptoSmall : (H : Type) → List (DataW H) → Bool := fun _ ds => decide (uptoBulkAll ds ≤ 1048576)
def OpenSpec.upto (s : _root_.Go.ChangeSpec) : _root_.Go.OpenSpec := { _root_.Go.OpenSpec.ofChange s with cond := some uptoSmall }

/-- 'copperplatelaw13.ParseTells', WHERE WHAT IT READS IS OF BULK AT MOST 1048576: true; the input reads as it did. -/
def parseTellsUptoRow : OpenClaim := { program := "ytkgljjinegphdaadoor", sum := "8cf2b7f9b1a1a08b842b716a56d9f5aaa145ed93c772506af0cb2056f85fcf04", func := "copperplate/copperplatelaw13.ParseTells", spec := "parseTells", unfollowed := true, recurses := true, named := ["copperplate/rule.rules"], apart := false, laid := [("copperplate/rule.rules", laid_copperplate_rule_rules)], narrowed := true }
def ParseTellsUptoSaid : Prop := parseTellsUptoRow.holds Tryd.pinned (OpenSpec.upto parseTellsSpec)

/-- 'copperplatelaw13.ParseFirst', WHERE WHAT IT READS IS OF BULK AT MOST 1048576: true; the input reads as it did. -/
def parseFirstUptoRow : OpenClaim := { program := "ytkgljjinegphdaadoor", sum := "8cf2b7f9b1a1a08b842b716a56d9f5aaa145ed93c772506af0cb2056f85fcf04", func := "copperplate/copperplatelaw13.ParseFirst", spec := "parseFirst", unfollowed := true, recurses := true, named := ["copperplate/rule.rules"], apart := false, laid := [("copperplate/rule.rules", laid_copperplate_rule_rules)], narrowed := true }
def ParseFirstUptoSaid : Prop := parseFirstUptoRow.holds Tryd.pinned (OpenSpec.upto parseFirstSpec)

/-- 'copperplatelaw13.ParseSteps', WHERE WHAT IT READS IS OF BULK AT MOST 1048576: true; the input reads as it did. -/
def parseStepsUptoRow : OpenClaim := { program := "ytkgljjinegphdaadoor", sum := "8cf2b7f9b1a1a08b842b716a56d9f5aaa145ed93c772506af0cb2056f85fcf04", func := "copperplate/copperplatelaw13.ParseSteps", spec := "parseSteps", unfollowed := true, recurses := true, named := ["copperplate/rule.rules"], apart := false, laid := [("copperplate/rule.rules", laid_copperplate_rule_rules)], narrowed := true }
def ParseStepsUptoSaid : Prop := parseStepsUptoRow.holds Tryd.pinned (OpenSpec.upto parseStepsSpec)

/-- 'copperplatelaw13.ParseNames', WHERE WHAT IT READS IS OF BULK AT MOST 1048576: true; the input reads as it did. -/
def parseNamesUptoRow : OpenClaim := { program := "ytkgljjinegphdaadoor", sum := "8cf2b7f9b1a1a08b842b716a56d9f5aaa145ed93c772506af0cb2056f85fcf04", func := "copperplate/copperplatelaw13.ParseNames", spec := "parseNames", unfollowed := true, recurses := true, named := ["copperplate/rule.rules"], apart := false, laid := [("copperplate/rule.rules", laid_copperplate_rule_rules)], narrowed := true }
def ParseNamesUptoSaid : Prop := parseNamesUptoRow.holds Tryd.pinned (OpenSpec.upto parseNamesSpec)

/-- 'copperplatelaw13.ParseBraces', WHERE WHAT IT READS IS OF BULK AT MOST 1048576: true; the input reads as it did. -/
def parseBracesUptoRow : OpenClaim := { program := "ytkgljjinegphdaadoor", sum := "8cf2b7f9b1a1a08b842b716a56d9f5aaa145ed93c772506af0cb2056f85fcf04", func := "copperplate/copperplatelaw13.ParseBraces", spec := "parseBraces", unfollowed := true, recurses := true, named := ["copperplate/rule.rules"], apart := false, laid := [("copperplate/rule.rules", laid_copperplate_rule_rules)], narrowed := true }
def ParseBracesUptoSaid : Prop := parseBracesUptoRow.holds Tryd.pinned (OpenSpec.upto parseBracesSpec)

/-- 'copperplatelaw13.ParseJoins', WHERE WHAT IT READS IS OF BULK AT MOST 1048576: true; the input reads as it did. -/
def parseJoinsUptoRow : OpenClaim := { program := "ytkgljjinegphdaadoor", sum := "8cf2b7f9b1a1a08b842b716a56d9f5aaa145ed93c772506af0cb2056f85fcf04", func := "copperplate/copperplatelaw13.ParseJoins", spec := "parseJoins", unfollowed := true, recurses := true, named := ["copperplate/rule.rules"], apart := false, laid := [("copperplate/rule.rules", laid_copperplate_rule_rules)], narrowed := true }
def ParseJoinsUptoSaid : Prop := parseJoinsUptoRow.holds Tryd.pinned (OpenSpec.upto parseJoinsSpec)

/-- 'copperplatelaw13.ParseNone', WHERE WHAT IT READS IS OF BULK AT MOST 1048576: true; the input reads as it did. -/
def parseNoneUptoRow : OpenClaim := { program := "ytkgljjinegphdaadoor", sum := "8cf2b7f9b1a1a08b842b716a56d9f5aaa145ed93c772506af0cb2056f85fcf04", func := "copperplate/copperplatelaw13.ParseNone", spec := "parseNone", unfollowed := true, recurses := true, named := ["copperplate/rule.rules"], apart := false, laid := [("copperplate/rule.rules", laid_copperplate_rule_rules)], narrowed := true }
def ParseNoneUptoSaid : Prop := parseNoneUptoRow.holds Tryd.pinned (OpenSpec.upto parseNoneSpec)

end Rows
end Go.Proofs.YtkgljjinegphdaaDoor
