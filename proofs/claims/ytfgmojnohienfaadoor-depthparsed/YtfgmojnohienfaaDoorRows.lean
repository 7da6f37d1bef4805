/-
  NARROWER THAN 'FOR EVERY INPUT', by the rows' own cells (each row's printed sentence says how): DepthParsed: laid.
  DERIVED. THE GIVEN ROWS OF THIS SEAT. 1 by the template 'for every input the law returns true; each argument reads behind the call as it read before'; 0 by the template 'total and deterministic' (their statements: YtfgmojnohienfaaDoorTotals.lean).
  GIVEN WITH THE SEED: the statements are not yours to turn. If you find one false, say at which input.
  Laid BY PROGRAM, IN A SANDBOX (cutbox-rows.mjs): the forced cells as the released guide's own fill.sh prints them over the translation 00ce2b2c06baff7f… (all of the seat's roots in one cut). By AI agents, Wed Nov 11 2026. No macro, syntax, notation, axiom, sorry.
-/
import Derived.Test.YtfgmojnohienfaaDoorChecked
import GoSem.Claim
import GoSem.ClaimJoined
import GoSem.ClaimMapViews
import Derived.JoinedTies
import Derived.KernelRfl
namespace Go.Proofs.YtfgmojnohienfaaDoor
/- THE CELL 'sum', in the pinned program and in every row, IS THE sha256 OF THE DUMP (.gsa) THAT YtfgmojnohienfaaDoorProg.lean LOADS. Nothing in Lean hashes anything: it is a label: what it is worth is what the hold of that sum in a sandbox is worth. -/
noncomputable def Tryd.pinned : Pinned := { name := "ytfgmojnohienfaadoor", sum := "00ce2b2c06baff7fe0b9f1aa83a959959fe90adf0571efbcaec2c4ee6087be04", checked := Tryd.checked }
namespace Rows
def none {H : Type} : Left H := { results := [], args := [] }

/- WHAT THE LISTED PACKAGE-LEVEL VARIABLES READ AS WHEN THE CALL BEGINS. Each datum BY PROGRAM (the guide's laid-datum.mjs) off the statement by which the dump's own 'gosem.cut.vars' lays the variable. In a bare row this is a premise. The card (YtfgmojnohienfaaDoorCards.lean) ties it to the program's text. -/
def laid_copperplate_rule_rules {H : Type} : DataW H := .agg [.lit (.string [0, 2, 1]), .lit (.string [1]), .lit (.string [1, 103, 103, 2, 1]), .lit (.string [2, 18]), .lit (.string [2, 97, 3, 4, 10, 99, 18]), .lit (.string [2, 86, 99, 96, 99, 87, 99, 95, 10, 99, 18]), .lit (.string [2, 24]), .lit (.string [2, 81, 103, 24]), .lit (.string [3]), .lit (.string [3, 99, 95]), .lit (.string [4]), .lit (.string [4, 104, 68, 106, 101, 6, 5, 107, 101, 69, 105]), .lit (.string [5]), .lit (.string [5, 102, 6, 5]), .lit (.string [6, 66, 95, 71, 99, 8, 7, 10]), .lit (.string [7]), .lit (.string [7, 99, 72, 99, 14]), .lit (.string [8, 95, 9]), .lit (.string [8, 74, 8, 75, 9]), .lit (.string [9]), .lit (.string [9, 65]), .lit (.string [10]), .lit (.string [10, 99, 73, 95, 11, 10]), .lit (.string [11]), .lit (.string [11, 104, 68, 106, 101, 13, 12, 107, 101, 69, 105]), .lit (.string [12]), .lit (.string [12, 102, 13, 12]), .lit (.string [13, 95, 71, 99, 14]), .lit (.string [14, 66, 95]), .lit (.string [14, 79]), .lit (.string [14, 80]), .lit (.string [14, 81]), .lit (.string [14, 95]), .lit (.string [14, 104, 74, 15, 75, 105]), .lit (.string [14, 104, 76, 17, 78, 105]), .lit (.string [15]), .lit (.string [15, 106, 101, 14, 16, 107, 101]), .lit (.string [16]), .lit (.string [16, 102, 14, 16]), .lit (.string [17]), .lit (.string [17, 106, 100, 13, 12, 107, 100]), .lit (.string [18, 76, 106, 103, 20, 19, 107, 103, 78]), .lit (.string [19]), .lit (.string [19, 103, 20, 19]), .lit (.string [20, 95, 21, 11, 10, 22]), .lit (.string [20, 70, 23]), .lit (.string [21]), .lit (.string [21, 71, 99, 95]), .lit (.string [22]), .lit (.string [22, 99, 18]), .lit (.string [23, 99, 87, 99, 95, 10, 99, 18]), .lit (.string [23, 96, 10]), .lit (.string [23, 99, 73, 95, 11, 10, 99, 18]), .lit (.string [23, 99, 18]), .lit (.string [24, 93, 99, 95, 10]), .lit (.string [24, 88, 99, 95, 25, 10, 99, 28]), .lit (.string [24, 89, 99, 95, 25, 10, 99, 28]), .lit (.string [24, 90, 99, 95, 10, 99, 35]), .lit (.string [24, 91, 99, 95, 10, 38]), .lit (.string [24, 92, 99, 95, 10, 99, 41]), .lit (.string [25]), .lit (.string [25, 99, 94, 99, 26, 95, 27]), .lit (.string [26]), .lit (.string [26, 67, 99]), .lit (.string [27]), .lit (.string [27, 99, 67, 99, 95, 27]), .lit (.string [28, 76, 106, 103, 30, 29, 107, 103, 78]), .lit (.string [29]), .lit (.string [29, 103, 30, 29]), .lit (.string [30, 31, 95, 32, 71, 99, 8, 10]), .lit (.string [31]), .lit (.string [31, 81, 103]), .lit (.string [32]), .lit (.string [32, 104, 68, 106, 101, 34, 33, 107, 101, 69, 105]), .lit (.string [33]), .lit (.string [33, 102, 34, 33]), .lit (.string [34, 31, 95, 71, 99, 8, 7, 10]), .lit (.string [35, 76, 106, 103, 37, 36, 107, 103, 78]), .lit (.string [36]), .lit (.string [36, 103, 37, 36]), .lit (.string [37, 31, 95, 10]), .lit (.string [38]), .lit (.string [38, 99, 72, 99, 39, 95, 40]), .lit (.string [39]), .lit (.string [39, 77, 99]), .lit (.string [40]), .lit (.string [40, 99, 77, 99, 95, 40]), .lit (.string [41, 76, 106, 103, 34, 42, 107, 103, 78]), .lit (.string [42]), .lit (.string [42, 103, 34, 42])]

/-- 'copperplatelaw15.DepthParsed': WHATEVER THE INPUT: true; the input reads as it did. -/
def depthParsedSpec : ChangeSpec := { name := "depthParsed", fn := fun _ => fun
  | [d1, d2] => { results := [.lit (.bool true)], args := [d1, d2] }
  | _ => none }
def depthParsedRow : OpenClaim := { program := "ytfgmojnohienfaadoor", sum := "00ce2b2c06baff7fe0b9f1aa83a959959fe90adf0571efbcaec2c4ee6087be04", func := "copperplate/copperplatelaw15.DepthParsed", spec := "depthParsed", unfollowed := true, recurses := true, named := ["copperplate/rule.rules"], apart := false, laid := [("copperplate/rule.rules", laid_copperplate_rule_rules)] }
def DepthParsedSaid : Prop := depthParsedRow.holds Tryd.pinned (OpenSpec.ofChange depthParsedSpec)

/-- ITS FALSE NEIGHBOUR: 'it returns false'. Refute it at one input. -/
def depthParsedWrong : ChangeSpec := { name := "depthParsed", fn := fun _ => fun
  | [d1, d2] => { results := [.lit (.bool false)], args := [d1, d2] }
  | _ => none }
def DepthParsedWrongFalsely : Prop := depthParsedRow.holds Tryd.pinned (OpenSpec.ofChange depthParsedWrong)

/- THE SECOND FORM. 'bulk': how many values and letters a reading holds, each counted each time it is reached (what is shared counts as often as it is met; a slice's spare places count too). A statement '..UptoSaid' is the law's where the arguments, and the package variables that the reading takes, are together of bulk at most 1048576: NARROWER than '..Said'. Prove '..Said' where nothing that the law and all that it calls make is longer than what came in: it says more and counts as full. Else prove '..UptoSaid'. A law counts once. -/
mutual
def uptoBulk {H : Type} : DataW H → Nat
  | .lit (.string bytes) => bytes.length + 1
  | .lit _ => 1
  | .nil => 1
  | .ptr d => uptoBulk d + 1
  | .slice elems spare => uptoBulkAll elems + uptoBulkAll spare + 1
  | .agg parts => uptoBulkAll parts + 1
  | .iface _ d => uptoBulk d + 1
  | .map entries => uptoBulkEntries entries + 1
  | .held _ => 1
def uptoBulkAll {H : Type} : List (DataW H) → Nat
  | [] => 0
  | d :: r => uptoBulk d + uptoBulkAll r
def uptoBulkEntries {H : Type} : List (Lit × DataW H) → Nat
  | [] => 0
  | x :: r => uptoBulkEntry x + uptoBulkEntries r
def uptoBulkEntry {H : Type} : Lit × DataW H → Nat
  | (.string bytes, d) => bytes.length + uptoBulk d + 1
  | (_, d) => uptoBulk d + 1
 end
def uptoSmall : (H : Type) → List (DataW H) → Bool := fun _ ds => decide (uptoBulkAll ds ≤ 1048576)
def OpenSpec.upto (s : _root_.Go.ChangeSpec) : _root_.Go.OpenSpec := { _root_.Go.OpenSpec.ofChange s with cond := some uptoSmall }

/-- 'copperplatelaw15.DepthParsed', WHERE WHAT IT READS IS OF BULK AT MOST 1048576: true; the input reads as it did. -/
def depthParsedUptoRow : OpenClaim := { program := "ytfgmojnohienfaadoor", sum := "00ce2b2c06baff7fe0b9f1aa83a959959fe90adf0571efbcaec2c4ee6087be04", func := "copperplate/copperplatelaw15.DepthParsed", spec := "depthParsed", unfollowed := true, recurses := true, named := ["copperplate/rule.rules"], apart := false, laid := [("copperplate/rule.rules", laid_copperplate_rule_rules)], narrowed := true }
def DepthParsedUptoSaid : Prop := depthParsedUptoRow.holds Tryd.pinned (OpenSpec.upto depthParsedSpec)

end Rows
end Go.Proofs.YtfgmojnohienfaaDoor
