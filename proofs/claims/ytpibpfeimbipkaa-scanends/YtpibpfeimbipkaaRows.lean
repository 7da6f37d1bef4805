/-
  No cell of these rows narrows 'for every input' (looked for: loops, veiled, ifaces, maps, wideKeys, modest, calm, conditions, laid).
  DERIVED. THE GIVEN ROWS OF THIS SEAT. 6 by the template 'for every input the law returns true; each argument reads behind the call as it read before'; 0 by the template 'total and deterministic' (their statements: YtpibpfeimbipkaaTotals.lean).
  GIVEN WITH THE SEED: the statements are not yours to turn. If you find one false, say at which input.
  Laid BY PROGRAM, IN A SANDBOX (cutbox-rows.mjs): the forced cells as the released guide's own fill.sh prints them over the translation 1653ce7ae4f07c55… (all of the seat's roots in one cut). By AI agents, Wed Nov 11 2026. No macro, syntax, notation, axiom, sorry.
-/
import Derived.Test.YtpibpfeimbipkaaChecked
import GoSem.Claim
import GoSem.ClaimJoined
import GoSem.ClaimMapViews
import Derived.JoinedTies
import Derived.KernelRfl
namespace Go.Proofs.Ytpibpfeimbipkaa
/- THE CELL 'sum', in the pinned program and in every row, IS THE sha256 OF THE DUMP (.gsa) THAT YtpibpfeimbipkaaProg.lean LOADS. Nothing in Lean hashes anything: it is a label: what it is worth is what the hold of that sum in a sandbox is worth. -/
noncomputable def Try.pinned : Pinned := { name := "ytpibpfeimbipkaa", sum := "1653ce7ae4f07c55842434e0c9123874f3d5572808cfba83e107f5c2103fd088", checked := Try.checked }
namespace Rows
def none {H : Type} : Left H := { results := [], args := [] }

/-- 'copperplatelaw04.ScanTells': WHATEVER THE INPUT: true; the input reads as it did. -/
def scanTellsSpec : ChangeSpec := { name := "scanTells", fn := fun _ => fun
  | [d1, d2, d3] => { results := [.lit (.bool true)], args := [d1, d2, d3] }
  | _ => none }
def scanTellsRow : OpenClaim := { program := "ytpibpfeimbipkaa", sum := "1653ce7ae4f07c55842434e0c9123874f3d5572808cfba83e107f5c2103fd088", func := "copperplate/copperplatelaw04.ScanTells", spec := "scanTells", unfollowed := true, recurses := true, apart := false }
def ScanTellsSaid : Prop := scanTellsRow.holds Try.pinned (OpenSpec.ofChange scanTellsSpec)

/-- ITS FALSE NEIGHBOUR: 'it returns false'. Refute it at one input. -/
def scanTellsWrong : ChangeSpec := { name := "scanTells", fn := fun _ => fun
  | [d1, d2, d3] => { results := [.lit (.bool false)], args := [d1, d2, d3] }
  | _ => none }
def ScanTellsWrongFalsely : Prop := scanTellsRow.holds Try.pinned (OpenSpec.ofChange scanTellsWrong)

/-- 'copperplatelaw04.ScanEnds': WHATEVER THE INPUT: true; the input reads as it did. -/
def scanEndsSpec : ChangeSpec := { name := "scanEnds", fn := fun _ => fun
  | [d1, d2, d3] => { results := [.lit (.bool true)], args := [d1, d2, d3] }
  | _ => none }
def scanEndsRow : OpenClaim := { program := "ytpibpfeimbipkaa", sum := "1653ce7ae4f07c55842434e0c9123874f3d5572808cfba83e107f5c2103fd088", func := "copperplate/copperplatelaw04.ScanEnds", spec := "scanEnds", unfollowed := true, recurses := true, apart := false }
def ScanEndsSaid : Prop := scanEndsRow.holds Try.pinned (OpenSpec.ofChange scanEndsSpec)

/-- ITS FALSE NEIGHBOUR: 'it returns false'. Refute it at one input. -/
def scanEndsWrong : ChangeSpec := { name := "scanEnds", fn := fun _ => fun
  | [d1, d2, d3] => { results := [.lit (.bool false)], args := [d1, d2, d3] }
  | _ => none }
def ScanEndsWrongFalsely : Prop := scanEndsRow.holds Try.pinned (OpenSpec.ofChange scanEndsWrong)

/-- 'copperplatelaw04.ScanFirst': WHATEVER THE INPUT: true; the input reads as it did. -/
def scanFirstSpec : ChangeSpec := { name := "scanFirst", fn := fun _ => fun
  | [d1, d2, d3] => { results := [.lit (.bool true)], args := [d1, d2, d3] }
  | _ => none }
def scanFirstRow : OpenClaim := { program := "ytpibpfeimbipkaa", sum := "1653ce7ae4f07c55842434e0c9123874f3d5572808cfba83e107f5c2103fd088", func := "copperplate/copperplatelaw04.ScanFirst", spec := "scanFirst", unfollowed := true, recurses := true, apart := false }
def ScanFirstSaid : Prop := scanFirstRow.holds Try.pinned (OpenSpec.ofChange scanFirstSpec)

/-- ITS FALSE NEIGHBOUR: 'it returns false'. Refute it at one input. -/
def scanFirstWrong : ChangeSpec := { name := "scanFirst", fn := fun _ => fun
  | [d1, d2, d3] => { results := [.lit (.bool false)], args := [d1, d2, d3] }
  | _ => none }
def ScanFirstWrongFalsely : Prop := scanFirstRow.holds Try.pinned (OpenSpec.ofChange scanFirstWrong)

/-- 'copperplatelaw04.ScanComment': WHATEVER THE INPUT: true; the input reads as it did. -/
def scanCommentSpec : ChangeSpec := { name := "scanComment", fn := fun _ => fun
  | [d1, d2] => { results := [.lit (.bool true)], args := [d1, d2] }
  | _ => none }
def scanCommentRow : OpenClaim := { program := "ytpibpfeimbipkaa", sum := "1653ce7ae4f07c55842434e0c9123874f3d5572808cfba83e107f5c2103fd088", func := "copperplate/copperplatelaw04.ScanComment", spec := "scanComment", unfollowed := true, recurses := true, apart := false }
def ScanCommentSaid : Prop := scanCommentRow.holds Try.pinned (OpenSpec.ofChange scanCommentSpec)

/-- ITS FALSE NEIGHBOUR: 'it returns false'. Refute it at one input. -/
def scanCommentWrong : ChangeSpec := { name := "scanComment", fn := fun _ => fun
  | [d1, d2] => { results := [.lit (.bool false)], args := [d1, d2] }
  | _ => none }
def ScanCommentWrongFalsely : Prop := scanCommentRow.holds Try.pinned (OpenSpec.ofChange scanCommentWrong)

/-- 'copperplatelaw04.ScanJoins': WHATEVER THE INPUT: true; the input reads as it did. -/
def scanJoinsSpec : ChangeSpec := { name := "scanJoins", fn := fun _ => fun
  | [d1, d2] => { results := [.lit (.bool true)], args := [d1, d2] }
  | _ => none }
def scanJoinsRow : OpenClaim := { program := "ytpibpfeimbipkaa", sum := "1653ce7ae4f07c55842434e0c9123874f3d5572808cfba83e107f5c2103fd088", func := "copperplate/copperplatelaw04.ScanJoins", spec := "scanJoins", unfollowed := true, recurses := true, apart := false }
def ScanJoinsSaid : Prop := scanJoinsRow.holds Try.pinned (OpenSpec.ofChange scanJoinsSpec)

/-- ITS FALSE NEIGHBOUR: 'it returns false'. Refute it at one input. -/
def scanJoinsWrong : ChangeSpec := { name := "scanJoins", fn := fun _ => fun
  | [d1, d2] => { results := [.lit (.bool false)], args := [d1, d2] }
  | _ => none }
def ScanJoinsWrongFalsely : Prop := scanJoinsRow.holds Try.pinned (OpenSpec.ofChange scanJoinsWrong)

/-- 'copperplatelaw04.ScanByte': WHATEVER THE INPUT: true; the input reads as it did. -/
def scanByteSpec : ChangeSpec := { name := "scanByte", fn := fun _ => fun
  | [d] => { results := [.lit (.bool true)], args := [d] }
  | _ => none }
def scanByteRow : OpenClaim := { program := "ytpibpfeimbipkaa", sum := "1653ce7ae4f07c55842434e0c9123874f3d5572808cfba83e107f5c2103fd088", func := "copperplate/copperplatelaw04.ScanByte", spec := "scanByte", unfollowed := true, recurses := true, apart := false }
def ScanByteSaid : Prop := scanByteRow.holds Try.pinned (OpenSpec.ofChange scanByteSpec)

/-- ITS FALSE NEIGHBOUR: 'it returns false'. Refute it at one input. -/
def scanByteWrong : ChangeSpec := { name := "scanByte", fn := fun _ => fun
  | [d] => { results := [.lit (.bool false)], args := [d] }
  | _ => none }
def ScanByteWrongFalsely : Prop := scanByteRow.holds Try.pinned (OpenSpec.ofChange scanByteWrong)

/- THE SECOND FORM. 'bulk': how many values and letters a reading holds, each counted each time it is reached (what is shared counts as often as it is met; a slice's spare places count too). A statement '..UptoSaid' is the law's where the arguments, and the package variables that the reading takes, are together of bulk at most 1048576: NARROWER than '..Said'. Prove '..Said' where nothing that the law and all that it calls make is longer than what came in: it says more and counts as full. Else prove '..UptoSaid'. A law counts once. -/
mutual
def uptoBulk {H : Type} : DataW H → Nat
  | .lit (.string bytes) => bytes.length + 1
  | .lit _ => 1
  | .nil => 1
  | .ptr d => uptoBulk d + 1
  | .slice elems spare => uptoBulkAll elems + uptoBulkAll spare + 1
  | .agg parts => uptoBulkAll parts + 1
  | .iface _ d => uptoBulk d + 1
  | .map entries => uptoBulkEntries entries + 1
  | .held _ => 1
def uptoBulkAll {H : Type} : List (DataW H) → Nat
  | [] => 0
  | d :: r => uptoBulk d + uptoBulkAll r
def uptoBulkEntries {H : Type} : List (Lit × DataW H) → Nat
  | [] => 0
  | x :: r => uptoBulkEntry x + uptoBulkEntries r
def uptoBulkEntry {H : Type} : Lit × DataW H → Nat
  | (.string bytes, d) => bytes.length + uptoBulk d + 1
  | (_, d) => uptoBulk d + 1
 end
def uptoSmall : (H : Type) → List (DataW H) → Bool := fun _ ds => decide (uptoBulkAll ds ≤ 1048576)
def OpenSpec.upto (s : _root_.Go.ChangeSpec) : _root_.Go.OpenSpec := { _root_.Go.OpenSpec.ofChange s with cond := some uptoSmall }

/-- 'copperplatelaw04.ScanTells', WHERE WHAT IT READS IS OF BULK AT MOST 1048576: true; the input reads as it did. -/
def scanTellsUptoRow : OpenClaim := { program := "ytpibpfeimbipkaa", sum := "1653ce7ae4f07c55842434e0c9123874f3d5572808cfba83e107f5c2103fd088", func := "copperplate/copperplatelaw04.ScanTells", spec := "scanTells", unfollowed := true, recurses := true, apart := false, narrowed := true }
def ScanTellsUptoSaid : Prop := scanTellsUptoRow.holds Try.pinned (OpenSpec.upto scanTellsSpec)

/-- 'copperplatelaw04.ScanEnds', WHERE WHAT IT READS IS OF BULK AT MOST 1048576: true; the input reads as it did. -/
def scanEndsUptoRow : OpenClaim := { program := "ytpibpfeimbipkaa", sum := "1653ce7ae4f07c55842434e0c9123874f3d5572808cfba83e107f5c2103fd088", func := "copperplate/copperplatelaw04.ScanEnds", spec := "scanEnds", unfollowed := true, recurses := true, apart := false, narrowed := true }
def ScanEndsUptoSaid : Prop := scanEndsUptoRow.holds Try.pinned (OpenSpec.upto scanEndsSpec)

/-- 'copperplatelaw04.ScanFirst', WHERE WHAT IT READS IS OF BULK AT MOST 1048576: true; the input reads as it did. -/
def scanFirstUptoRow : OpenClaim := { program := "ytpibpfeimbipkaa", sum := "1653ce7ae4f07c55842434e0c9123874f3d5572808cfba83e107f5c2103fd088", func := "copperplate/copperplatelaw04.ScanFirst", spec := "scanFirst", unfollowed := true, recurses := true, apart := false, narrowed := true }
def ScanFirstUptoSaid : Prop := scanFirstUptoRow.holds Try.pinned (OpenSpec.upto scanFirstSpec)

/-- 'copperplatelaw04.ScanComment', WHERE WHAT IT READS IS OF BULK AT MOST 1048576: true; the input reads as it did. -/
def scanCommentUptoRow : OpenClaim := { program := "ytpibpfeimbipkaa", sum := "1653ce7ae4f07c55842434e0c9123874f3d5572808cfba83e107f5c2103fd088", func := "copperplate/copperplatelaw04.ScanComment", spec := "scanComment", unfollowed := true, recurses := true, apart := false, narrowed := true }
def ScanCommentUptoSaid : Prop := scanCommentUptoRow.holds Try.pinned (OpenSpec.upto scanCommentSpec)

/-- 'copperplatelaw04.ScanJoins', WHERE WHAT IT READS IS OF BULK AT MOST 1048576: true; the input reads as it did. -/
def scanJoinsUptoRow : OpenClaim := { program := "ytpibpfeimbipkaa", sum := "1653ce7ae4f07c55842434e0c9123874f3d5572808cfba83e107f5c2103fd088", func := "copperplate/copperplatelaw04.ScanJoins", spec := "scanJoins", unfollowed := true, recurses := true, apart := false, narrowed := true }
def ScanJoinsUptoSaid : Prop := scanJoinsUptoRow.holds Try.pinned (OpenSpec.upto scanJoinsSpec)

/-- 'copperplatelaw04.ScanByte', WHERE WHAT IT READS IS OF BULK AT MOST 1048576: true; the input reads as it did. -/
def scanByteUptoRow : OpenClaim := { program := "ytpibpfeimbipkaa", sum := "1653ce7ae4f07c55842434e0c9123874f3d5572808cfba83e107f5c2103fd088", func := "copperplate/copperplatelaw04.ScanByte", spec := "scanByte", unfollowed := true, recurses := true, apart := false, narrowed := true }
def ScanByteUptoSaid : Prop := scanByteUptoRow.holds Try.pinned (OpenSpec.upto scanByteSpec)

end Rows
end Go.Proofs.Ytpibpfeimbipkaa
