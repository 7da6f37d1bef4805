/-
  No cell of these rows narrows 'for every input' (looked for: loops, veiled, ifaces, maps, wideKeys, modest, calm, conditions, laid).
  DERIVED. THE GIVEN ROWS OF THIS SEAT. 7 by the template 'for every input the law returns true; each argument reads behind the call as it read before'; 0 by the template 'total and deterministic' (their statements: YtpmdkjbkcncnnaaTotals.lean).
  GIVEN WITH THE SEED: the statements are not yours to turn. If you find one false, say at which input.
  Laid BY PROGRAM, IN A SANDBOX (cutbox-rows.mjs): the forced cells as the released guide's own fill.sh prints them over the translation 37d321a7eab536d9… (all of the seat's roots in one cut). By AI agents, Wed Nov 11 2026. No macro, syntax, notation, axiom, sorry.
-/
import Derived.Test.YtpmdkjbkcncnnaaChecked
import GoSem.Claim
import GoSem.ClaimJoined
import GoSem.ClaimMapViews
import Derived.JoinedTies
import Derived.KernelRfl
namespace Go.Proofs.Ytpmdkjbkcncnnaa
/- THE CELL 'sum', in the pinned program and in every row, IS THE sha256 OF THE DUMP (.gsa) THAT YtpmdkjbkcncnnaaProg.lean LOADS. Nothing in Lean hashes anything: it is a label: what it is worth is what the hold of that sum in a sandbox is worth. -/
noncomputable def Try.pinned : Pinned := { name := "ytpmdkjbkcncnnaa", sum := "37d321a7eab536d9659472fb0164b02a86a28d91fc219759fe90d36f8b3268fc", checked := Try.checked }
namespace Rows
def none {H : Type} : Left H := { results := [], args := [] }

/-- 'copperplatelaw07.FoldTells': WHATEVER THE INPUT: true; the input reads as it did. -/
def foldTellsSpec : ChangeSpec := { name := "foldTells", fn := fun _ => fun
  | [d1, d2, d3] => { results := [.lit (.bool true)], args := [d1, d2, d3] }
  | _ => none }
def foldTellsRow : OpenClaim := { program := "ytpmdkjbkcncnnaa", sum := "37d321a7eab536d9659472fb0164b02a86a28d91fc219759fe90d36f8b3268fc", func := "copperplate/copperplatelaw07.FoldTells", spec := "foldTells", inPlace := ["internal/abi.NoEscape", "internal/bytealg.MakeNoZero"], unfollowed := true, recurses := true, apart := false }
def FoldTellsSaid : Prop := foldTellsRow.holds Try.pinned (OpenSpec.ofChange foldTellsSpec)

/-- ITS FALSE NEIGHBOUR: 'it returns false'. Refute it at one input. -/
def foldTellsWrong : ChangeSpec := { name := "foldTells", fn := fun _ => fun
  | [d1, d2, d3] => { results := [.lit (.bool false)], args := [d1, d2, d3] }
  | _ => none }
def FoldTellsWrongFalsely : Prop := foldTellsRow.holds Try.pinned (OpenSpec.ofChange foldTellsWrong)

/-- 'copperplatelaw07.FoldEnds': WHATEVER THE INPUT: true; the input reads as it did. -/
def foldEndsSpec : ChangeSpec := { name := "foldEnds", fn := fun _ => fun
  | [d1, d2, d3] => { results := [.lit (.bool true)], args := [d1, d2, d3] }
  | _ => none }
def foldEndsRow : OpenClaim := { program := "ytpmdkjbkcncnnaa", sum := "37d321a7eab536d9659472fb0164b02a86a28d91fc219759fe90d36f8b3268fc", func := "copperplate/copperplatelaw07.FoldEnds", spec := "foldEnds", inPlace := ["internal/abi.NoEscape", "internal/bytealg.MakeNoZero"], unfollowed := true, recurses := true, apart := false }
def FoldEndsSaid : Prop := foldEndsRow.holds Try.pinned (OpenSpec.ofChange foldEndsSpec)

/-- ITS FALSE NEIGHBOUR: 'it returns false'. Refute it at one input. -/
def foldEndsWrong : ChangeSpec := { name := "foldEnds", fn := fun _ => fun
  | [d1, d2, d3] => { results := [.lit (.bool false)], args := [d1, d2, d3] }
  | _ => none }
def FoldEndsWrongFalsely : Prop := foldEndsRow.holds Try.pinned (OpenSpec.ofChange foldEndsWrong)

/-- 'copperplatelaw07.FoldLines': WHATEVER THE INPUT: true; the input reads as it did. -/
def foldLinesSpec : ChangeSpec := { name := "foldLines", fn := fun _ => fun
  | [d1, d2, d3] => { results := [.lit (.bool true)], args := [d1, d2, d3] }
  | _ => none }
def foldLinesRow : OpenClaim := { program := "ytpmdkjbkcncnnaa", sum := "37d321a7eab536d9659472fb0164b02a86a28d91fc219759fe90d36f8b3268fc", func := "copperplate/copperplatelaw07.FoldLines", spec := "foldLines", inPlace := ["internal/abi.NoEscape", "internal/bytealg.MakeNoZero"], unfollowed := true, recurses := true, apart := false }
def FoldLinesSaid : Prop := foldLinesRow.holds Try.pinned (OpenSpec.ofChange foldLinesSpec)

/-- ITS FALSE NEIGHBOUR: 'it returns false'. Refute it at one input. -/
def foldLinesWrong : ChangeSpec := { name := "foldLines", fn := fun _ => fun
  | [d1, d2, d3] => { results := [.lit (.bool false)], args := [d1, d2, d3] }
  | _ => none }
def FoldLinesWrongFalsely : Prop := foldLinesRow.holds Try.pinned (OpenSpec.ofChange foldLinesWrong)

/-- 'copperplatelaw07.FoldOnce': WHATEVER THE INPUT: true; the input reads as it did. -/
def foldOnceSpec : ChangeSpec := { name := "foldOnce", fn := fun _ => fun
  | [d] => { results := [.lit (.bool true)], args := [d] }
  | _ => none }
def foldOnceRow : OpenClaim := { program := "ytpmdkjbkcncnnaa", sum := "37d321a7eab536d9659472fb0164b02a86a28d91fc219759fe90d36f8b3268fc", func := "copperplate/copperplatelaw07.FoldOnce", spec := "foldOnce", inPlace := ["internal/abi.NoEscape", "internal/bytealg.MakeNoZero"], unfollowed := true, recurses := true, apart := false }
def FoldOnceSaid : Prop := foldOnceRow.holds Try.pinned (OpenSpec.ofChange foldOnceSpec)

/-- ITS FALSE NEIGHBOUR: 'it returns false'. Refute it at one input. -/
def foldOnceWrong : ChangeSpec := { name := "foldOnce", fn := fun _ => fun
  | [d] => { results := [.lit (.bool false)], args := [d] }
  | _ => none }
def FoldOnceWrongFalsely : Prop := foldOnceRow.holds Try.pinned (OpenSpec.ofChange foldOnceWrong)

/-- 'copperplatelaw07.FoldMoves': WHATEVER THE INPUT: true; the input reads as it did. -/
def foldMovesSpec : ChangeSpec := { name := "foldMoves", fn := fun _ => fun
  | [d1, d2] => { results := [.lit (.bool true)], args := [d1, d2] }
  | _ => none }
def foldMovesRow : OpenClaim := { program := "ytpmdkjbkcncnnaa", sum := "37d321a7eab536d9659472fb0164b02a86a28d91fc219759fe90d36f8b3268fc", func := "copperplate/copperplatelaw07.FoldMoves", spec := "foldMoves", inPlace := ["internal/abi.NoEscape", "internal/bytealg.MakeNoZero"], unfollowed := true, recurses := true, apart := false }
def FoldMovesSaid : Prop := foldMovesRow.holds Try.pinned (OpenSpec.ofChange foldMovesSpec)

/-- ITS FALSE NEIGHBOUR: 'it returns false'. Refute it at one input. -/
def foldMovesWrong : ChangeSpec := { name := "foldMoves", fn := fun _ => fun
  | [d1, d2] => { results := [.lit (.bool false)], args := [d1, d2] }
  | _ => none }
def FoldMovesWrongFalsely : Prop := foldMovesRow.holds Try.pinned (OpenSpec.ofChange foldMovesWrong)

/-- 'copperplatelaw07.FoldBlank': WHATEVER THE INPUT: true; the input reads as it did. -/
def foldBlankSpec : ChangeSpec := { name := "foldBlank", fn := fun _ => fun
  | [d1, d2] => { results := [.lit (.bool true)], args := [d1, d2] }
  | _ => none }
def foldBlankRow : OpenClaim := { program := "ytpmdkjbkcncnnaa", sum := "37d321a7eab536d9659472fb0164b02a86a28d91fc219759fe90d36f8b3268fc", func := "copperplate/copperplatelaw07.FoldBlank", spec := "foldBlank", inPlace := ["internal/abi.NoEscape", "internal/bytealg.MakeNoZero"], unfollowed := true, recurses := true, apart := false }
def FoldBlankSaid : Prop := foldBlankRow.holds Try.pinned (OpenSpec.ofChange foldBlankSpec)

/-- ITS FALSE NEIGHBOUR: 'it returns false'. Refute it at one input. -/
def foldBlankWrong : ChangeSpec := { name := "foldBlank", fn := fun _ => fun
  | [d1, d2] => { results := [.lit (.bool false)], args := [d1, d2] }
  | _ => none }
def FoldBlankWrongFalsely : Prop := foldBlankRow.holds Try.pinned (OpenSpec.ofChange foldBlankWrong)

/-- 'copperplatelaw07.FoldFirst': WHATEVER THE INPUT: true; the input reads as it did. -/
def foldFirstSpec : ChangeSpec := { name := "foldFirst", fn := fun _ => fun
  | [d] => { results := [.lit (.bool true)], args := [d] }
  | _ => none }
def foldFirstRow : OpenClaim := { program := "ytpmdkjbkcncnnaa", sum := "37d321a7eab536d9659472fb0164b02a86a28d91fc219759fe90d36f8b3268fc", func := "copperplate/copperplatelaw07.FoldFirst", spec := "foldFirst", inPlace := ["internal/abi.NoEscape", "internal/bytealg.MakeNoZero"], unfollowed := true, recurses := true, apart := false }
def FoldFirstSaid : Prop := foldFirstRow.holds Try.pinned (OpenSpec.ofChange foldFirstSpec)

/-- ITS FALSE NEIGHBOUR: 'it returns false'. Refute it at one input. -/
def foldFirstWrong : ChangeSpec := { name := "foldFirst", fn := fun _ => fun
  | [d] => { results := [.lit (.bool false)], args := [d] }
  | _ => none }
def FoldFirstWrongFalsely : Prop := foldFirstRow.holds Try.pinned (OpenSpec.ofChange foldFirstWrong)

/- THE SECOND FORM. 'bulk': how many values and letters a reading holds, each counted each time it is reached (what is shared counts as often as it is met; a slice's spare places count too). A statement '..UptoSaid' is the law's where the arguments, and the package variables that the reading takes, are together of bulk at most 1048576: NARROWER than '..Said'. Prove '..Said' where nothing that the law and all that it calls make is longer than what came in: it says more and counts as full. Else prove '..UptoSaid'. A law counts once. -/
mutual
def uptoBulk {H : Type} : DataW H → Nat
  | .lit (.string bytes) => bytes.length + 1
  | .lit _ => 1
  | .nil => 1
  | .ptr d => uptoBulk d + 1
  | .slice elems spare => uptoBulkAll elems + uptoBulkAll spare + 1
  | .agg parts => uptoBulkAll parts + 1
  | .iface _ d => uptoBulk d + 1
  | .map entries => uptoBulkEntries entries + 1
  | .held _ => 1
def uptoBulkAll {H : Type} : List (DataW H) → Nat
  | [] => 0
  | d :: r => uptoBulk d + uptoBulkAll r
def uptoBulkEntries {H : Type} : List (Lit × DataW H) → Nat
  | [] => 0
  | x :: r => uptoBulkEntry x + uptoBulkEntries r
def uptoBulkEntry {H : Type} : Lit × DataW H → Nat
  | (.string bytes, d) => bytes.length + uptoBulk d + 1
  | (_, d) => uptoBulk d + 1
 end
def uptoSmall : (H : Type) → List (DataW H) → Bool := fun _ ds => decide (uptoBulkAll ds ≤ 1048576)
def OpenSpec.upto (s : _root_.Go.ChangeSpec) : _root_.Go.OpenSpec := { _root_.Go.OpenSpec.ofChange s with cond := some uptoSmall }

/-- 'copperplatelaw07.FoldTells', WHERE WHAT IT READS IS OF BULK AT MOST 1048576: true; the input reads as it did. -/
def foldTellsUptoRow : OpenClaim := { program := "ytpmdkjbkcncnnaa", sum := "37d321a7eab536d9659472fb0164b02a86a28d91fc219759fe90d36f8b3268fc", func := "copperplate/copperplatelaw07.FoldTells", spec := "foldTells", inPlace := ["internal/abi.NoEscape", "internal/bytealg.MakeNoZero"], unfollowed := true, recurses := true, apart := false, narrowed := true }
def FoldTellsUptoSaid : Prop := foldTellsUptoRow.holds Try.pinned (OpenSpec.upto foldTellsSpec)

/-- 'copperplatelaw07.FoldEnds', WHERE WHAT IT READS IS OF BULK AT MOST 1048576: true; the input reads as it did. -/
def foldEndsUptoRow : OpenClaim := { program := "ytpmdkjbkcncnnaa", sum := "37d321a7eab536d9659472fb0164b02a86a28d91fc219759fe90d36f8b3268fc", func := "copperplate/copperplatelaw07.FoldEnds", spec := "foldEnds", inPlace := ["internal/abi.NoEscape", "internal/bytealg.MakeNoZero"], unfollowed := true, recurses := true, apart := false, narrowed := true }
def FoldEndsUptoSaid : Prop := foldEndsUptoRow.holds Try.pinned (OpenSpec.upto foldEndsSpec)

/-- 'copperplatelaw07.FoldLines', WHERE WHAT IT READS IS OF BULK AT MOST 1048576: true; the input reads as it did. -/
def foldLinesUptoRow : OpenClaim := { program := "ytpmdkjbkcncnnaa", sum := "37d321a7eab536d9659472fb0164b02a86a28d91fc219759fe90d36f8b3268fc", func := "copperplate/copperplatelaw07.FoldLines", spec := "foldLines", inPlace := ["internal/abi.NoEscape", "internal/bytealg.MakeNoZero"], unfollowed := true, recurses := true, apart := false, narrowed := true }
def FoldLinesUptoSaid : Prop := foldLinesUptoRow.holds Try.pinned (OpenSpec.upto foldLinesSpec)

/-- 'copperplatelaw07.FoldOnce', WHERE WHAT IT READS IS OF BULK AT MOST 1048576: true; the input reads as it did. -/
def foldOnceUptoRow : OpenClaim := { program := "ytpmdkjbkcncnnaa", sum := "37d321a7eab536d9659472fb0164b02a86a28d91fc219759fe90d36f8b3268fc", func := "copperplate/copperplatelaw07.FoldOnce", spec := "foldOnce", inPlace := ["internal/abi.NoEscape", "internal/bytealg.MakeNoZero"], unfollowed := true, recurses := true, apart := false, narrowed := true }
def FoldOnceUptoSaid : Prop := foldOnceUptoRow.holds Try.pinned (OpenSpec.upto foldOnceSpec)

/-- 'copperplatelaw07.FoldMoves', WHERE WHAT IT READS IS OF BULK AT MOST 1048576: true; the input reads as it did. -/
def foldMovesUptoRow : OpenClaim := { program := "ytpmdkjbkcncnnaa", sum := "37d321a7eab536d9659472fb0164b02a86a28d91fc219759fe90d36f8b3268fc", func := "copperplate/copperplatelaw07.FoldMoves", spec := "foldMoves", inPlace := ["internal/abi.NoEscape", "internal/bytealg.MakeNoZero"], unfollowed := true, recurses := true, apart := false, narrowed := true }
def FoldMovesUptoSaid : Prop := foldMovesUptoRow.holds Try.pinned (OpenSpec.upto foldMovesSpec)

/-- 'copperplatelaw07.FoldBlank', WHERE WHAT IT READS IS OF BULK AT MOST 1048576: true; the input reads as it did. -/
def foldBlankUptoRow : OpenClaim := { program := "ytpmdkjbkcncnnaa", sum := "37d321a7eab536d9659472fb0164b02a86a28d91fc219759fe90d36f8b3268fc", func := "copperplate/copperplatelaw07.FoldBlank", spec := "foldBlank", inPlace := ["internal/abi.NoEscape", "internal/bytealg.MakeNoZero"], unfollowed := true, recurses := true, apart := false, narrowed := true }
def FoldBlankUptoSaid : Prop := foldBlankUptoRow.holds Try.pinned (OpenSpec.upto foldBlankSpec)

/-- 'copperplatelaw07.FoldFirst', WHERE WHAT IT READS IS OF BULK AT MOST 1048576: true; the input reads as it did. -/
def foldFirstUptoRow : OpenClaim := { program := "ytpmdkjbkcncnnaa", sum := "37d321a7eab536d9659472fb0164b02a86a28d91fc219759fe90d36f8b3268fc", func := "copperplate/copperplatelaw07.FoldFirst", spec := "foldFirst", inPlace := ["internal/abi.NoEscape", "internal/bytealg.MakeNoZero"], unfollowed := true, recurses := true, apart := false, narrowed := true }
def FoldFirstUptoSaid : Prop := foldFirstUptoRow.holds Try.pinned (OpenSpec.upto foldFirstSpec)

end Rows
end Go.Proofs.Ytpmdkjbkcncnnaa
