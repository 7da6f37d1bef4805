/-
  No cell of these rows narrows 'for every input' (looked for: loops, veiled, ifaces, maps, wideKeys, modest, calm, conditions, laid).
  DERIVED. THE GIVEN ROWS OF THIS SEAT. 7 by the template 'for every input the law returns true; each argument reads behind the call as it read before'; 0 by the template 'total and deterministic' (their statements: YtfkokhagbdeahaaTotals.lean).
  GIVEN WITH THE SEED: the statements are not yours to turn. If you find one false, say at which input.
  Laid BY PROGRAM, IN A SANDBOX (cutbox-rows.mjs): the forced cells as the released guide's own fill.sh prints them over the translation c7a836a4b0508bc6… (all of the seat's roots in one cut). By AI agents, Wed Nov 11 2026. No macro, syntax, notation, axiom, sorry.
-/
import Derived.Test.YtfkokhagbdeahaaChecked
import GoSem.Claim
import GoSem.ClaimJoined
import GoSem.ClaimMapViews
import Derived.JoinedTies
import Derived.KernelRfl
namespace Go.Proofs.Ytfkokhagbdeahaa
/- THE CELL 'sum', in the pinned program and in every row, IS THE sha256 OF THE DUMP (.gsa) THAT YtfkokhagbdeahaaProg.lean LOADS. Nothing in Lean hashes anything: it is a label: what it is worth is what the hold of that sum in a sandbox is worth. -/
noncomputable def Try.pinned : Pinned := { name := "ytfkokhagbdeahaa", sum := "c7a836a4b0508bc68ec405f44ae9f198460013b9a8e5d0051d32ca874b964f0d", checked := Try.checked }
namespace Rows
def none {H : Type} : Left H := { results := [], args := [] }

/-- 'copperplatelaw06.TextTells': WHATEVER THE INPUT: true; the input reads as it did. -/
def textTellsSpec : ChangeSpec := { name := "textTells", fn := fun _ => fun
  | [d1, d2] => { results := [.lit (.bool true)], args := [d1, d2] }
  | _ => none }
def textTellsRow : OpenClaim := { program := "ytfkokhagbdeahaa", sum := "c7a836a4b0508bc68ec405f44ae9f198460013b9a8e5d0051d32ca874b964f0d", func := "copperplate/copperplatelaw06.TextTells", spec := "textTells", unfollowed := true, recurses := true, apart := false }
def TextTellsSaid : Prop := textTellsRow.holds Try.pinned (OpenSpec.ofChange textTellsSpec)

/-- ITS FALSE NEIGHBOUR: 'it returns false'. Refute it at one input. -/
def textTellsWrong : ChangeSpec := { name := "textTells", fn := fun _ => fun
  | [d1, d2] => { results := [.lit (.bool false)], args := [d1, d2] }
  | _ => none }
def TextTellsWrongFalsely : Prop := textTellsRow.holds Try.pinned (OpenSpec.ofChange textTellsWrong)

/-- 'copperplatelaw06.TextEnds': WHATEVER THE INPUT: true; the input reads as it did. -/
def textEndsSpec : ChangeSpec := { name := "textEnds", fn := fun _ => fun
  | [d1, d2, d3] => { results := [.lit (.bool true)], args := [d1, d2, d3] }
  | _ => none }
def textEndsRow : OpenClaim := { program := "ytfkokhagbdeahaa", sum := "c7a836a4b0508bc68ec405f44ae9f198460013b9a8e5d0051d32ca874b964f0d", func := "copperplate/copperplatelaw06.TextEnds", spec := "textEnds", unfollowed := true, recurses := true, apart := false }
def TextEndsSaid : Prop := textEndsRow.holds Try.pinned (OpenSpec.ofChange textEndsSpec)

/-- ITS FALSE NEIGHBOUR: 'it returns false'. Refute it at one input. -/
def textEndsWrong : ChangeSpec := { name := "textEnds", fn := fun _ => fun
  | [d1, d2, d3] => { results := [.lit (.bool false)], args := [d1, d2, d3] }
  | _ => none }
def TextEndsWrongFalsely : Prop := textEndsRow.holds Try.pinned (OpenSpec.ofChange textEndsWrong)

/-- 'copperplatelaw06.TextPlain': WHATEVER THE INPUT: true; the input reads as it did. -/
def textPlainSpec : ChangeSpec := { name := "textPlain", fn := fun _ => fun
  | [d1, d2] => { results := [.lit (.bool true)], args := [d1, d2] }
  | _ => none }
def textPlainRow : OpenClaim := { program := "ytfkokhagbdeahaa", sum := "c7a836a4b0508bc68ec405f44ae9f198460013b9a8e5d0051d32ca874b964f0d", func := "copperplate/copperplatelaw06.TextPlain", spec := "textPlain", unfollowed := true, recurses := true, apart := false }
def TextPlainSaid : Prop := textPlainRow.holds Try.pinned (OpenSpec.ofChange textPlainSpec)

/-- ITS FALSE NEIGHBOUR: 'it returns false'. Refute it at one input. -/
def textPlainWrong : ChangeSpec := { name := "textPlain", fn := fun _ => fun
  | [d1, d2] => { results := [.lit (.bool false)], args := [d1, d2] }
  | _ => none }
def TextPlainWrongFalsely : Prop := textPlainRow.holds Try.pinned (OpenSpec.ofChange textPlainWrong)

/-- 'copperplatelaw06.TextJoins': WHATEVER THE INPUT: true; the input reads as it did. -/
def textJoinsSpec : ChangeSpec := { name := "textJoins", fn := fun _ => fun
  | [d1, d2] => { results := [.lit (.bool true)], args := [d1, d2] }
  | _ => none }
def textJoinsRow : OpenClaim := { program := "ytfkokhagbdeahaa", sum := "c7a836a4b0508bc68ec405f44ae9f198460013b9a8e5d0051d32ca874b964f0d", func := "copperplate/copperplatelaw06.TextJoins", spec := "textJoins", unfollowed := true, recurses := true, apart := false }
def TextJoinsSaid : Prop := textJoinsRow.holds Try.pinned (OpenSpec.ofChange textJoinsSpec)

/-- ITS FALSE NEIGHBOUR: 'it returns false'. Refute it at one input. -/
def textJoinsWrong : ChangeSpec := { name := "textJoins", fn := fun _ => fun
  | [d1, d2] => { results := [.lit (.bool false)], args := [d1, d2] }
  | _ => none }
def TextJoinsWrongFalsely : Prop := textJoinsRow.holds Try.pinned (OpenSpec.ofChange textJoinsWrong)

/-- 'copperplatelaw06.TextChars': WHATEVER THE INPUT: true; the input reads as it did. -/
def textCharsSpec : ChangeSpec := { name := "textChars", fn := fun _ => fun
  | [d] => { results := [.lit (.bool true)], args := [d] }
  | _ => none }
def textCharsRow : OpenClaim := { program := "ytfkokhagbdeahaa", sum := "c7a836a4b0508bc68ec405f44ae9f198460013b9a8e5d0051d32ca874b964f0d", func := "copperplate/copperplatelaw06.TextChars", spec := "textChars", unfollowed := true, recurses := true, apart := false }
def TextCharsSaid : Prop := textCharsRow.holds Try.pinned (OpenSpec.ofChange textCharsSpec)

/-- ITS FALSE NEIGHBOUR: 'it returns false'. Refute it at one input. -/
def textCharsWrong : ChangeSpec := { name := "textChars", fn := fun _ => fun
  | [d] => { results := [.lit (.bool false)], args := [d] }
  | _ => none }
def TextCharsWrongFalsely : Prop := textCharsRow.holds Try.pinned (OpenSpec.ofChange textCharsWrong)

/-- 'copperplatelaw06.TextEscape': WHATEVER THE INPUT: true; the input reads as it did. -/
def textEscapeSpec : ChangeSpec := { name := "textEscape", fn := fun _ => fun
  | [d1, d2] => { results := [.lit (.bool true)], args := [d1, d2] }
  | _ => none }
def textEscapeRow : OpenClaim := { program := "ytfkokhagbdeahaa", sum := "c7a836a4b0508bc68ec405f44ae9f198460013b9a8e5d0051d32ca874b964f0d", func := "copperplate/copperplatelaw06.TextEscape", spec := "textEscape", unfollowed := true, recurses := true, apart := false }
def TextEscapeSaid : Prop := textEscapeRow.holds Try.pinned (OpenSpec.ofChange textEscapeSpec)

/-- ITS FALSE NEIGHBOUR: 'it returns false'. Refute it at one input. -/
def textEscapeWrong : ChangeSpec := { name := "textEscape", fn := fun _ => fun
  | [d1, d2] => { results := [.lit (.bool false)], args := [d1, d2] }
  | _ => none }
def TextEscapeWrongFalsely : Prop := textEscapeRow.holds Try.pinned (OpenSpec.ofChange textEscapeWrong)

/-- 'copperplatelaw06.TextHex': WHATEVER THE INPUT: true; the input reads as it did. -/
def textHexSpec : ChangeSpec := { name := "textHex", fn := fun _ => fun
  | [d1, d2, d3] => { results := [.lit (.bool true)], args := [d1, d2, d3] }
  | _ => none }
def textHexRow : OpenClaim := { program := "ytfkokhagbdeahaa", sum := "c7a836a4b0508bc68ec405f44ae9f198460013b9a8e5d0051d32ca874b964f0d", func := "copperplate/copperplatelaw06.TextHex", spec := "textHex", unfollowed := true, recurses := true, apart := false }
def TextHexSaid : Prop := textHexRow.holds Try.pinned (OpenSpec.ofChange textHexSpec)

/-- ITS FALSE NEIGHBOUR: 'it returns false'. Refute it at one input. -/
def textHexWrong : ChangeSpec := { name := "textHex", fn := fun _ => fun
  | [d1, d2, d3] => { results := [.lit (.bool false)], args := [d1, d2, d3] }
  | _ => none }
def TextHexWrongFalsely : Prop := textHexRow.holds Try.pinned (OpenSpec.ofChange textHexWrong)

/- THE SECOND FORM. 'bulk': how many values and letters a reading holds, each counted each time it is reached (what is shared counts as often as it is met; a slice's spare places count too). A statement '..UptoSaid' is the law's where the arguments, and the package variables that the reading takes, are together of bulk at most 1048576: NARROWER than '..Said'. Prove '..Said' where nothing that the law and all that it calls make is longer than what came in: it says more and counts as full. Else prove '..UptoSaid'. A law counts once. -/
mutual
def uptoBulk {H : Type} : DataW H → Nat
  | .lit (.string bytes) => bytes.length + 1
  | .lit _ => 1
  | .nil => 1
  | .ptr d => uptoBulk d + 1
  | .slice elems spare => uptoBulkAll elems + uptoBulkAll spare + 1
  | .agg parts => uptoBulkAll parts + 1
  | .iface _ d => uptoBulk d + 1
  | .map entries => uptoBulkEntries entries + 1
  | .held _ => 1
def uptoBulkAll {H : Type} : List (DataW H) → Nat
  | [] => 0
  | d :: r => uptoBulk d + uptoBulkAll r
def uptoBulkEntries {H : Type} : List (Lit × DataW H) → Nat
  | [] => 0
  | x :: r => uptoBulkEntry x + uptoBulkEntries r
def uptoBulkEntry {H : Type} : Lit × DataW H → Nat
  | (.string bytes, d) => bytes.length + uptoBulk d + 1
  | (_, d) => uptoBulk d + 1
 end
def uptoSmall : (H : Type) → List (DataW H) → Bool := fun _ ds => decide (uptoBulkAll ds ≤ 1048576)
def OpenSpec.upto (s : _root_.Go.ChangeSpec) : _root_.Go.OpenSpec := { _root_.Go.OpenSpec.ofChange s with cond := some uptoSmall }

/-- 'copperplatelaw06.TextTells', WHERE WHAT IT READS IS OF BULK AT MOST 1048576: true; the input reads as it did. -/
def textTellsUptoRow : OpenClaim := { program := "ytfkokhagbdeahaa", sum := "c7a836a4b0508bc68ec405f44ae9f198460013b9a8e5d0051d32ca874b964f0d", func := "copperplate/copperplatelaw06.TextTells", spec := "textTells", unfollowed := true, recurses := true, apart := false, narrowed := true }
def TextTellsUptoSaid : Prop := textTellsUptoRow.holds Try.pinned (OpenSpec.upto textTellsSpec)

/-- 'copperplatelaw06.TextEnds', WHERE WHAT IT READS IS OF BULK AT MOST 1048576: true; the input reads as it did. -/
def textEndsUptoRow : OpenClaim := { program := "ytfkokhagbdeahaa", sum := "c7a836a4b0508bc68ec405f44ae9f198460013b9a8e5d0051d32ca874b964f0d", func := "copperplate/copperplatelaw06.TextEnds", spec := "textEnds", unfollowed := true, recurses := true, apart := false, narrowed := true }
def TextEndsUptoSaid : Prop := textEndsUptoRow.holds Try.pinned (OpenSpec.upto textEndsSpec)

/-- 'copperplatelaw06.TextPlain', WHERE WHAT IT READS IS OF BULK AT MOST 1048576: true; the input reads as it did. -/
def textPlainUptoRow : OpenClaim := { program := "ytfkokhagbdeahaa", sum := "c7a836a4b0508bc68ec405f44ae9f198460013b9a8e5d0051d32ca874b964f0d", func := "copperplate/copperplatelaw06.TextPlain", spec := "textPlain", unfollowed := true, recurses := true, apart := false, narrowed := true }
def TextPlainUptoSaid : Prop := textPlainUptoRow.holds Try.pinned (OpenSpec.upto textPlainSpec)

/-- 'copperplatelaw06.TextJoins', WHERE WHAT IT READS IS OF BULK AT MOST 1048576: true; the input reads as it did. -/
def textJoinsUptoRow : OpenClaim := { program := "ytfkokhagbdeahaa", sum := "c7a836a4b0508bc68ec405f44ae9f198460013b9a8e5d0051d32ca874b964f0d", func := "copperplate/copperplatelaw06.TextJoins", spec := "textJoins", unfollowed := true, recurses := true, apart := false, narrowed := true }
def TextJoinsUptoSaid : Prop := textJoinsUptoRow.holds Try.pinned (OpenSpec.upto textJoinsSpec)

/-- 'copperplatelaw06.TextChars', WHERE WHAT IT READS IS OF BULK AT MOST 1048576: true; the input reads as it did. -/
def textCharsUptoRow : OpenClaim := { program := "ytfkokhagbdeahaa", sum := "c7a836a4b0508bc68ec405f44ae9f198460013b9a8e5d0051d32ca874b964f0d", func := "copperplate/copperplatelaw06.TextChars", spec := "textChars", unfollowed := true, recurses := true, apart := false, narrowed := true }
def TextCharsUptoSaid : Prop := textCharsUptoRow.holds Try.pinned (OpenSpec.upto textCharsSpec)

/-- 'copperplatelaw06.TextEscape', WHERE WHAT IT READS IS OF BULK AT MOST 1048576: true; the input reads as it did. -/
def textEscapeUptoRow : OpenClaim := { program := "ytfkokhagbdeahaa", sum := "c7a836a4b0508bc68ec405f44ae9f198460013b9a8e5d0051d32ca874b964f0d", func := "copperplate/copperplatelaw06.TextEscape", spec := "textEscape", unfollowed := true, recurses := true, apart := false, narrowed := true }
def TextEscapeUptoSaid : Prop := textEscapeUptoRow.holds Try.pinned (OpenSpec.upto textEscapeSpec)

/-- 'copperplatelaw06.TextHex', WHERE WHAT IT READS IS OF BULK AT MOST 1048576: true; the input reads as it did. -/
def textHexUptoRow : OpenClaim := { program := "ytfkokhagbdeahaa", sum := "c7a836a4b0508bc68ec405f44ae9f198460013b9a8e5d0051d32ca874b964f0d", func := "copperplate/copperplatelaw06.TextHex", spec := "textHex", unfollowed := true, recurses := true, apart := false, narrowed := true }
def TextHexUptoSaid : Prop := textHexUptoRow.holds Try.pinned (OpenSpec.upto textHexSpec)

end Rows
end Go.Proofs.Ytfkokhagbdeahaa
