/- Strings of bytes. -/
import Derived.Test.YtfcjihfnimefhaaRows
import Derived.Lib.Strings
import Derived.WalkKit
import Derived.Laws.IdiomStrings
namespace Go.Proofs.Ytfcjihfnimefhaa
open Go.RowKit
set_option linter.unusedVariables false

/-- The string of a list's bytes. -/
def mkb (l : List UInt8) : ByteArray := ⟨l.toArray⟩
theorem mkb_data (l : List UInt8) : (mkb l).data.toList = l := rfl
theorem mkb_size (l : List UInt8) : (mkb l).size = l.length := by simp [mkb, ByteArray.size]
theorem mkb_toList (l : List UInt8) : (mkb l).toList = l := by rw [Lib.toList_data]; rfl
theorem mkb_of (s : ByteArray) : mkb s.data.toList = s := rfl
theorem mkb_add (a b : List UInt8) : mkb a ++ mkb b = mkb (a ++ b) := by
  apply ByteArray.ext
  simp [mkb]
theorem sadd (a b : List UInt8) (h : a.length + b.length ≤ 1000000) (w : World) : (Op.stringOp .add (mkb a) (mkb b)).run Try.prog w = .ok (.string (mkb (a ++ b))) w := by
  rw [← mkb_add]; exact run_string_add_sum w _ _ (by rw [mkb_size, mkb_size]; omega)
/-- A sum of strings, under a name of its own. -/
theorem sadd' {A B : ByteArray} {a b : List UInt8} (hA : A = mkb a) (hB : B = mkb b) (h : a.length + b.length ≤ 1000000) : ∃ R, R = mkb (a ++ b) ∧ ∀ w, (Op.stringOp .add A B).run Try.prog w = .ok (.string R) w :=
  ⟨mkb (a ++ b), rfl, fun w => by rw [hA, hB]; exact sadd a b h w⟩
end Go.Proofs.Ytfcjihfnimefhaa
