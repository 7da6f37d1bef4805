/- Sums of strings, one byte of a string, one text of all. -/
import Derived.Test.YtfcjihfnimefhaaWidM
import Derived.Test.YtfcjihfnimefhaaBytes
import Derived.Test.YtfcjihfnimefhaaSpaE
namespace Go.Proofs.Ytfcjihfnimefhaa
open Go.RowKit
set_option linter.unusedVariables false
set_option maxRecDepth 100000

/-- A sum of strings, under a name of its own. -/
theorem sadd2 {A B : ByteArray} {a b : List UInt8} (hA : A = mkb a) (hB : B = mkb b) (h : a.length + b.length ≤ 1000000000) : ∃ R, R = mkb (a ++ b) ∧ ∀ w, (Op.stringOp .add A B).run Try.prog w = .ok (.string R) w :=
  ⟨mkb (a ++ b), rfl, fun w => by rw [hA, hB, ← mkb_add]; exact run_string_add_sum w _ _ (by rw [mkb_size, mkb_size]; omega)⟩
theorem ext_one {S : ByteArray} {j : Nat} {x : UInt8} (h : S.data.toList[j]? = some x) : S.extract j (j + 1) = mkb [x] := by
  apply ByteArray.ext
  apply Array.ext'
  rw [ByteArray.data_extract, Array.toList_extract, List.extract_eq_take_drop, Nat.add_sub_cancel_left]
  show _ = [x]
  obtain ⟨h1, h2⟩ := List.getElem?_eq_some_iff.1 h
  rw [List.drop_eq_getElem_cons h1, List.take_succ_cons, List.take_zero, h2]
theorem vS_mem {l : List Bq} {k : Nat} {b : Bq} (h : l[k]? = some b) : b.v.size ≤ vS l := by
  have h1 := vS_next h
  have h2 := vS_le l (k + 1)
  omega
end Go.Proofs.Ytfcjihfnimefhaa
