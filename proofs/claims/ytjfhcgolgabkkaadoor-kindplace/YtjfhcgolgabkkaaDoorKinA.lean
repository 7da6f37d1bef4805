/- Package kind: its table of texts; finding. -/
import Derived.Test.YtjfhcgolgabkkaaDoorKinM
import Derived.Test.YtjfhcgolgabkkaaDoorBel
namespace Go.Proofs.YtjfhcgolgabkkaaDoor
open Go.RowKit
set_option linter.unusedVariables false

/-- The table holds the terminals' texts. -/
def TabK (w : World) : Prop := 0 < w.heap.size ∧ ∀ c, c < 31 → w.cell? ⟨0, c, none⟩ = some (.string (mkb (stK c)))
theorem TabK.below {w w' : World} (h : TabK w) (b : Below w.heap.size w w') : TabK w' :=
  ⟨Nat.lt_of_lt_of_le h.1 b.size, fun c hc => (b.cell (p := ⟨0, c, none⟩) h.1).trans (h.2 c hc)⟩

set_option maxHeartbeats 400000 in
theorem finding_any (s : ByteArray) (w : World) :
    Calls Tryd.prog 23 #[.string s] w fun e w' => e = .returned (.func (.func 27) #[] #[.pointer (some ⟨w.heap.size, 0, none⟩)]) ∧ w' = w.alloc (.cells #[.string s] 9) := by
  go_enter Tryd.func23, Tryd.ntmps23
  go_wp2
  go_ret
  exact ⟨rfl, rfl⟩

set_option maxHeartbeats 1000000 in
theorem find_any {w : World} {bx : Nat} {s : ByteArray} {a b o : Int} (A n O : Nat) (ha : a = A) (hbb : b = A + n - 1) (ho : o = O) (hA : A + n ≤ 31) (hb : w.cell? ⟨bx, 0, none⟩ = some (.string s)) (ht : TabK w) :
    Calls Tryd.prog 27 #[.int .i64 a, .int .i64 b, .int .i64 o, .pointer (some ⟨bx, 0, none⟩)] w fun e w' => e = .returned (.int .i64 ((fndK s.data.toList O A n : Nat) : Int)) ∧ Below w.heap.size w w' := by
  obtain ⟨R, hR⟩ : ∃ R, fndK s.data.toList O A n = R := ⟨_, rfl⟩
  rw [hR]
  have HR := Lib.hid hR
  have HB := Lib.hid hbb
  have HT := Lib.hid ht
  have HC := Lib.hid hb
  have hb1 : b ≤ 30 := by omega
  subst ha ho
  clear hR hbb ht hb
  go_enter Tryd.func27, Tryd.ntmps27
  go_wp2
  go_loopw [8] (fun te wr => ∃ t : Nat, A ≤ t ∧ t ≤ A + n ∧ te = .int .i64 t ∧ Hid (fndK s.data.toList O t (A + n - t) = R) ∧ Below w.heap.size w wr) (fun te _ => A + n - (intOf te).toNat)
  case atStart => exact ⟨A, Nat.le_refl _, by omega, rfl, by rw [show A + n - A = n by omega]; exact HR, Below.refl _ _⟩
  case round =>
    obtain ⟨t, h1, h2, rfl, hf, hB⟩ := hrel
    by_cases hlt : t < A + n
    · have hT := HT.out.below hB
      have hl := hT.2 t (by omega)
      have hcell := bel_cell hB HC.out
      have q1 : (t : Int) ≤ b := by have := HB.out; omega
      have q2 : (t : Int) < 31 := by omega
      have hn : A + n - t = A + n - (t + 1) + 1 := by omega
      obtain ⟨X, hX⟩ : ∃ X, mkb (stK t) = X := ⟨_, rfl⟩
      have hf' := hf.out
      rw [hn, fndK] at hf'
      clear hf hn hT
      by_cases hs : stK t = s.data.toList
      · rw [if_pos hs] at hf'
        have q3 : (X.toList == s.toList) = true := by rw [← hX, mkb_toList, Lib.toList_data, hs]; simp
        rw [hX] at hl
        have HF := Lib.hid hf'
        clear hs hX hf'
        go_wp2
        go_quiet (fail)
        go_wp2
        go_ret
        exact ⟨by rw [HF.out]; rfl, below_drewN hB _⟩
      · rw [if_neg hs] at hf'
        have q3 : (X.toList == s.toList) = false := by rw [← hX, mkb_toList, Lib.toList_data]; simpa using hs
        rw [hX] at hl
        have HF := Lib.hid hf'
        clear hs hX hf'
        go_wp2
        go_quiet (fail)
        go_wp2
        go_roundw
        case rel => exact ⟨t + 1, by omega, by omega, by go_num, HF, below_drewN hB _⟩
        case measure => simp [intOf]; omega
    · have q1 : ¬ (t : Int) ≤ b := by have := HB.out; omega
      have hf' := hf.out
      rw [show A + n - t = 0 by omega, fndK] at hf'
      have HF := Lib.hid hf'
      clear hf' hf
      go_wp2
      go_ret
      exact ⟨by rw [HF.out]; rfl, hB⟩
end Go.Proofs.YtjfhcgolgabkkaaDoor
