/- Slices among the arguments: what all of them want. -/
import Derived.Test.YtfcjihfnimefhaaBel
import Derived.Deep.Slices
import Derived.Deep.Fields
import Derived.ProofKit
import Derived.OpenShut
import Derived.Carry
namespace Go.Proofs.Ytfcjihfnimefhaa
open Go.ChangeShapes Go.WideShapes Go.ChangeAt Go.RowKit Go.Deep
set_option linter.unusedVariables false
set_option maxRecDepth 100000

theorem listed {α : Type} {M : Nat → α → Prop} (n : Nat) (h : ∀ i, i < n → ∃ t, M i t) : ∃ ts : List α, ts.length = n ∧ ∀ (j : Nat) (t : α), ts[j]? = some t → M j t := by
  induction n with
  | zero => exact ⟨[], rfl, fun j t ht => by simp at ht⟩
  | succ n ih =>
    obtain ⟨ts, hl, hts⟩ := ih fun i hi => h i (by omega)
    obtain ⟨t, ht⟩ := h n (by omega)
    refine ⟨ts ++ [t], by simp [hl], fun j u hu => ?_⟩
    by_cases hj : j < ts.length
    · rw [List.getElem?_append_left hj] at hu; exact hts j u hu
    · have hj2 : j = ts.length := by
        have := (List.getElem?_eq_some_iff.1 hu).1
        simp at this; omega
      subst hj2
      rw [List.getElem?_append_right (Nat.le_refl _), Nat.sub_self] at hu
      obtain rfl : t = u := by simpa using hu
      rw [hl]; exact ht
theorem cells1 : Try.prog.cellsOf 3 = 1 := by kernel_rfl
theorem cells2 : Try.prog.cellsOf 9 = 1 := by kernel_rfl
theorem spot_none {W : World} {a : Addr} {v : Value} (h : W.cell? a = some v) : a = ⟨a.block, a.off, none⟩ := by
  obtain ⟨b, o, s⟩ := a
  cases s with
  | none => rfl
  | some s =>
    unfold World.cell? at h
    dsimp only at h
    split at h <;> simp at h
end Go.Proofs.Ytfcjihfnimefhaa
