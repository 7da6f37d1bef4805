/- A []int among the arguments, as a row of ints, each within int. -/
import Derived.Test.YtfgmojnohienfaaDoorIntR
import Derived.Deep.Slices
import Derived.Deep.Fields
import Derived.ProofKit
import Derived.OpenShut
import Derived.Carry
namespace Go.Proofs.YtfgmojnohienfaaDoor
open Go.ChangeShapes Go.WideShapes Go.ChangeAt Go.RowKit Go.Deep
set_option linter.unusedVariables false
set_option maxRecDepth 100000

theorem listed2 {α : Type} {M : Nat → α → Prop} (n : Nat) (h : ∀ i, i < n → ∃ t, M i t) : ∃ ts : List α, ts.length = n ∧ ∀ (j : Nat) (t : α), ts[j]? = some t → M j t := by
  induction n with
  | zero => exact ⟨[], rfl, fun j t ht => by simp at ht⟩
  | succ n ih =>
    obtain ⟨ts, hl, hts⟩ := ih fun i hi => h i (by omega)
    obtain ⟨t, ht⟩ := h n (by omega)
    refine ⟨ts ++ [t], by simp [hl], fun j u hu => ?_⟩
    by_cases hj : j < ts.length
    · rw [List.getElem?_append_left hj] at hu; exact hts j u hu
    · have hj2 : j = ts.length := by
        have := (List.getElem?_eq_some_iff.1 hu).1
        simp at this; omega
      subst hj2
      rw [List.getElem?_append_right (Nat.le_refl _), Nat.sub_self] at hu
      obtain rfl : t = u := by simpa using hu
      rw [hl]; exact ht
theorem cellsI2 : Tryd.prog.cellsOf 3 = 1 := by kernel_rfl
theorem spot_none2 {W : World} {a : Addr} {v : Value} (h : W.cell? a = some v) : a = ⟨a.block, a.off, none⟩ := by
  obtain ⟨b, o, s⟩ := a
  cases s with
  | none => rfl
  | some s =>
    unfold World.cell? at h
    dsimp only at h
    split at h <;> simp at h
theorem open_J {H : Type} {enc : TypeId × Value → H} {W : World} {base : Nat} {v : Value} {d : DataW H} {ps : List MemPlace} (hok : Value.okWide Tryd.prog W .any base 22 v)
    (h : DataW.Trod enc Tryd.prog W 0 (fun _ => true) true 22 v d ps) :
    ∃ (A : Option Addr) (n c : Nat) (ts : List Int), v = .slice A n c ∧ Ri W A ts ∧ ts.length = n ∧ n ≤ 9223372036854775807 ∧ (n ≤ c ∧ c ≤ 9223372036854775807) ∧ (A = none → n = 0 ∧ c = 0) ∧ ∀ t ∈ ts, (Lit.int .i64 t).wf = true := by
  obtain ⟨A, n, c, rfl⟩ := okWide_slice Tryd.underlying22 hok
  obtain ⟨fuel, hf⟩ := h
  rcases open_slice Tryd.underlying22 hf with ⟨hcs, hx⟩ | ⟨a, len, cap, m, n', D, Pl, hcs, hlc, hl, hm, hmm, hx, hi⟩
  · simp [Value.cells] at hcs
    obtain ⟨rfl, rfl, rfl⟩ := hcs
    exact ⟨none, 0, 0, [], rfl, Ri.nil _ _, rfl, by omega, by omega, fun _ => ⟨rfl, rfl⟩, fun t ht => by cases ht⟩
  · simp [Value.cells] at hcs
    obtain ⟨rfl, rfl, rfl⟩ := hcs
    simp only [if_true] at hmm
    subst hmm
    obtain ⟨ts, htl, hts⟩ := listed2 (M := fun i (t : Int) => W.cell? (a.add i) = some (.int .i64 t) ∧ (Lit.int .i64 t).wf = true) n (fun i hin => by
      obtain ⟨cs', hc, ht⟩ := hi i (by omega)
      rw [cellsI2] at hc
      obtain ⟨k, rfl, _, hwk⟩ := DataW.trod_int Tryd.underlying3 ht
      obtain ⟨_, _, hat⟩ := World.cells?_some hc
      refine ⟨k, ?_, hwk⟩
      have := hat 0 (by decide); rw [add_add, Nat.add_zero, Nat.mul_one] at this; exact this)
    refine ⟨some a, n, _, ts, rfl, ?_, htl, by unfold maxLen at hm; omega, by unfold maxLen at hm; omega, fun e => (by cases e), ?_⟩
    case refine_2 =>
      intro t ht
      obtain ⟨j, hj⟩ := List.getElem?_of_mem ht
      exact (hts j t hj).2
    intro j t hj
    have hjl := (List.getElem?_eq_some_iff.1 hj).1
    obtain ⟨t0, ht0⟩ : ∃ t0, ts[0]? = some t0 := ⟨_, List.getElem?_eq_getElem (by omega)⟩
    have hc0 := (hts 0 t0 ht0).1
    rw [Addr.add_zero'] at hc0
    have ea := spot_none2 hc0
    have h1 := (hts j t hj).1
    rw [ea, Addr.add_lit] at h1
    exact ⟨a.block, a.off, by rw [← ea], h1⟩
end Go.Proofs.YtfgmojnohienfaaDoor
