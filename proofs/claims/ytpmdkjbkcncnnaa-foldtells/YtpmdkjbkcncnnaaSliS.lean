/- A []string among the arguments, as a list of texts. -/
import Derived.Test.YtpmdkjbkcncnnaaFoldD
import Derived.SliceStrings
import Derived.ProofKit
import Derived.OpenShut
import Derived.Carry
namespace Go.Proofs.Ytpmdkjbkcncnnaa
open Go.ChangeShapes Go.WideShapes Go.ChangeAt Go.RowKit
set_option linter.unusedVariables false

theorem cellsS : Try.prog.cellsOf 9 = 1 := by kernel_rfl
theorem cell_lt {W : World} {a : Addr} {v : Value} (h : W.cell? a = some v) : a.block < W.heap.size := by
  rcases Nat.lt_or_ge a.block W.heap.size with hlt | hge
  · exact hlt
  · unfold World.cell? at h
    rw [Array.getElem?_eq_none hge] at h
    cases h
theorem open_S {H : Type} {enc : TypeId × Value → H} {W : World} {base : Nat} {v : Value} {d : DataW H} {ps : List MemPlace} (hok : Value.okWide Try.prog W .any base 22 v)
    (h : DataW.Trod enc Try.prog W 0 (fun _ => true) true 22 v d ps) :
    ∃ (A : Option Addr) (n c : Nat) (ls : List (List UInt8)), v = .slice A n c ∧ Rs W W.heap.size A ls ∧ ls.length = n ∧ n ≤ 9223372036854775807 ∧ (∀ x ∈ ls, x.length ≤ 9223372036854775807) ∧
      ((ls = [] ∧ d = .nil) ∨ ∃ sp, d = .slice (ls.map fun x => .lit (.string x)) sp) := by
  obtain ⟨A, n, c, rfl⟩ := okWide_slice Try.underlying22 hok
  obtain ⟨fuel, hf⟩ := h
  rcases open_strings Try.underlying22 Try.underlying9 cellsS hf with ⟨hcs, hx⟩ | ⟨a, len', cap', ss, hcs, _, hl, hm, hz, hx, hcell, hws⟩
  · simp [Value.cells] at hcs
    obtain ⟨rfl, rfl, rfl⟩ := hcs
    simp only [Prod.mk.injEq] at hx
    obtain ⟨rfl, rfl⟩ := hx
    exact ⟨none, 0, 0, [], rfl, fun j x hx => by simp at hx, rfl, by omega, fun x hx => by simp at hx, .inl ⟨rfl, rfl⟩⟩
  · simp [Value.cells] at hcs
    obtain ⟨rfl, rfl, rfl⟩ := hcs
    simp only [Prod.mk.injEq] at hx
    obtain ⟨rfl, rfl⟩ := hx
    simp only [if_true] at hz
    refine ⟨some a, n, c, (ss.take n).map (·.data.toList), rfl, ?_, ?_, by unfold maxLen at hm; omega, ?_, .inr ⟨strs (ss.drop n), ?_⟩⟩
    · intro j x hj
      rw [List.getElem?_map, Option.map_eq_some_iff] at hj
      obtain ⟨y, hy, rfl⟩ := hj
      have hjl := (List.getElem?_eq_some_iff.1 hy).1
      rw [List.length_take] at hjl
      rw [List.getElem?_take_of_lt (by omega)] at hy
      have hc := hcell j (by omega)
      have e : ss.getD j ByteArray.empty = y := by rw [List.getD_eq_getElem?_getD, hy]; rfl
      rw [e] at hc
      refine ⟨a, rfl, ?_, hc⟩
      have := cell_lt hc
      rwa [addB] at this
    · rw [List.length_map, List.length_take]; omega
    · intro x hx
      obtain ⟨y, hy, rfl⟩ := List.mem_map.1 hx
      have := hws y (List.mem_of_mem_take hy)
      rw [← Lib.size_eq]; unfold maxLen at this; exact this
    · simp only [strs, List.map_map]; rfl
end Go.Proofs.Ytpmdkjbkcncnnaa
