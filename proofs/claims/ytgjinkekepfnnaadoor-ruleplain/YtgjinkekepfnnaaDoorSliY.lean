/- A []api.Sym among the arguments, as a row of symbols. -/
import Derived.Test.YtgjinkekepfnnaaDoorSymR
import Derived.Deep.Slices
import Derived.Deep.Fields
import Derived.ProofKit
import Derived.OpenShut
import Derived.Carry
namespace Go.Proofs.YtgjinkekepfnnaaDoor
open Go.ChangeShapes Go.WideShapes Go.ChangeAt Go.RowKit Go.Deep
set_option linter.unusedVariables false
set_option maxRecDepth 100000

theorem listed2 {α : Type} {M : Nat → α → Prop} (n : Nat) (h : ∀ i, i < n → ∃ t, M i t) : ∃ ts : List α, ts.length = n ∧ ∀ (j : Nat) (t : α), ts[j]? = some t → M j t := by
  induction n with
  | zero => exact ⟨[], rfl, fun j t ht => by simp at ht⟩
  | succ n ih =>
    obtain ⟨ts, hl, hts⟩ := ih fun i hi => h i (by omega)
    obtain ⟨t, ht⟩ := h n (by omega)
    refine ⟨ts ++ [t], by simp [hl], fun j u hu => ?_⟩
    by_cases hj : j < ts.length
    · rw [List.getElem?_append_left hj] at hu; exact hts j u hu
    · have hj2 : j = ts.length := by
        have := (List.getElem?_eq_some_iff.1 hu).1
        simp at this; omega
      subst hj2
      rw [List.getElem?_append_right (Nat.le_refl _), Nat.sub_self] at hu
      obtain rfl : t = u := by simpa using hu
      rw [hl]; exact ht
theorem cellsI : Tryd.prog.cellsOf 3 = 1 := by kernel_rfl
theorem cellsY : Tryd.prog.cellsOf 37 = 2 := by kernel_rfl
theorem sym_cells {H : Type} {enc : TypeId × Value → H} {W : World} {base : Nat} {sp : Nat → Bool} {held : Bool} {n : Nat} {cs : List Value} {x : DataW H × List MemPlace} (h : DataW.trod enc Tryd.prog W base sp held n 37 cs = some x) :
    ∃ (k a : Int), cs = [.int .i64 k, .int .i64 a] := by
  obtain ⟨xs, m, _, hx, hl, hxl, hf⟩ := DataW.trod_struct Tryd.underlying37 h
  rw [cellsY] at hl
  match cs, hl with
  | [c0, c1], _ =>
    have key : ∀ i, i < 2 → ∃ y, xs[i]? = some y := fun i hi => ⟨_, List.getElem?_eq_getElem (by rw [hxl]; exact hi)⟩
    obtain ⟨y0, g0⟩ := key 0 (by decide)
    obtain ⟨y1, g1⟩ := key 1 (by decide)
    have e0 : DataW.trod enc Tryd.prog W base sp held m 3 (([c0, c1].drop 0).take (Tryd.prog.cellsOf 3)) = xs[0]? := hf 0 _ rfl
    have e1 : DataW.trod enc Tryd.prog W base sp held m 3 (([c0, c1].drop 1).take (Tryd.prog.cellsOf 3)) = xs[1]? := hf 1 _ rfl
    rw [cellsI] at e0 e1
    obtain ⟨k, h0, _, _⟩ := DataW.trod_int Tryd.underlying3 (e0.trans g0)
    obtain ⟨a, h1, _, _⟩ := DataW.trod_int Tryd.underlying3 (e1.trans g1)
    injection h0 with h0 _
    injection h1 with h1 _
    exact ⟨k, a, by rw [h0, h1]⟩
theorem spot_none2 {W : World} {a : Addr} {v : Value} (h : W.cell? a = some v) : a = ⟨a.block, a.off, none⟩ := by
  obtain ⟨b, o, s⟩ := a
  cases s with
  | none => rfl
  | some s =>
    unfold World.cell? at h
    dsimp only at h
    split at h <;> simp at h
theorem open_Y {H : Type} {enc : TypeId × Value → H} {W : World} {base : Nat} {v : Value} {d : DataW H} {ps : List MemPlace} (hok : Value.okWide Tryd.prog W .any base 22 v)
    (h : DataW.Trod enc Tryd.prog W 0 (fun _ => true) true 22 v d ps) :
    ∃ (A : Option Addr) (n c : Nat) (ts : List Sq), v = .slice A n c ∧ Sr W A ts ∧ ts.length = n ∧ n ≤ 9223372036854775807 ∧ True ∧ (A = none → n = 0 ∧ c = 0) := by
  obtain ⟨A, n, c, rfl⟩ := okWide_slice Tryd.underlying22 hok
  obtain ⟨fuel, hf⟩ := h
  rcases open_slice Tryd.underlying22 hf with ⟨hcs, hx⟩ | ⟨a, len, cap, m, n', D, Pl, hcs, _, hl, hm, hmm, hx, hi⟩
  · simp [Value.cells] at hcs
    obtain ⟨rfl, rfl, rfl⟩ := hcs
    exact ⟨none, 0, 0, [], rfl, Sr.nil _ _, rfl, by omega, trivial, fun _ => ⟨rfl, rfl⟩⟩
  · simp [Value.cells] at hcs
    obtain ⟨rfl, rfl, rfl⟩ := hcs
    simp only [if_true] at hmm
    subst hmm
    obtain ⟨ts, htl, hts⟩ := listed2 (M := fun i (t : Sq) => W.cell? (a.add (i * 2)) = some (.int .i64 t.k) ∧ W.cell? (a.add (i * 2 + 1)) = some (.int .i64 t.n)) n (fun i hin => by
      obtain ⟨cs', hc, ht⟩ := hi i (by omega)
      rw [cellsY] at hc
      obtain ⟨k, z, rfl⟩ := sym_cells ht
      obtain ⟨_, _, hat⟩ := World.cells?_some hc
      refine ⟨⟨k, z⟩, ?_, ?_⟩
      · have := hat 0 (by decide); rw [add_add, Nat.add_zero] at this; exact this
      · have := hat 1 (by decide); rw [add_add] at this; exact this)
    refine ⟨some a, n, _, ts, rfl, ?_, htl, by unfold maxLen at hm; omega, trivial, fun e => by cases e⟩
    intro j t hj
    have hjl := (List.getElem?_eq_some_iff.1 hj).1
    obtain ⟨t0, ht0⟩ : ∃ t0, ts[0]? = some t0 := ⟨_, List.getElem?_eq_getElem (by omega)⟩
    have hc0 := (hts 0 t0 ht0).1
    rw [Nat.zero_mul, Addr.add_zero'] at hc0
    have ea := spot_none2 hc0
    obtain ⟨h1, h2⟩ := hts j t hj
    rw [ea, Addr.add_lit] at h1 h2
    exact ⟨a.block, a.off, by rw [← ea], h1, h2⟩
end Go.Proofs.YtgjinkekepfnnaaDoor
