/- A []api.Tok among the arguments, as a row of tokens. -/
import Derived.Test.YtpcijjdlppoblaaGreatDoorTokR
import Derived.Deep.Slices
import Derived.Deep.Fields
import Derived.ProofKit
import Derived.OpenShut
import Derived.Carry
import Derived.Test.YtpcijjdlppoblaaGreatDoorTxtR
namespace Go.Proofs.YtpcijjdlppoblaaGreatDoor
open Go.ChangeShapes Go.WideShapes Go.ChangeAt Go.RowKit Go.Deep
set_option linter.unusedVariables false
set_option maxRecDepth 100000

theorem listed {α : Type} {M : Nat → α → Prop} (n : Nat) (h : ∀ i, i < n → ∃ t, M i t) : ∃ ts : List α, ts.length = n ∧ ∀ (j : Nat) (t : α), ts[j]? = some t → M j t := by
  induction n with
  | zero => exact ⟨[], rfl, fun j t ht => by simp at ht⟩
  | succ n ih =>
    obtain ⟨ts, hl, hts⟩ := ih fun i hi => h i (by omega)
    obtain ⟨t, ht⟩ := h n (by omega)
    refine ⟨ts ++ [t], by simp [hl], fun j u hu => ?_⟩
    by_cases hj : j < ts.length
    · rw [List.getElem?_append_left hj] at hu; exact hts j u hu
    · have hj2 : j = ts.length := by
        have := (List.getElem?_eq_some_iff.1 hu).1
        simp at this; omega
      subst hj2
      rw [List.getElem?_append_right (Nat.le_refl _), Nat.sub_self] at hu
      obtain rfl : t = u := by simpa using hu
      rw [hl]; exact ht
theorem cells1 : Tryz.prog.cellsOf 3 = 1 := by kernel_rfl
theorem cells2 : Tryz.prog.cellsOf 9 = 1 := by kernel_rfl
theorem cells4 : Tryz.prog.cellsOf 25 = 4 := by kernel_rfl
theorem tok_cells {H : Type} {enc : TypeId × Value → H} {W : World} {base : Nat} {sp : Nat → Bool} {held : Bool} {n : Nat} {cs : List Value} {x : DataW H × List MemPlace} (h : DataW.trod enc Tryz.prog W base sp held n 25 cs = some x) :
    ∃ (k : Int) (v : ByteArray) (a z : Int), cs = [.int .i64 k, .string v, .int .i64 a, .int .i64 z] ∧ v.size ≤ maxLen := by
  obtain ⟨xs, m, _, hx, hl, hxl, hf⟩ := DataW.trod_struct Tryz.underlying25 h
  rw [cells4] at hl
  match cs, hl with
  | [c0, c1, c2, c3], _ =>
    have key : ∀ i, i < 4 → ∃ y, xs[i]? = some y := fun i hi => ⟨_, List.getElem?_eq_getElem (by rw [hxl]; exact hi)⟩
    obtain ⟨y0, g0⟩ := key 0 (by decide)
    obtain ⟨y1, g1⟩ := key 1 (by decide)
    obtain ⟨y2, g2⟩ := key 2 (by decide)
    obtain ⟨y3, g3⟩ := key 3 (by decide)
    have e0 : DataW.trod enc Tryz.prog W base sp held m 3 (([c0, c1, c2, c3].drop 0).take (Tryz.prog.cellsOf 3)) = xs[0]? := hf 0 _ rfl
    have e1 : DataW.trod enc Tryz.prog W base sp held m 9 (([c0, c1, c2, c3].drop 1).take (Tryz.prog.cellsOf 9)) = xs[1]? := hf 1 _ rfl
    have e2 : DataW.trod enc Tryz.prog W base sp held m 3 (([c0, c1, c2, c3].drop 2).take (Tryz.prog.cellsOf 3)) = xs[2]? := hf 2 _ rfl
    have e3 : DataW.trod enc Tryz.prog W base sp held m 3 (([c0, c1, c2, c3].drop 3).take (Tryz.prog.cellsOf 3)) = xs[3]? := hf 3 _ rfl
    rw [cells1] at e0 e2 e3
    rw [cells2] at e1
    obtain ⟨k, h0, _, _⟩ := DataW.trod_int Tryz.underlying3 (e0.trans g0)
    obtain ⟨v, h1, _, hz⟩ := DataW.trod_string Tryz.underlying9 (e1.trans g1)
    obtain ⟨a, h2, _, _⟩ := DataW.trod_int Tryz.underlying3 (e2.trans g2)
    obtain ⟨z, h3, _, _⟩ := DataW.trod_int Tryz.underlying3 (e3.trans g3)
    injection h0 with h0 _
    injection h1 with h1 _
    injection h2 with h2 _
    injection h3 with h3 _
    exact ⟨k, v, a, z, by rw [h0, h1, h2, h3], hz⟩
theorem spot_none {W : World} {a : Addr} {v : Value} (h : W.cell? a = some v) : a = ⟨a.block, a.off, none⟩ := by
  obtain ⟨b, o, s⟩ := a
  cases s with
  | none => rfl
  | some s =>
    unfold World.cell? at h
    dsimp only at h
    split at h <;> simp at h
theorem open_K {H : Type} {enc : TypeId × Value → H} {W : World} {base : Nat} {v : Value} {d : DataW H} {ps : List MemPlace} (hok : Value.okWide Tryz.prog W .any base 23 v)
    (h : DataW.Trod enc Tryz.prog W 0 (fun _ => true) true 23 v d ps) :
    ∃ (A : Option Addr) (n c : Nat) (ts : List Tq), v = .slice A n c ∧ Tr W A ts ∧ ts.length = n ∧ n ≤ 9223372036854775807 ∧ (∀ t ∈ ts, t.v.size ≤ 9223372036854775807) ∧ (A = none → n = 0 ∧ c = 0) := by
  obtain ⟨A, n, c, rfl⟩ := okWide_slice Tryz.underlying23 hok
  obtain ⟨fuel, hf⟩ := h
  rcases open_slice Tryz.underlying23 hf with ⟨hcs, hx⟩ | ⟨a, len, cap, m, n', D, Pl, hcs, _, hl, hm, hmm, hx, hi⟩
  · simp [Value.cells] at hcs
    obtain ⟨rfl, rfl, rfl⟩ := hcs
    exact ⟨none, 0, 0, [], rfl, Tr.nil _ _, rfl, by omega, fun t ht => by simp at ht, fun _ => ⟨rfl, rfl⟩⟩
  · simp [Value.cells] at hcs
    obtain ⟨rfl, rfl, rfl⟩ := hcs
    simp only [if_true] at hmm
    subst hmm
    obtain ⟨ts, htl, hts⟩ := listed (M := fun i (t : Tq) => (W.cell? (a.add (i * 4)) = some (.int .i64 t.k) ∧ W.cell? (a.add (i * 4 + 1)) = some (.string t.v) ∧ W.cell? (a.add (i * 4 + 2)) = some (.int .i64 t.a) ∧ W.cell? (a.add (i * 4 + 3)) = some (.int .i64 t.z)) ∧ t.v.size ≤ maxLen) n (fun i hin => by
      obtain ⟨cs', hc, ht⟩ := hi i (by omega)
      rw [cells4] at hc
      obtain ⟨k, v, a', z, rfl, hz⟩ := tok_cells ht
      obtain ⟨_, _, hat⟩ := World.cells?_some hc
      refine ⟨⟨k, v, a', z⟩, ⟨?_, ?_, ?_, ?_⟩, hz⟩
      · have := hat 0 (by decide); rw [add_add, Nat.add_zero] at this; exact this
      · have := hat 1 (by decide); rw [add_add] at this; exact this
      · have := hat 2 (by decide); rw [add_add] at this; exact this
      · have := hat 3 (by decide); rw [add_add] at this; exact this)
    refine ⟨some a, n, _, ts, rfl, ?_, htl, by unfold maxLen at hm; omega, ?_, fun e => by cases e⟩
    · intro j t hj
      have hjl := (List.getElem?_eq_some_iff.1 hj).1
      obtain ⟨t0, ht0⟩ : ∃ t0, ts[0]? = some t0 := ⟨_, List.getElem?_eq_getElem (by omega)⟩
      have hc0 := (hts 0 t0 ht0).1.1
      rw [Nat.zero_mul, Addr.add_zero'] at hc0
      have ea := spot_none hc0
      obtain ⟨h1, h2, h3, h4⟩ := (hts j t hj).1
      rw [ea, Addr.add_lit] at h1 h2 h3 h4
      exact ⟨a.block, a.off, by rw [← ea], h1, h2, h3, h4⟩
    · intro t ht
      obtain ⟨j, hj, rfl⟩ := List.getElem_of_mem ht
      have := (hts j ts[j] (List.getElem?_eq_getElem hj)).2
      unfold maxLen at this
      exact this
end Go.Proofs.YtpcijjdlppoblaaGreatDoor

/- A []api.Tok among the arguments, as a row of tokens; its length is its capacity at most. -/
namespace Go.Proofs.YtpcijjdlppoblaaGreatDoor
open Go.ChangeShapes Go.WideShapes Go.ChangeAt Go.RowKit Go.Deep
set_option linter.unusedVariables false
set_option maxRecDepth 100000

theorem open_L {H : Type} {enc : TypeId × Value → H} {W : World} {base : Nat} {v : Value} {d : DataW H} {ps : List MemPlace} (hok : Value.okWide Tryz.prog W .any base 23 v)
    (h : DataW.Trod enc Tryz.prog W 0 (fun _ => true) true 23 v d ps) :
    ∃ (A : Option Addr) (n c : Nat) (ts : List Tq), v = .slice A n c ∧ Tr W A ts ∧ ts.length = n ∧ n ≤ 9223372036854775807 ∧ (n ≤ c ∧ ∀ t ∈ ts, t.v.size ≤ 9223372036854775807) ∧ (A = none → n = 0 ∧ c = 0) := by
  obtain ⟨A, n, c, rfl⟩ := okWide_slice Tryz.underlying23 hok
  obtain ⟨fuel, hf⟩ := h
  rcases open_slice Tryz.underlying23 hf with ⟨hcs, hx⟩ | ⟨a, len, cap, m, n', D, Pl, hcs, hlc, hl, hm, hmm, hx, hi⟩
  · simp [Value.cells] at hcs
    obtain ⟨rfl, rfl, rfl⟩ := hcs
    exact ⟨none, 0, 0, [], rfl, Tr.nil _ _, rfl, by omega, ⟨Nat.le_refl _, fun t ht => by simp at ht⟩, fun _ => ⟨rfl, rfl⟩⟩
  · simp [Value.cells] at hcs
    obtain ⟨rfl, rfl, rfl⟩ := hcs
    simp only [if_true] at hmm
    subst hmm
    obtain ⟨ts, htl, hts⟩ := listed (M := fun i (t : Tq) => (W.cell? (a.add (i * 4)) = some (.int .i64 t.k) ∧ W.cell? (a.add (i * 4 + 1)) = some (.string t.v) ∧ W.cell? (a.add (i * 4 + 2)) = some (.int .i64 t.a) ∧ W.cell? (a.add (i * 4 + 3)) = some (.int .i64 t.z)) ∧ t.v.size ≤ maxLen) n (fun i hin => by
      obtain ⟨cs', hc, ht⟩ := hi i (by omega)
      rw [cells4] at hc
      obtain ⟨k, v, a', z, rfl, hz⟩ := tok_cells ht
      obtain ⟨_, _, hat⟩ := World.cells?_some hc
      refine ⟨⟨k, v, a', z⟩, ⟨?_, ?_, ?_, ?_⟩, hz⟩
      · have := hat 0 (by decide); rw [add_add, Nat.add_zero] at this; exact this
      · have := hat 1 (by decide); rw [add_add] at this; exact this
      · have := hat 2 (by decide); rw [add_add] at this; exact this
      · have := hat 3 (by decide); rw [add_add] at this; exact this)
    refine ⟨some a, n, _, ts, rfl, ?_, htl, by unfold maxLen at hm; omega, ⟨by unfold maxLen at hm; omega, ?_⟩, fun e => by cases e⟩
    · intro j t hj
      have hjl := (List.getElem?_eq_some_iff.1 hj).1
      obtain ⟨t0, ht0⟩ : ∃ t0, ts[0]? = some t0 := ⟨_, List.getElem?_eq_getElem (by omega)⟩
      have hc0 := (hts 0 t0 ht0).1.1
      rw [Nat.zero_mul, Addr.add_zero'] at hc0
      have ea := spot_none hc0
      obtain ⟨h1, h2, h3, h4⟩ := (hts j t hj).1
      rw [ea, Addr.add_lit] at h1 h2 h3 h4
      exact ⟨a.block, a.off, by rw [← ea], h1, h2, h3, h4⟩
    · intro t ht
      obtain ⟨j, hj, rfl⟩ := List.getElem_of_mem ht
      have := (hts j ts[j] (List.getElem?_eq_getElem hj)).2
      unfold maxLen at this
      exact this
end Go.Proofs.YtpcijjdlppoblaaGreatDoor

/- A []api.Bit among the arguments, as a row of bits. -/
namespace Go.Proofs.YtpcijjdlppoblaaGreatDoor
open Go.ChangeShapes Go.WideShapes Go.ChangeAt Go.RowKit Go.Deep
set_option linter.unusedVariables false
set_option maxRecDepth 100000

theorem cellsB2 : Tryz.prog.cellsOf 47 = 2 := by kernel_rfl
theorem bit_cells {H : Type} {enc : TypeId × Value → H} {W : World} {base : Nat} {sp : Nat → Bool} {held : Bool} {n : Nat} {cs : List Value} {x : DataW H × List MemPlace} (h : DataW.trod enc Tryz.prog W base sp held n 47 cs = some x) :
    ∃ (k : Int) (v : ByteArray), cs = [.int .i64 k, .string v] ∧ v.size ≤ maxLen := by
  obtain ⟨xs, m, _, hx, hl, hxl, hf⟩ := DataW.trod_struct Tryz.underlying47 h
  rw [cellsB2] at hl
  match cs, hl with
  | [c0, c1], _ =>
    have key : ∀ i, i < 2 → ∃ y, xs[i]? = some y := fun i hi => ⟨_, List.getElem?_eq_getElem (by rw [hxl]; exact hi)⟩
    obtain ⟨y0, g0⟩ := key 0 (by decide)
    obtain ⟨y1, g1⟩ := key 1 (by decide)
    have e0 : DataW.trod enc Tryz.prog W base sp held m 3 (([c0, c1].drop 0).take (Tryz.prog.cellsOf 3)) = xs[0]? := hf 0 _ rfl
    have e1 : DataW.trod enc Tryz.prog W base sp held m 9 (([c0, c1].drop 1).take (Tryz.prog.cellsOf 9)) = xs[1]? := hf 1 _ rfl
    rw [cells1] at e0
    rw [cells2] at e1
    obtain ⟨k, h0, _, _⟩ := DataW.trod_int Tryz.underlying3 (e0.trans g0)
    obtain ⟨v, h1, _, hz⟩ := DataW.trod_string Tryz.underlying9 (e1.trans g1)
    injection h0 with h0 _
    injection h1 with h1 _
    exact ⟨k, v, by rw [h0, h1], hz⟩
theorem open_B {H : Type} {enc : TypeId × Value → H} {W : World} {base : Nat} {v : Value} {d : DataW H} {ps : List MemPlace} (hok : Value.okWide Tryz.prog W .any base 26 v)
    (h : DataW.Trod enc Tryz.prog W 0 (fun _ => true) true 26 v d ps) :
    ∃ (A : Option Addr) (n c : Nat) (ts : List Bq), v = .slice A n c ∧ Br W A ts ∧ ts.length = n ∧ n ≤ 9223372036854775807 ∧ (n ≤ c ∧ ∀ t ∈ ts, t.v.size ≤ 9223372036854775807) ∧ (A = none → n = 0 ∧ c = 0) := by
  obtain ⟨A, n, c, rfl⟩ := okWide_slice Tryz.underlying26 hok
  obtain ⟨fuel, hf⟩ := h
  rcases open_slice Tryz.underlying26 hf with ⟨hcs, hx⟩ | ⟨a, len, cap, m, n', D, Pl, hcs, hlc, hl, hm, hmm, hx, hi⟩
  · simp [Value.cells] at hcs
    obtain ⟨rfl, rfl, rfl⟩ := hcs
    exact ⟨none, 0, 0, [], rfl, Br.nil _ _, rfl, by omega, ⟨Nat.le_refl _, fun t ht => by simp at ht⟩, fun _ => ⟨rfl, rfl⟩⟩
  · simp [Value.cells] at hcs
    obtain ⟨rfl, rfl, rfl⟩ := hcs
    simp only [if_true] at hmm
    subst hmm
    obtain ⟨ts, htl, hts⟩ := listed (M := fun i (t : Bq) => (W.cell? (a.add (i * 2)) = some (.int .i64 t.m) ∧ W.cell? (a.add (i * 2 + 1)) = some (.string t.v)) ∧ t.v.size ≤ maxLen) n (fun i hin => by
      obtain ⟨cs', hc, ht⟩ := hi i (by omega)
      rw [cellsB2] at hc
      obtain ⟨k, v, rfl, hz⟩ := bit_cells ht
      obtain ⟨_, _, hat⟩ := World.cells?_some hc
      refine ⟨⟨k, v⟩, ⟨?_, ?_⟩, hz⟩
      · have := hat 0 (by decide); rw [add_add, Nat.add_zero] at this; exact this
      · have := hat 1 (by decide); rw [add_add] at this; exact this)
    refine ⟨some a, n, _, ts, rfl, ?_, htl, by unfold maxLen at hm; omega, ⟨by unfold maxLen at hm; omega, ?_⟩, fun e => by cases e⟩
    · intro j t hj
      have hjl := (List.getElem?_eq_some_iff.1 hj).1
      obtain ⟨t0, ht0⟩ : ∃ t0, ts[0]? = some t0 := ⟨_, List.getElem?_eq_getElem (by omega)⟩
      have hc0 := (hts 0 t0 ht0).1.1
      rw [Nat.zero_mul, Addr.add_zero'] at hc0
      have ea := spot_none hc0
      obtain ⟨h1, h2⟩ := (hts j t hj).1
      rw [ea, Addr.add_lit] at h1 h2
      exact ⟨a.block, a.off, by rw [← ea], h1, h2⟩
    · intro t ht
      obtain ⟨j, hj, rfl⟩ := List.getElem_of_mem ht
      have := (hts j ts[j] (List.getElem?_eq_getElem hj)).2
      unfold maxLen at this
      exact this
end Go.Proofs.YtpcijjdlppoblaaGreatDoor
