/- A []api.Bit among the arguments of the second form: as a row of bits, and what the bound on the bulk says of its texts. -/
import Derived.Test.YtfcjihfnimefhaaSliC
import Derived.Test.YtfcjihfnimefhaaBitR
import Derived.Test.YtfcjihfnimefhaaWidM
import Derived.Test.YtfcjihfnimefhaaRows
namespace Go.Proofs.Ytfcjihfnimefhaa
open Go.ChangeShapes Go.WideShapes Go.ChangeAt Go.RowKit Go.Deep
set_option linter.unusedVariables false
set_option maxRecDepth 100000

theorem cellsD2 : Try.prog.cellsOf 34 = 2 := by kernel_rfl
/-- How a bit reads. -/
def rdB {H : Type} (t : Bq) : DataW H := .agg [.lit (.int .i64 t.m), .lit (.string t.v.data.toList)]
theorem bit_cellsD {H : Type} {enc : TypeId × Value → H} {W : World} {base : Nat} {sp : Nat → Bool} {held : Bool} {n : Nat} {cs : List Value} {x : DataW H × List MemPlace} (h : DataW.trod enc Try.prog W base sp held n 34 cs = some x) :
    ∃ t : Bq, cs = [.int .i64 t.m, .string t.v] ∧ t.v.size ≤ maxLen ∧ (Lit.int .i64 t.m).wf = true ∧ x.1 = rdB t := by
  obtain ⟨xs, m, _, hx, hl, hxl, hf⟩ := DataW.trod_struct Try.underlying34 h
  rw [cellsD2] at hl
  match cs, hl with
  | [c0, c1], _ =>
    match xs, hxl with
    | [y0, y1], _ =>
      have e0 : DataW.trod enc Try.prog W base sp held m 3 (([c0, c1].drop 0).take (Try.prog.cellsOf 3)) = some y0 := hf 0 _ rfl
      have e1 : DataW.trod enc Try.prog W base sp held m 9 (([c0, c1].drop 1).take (Try.prog.cellsOf 9)) = some y1 := hf 1 _ rfl
      rw [cells1] at e0
      rw [cells2] at e1
      obtain ⟨k, h0, h0', hw⟩ := DataW.trod_int Try.underlying3 e0
      obtain ⟨v, h1, h1', hz⟩ := DataW.trod_string Try.underlying9 e1
      injection h0 with h0 _
      injection h1 with h1 _
      exact ⟨⟨k, v⟩, by rw [h0, h1], hz, hw, by rw [hx, h0', h1']; rfl⟩
theorem bulk_rows {H : Type} (l : List Bq) : vS l ≤ Rows.uptoBulkAll (H := H) (l.map rdB) := by
  induction l with
  | nil => exact Nat.zero_le _
  | cons t l ih =>
    have := size_list t.v
    simp only [List.map_cons, Rows.uptoBulkAll, rdB, Rows.uptoBulk, vS]
    omega
theorem open_G {H : Type} {enc : TypeId × Value → H} {W : World} {base : Nat} {v : Value} {d : DataW H} {ps : List MemPlace} (hok : Value.okWide Try.prog W .any base 22 v)
    (h : DataW.Trod enc Try.prog W 0 (fun _ => true) true 22 v d ps) :
    ∃ (A : Option Addr) (n c : Nat) (ts : List Bq), v = .slice A n c ∧ Br W A ts ∧ ts.length = n ∧ n ≤ c ∧ (A = none → n = 0 ∧ c = 0) ∧ vS ts ≤ Rows.uptoBulk d := by
  obtain ⟨A, n, c, rfl⟩ := okWide_slice Try.underlying22 hok
  obtain ⟨fuel, hf⟩ := h
  rcases open_slice Try.underlying22 hf with ⟨hcs, hx⟩ | ⟨a, len, cap, m, n', D, Pl, hcs, hlc, hl, hm, hmm, hx, hi⟩
  · simp [Value.cells] at hcs
    obtain ⟨rfl, rfl, rfl⟩ := hcs
    exact ⟨none, 0, 0, [], rfl, Br.nil _ _, rfl, Nat.le_refl _, fun _ => ⟨rfl, rfl⟩, Nat.zero_le _⟩
  · simp [Value.cells] at hcs
    obtain ⟨rfl, rfl, rfl⟩ := hcs
    simp only [if_true] at hmm
    subst hmm
    obtain ⟨ts, htl, hts⟩ := listed (M := fun i (t : Bq) => (W.cell? (a.add (i * 2)) = some (.int .i64 t.m) ∧ W.cell? (a.add (i * 2 + 1)) = some (.string t.v)) ∧ D i = rdB t) n (fun i hin => by
      obtain ⟨cs', hc, ht⟩ := hi i (by omega)
      rw [cellsD2] at hc
      obtain ⟨t, rfl, hz, hw, hd⟩ := bit_cellsD ht
      obtain ⟨_, _, hat⟩ := World.cells?_some hc
      refine ⟨t, ⟨?_, ?_⟩, hd⟩
      · have := hat 0 (by decide); rw [add_add, Nat.add_zero] at this; exact this
      · have := hat 1 (by decide); rw [add_add] at this; exact this)
    refine ⟨some a, n, _, ts, rfl, ?_, htl, hl, (fun e => by cases e), ?_⟩
    · intro j t hj
      have hjl := (List.getElem?_eq_some_iff.1 hj).1
      obtain ⟨t0, ht0⟩ : ∃ t0, ts[0]? = some t0 := ⟨_, List.getElem?_eq_getElem (by omega)⟩
      have hc0 := (hts 0 t0 ht0).1.1
      rw [Nat.zero_mul, Addr.add_zero'] at hc0
      have ea := spot_none hc0
      obtain ⟨h1, h2⟩ := (hts j t hj).1
      rw [ea, Addr.add_lit] at h1 h2
      exact ⟨a.block, a.off, by rw [← ea], h1, h2⟩
    · injection hx with hx _
      subst hx
      have e : (List.range n).map D = ts.map rdB := by
        apply List.ext_getElem
        · rw [List.length_map, List.length_map, List.length_range, htl]
        · intro j h1 h2
          have hj : j < ts.length := by rw [List.length_map] at h2; exact h2
          rw [List.getElem_map, List.getElem_map, List.getElem_range]
          exact (hts j ts[j] (List.getElem?_eq_getElem hj)).2
      rw [e]
      have := bulk_rows (H := H) ts
      simp only [Rows.uptoBulk]
      omega
end Go.Proofs.Ytfcjihfnimefhaa
