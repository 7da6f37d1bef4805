/- A []api.Bit among the arguments, as a row of bits: each mark within int, each text within the machine's reach. -/
import Derived.Test.YtmknjhmfgapejaaSliC
import Derived.Test.YtmknjhmfgapejaaBitR
import Derived.Test.YtmknjhmfgapejaaSpaM
import Derived.SizedLaws
namespace Go.Proofs.Ytmknjhmfgapejaa
open Go.ChangeShapes Go.WideShapes Go.ChangeAt Go.RowKit Go.Deep
set_option linter.unusedVariables false
set_option maxRecDepth 100000

theorem cellsD2 : Try.prog.cellsOf 23 = 2 := by kernel_rfl
/-- How a bit reads. -/
def rdB {H : Type} (t : Bq) : DataW H := .agg [.lit (.int .i64 t.m), .lit (.string t.v.data.toList)]
theorem bit_cellsD {H : Type} {enc : TypeId × Value → H} {W : World} {base : Nat} {sp : Nat → Bool} {held : Bool} {n : Nat} {cs : List Value} {x : DataW H × List MemPlace} (h : DataW.trod enc Try.prog W base sp held n 23 cs = some x) :
    ∃ t : Bq, cs = [.int .i64 t.m, .string t.v] ∧ t.v.size ≤ maxLen ∧ (Lit.int .i64 t.m).wf = true ∧ x.1 = rdB t := by
  obtain ⟨xs, m, _, hx, hl, hxl, hf⟩ := DataW.trod_struct Try.underlying23 h
  rw [cellsD2] at hl
  match cs, hl with
  | [c0, c1], _ =>
    match xs, hxl with
    | [y0, y1], _ =>
      have e0 : DataW.trod enc Try.prog W base sp held m 3 (([c0, c1].drop 0).take (Try.prog.cellsOf 3)) = some y0 := hf 0 _ rfl
      have e1 : DataW.trod enc Try.prog W base sp held m 9 (([c0, c1].drop 1).take (Try.prog.cellsOf 9)) = some y1 := hf 1 _ rfl
      rw [cells1] at e0
      rw [cells2] at e1
      obtain ⟨k, h0, h0', hw⟩ := DataW.trod_int Try.underlying3 e0
      obtain ⟨v, h1, h1', hz⟩ := DataW.trod_string Try.underlying9 e1
      injection h0 with h0 _
      injection h1 with h1 _
      exact ⟨⟨k, v⟩, by rw [h0, h1], hz, hw, by rw [hx, h0', h1']; rfl⟩
theorem weightsAll_mem {H : Type} {P : Program} {e : TypeId} : ∀ {ds : List (DataW H)} {d : DataW H}, d ∈ ds → ∀ n ∈ d.weights P e, n ∈ DataW.weightsAll P e ds
  | [], _, h, _, _ => by simp at h
  | d0 :: ds, d, h, n, hn => by
    simp only [DataW.weightsAll, List.mem_append]
    rcases List.mem_cons.1 h with rfl | h
    · exact .inl hn
    · exact .inr (weightsAll_mem h n hn)
theorem rdB_weight {H : Type} (t : Bq) : t.v.data.toList.length ∈ (rdB t : DataW H).weights Try.prog 23 := by
  simp only [rdB, DataW.weights, Try.underlying23]
  simp [DataW.weightsEach, DataW.weights]
theorem open_D {H : Type} {enc : TypeId × Value → H} {W : World} {base : Nat} {v : Value} {d : DataW H} {ps : List MemPlace} (hok : Value.okWide Try.prog W .any base 24 v)
    (h : DataW.Trod enc Try.prog W 0 (fun _ => true) true 24 v d ps) :
    ∃ (A : Option Addr) (n c : Nat) (ts : List Bq), v = .slice A n c ∧ Br W A ts ∧ ts.length = n ∧ n ≤ c ∧ (A = none → n = 0 ∧ c = 0) ∧ (∀ t ∈ ts, (Lit.int .i64 t.m).wf = true) ∧ ∀ t ∈ ts, t.v.data.toList.length ∈ d.weights Try.prog 24 := by
  obtain ⟨A, n, c, rfl⟩ := okWide_slice Try.underlying24 hok
  obtain ⟨fuel, hf⟩ := h
  rcases open_slice Try.underlying24 hf with ⟨hcs, hx⟩ | ⟨a, len, cap, m, n', D, Pl, hcs, hlc, hl, hm, hmm, hx, hi⟩
  · simp [Value.cells] at hcs
    obtain ⟨rfl, rfl, rfl⟩ := hcs
    exact ⟨none, 0, 0, [], rfl, Br.nil _ _, rfl, Nat.le_refl _, fun _ => ⟨rfl, rfl⟩, fun t ht => by simp at ht, fun t ht => by simp at ht⟩
  · simp [Value.cells] at hcs
    obtain ⟨rfl, rfl, rfl⟩ := hcs
    simp only [if_true] at hmm
    subst hmm
    obtain ⟨ts, htl, hts⟩ := listed (M := fun i (t : Bq) => (W.cell? (a.add (i * 2)) = some (.int .i64 t.m) ∧ W.cell? (a.add (i * 2 + 1)) = some (.string t.v)) ∧ (Lit.int .i64 t.m).wf = true ∧ D i = rdB t) n (fun i hin => by
      obtain ⟨cs', hc, ht⟩ := hi i (by omega)
      rw [cellsD2] at hc
      obtain ⟨t, rfl, hz, hw, hd⟩ := bit_cellsD ht
      obtain ⟨_, _, hat⟩ := World.cells?_some hc
      refine ⟨t, ⟨?_, ?_⟩, hw, hd⟩
      · have := hat 0 (by decide); rw [add_add, Nat.add_zero] at this; exact this
      · have := hat 1 (by decide); rw [add_add] at this; exact this)
    refine ⟨some a, n, _, ts, rfl, ?_, htl, hl, (fun e => by cases e), ?_, ?_⟩
    · intro j t hj
      have hjl := (List.getElem?_eq_some_iff.1 hj).1
      obtain ⟨t0, ht0⟩ : ∃ t0, ts[0]? = some t0 := ⟨_, List.getElem?_eq_getElem (by omega)⟩
      have hc0 := (hts 0 t0 ht0).1.1
      rw [Nat.zero_mul, Addr.add_zero'] at hc0
      have ea := spot_none hc0
      obtain ⟨h1, h2⟩ := (hts j t hj).1
      rw [ea, Addr.add_lit] at h1 h2
      exact ⟨a.block, a.off, by rw [← ea], h1, h2⟩
    · intro t ht
      obtain ⟨j, hj, rfl⟩ := List.getElem_of_mem ht
      exact (hts j ts[j] (List.getElem?_eq_getElem hj)).2.1
    · intro t ht
      obtain ⟨j, hj, rfl⟩ := List.getElem_of_mem ht
      have hd := (hts j ts[j] (List.getElem?_eq_getElem hj)).2.2
      injection hx with hx _
      subst hx
      simp only [DataW.weights, Try.underlying24]
      refine List.mem_cons_of_mem _ (List.mem_append_left _ (weightsAll_mem (d := rdB ts[j]) ?_ _ (rdB_weight _)))
      rw [← hd]
      exact List.mem_map_of_mem (List.mem_range.2 (by omega))
/-- .. by the form's own bound. -/
theorem szB_of {H : Type} {ts : List TypeId} {ds : List (DataW H)} (h : (DataW.weightsEach Try.prog ts ds).all (· ≤ reachBytes) = true) {j : Nat} {d : DataW H} {l : List Bq} (hm : ∀ t ∈ l, t.v.data.toList.length ∈ d.weights Try.prog 24) (ht : ts[j]? = some 24) (hd : ds[j]? = some d) : SzB l := fun b hb => by
  have := List.all_eq_true.1 h _ (DataW.weights_mem_each ht hd _ (hm b hb))
  rw [size_list]
  have e : reachBytes = 140737488351232 := rfl
  rw [← e]
  simpa using this
end Go.Proofs.Ytmknjhmfgapejaa
