/- What tells whether a group is decided: places, columns, matches (plain mathematics). -/
import Derived.Test.YtfcjihfnimefhaaFloM
namespace Go.Proofs.Ytfcjihfnimefhaa
set_option linter.unusedVariables false
set_option maxRecDepth 100000

/-! ### The first such bit -/
/-- The place of the first one from i on; that behind all where there is none. -/
def nxF (q : Bq → Bool) (l : List Bq) (i : Nat) : Nat := i + (l.drop i).findIdx q
theorem nxF_end (q : Bq → Bool) (l : List Bq) : nxF q l l.length = l.length := by simp [nxF]
theorem nxF_step {q : Bq → Bool} {l : List Bq} {i : Nat} {b : Bq} (h : l[i]? = some b) : nxF q l i = if q b = true then i else nxF q l (i + 1) := by
  obtain ⟨h1, rfl⟩ := List.getElem?_eq_some_iff.1 h
  rw [nxF, List.drop_eq_getElem_cons h1, List.findIdx_cons]
  cases q l[i]
  · simp [nxF]; omega
  · simp
theorem nxF_ge (q : Bq → Bool) (l : List Bq) (i : Nat) : i ≤ nxF q l i := Nat.le_add_right _ _
theorem nxF_le {q : Bq → Bool} {l : List Bq} {i : Nat} (h : i ≤ l.length) : nxF q l i ≤ l.length := by
  have := List.findIdx_le_length (xs := l.drop i) (p := q)
  rw [List.length_drop] at this
  unfold nxF
  omega
theorem drop_take_cons {l : List Bq} {i e : Nat} {b : Bq} (h : l[i]? = some b) (hi : i < e) : (l.take e).drop i = b :: (l.take e).drop (i + 1) := by
  obtain ⟨h1, rfl⟩ := List.getElem?_eq_some_iff.1 h
  rw [List.drop_eq_getElem_cons (by rw [List.length_take]; omega), List.getElem_take]
theorem drop_take_none {l : List Bq} {i e : Nat} (hi : e ≤ i) : (l.take e).drop i = [] := List.drop_eq_nil_of_le (by rw [List.length_take]; omega)
theorem nxF_lt (q : Bq → Bool) {l : List Bq} {e : Nat} (he : e ≤ l.length) : ∀ d i, e - i = d → (nxF q l i < e ↔ ((l.take e).drop i).any q = true) := by
  intro d
  induction d with
  | zero =>
    intro i hi
    rw [drop_take_none (by omega)]
    have := nxF_ge q l i
    exact ⟨fun h => by omega, fun h => by cases h⟩
  | succ d ih =>
    intro i hi
    obtain ⟨b, hb⟩ : ∃ b, l[i]? = some b := ⟨_, List.getElem?_eq_getElem (by omega)⟩
    rw [drop_take_cons hb (by omega), List.any_cons, nxF_step hb]
    have := ih (i + 1) (by omega)
    cases hq : q b
    · rw [if_neg (by decide), Bool.false_or]; exact this
    · rw [if_pos rfl, Bool.true_or]; exact ⟨fun _ => rfl, fun _ => by omega⟩
/-- What stands behind, up to the first that breaks: by places. -/
theorem be_nx {l : List Bq} {e : Nat} (he : e ≤ l.length) : ∀ d m, e - m = d → m ≤ e → beF ((l.take e).drop m) = colS ((l.take (min (nxF (fun b => brF b.m) l m) e)).drop m) := by
  intro d
  induction d with
  | zero =>
    intro m hd hm
    obtain rfl : m = e := by omega
    have := nxF_ge (fun b => brF b.m) l m
    rw [drop_take_none (Nat.le_refl _), drop_take_none (by omega)]; rfl
  | succ d ih =>
    intro m hd hm
    obtain ⟨b, hb⟩ : ∃ b, l[m]? = some b := ⟨_, List.getElem?_eq_getElem (by omega)⟩
    have hr := ih (m + 1) (by omega) (by omega)
    rw [drop_take_cons hb (by omega), beF, nxF_step hb]
    cases hq : brF b.m
    · rw [if_neg (by decide), if_neg (by decide), hr]
      have := nxF_ge (fun b => brF b.m) l (m + 1)
      rw [drop_take_cons hb (e := min (nxF (fun b => brF b.m) l (m + 1)) e) (by omega)]; rfl
    · rw [if_pos rfl, if_pos rfl, drop_take_none (by omega)]; rfl
theorem colS_part (l : List Bq) {i j : Nat} (h : i ≤ j) : colS (l.take j) = colS (l.take i) + colS ((l.take j).drop i) := by
  have := congrArg colS (List.take_append_drop i (l.take j))
  rw [colS_app, List.take_take, Nat.min_eq_left h] at this
  exact this.symm

/-! ### Where the groups end -/
/-- Where a group ends; behind all, where it does not. -/
noncomputable def mtN (l : List Bq) (i : Nat) : Nat := if 0 ≤ mtc l i then (mtc l i).toNat else l.length
theorem mtN_is {l : List Bq} {i m : Nat} (h : Mt l i m) : mtN l i = m := by
  rw [mtN, (mtc_spec l i).is h, if_pos (by omega)]; rfl
theorem mtN_no {l : List Bq} {i : Nat} (h : ∀ m, ¬ Mt l i m) : mtN l i = l.length := by
  have e : mtc l i = -1 := (mtc_spec l i).no fun j m e hm => by
    obtain rfl : i = j := by omega
    exact h m hm
  rw [mtN, e, if_neg (by omega)]
theorem mtN_mt {l : List Bq} {i : Nat} (h : mtN l i < l.length) : Mt l i (mtN l i) := by
  by_cases hm : ∃ m, Mt l i m
  · obtain ⟨m, hm⟩ := hm
    rw [mtN_is hm]; exact hm
  · rw [mtN_no fun m hm' => hm ⟨m, hm'⟩] at h
    omega
theorem mtN_le (l : List Bq) (i : Nat) : mtN l i ≤ l.length := by
  by_cases hm : ∃ m, Mt l i m
  · obtain ⟨m, hm⟩ := hm
    rw [mtN_is hm]; exact Nat.le_of_lt hm.len
  · rw [mtN_no fun m hm' => hm ⟨m, hm'⟩]; exact Nat.le_refl _
/-- An end is that of one group. -/
theorem Mt.from_one {l : List Bq} {i j m : Nat} (h : Mt l i m) (k : Mt l j m) : i = j := by
  have h1 : ¬ i < j := fun e => by have := h.gt j e (Nat.le_of_lt k.lt); have := h.eq; have := k.eq; omega
  have h2 : ¬ j < i := fun e => by have := k.gt i e (Nat.le_of_lt h.lt); have := h.eq; have := k.eq; omega
  omega

/-! ### Decided -/
/-- As it is told by places and columns. -/
noncomputable def dcF (l : List Bq) (w : Int) (come i : Nat) (col : Int) : Option Bool :=
  if nxF (fun b => !flI b) l i < min (mtN l i) come then some false
  else if w < col + ((colS (l.take (min (nxF (fun b => brF b.m) l (mtN l i)) come)) : Nat) : Int) - ((colS (l.take i) : Nat) : Int) then some false
  else if nxF (fun b => brF b.m) l (mtN l i) < come then some true else none
theorem any_not (l : List Bq) : (l.any (fun b => !flI b) = true) ↔ l.all flI = false := by
  induction l with
  | nil => exact ⟨fun h => (by cases h), fun h => (by cases h)⟩
  | cons b l ih => rw [List.any_cons, List.all_cons]; cases flI b <;> simp [ih]
theorem dc_is {l : List Bq} {w : Int} {come i : Nat} {col : Int} (hic : i < come) (hc : come ≤ l.length) : dcF l w come i col = decF l w come i col ∧ (decF l w come i col = some true → mtN l i < come) := by
  by_cases hm : ∃ m, m < come ∧ Mt l i m
  · obtain ⟨m, hmc, hmt⟩ := hm
    have e1 := mtc_take hmt hmc
    have e2 := mtN_is hmt
    have e0 : ((m : Int)).toNat = m := rfl
    have hil := hmt.lt
    have hseg : segF l come i (m : Int) = (l.take m).drop i := by rw [segF, if_pos (by omega)]; rfl
    refine ⟨?_, fun _ => by omega⟩
    unfold dcF decF
    rw [e1, e2, hseg, e0, if_pos (show (0 : Int) ≤ (m : Int) by omega), Nat.min_eq_left (show m ≤ come by omega)]
    have c1 := nxF_lt (fun b => !flI b) (l := l) (e := m) (by omega) _ i rfl
    rw [any_not] at c1
    have c2 := be_nx hc _ m rfl (by omega)
    have hx : m ≤ min (nxF (fun b => brF b.m) l m) come := by have := nxF_ge (fun b => brF b.m) l m; omega
    have c3 := colS_part l (i := i) (j := m) (by omega)
    have c4 := colS_part l hx
    have c5 := nxF_lt (fun b => brF b.m) hc _ m rfl
    by_cases g1 : ((l.take m).drop i).all flI = false
    · rw [if_pos (c1.2 g1), if_pos g1]
    · rw [if_neg (fun h => g1 (c1.1 h)), if_neg g1, c2]
      by_cases g2 : w < col + ((colS ((l.take m).drop i) + colS ((l.take (min (nxF (fun b => brF b.m) l m) come)).drop m) : Nat) : Int)
      · rw [if_pos g2, if_pos (by omega)]
      · rw [if_neg g2, if_neg (by omega)]
        by_cases g3 : nxF (fun b => brF b.m) l m < come
        · rw [if_pos g3, if_pos ⟨by omega, c5.1 g3⟩]
        · rw [if_neg g3, if_neg (fun h => g3 (c5.2 h.2))]
  · have e1 : mtc (l.take come) i = -1 := (mtc_spec _ _).no fun j m e h => by
      obtain rfl : i = j := by omega
      have hl := h.len
      rw [List.length_take] at hl
      exact hm ⟨m, by omega, mt_same h (by rw [List.take_take, Nat.min_eq_left (by omega)])⟩
    have e2 : come ≤ mtN l i := by
      rcases Nat.lt_or_ge (mtN l i) come with h | h
      · exact absurd ⟨_, h, mtN_mt (by omega)⟩ hm
      · exact h
    have hseg : segF l come i (-1) = (l.take come).drop i := by rw [segF, if_neg (by omega)]
    have hx := nxF_ge (fun b => brF b.m) l (mtN l i)
    have c1 := nxF_lt (fun b => !flI b) hc _ i rfl
    rw [any_not] at c1
    have c3 := colS_part l (i := i) (j := come) (by omega)
    have key : dcF l w come i col = decF l w come i col ∧ decF l w come i col ≠ some true := by
      unfold dcF decF
      rw [e1, hseg, Nat.min_eq_right e2, Nat.min_eq_right (show come ≤ nxF (fun b => brF b.m) l (mtN l i) by omega), if_neg (show ¬ (0 : Int) ≤ -1 by omega)]
      by_cases g1 : ((l.take come).drop i).all flI = false
      · rw [if_pos (c1.2 g1), if_pos g1]; exact ⟨rfl, fun h => by cases h⟩
      · rw [if_neg (fun h => g1 (c1.1 h)), if_neg g1]
        by_cases g2 : w < col + ((colS ((l.take come).drop i) + 0 : Nat) : Int)
        · rw [if_pos g2, if_pos (by omega)]; exact ⟨rfl, fun h => by cases h⟩
        · rw [if_neg g2, if_neg (by omega), if_neg (by omega), if_neg (fun h => by have := h.1; omega)]; exact ⟨rfl, fun h => by cases h⟩
    exact ⟨key.1, fun h => absurd h key.2⟩
/-- What is decided hangs on what has come alone. -/
theorem dec_take {l : List Bq} {w : Int} {k come i : Nat} {col : Int} (hck : come ≤ k) : decF (l.take k) w come i col = decF l w come i col := by
  have e : (l.take k).take come = l.take come := by rw [List.take_take, Nat.min_eq_left hck]
  unfold decF
  rw [e]
  have hs : segF (l.take k) come i (mtc (l.take come) i) = segF l come i (mtc (l.take come) i) := by
    unfold segF
    rw [e]
    rcases mtc_spec (l.take come) i with ⟨j, m, e1, e2, hm⟩ | ⟨e2, -⟩
    · have hl := hm.len
      rw [List.length_take] at hl
      rw [e2]
      have e0 : ((m : Int)).toNat = m := rfl
      rw [e0, List.take_take, Nat.min_eq_left (by omega)]
    · rw [e2, if_neg (by omega), if_neg (by omega)]
  rw [hs]
/-- The match, where it has come. -/
theorem mtN_take {l : List Bq} {k i : Nat} (h : mtN (l.take k) i < k) (hk : k ≤ l.length) : Mt l i (mtN (l.take k) i) :=
  mt_same (mtN_mt (by rw [List.length_take]; omega)) (by rw [List.take_take, Nat.min_eq_left (by omega)])

/-! ### Groups that are open -/
/-- Where those begin that are open behind the first k. -/
def skF (l : List Bq) : Nat → List Nat
  | 0 => []
  | k + 1 => match l[k]? with
    | some b => if b.m = 6 then skF l k ++ [k] else if b.m = 7 then (skF l k).dropLast else skF l k
    | none => skF l k
theorem skF_open {l : List Bq} {k : Nat} {b : Bq} (h : l[k]? = some b) (h6 : b.m = 6) : skF l (k + 1) = skF l k ++ [k] := by rw [skF, h]; exact if_pos h6
theorem skF_close {l : List Bq} {k : Nat} {b : Bq} (h : l[k]? = some b) (h7 : b.m = 7) : skF l (k + 1) = (skF l k).dropLast := by
  rw [skF, h]
  show (if b.m = 6 then _ else if b.m = 7 then _ else _) = _
  rw [if_neg (by omega), if_pos h7]
theorem skF_else {l : List Bq} {k : Nat} {b : Bq} (h : l[k]? = some b) (h6 : b.m ≠ 6) (h7 : b.m ≠ 7) : skF l (k + 1) = skF l k := by
  rw [skF, h]
  show (if b.m = 6 then _ else if b.m = 7 then _ else _) = _
  rw [if_neg h6, if_neg h7]
/-- No more closes than opened. -/
def Pre (l : List Bq) : Prop := ∀ k, 0 ≤ oS (l.take k)
theorem pre_of {l : List Bq} (h : mayF 0 0 l = true) (k : Nat) : Pre (l.take k) := fun j => by
  rw [List.take_take]
  rcases (mayF_sum h).2 (min j k) with h' | h'
  · omega
  · rw [h']; simp [oS]
structure SkI (l : List Bq) (k : Nat) : Prop where
  len : ((skF l k).length : Int) = oS (l.take k)
  at' : ∀ t j : Nat, (skF l k)[t]? = some j → j < k ∧ (∃ b, l[j]? = some b ∧ b.m = 6) ∧ oS (l.take j) = t ∧ ∀ p, j < p → p ≤ k → (t : Int) < oS (l.take p)
theorem skI_all {l : List Bq} (hp : Pre l) : ∀ k, k ≤ l.length → SkI l k := by
  intro k
  induction k with
  | zero => intro _; exact ⟨rfl, fun t j h => by simp [skF] at h⟩
  | succ k ih =>
    intro hk
    obtain ⟨h1, h2⟩ := ih (by omega)
    obtain ⟨b, hb⟩ : ∃ b, l[k]? = some b := ⟨_, List.getElem?_eq_getElem (by omega)⟩
    have hn := oS_next hb
    have h0 := hp (k + 1)
    have more : ∀ t j : Nat, (skF l k)[t]? = some j → (t : Int) < oS (l.take (k + 1)) → j < k + 1 ∧ (∃ b, l[j]? = some b ∧ b.m = 6) ∧ oS (l.take j) = t ∧ ∀ p, j < p → p ≤ k + 1 → (t : Int) < oS (l.take p) := fun t j hj hlt => by
      obtain ⟨g1, g2, g3, g4⟩ := h2 t j hj
      refine ⟨by omega, g2, g3, fun p p1 p2 => ?_⟩
      rcases Nat.lt_or_ge k p with h | h
      · obtain rfl : p = k + 1 := by omega
        exact hlt
      · exact g4 p p1 h
    rcases dO_cases b.m with ⟨e, d⟩ | ⟨e, d⟩ | ⟨e1, e2, d⟩ <;> rw [d] at hn
    · have hs := skF_open hb e
      refine ⟨by rw [hs, List.length_append, List.length_singleton]; omega, fun t j hj => ?_⟩
      rw [hs] at hj
      rcases Nat.lt_or_ge t (skF l k).length with ht | ht
      · rw [List.getElem?_append_left ht] at hj
        exact more t j hj (by omega)
      · rw [List.getElem?_append_right ht] at hj
        obtain ⟨ht2, hj2⟩ := List.getElem?_eq_some_iff.1 hj
        rw [List.length_singleton] at ht2
        obtain rfl : t = (skF l k).length := by omega
        simp at hj2
        subst hj2
        refine ⟨by omega, ⟨b, hb, e⟩, by omega, fun p p1 p2 => ?_⟩
        obtain rfl : p = k + 1 := by omega
        omega
    · have hs := skF_close hb e
      refine ⟨by rw [hs, List.length_dropLast]; omega, fun t j hj => ?_⟩
      rw [hs, List.getElem?_dropLast] at hj
      split at hj
      · exact more t j hj (by omega)
      · cases hj
    · have hs := skF_else hb e1 e2
      refine ⟨by rw [hs]; omega, fun t j hj => ?_⟩
      rw [hs] at hj
      have := (List.getElem?_eq_some_iff.1 hj).1
      exact more t j hj (by omega)
theorem skI_close {l : List Bq} (hp : Pre l) {k : Nat} {b : Bq} (hb : l[k]? = some b) (h7 : b.m = 7) : ∃ s j, skF l k = s ++ [j] ∧ Mt l j k ∧ skF l (k + 1) = s := by
  have hk := (List.getElem?_eq_some_iff.1 hb).1
  obtain ⟨h1, h2⟩ := skI_all hp k (by omega)
  have hn := oS_next hb
  have h0 := hp (k + 1)
  rw [h7] at hn
  have d : dO 7 = -1 := by decide
  rw [d] at hn
  have hne : skF l k ≠ [] := fun e => by rw [e] at h1; simp at h1; omega
  obtain ⟨s, j, hs⟩ : ∃ s j, skF l k = s ++ [j] := ⟨_, _, (List.dropLast_concat_getLast hne).symm⟩
  have hl := congrArg List.length hs
  rw [List.length_append, List.length_singleton] at hl
  obtain ⟨g1, g2, g3, g4⟩ := h2 s.length j (by rw [hs, List.getElem?_append_right (Nat.le_refl _), Nat.sub_self]; rfl)
  refine ⟨s, j, hs, ⟨g2, g1, ⟨b, hb, h7⟩, by omega, fun p p1 p2 => by have := g4 p p1 p2; omega⟩, ?_⟩
  rw [skF_close hb h7, hs, List.dropLast_concat]
/-- The row of matches, behind the first k. -/
noncomputable def mtK (l : List Bq) (k : Nat) : List Int := (List.range l.length).map fun j => if mtN l j < k then ((mtN l j : Nat) : Int) else (l.length : Int)
noncomputable def mtL (l : List Bq) : List Int := (List.range l.length).map fun j => ((mtN l j : Nat) : Int)
theorem mtK_zero (l : List Bq) : mtK l 0 = List.replicate l.length (l.length : Int) := by
  rw [mtK, List.eq_replicate_iff]
  refine ⟨by simp, fun x hx => ?_⟩
  obtain ⟨j, _, rfl⟩ := List.mem_map.1 hx
  rw [if_neg (by omega)]
theorem mtK_all (l : List Bq) : mtK l l.length = mtL l := by
  rw [mtK, mtL]
  refine List.map_congr_left fun j _ => ?_
  have := mtN_le l j
  split <;> omega
theorem mtK_len (l : List Bq) (k : Nat) : (mtK l k).length = l.length := by simp [mtK]
theorem mtK_at {l : List Bq} {k j : Nat} (h : j < l.length) : (mtK l k)[j]? = some (if mtN l j < k then ((mtN l j : Nat) : Int) else (l.length : Int)) := by
  rw [mtK, List.getElem?_map, List.getElem?_range h]; rfl
theorem mtK_else {l : List Bq} {k : Nat} {b : Bq} (hb : l[k]? = some b) (h7 : b.m ≠ 7) : mtK l (k + 1) = mtK l k := by
  rw [mtK, mtK]
  refine List.map_congr_left fun j _ => ?_
  have hk := (List.getElem?_eq_some_iff.1 hb).1
  have hne : mtN l j ≠ k := fun e => by
    obtain ⟨c, hc, hc7⟩ := (mtN_mt (l := l) (i := j) (by omega)).cl
    rw [e, hb] at hc
    obtain rfl := Option.some.inj hc
    exact h7 hc7
  by_cases hlt : mtN l j < k
  · rw [if_pos hlt, if_pos (by omega)]
  · rw [if_neg hlt, if_neg (by omega)]
theorem mtK_close {l : List Bq} {k j : Nat} (h : Mt l j k) : mtK l (k + 1) = (mtK l k).set j (k : Int) := by
  apply List.ext_getElem?
  intro i
  have hl := h.len
  have hjk := h.lt
  rw [List.getElem?_set]
  by_cases hi : i < l.length
  · rw [mtK_at hi, mtK_at hi]
    by_cases e : j = i
    · subst e
      rw [if_pos rfl, mtK_len, if_pos hi, mtN_is h, if_pos (by omega)]
    · rw [if_neg e]
      have hne : mtN l i ≠ k := fun e2 => e (h.from_one (by have := mtN_mt (l := l) (i := i) (by omega); rwa [e2] at this))
      by_cases hlt : mtN l i < k
      · rw [if_pos hlt, if_pos (by omega)]
      · rw [if_neg hlt, if_neg (by omega)]
  · rw [List.getElem?_eq_none (by rw [mtK_len]; omega), List.getElem?_eq_none (by rw [mtK_len]; omega), if_neg (by omega)]
theorem mtL_at {l : List Bq} {j : Nat} (h : j < l.length) : (mtL l)[j]? = some ((mtN l j : Nat) : Int) := by
  rw [mtL, List.getElem?_map, List.getElem?_range h]; rfl

/-! ### The rows -/
def nxL (q : Bq → Bool) (l : List Bq) : List Int := (List.range (l.length + 1)).map fun i => ((nxF q l i : Nat) : Int)
def clL (l : List Bq) : List Int := (List.range (l.length + 1)).map fun i => ((colS (l.take i) : Nat) : Int)
theorem nxL_len (q : Bq → Bool) (l : List Bq) : (nxL q l).length = l.length + 1 := by simp [nxL]
theorem clL_len (l : List Bq) : (clL l).length = l.length + 1 := by simp [clL]
theorem mtL_len (l : List Bq) : (mtL l).length = l.length := by simp [mtL]
theorem nxL_at (q : Bq → Bool) {l : List Bq} {j : Nat} (h : j ≤ l.length) : (nxL q l)[j]? = some ((nxF q l j : Nat) : Int) := by
  rw [nxL, List.getElem?_map, List.getElem?_range (by omega)]; rfl
theorem clL_at {l : List Bq} {j : Nat} (h : j ≤ l.length) : (clL l)[j]? = some ((colS (l.take j) : Nat) : Int) := by
  rw [clL, List.getElem?_map, List.getElem?_range (by omega)]; rfl

/-! ### The most that was held -/
noncomputable def mostN (l : List Bq) (w : Int) : Nat → Nat
  | 0 => 0
  | k + 1 => max (mostN l w k) (hldN l w (k + 1))
theorem mostN_le (l : List Bq) (w : Int) (k : Nat) : mostN l w k ≤ k := by
  induction k with
  | zero => exact Nat.le_refl _
  | succ k ih => rw [mostN]; unfold hldN; omega
theorem hldN_most (l : List Bq) (w : Int) (k : Nat) : hldN l w k ≤ mostN l w k := by
  cases k with
  | zero => unfold hldN; omega
  | succ k => rw [mostN]; omega
end Go.Proofs.Ytfcjihfnimefhaa
