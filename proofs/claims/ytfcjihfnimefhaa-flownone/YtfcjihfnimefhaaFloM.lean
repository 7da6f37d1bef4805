/- Printing bits as they come (plain mathematics). -/
import Derived.Test.YtfcjihfnimefhaaWidO
namespace Go.Proofs.Ytfcjihfnimefhaa
set_option linter.unusedVariables false
set_option maxRecDepth 100000

/-! ### What is decided -/
/-- Up to its match, if that has come; else all that has come. -/
def segF (l : List Bq) (k i : Nat) (m : Int) : List Bq := if 0 ≤ m then (l.take m.toNat).drop i else (l.take k).drop i
/-- Is a group decided, and does it fit? -/
noncomputable def decF (l : List Bq) (w : Int) (k i : Nat) (col : Int) : Option Bool :=
  if (segF l k i (mtc (l.take k) i)).all flI = false then some false
  else if w < col + ((colS (segF l k i (mtc (l.take k) i)) + (if 0 ≤ mtc (l.take k) i then beF ((l.take k).drop (mtc (l.take k) i).toNat) else 0) : Nat) : Int) then some false
  else if 0 ≤ mtc (l.take k) i ∧ ((l.take k).drop (mtc (l.take k) i).toNat).any (fun b => brF b.m) = true then some true
  else none
theorem mtc_take {l : List Bq} {k i m : Nat} (h : Mt l i m) (hm : m < k) : mtc (l.take k) i = m :=
  (mtc_spec _ _).is (mt_same h (by rw [List.take_take, Nat.min_eq_left (by omega)]))
theorem mtc_none {l : List Bq} {k i m : Nat} (h : Mt l i m) (hm : k ≤ m) : mtc (l.take k) i = -1 := by
  refine (mtc_spec _ _).no fun j m' e h' => ?_
  obtain rfl : i = j := by omega
  have hl := h'.len
  rw [List.length_take] at hl
  have h2 : Mt l i m' := mt_same h' (by rw [List.take_take, Nat.min_eq_left (by omega)])
  have := h.one h2
  omega
theorem need_from {l : List Bq} {i m : Nat} (h : Mt l i m) : ((l.take m).drop i).all flI = (bet l i m).all flI ∧ colS ((l.take m).drop i) = colS (bet l i m) ∧ beF (l.drop m) = beF (l.drop (m + 1)) := by
  have hml := h.len
  have hjm := h.lt
  obtain ⟨b, hb, h6⟩ := h.op
  obtain ⟨c, hc, h7⟩ := h.cl
  have e : (l.take m).drop i = b :: bet l i m := by
    have hb' : (l.take m)[i]? = some b := by rw [List.getElem?_take, if_pos hjm]; exact hb
    obtain ⟨h1, h2⟩ := List.getElem?_eq_some_iff.1 hb'
    rw [List.drop_eq_getElem_cons h1, h2]; rfl
  have e2 : l.drop m = c :: l.drop (m + 1) := by
    obtain ⟨h1, h2⟩ := List.getElem?_eq_some_iff.1 hc
    rw [List.drop_eq_getElem_cons h1, h2]
  have c6 : flI b = true ∧ colB b = 0 := by
    obtain ⟨bm, bv⟩ := b
    dsimp only at h6
    subst h6
    exact ⟨rfl, cols_nil⟩
  have c7 : brF c.m = false ∧ colB c = 0 := by
    obtain ⟨cm, cv⟩ := c
    dsimp only at h7
    subst h7
    exact ⟨rfl, cols_nil⟩
  refine ⟨by rw [e, List.all_cons, c6.1, Bool.true_and], by rw [e, colS, c6.2, Nat.zero_add], ?_⟩
  rw [e2, beF, c7.1, c7.2, Nat.zero_add]; rfl
theorem beF_more (a b : List Bq) : beF a ≤ beF (a ++ b) := by
  induction a with
  | nil => exact Nat.zero_le _
  | cons x a ih => rw [List.cons_append, beF, beF]; split <;> omega
theorem beF_stop {a : List Bq} (h : a.any (fun b => brF b.m) = true) (b : List Bq) : beF (a ++ b) = beF a := by
  induction a with
  | nil => cases h
  | cons x a ih =>
    rw [List.cons_append, beF, beF]
    cases hx : brF x.m
    · rw [List.any_cons, hx, Bool.false_or] at h
      rw [ih h]
    · rfl
theorem beF_none {a : List Bq} (h : a.any (fun b => brF b.m) = false) : beF a = colS a :=
  beF_all fun b hb => by
    rw [List.any_eq_false] at h
    have := h b hb
    cases hx : brF b.m
    · rfl
    · exact absurd hx this
/-- What is decided is as it is in all of the bits. -/
theorem dec_fits {l : List Bq} {w col : Int} {k i : Nat} {b : Bq} {q : Bool} (hm : mayF 0 0 l = true) (hb : l[i]? = some b) (h6 : b.m = 6) (hik : i < k) (hk : k ≤ l.length) (h : decF l w k i col = some q) :
    q = true ↔ 0 ≤ nec l i ∧ col + nec l i ≤ w := by
  obtain ⟨m, hmt⟩ := may_mt hm hb h6
  obtain ⟨n1, n2, n3⟩ := need_from hmt
  have hlen := hmt.len
  rw [(nec_spec l i).is hmt]
  unfold decF at h
  by_cases hmk : m < k
  · rw [mtc_take hmt hmk] at h
    have hseg : segF l k i (m : Int) = (l.take m).drop i := by rw [segF, if_pos (by omega)]; rfl
    have hdr : (l.take k).drop m ++ l.drop k = l.drop m := by
      have := List.drop_append_of_le_length (l₂ := l.drop k) (show m ≤ (l.take k).length by rw [List.length_take]; omega)
      rw [List.take_append_drop] at this
      exact this.symm
    rw [hseg, n1, n2, if_pos (show (0 : Int) ≤ (m : Int) by omega)] at h
    have e0 : ((m : Int)).toNat = m := rfl
    rw [e0] at h
    cases hall : (bet l i m).all flI
    · rw [hall, if_pos rfl] at h
      obtain rfl := Option.some.inj h
      rw [ndF_no hall]
      exact ⟨fun e => (by cases e), fun e => by omega⟩
    · rw [hall, if_neg (by decide)] at h
      rw [ndF_yes hall, ← n3]
      have h1 := beF_more ((l.take k).drop m) (l.drop k)
      rw [hdr] at h1
      split at h
      · rename_i hw
        obtain rfl := Option.some.inj h
        exact ⟨fun e => (by cases e), fun e => by omega⟩
      · rename_i hw
        split at h
        · rename_i ha
          obtain rfl := Option.some.inj h
          have h2 := beF_stop ha.2 (l.drop k)
          rw [hdr] at h2
          exact ⟨fun _ => by omega, fun _ => rfl⟩
        · cases h
  · rw [mtc_none hmt (by omega)] at h
    have hseg : segF l k i (-1) = (l.take k).drop i := by rw [segF, if_neg (by omega)]
    have hsp : (l.take m).drop i = (l.take k).drop i ++ ((l.drop k).take (m - k)) := by
      have e : l.take m = l.take k ++ (l.drop k).take (m - k) := by rw [← List.take_add, show k + (m - k) = m by omega]
      rw [e, List.drop_append_of_le_length (by rw [List.length_take]; omega)]
    rw [hseg, if_neg (show ¬ (0 : Int) ≤ -1 by omega)] at h
    rw [hsp, List.all_append] at n1
    rw [hsp, colS_app] at n2
    cases hall : ((l.take k).drop i).all flI
    · rw [hall, if_pos rfl] at h
      obtain rfl := Option.some.inj h
      rw [hall, Bool.false_and] at n1
      rw [ndF_no n1.symm]
      exact ⟨fun e => (by cases e), fun e => by omega⟩
    · rw [hall, if_neg (by decide)] at h
      split at h
      · rename_i hw
        obtain rfl := Option.some.inj h
        refine ⟨fun e => (by cases e), fun e => ?_⟩
        cases hb2 : (bet l i m).all flI
        · rw [ndF_no hb2] at e; omega
        · rw [ndF_yes hb2] at e; omega
      · split at h
        · rename_i ha
          exact absurd ha.1 (by omega)
        · cases h
/-- What is decided stays so. -/
theorem dec_stays {l : List Bq} {w col : Int} {k k' i : Nat} {b : Bq} (hm : mayF 0 0 l = true) (hb : l[i]? = some b) (h6 : b.m = 6) (hik : i < k) (hkk : k ≤ k') (hk : k' ≤ l.length) (h : decF l w k i col ≠ none) : decF l w k' i col ≠ none := by
  obtain ⟨m, hmt⟩ := may_mt hm hb h6
  obtain ⟨n1, n2, n3⟩ := need_from hmt
  have hlen := hmt.len
  intro h'
  apply h
  unfold decF at h' ⊢
  by_cases hmk : m < k
  · rw [mtc_take hmt hmk]
    rw [mtc_take hmt (by omega)] at h'
    have hseg : ∀ k, segF l k i (m : Int) = (l.take m).drop i := fun k => by rw [segF, if_pos (by omega)]; rfl
    rw [hseg, if_pos (show (0 : Int) ≤ (m : Int) by omega)] at h' ⊢
    have e0 : ((m : Int)).toNat = m := rfl
    rw [e0] at h' ⊢
    have hdr : (l.take k').drop m = (l.take k).drop m ++ (l.drop k).take (k' - k) := by
      have e : l.take k' = l.take k ++ (l.drop k).take (k' - k) := by rw [← List.take_add, show k + (k' - k) = k' by omega]
      rw [e, List.drop_append_of_le_length (by rw [List.length_take]; omega)]
    rw [hdr] at h'
    have h1 := beF_more ((l.take k).drop m) ((l.drop k).take (k' - k))
    split at h'
    · cases h'
    · rename_i g1
      rw [if_neg g1]
      split at h'
      · cases h'
      · rename_i g2
        rw [if_neg (by omega)]
        split at h'
        · cases h'
        · rename_i g3
          rw [if_neg (fun g => g3 ⟨g.1, by rw [List.any_append, g.2, Bool.true_or]⟩)]
  · rw [mtc_none hmt (by omega)]
    have hs1 : segF l k i (-1) = (l.take k).drop i := by rw [segF, if_neg (by omega)]
    rw [hs1, if_neg (show ¬ (0 : Int) ≤ -1 by omega)]
    have hsp : ∀ z, k ≤ z → (l.take z).drop i = (l.take k).drop i ++ ((l.drop k).take (z - k)) := fun z hz => by
      have e : l.take z = l.take k ++ (l.drop k).take (z - k) := by rw [← List.take_add, show k + (z - k) = z by omega]
      rw [e, List.drop_append_of_le_length (by rw [List.length_take]; omega)]
    -- what it is at k', in both cases
    have key : ∃ (s : List Bq) (e : Nat), segF l k' i (mtc (l.take k') i) = (l.take k).drop i ++ s ∧ (if 0 ≤ mtc (l.take k') i then beF ((l.take k').drop (mtc (l.take k') i).toNat) else 0) = e := by
      by_cases hmk' : m < k'
      · refine ⟨(l.drop k).take (m - k), _, ?_, rfl⟩
        rw [mtc_take hmt hmk', segF, if_pos (show (0 : Int) ≤ (m : Int) by omega)]
        exact hsp m (by omega)
      · refine ⟨(l.drop k).take (k' - k), _, ?_, rfl⟩
        rw [mtc_none hmt (by omega), segF, if_neg (by omega)]
        exact hsp k' hkk
    obtain ⟨s, e, k1, k2⟩ := key
    rw [k1, k2] at h'
    split at h'
    · cases h'
    · rename_i g1
      rw [if_neg (fun g => g1 (by rw [List.all_append, g, Bool.false_and]))]
      split at h'
      · cases h'
      · rename_i g2
        rw [colS_app] at g2
        rw [if_neg (by omega), if_neg (fun g => by omega)]
/-- What is not decided has no more columns than w. -/
theorem dec_cols {l : List Bq} {w col : Int} {k i : Nat} {b : Bq} (hm : mayF 0 0 l = true) (hb : l[i]? = some b) (h6 : b.m = 6) (hik : i < k) (hk : k ≤ l.length) (h : decF l w k i col = none) :
    col + ((colS ((l.take k).drop i) : Nat) : Int) ≤ w := by
  obtain ⟨m, hmt⟩ := may_mt hm hb h6
  unfold decF at h
  by_cases hmk : m < k
  · rw [mtc_take hmt hmk] at h
    have hseg : segF l k i (m : Int) = (l.take m).drop i := by rw [segF, if_pos (by omega)]; rfl
    have e0 : ((m : Int)).toNat = m := rfl
    rw [hseg, if_pos (show (0 : Int) ≤ (m : Int) by omega), e0] at h
    split at h
    · cases h
    · split at h
      · cases h
      · rename_i g2
        split at h
        · cases h
        · rename_i g3
          have hany : ((l.take k).drop m).any (fun b => brF b.m) = false := by
            cases hx : ((l.take k).drop m).any (fun b => brF b.m)
            · rfl
            · exact absurd ⟨by omega, hx⟩ g3
          rw [beF_none hany] at g2
          have hil := hmt.lt
          have e : (l.take k).drop i = (l.take m).drop i ++ (l.take k).drop m := by
            have e1 : l.take k = l.take m ++ (l.take k).drop m := by
              have := (List.take_append_drop m (l.take k)).symm
              rwa [List.take_take, Nat.min_eq_left (by omega)] at this
            rw [e1, List.drop_append_of_le_length (by rw [List.length_take]; omega)]
            congr 1
            rw [← e1]
          rw [e, colS_app]
          omega
  · rw [mtc_none hmt (by omega)] at h
    have hs1 : segF l k i (-1) = (l.take k).drop i := by rw [segF, if_neg (by omega)]
    rw [hs1, if_neg (show ¬ (0 : Int) ≤ -1 by omega)] at h
    split at h
    · cases h
    · split at h
      · cases h
      · rename_i g2
        omega
/-- With its match, and one that breaks behind that, it is decided. -/
theorem dec_break {l : List Bq} {w col : Int} {k i m j : Nat} {c : Bq} (hmt : Mt l i m) (hmj : m ≤ j) (hjk : j < k) (hk : k ≤ l.length) (hc : l[j]? = some c) (hbr : brF c.m = true) : decF l w k i col ≠ none := by
  intro h
  unfold decF at h
  rw [mtc_take hmt (by omega)] at h
  have hany : ((l.take k).drop ((m : Int)).toNat).any (fun b => brF b.m) = true := by
    rw [List.any_eq_true]
    refine ⟨c, List.mem_iff_getElem?.2 ⟨j - m, ?_⟩, hbr⟩
    show ((l.take k).drop m)[j - m]? = some c
    rw [List.getElem?_drop, show m + (j - m) = j by omega, List.getElem?_take, if_pos hjk]
    exact hc
  by_cases g1 : (segF l k i (m : Int)).all flI = false
  · rw [if_pos g1] at h; cases h
  · rw [if_neg g1, if_pos (show (0 : Int) ≤ (m : Int) by omega)] at h
    split at h
    · cases h
    · rw [if_pos ⟨by omega, hany⟩] at h
      cases h

/-! ### Up to where it is told -/
/-- An MkOpen that comes when it is not flat, and is not decided. -/
def undF (l : List Bq) (w : Int) (k i : Nat) : Prop := ∃ b, l[i]? = some b ∧ b.m = 6 ∧ (pgs l w i).fl = -1 ∧ decF l w k i (pgs l w i).col = none
/-- The first of these of the first k, or k. -/
structure StA (l : List Bq) (w : Int) (k a : Nat) : Prop where
  le : a ≤ k
  un : a < k → undF l w k a
  no : ∀ i, i < a → ¬ undF l w k i
theorem stA_ex (l : List Bq) (w : Int) (k : Nat) : ∃ a, StA l w k a := by
  have key : ∀ d, d ≤ k → (∀ i, i < d → ¬ undF l w k i) ∨ ∃ a, a < d ∧ undF l w k a ∧ ∀ i, i < a → ¬ undF l w k i := by
    intro d
    induction d with
    | zero => intro _; exact .inl fun i h => by omega
    | succ d ih =>
      intro hd
      rcases ih (by omega) with h | ⟨a, h1, h2, h3⟩
      · by_cases hu : undF l w k d
        · exact .inr ⟨d, by omega, hu, h⟩
        · refine .inl fun i hi => ?_
          rcases Nat.lt_or_ge i d with h' | h'
          · exact h i h'
          · obtain rfl : i = d := by omega
            exact hu
      · exact .inr ⟨a, by omega, h2, h3⟩
  rcases key k (Nat.le_refl _) with h | ⟨a, h1, h2, h3⟩
  · exact ⟨k, Nat.le_refl _, fun h' => by omega, h⟩
  · exact ⟨a, by omega, fun _ => h2, h3⟩
theorem StA.one {l : List Bq} {w : Int} {k a a' : Nat} (h : StA l w k a) (h' : StA l w k a') : a = a' := by
  have h1 : ¬ a < a' := fun hlt => h'.no a hlt (h.un (by have := h'.le; omega))
  have h2 : ¬ a' < a := fun hlt => h.no a' hlt (h'.un (by have := h.le; omega))
  omega
noncomputable def stF (l : List Bq) (w : Int) (k : Nat) : Nat := Classical.choose (stA_ex l w k)
theorem stF_spec (l : List Bq) (w : Int) (k : Nat) : StA l w k (stF l w k) := Classical.choose_spec (stA_ex l w k)
/-- More bits: no earlier. -/
theorem stF_more {l : List Bq} {w : Int} {k k' : Nat} (hm : mayF 0 0 l = true) (hkk : k ≤ k') (hk : k' ≤ l.length) : stF l w k ≤ stF l w k' := by
  rcases Nat.lt_or_ge (stF l w k') (stF l w k) with h | h
  · have hs := stF_spec l w k
    have hs' := stF_spec l w k'
    obtain ⟨b, h1, h2, h3, h4⟩ := hs'.un (by have := hs.le; omega)
    have hlt : stF l w k' < k := by have := hs.le; omega
    refine absurd ⟨b, h1, h2, h3, ?_⟩ (hs.no _ h)
    cases hd : decF l w k (stF l w k') (pgs l w (stF l w k')).col with
    | none => rfl
    | some q => exact absurd h4 (dec_stays hm h1 h2 hlt hkk hk (by rw [hd]; exact fun e => by cases e))
  · exact h
/-- All told of the first k is what is printed up to there. -/
noncomputable def flwF (l : List Bq) (w : Int) (k : Nat) : List UInt8 := (pgs l w (stF l w k)).out
noncomputable def hldN (l : List Bq) (w : Int) (k : Nat) : Nat := k - stF l w k
theorem pgs_prefix (l : List Bq) (w : Int) {i j : Nat} (h : i ≤ j) : ∃ x, (pgs l w j).out = (pgs l w i).out ++ x := by
  have := pgs_grows l w i (j - i)
  rwa [show i + (j - i) = j by omega] at this
theorem flw_prefix {l : List Bq} {w : Int} {k j : Nat} (hm : mayF 0 0 l = true) (hkj : k ≤ j) (hj : j ≤ l.length) : (∃ x, flwF l w j = flwF l w k ++ x) ∧ ∃ x, (pgs l w l.length).out = flwF l w j ++ x := by
  refine ⟨pgs_prefix l w (stF_more hm hkj hj), pgs_prefix l w ?_⟩
  have := (stF_spec l w j).le
  omega
theorem held_next {l : List Bq} {w : Int} {k : Nat} (hm : mayF 0 0 l = true) (hk : k < l.length) : hldN l w (k + 1) ≤ hldN l w k + 1 := by
  have h1 : stF l w k ≤ stF l w (k + 1) := stF_more (w := w) hm (Nat.le_succ k) hk
  have h2 := (stF_spec l w k).le
  unfold hldN
  omega
theorem held_cols {l : List Bq} {w : Int} {k : Nat} (hm : mayF 0 0 l = true) (hl : l.length ≤ 400) (hk : k ≤ l.length) (h : hldN l w k ≠ 0) : (∃ b, l[stF l w k]? = some b ∧ b.m = 6) ∧ stF l w k < k ∧ ((colS ((l.take k).drop (stF l w k)) : Nat) : Int) ≤ w := by
  have hs := stF_spec l w k
  have hlt : stF l w k < k := by unfold hldN at h; omega
  obtain ⟨b, h1, h2, h3, h4⟩ := hs.un hlt
  have hc := dec_cols hm h1 h2 hlt hk h4
  have := (pgs_inv w hm hl (stF l w k) (by omega)).col0
  exact ⟨⟨b, h1, h2⟩, hlt, by omega⟩
/-- Nothing is held of bits without groups. -/
theorem held_none {l : List Bq} {w : Int} {k : Nat} (h : ∀ b ∈ l.take k, b.m ≠ 6) : hldN l w k = 0 := by
  have hs := stF_spec l w k
  unfold hldN
  rcases Nat.lt_or_ge (stF l w k) k with hlt | hge
  · obtain ⟨b, h1, h2, -, -⟩ := hs.un hlt
    refine absurd h2 (h b (List.mem_iff_getElem?.2 ⟨stF l w k, ?_⟩))
    rw [List.getElem?_take, if_pos hlt]; exact h1
  · omega
/-- Nor behind one that breaks, outside of all groups, with no group behind it. -/
theorem held_break {l : List Bq} {w : Int} {k j : Nat} {c : Bq} (hm : mayF 0 0 l = true) (hk : k ≤ l.length) (hj : j < k) (hc : l[j]? = some c) (hbr : brF c.m = true) (ho : oS (l.take j) = 0) (hno : ∀ i b, j < i → i < k → l[i]? = some b → b.m ≠ 6) : hldN l w k = 0 := by
  have hs := stF_spec l w k
  unfold hldN
  rcases Nat.lt_or_ge (stF l w k) k with hlt | hge
  · obtain ⟨b, h1, h2, h3, h4⟩ := hs.un hlt
    have hne : stF l w k ≠ j := fun e => by
      rw [e, hc] at h1
      obtain rfl := Option.some.inj h1
      rw [h2] at hbr
      cases hbr
    have hlt2 : stF l w k < j := by
      rcases Nat.lt_or_ge (stF l w k) j with h | h
      · exact h
      · exact absurd h2 (hno _ b (by omega) hlt h1)
    have h0 : 0 ≤ oS (l.take (stF l w k)) := by
      rcases (mayF_sum hm).2 (stF l w k) with h | h
      · omega
      · rw [h]; simp [oS]
    obtain ⟨m, hmj, hmt⟩ := mt_below h1 h2 hlt2 (by omega) (by omega)
    exact absurd h4 (dec_break hmt (by omega) hj hk hc hbr)
  · omega
/-- With a new line behind, all is told. -/
theorem all_math {l : List Bq} {w : Int} (hm : mayF 0 0 l = true) (hl : l.length ≤ 399) : flwF (l ++ [⟨5, noV⟩]) w (l.length + 1) = (pgs l w l.length).out ++ [10] ∧ stF (l ++ [⟨5, noV⟩]) w (l.length + 1) = l.length + 1 := by
  have hlen : (l ++ [(⟨5, noV⟩ : Bq)]).length = l.length + 1 := by simp
  have he : (l ++ [(⟨5, noV⟩ : Bq)])[l.length]? = some ⟨5, noV⟩ := by rw [List.getElem?_append_right (Nat.le_refl _), Nat.sub_self]; rfl
  have hm2 : mayF 0 0 (l ++ [⟨5, noV⟩]) = true := (mayF_app 0 0 _ hm (Int.le_refl _) (Int.le_refl _)).trans (by decide)
  have hs := stF_spec (l ++ [⟨5, noV⟩]) w (l.length + 1)
  have hst : stF (l ++ [⟨5, noV⟩]) w (l.length + 1) = l.length + 1 := by
    have hle := hs.le
    rcases Nat.lt_or_ge (stF (l ++ [⟨5, noV⟩]) w (l.length + 1)) (l.length + 1) with hlt | hge
    · obtain ⟨b, h1, h2, h3, h4⟩ := hs.un hlt
      have hlt2 : stF (l ++ [⟨5, noV⟩]) w (l.length + 1) < l.length := by
        rcases Nat.lt_or_ge (stF (l ++ [⟨5, noV⟩]) w (l.length + 1)) l.length with h | h
        · exact h
        · rw [show stF (l ++ [⟨5, noV⟩]) w (l.length + 1) = l.length by omega, he] at h1
          obtain rfl := Option.some.inj h1
          cases h2
      obtain ⟨m, hmt⟩ := may_mt hm (by rw [List.getElem?_append_left hlt2] at h1; exact h1) h2
      have hml := hmt.len
      have hmt2 : Mt (l ++ [⟨5, noV⟩]) (stF (l ++ [⟨5, noV⟩]) w (l.length + 1)) m := mt_same hmt (List.take_append_of_le_length (by omega))
      exact absurd h4 (dec_break hmt2 (show m ≤ l.length by omega) (Nat.lt_succ_self _) (by rw [hlen]; exact Nat.le_refl _) he rfl)
    · omega
  refine ⟨?_, hst⟩
  unfold flwF
  rw [hst, pgs_next he, bitF_line rfl (.inr rfl)]
  show (pgs (l ++ [⟨5, noV⟩]) w l.length).out ++ [10] = _
  congr 1
  have key : ∀ k, k ≤ l.length → pgs (l ++ [⟨5, noV⟩]) w k = pgs l w k := by
    intro k
    induction k with
    | zero => intro _; rfl
    | succ k ih =>
      intro hk
      obtain ⟨b, hb⟩ : ∃ b, l[k]? = some b := ⟨_, List.getElem?_eq_getElem (by omega)⟩
      have hb2 : (l ++ [(⟨5, noV⟩ : Bq)])[k]? = some b := by rw [List.getElem?_append_left (by omega)]; exact hb
      rw [pgs_next hb, pgs_next hb2, ih (by omega)]
      by_cases h6 : b.m = 6
      · obtain ⟨m, hmt⟩ := may_mt hm hb h6
        have hml := hmt.len
        have hmt2 : Mt (l ++ [⟨5, noV⟩]) k m := mt_same hmt (List.take_append_of_le_length (by omega))
        have e1 : mtc (l ++ [⟨5, noV⟩]) k = mtc l k := by rw [(mtc_spec _ k).is hmt2, (mtc_spec _ k).is hmt]
        have e2 : nec (l ++ [⟨5, noV⟩]) k = nec l k := by
          rw [(nec_spec _ k).is hmt2, (nec_spec _ k).is hmt, ndF, ndF]
          have eb : bet (l ++ [⟨5, noV⟩]) k m = bet l k m := by rw [bet, List.take_append_of_le_length (by omega)]; rfl
          have ed : beF ((l ++ [(⟨5, noV⟩ : Bq)]).drop (m + 1)) = beF (l.drop (m + 1)) := by
            rw [List.drop_append_of_le_length (by omega)]
            generalize l.drop (m + 1) = a
            induction a with
            | nil => rfl
            | cons x a ih2 => rw [List.cons_append, beF, beF, ih2]
          rw [eb, ed]
        rw [e1, e2]
      · unfold bitF
        rw [if_neg h6, if_neg h6]
  rw [key l.length (Nat.le_refl _)]
end Go.Proofs.Ytfcjihfnimefhaa
