/- The mathematics of SpanNeed, SpanHard, SpanBehind (no program). -/
import Derived.Test.YtmknjhmfgapejaaSpaM
namespace Go.Proofs.Ytmknjhmfgapejaa
set_option linter.unusedVariables false
set_option maxRecDepth 100000

theorem neA_cons (x : Bq) {l : List Bq} {i r : Int} (h : NeA l i r) (h0 : 0 ≤ i) : NeA (x :: l) (i + 1) r := by
  rcases h with ⟨j, m, rfl, e, hm⟩ | ⟨e, hno⟩
  · exact .inl ⟨j + 1, m + 1, by omega, e, (mt_cons x).2 hm⟩
  · refine .inr ⟨e, fun j m e2 hm => ?_⟩
    have hl := hm.lt
    obtain ⟨j', rfl⟩ : ∃ j', j = j' + 1 := ⟨j - 1, by omega⟩
    obtain ⟨m', rfl⟩ : ∃ m', m = m' + 1 := ⟨m - 1, by omega⟩
    exact hno j' m' (by omega) ((mt_cons x).1 hm)
theorem colS_drop {l : List Bq} {i j : Nat} (h : i ≤ j) : colS (l.drop j) ≤ colS (l.drop i) := by
  have e : l.drop i = (l.drop i).take (j - i) ++ l.drop j := by
    have := (List.take_append_drop (j - i) (l.drop i)).symm
    rwa [List.drop_drop, show i + (j - i) = j by omega] at this
  rw [e, colS_app]; omega
theorem mem_drop_le {l : List Bq} {i j : Nat} (h : i ≤ j) {b : Bq} (hb : b ∈ l.drop j) : b ∈ l.drop i := by
  rw [show j = i + (j - i) by omega, ← List.drop_drop] at hb
  exact List.mem_of_mem_drop hb
/-- What stands within a group that needs something. -/
theorem need_in {l : List Bq} {j m k q : Nat} (hm : Mt l j m) (hq : Mt l k q) (h1 : j < k) (h2 : q < m) (hall : (bet l j m).all flI = true) :
    Mt (l.take (m + 1)) k q ∧ 0 ≤ ndF (l.take (m + 1)) k q ∧ ndF (l.take (m + 1)) k q ≤ ndF l j m := by
  have hkq := hq.lt
  have hml := hm.len
  have eb : bet (l.take (m + 1)) k q = ((l.take m).drop (k + 1)).take (q - (k + 1)) := by
    rw [bet, List.take_take, Nat.min_eq_left (by omega), ← List.drop_take, List.take_take, Nat.min_eq_left (by omega)]
  have ha : (bet (l.take (m + 1)) k q).all flI = true := by
    rw [List.all_eq_true] at hall ⊢
    intro b hb
    rw [eb] at hb
    exact hall b (mem_drop_le (show j + 1 ≤ k + 1 by omega) (List.mem_of_mem_take hb))
  have hc : colS (bet (l.take (m + 1)) k q) + colS ((l.take m).drop (q + 1)) ≤ colS (bet l j m) := by
    have e1 := colS_drop (l := l.take m) (show j + 1 ≤ k + 1 by omega)
    have e2 : colS ((l.take m).drop (k + 1)) = colS (((l.take m).drop (k + 1)).take (q - (k + 1))) + colS ((l.take m).drop q) := by
      have := congrArg colS (List.take_append_drop (q - (k + 1)) ((l.take m).drop (k + 1))).symm
      rwa [colS_app, List.drop_drop, show k + 1 + (q - (k + 1)) = q by omega] at this
    have e3 := colS_drop (l := l.take m) (show q ≤ q + 1 by omega)
    rw [eb]
    have : bet l j m = (l.take m).drop (j + 1) := rfl
    rw [this]
    omega
  obtain ⟨c, hc7, h7⟩ := hm.cl
  have hbe : beF ((l.take (m + 1)).drop (q + 1)) ≤ colS ((l.take m).drop (q + 1)) := by
    have e : (l.take (m + 1)).drop (q + 1) = (l.take m).drop (q + 1) ++ [c] := by
      rw [List.take_add_one, hc7, Option.toList_some, List.drop_append_of_le_length (by rw [List.length_take]; omega)]
    have h0 : colS [c] = 0 := by
      obtain ⟨cm, cv⟩ := c
      dsimp only at h7
      subst h7
      exact cols_nil
    have := beF_le ((l.take (m + 1)).drop (q + 1))
    rw [e, colS_app, h0] at this
    rw [e]
    omega
  refine ⟨mt_same hq (by rw [List.take_take, Nat.min_eq_left (by omega)]), ?_, ?_⟩
  · rw [ndF_yes ha]; omega
  · rw [ndF_yes ha, ndF_yes hall]; omega
/-- One more within. -/
theorem bet_more {l : List Bq} {j m k : Nat} (x : Bq) (h1 : j < k) (h2 : k ≤ m) (h3 : m < l.length) :
    ∃ P Q, bet l j m = P ++ Q ∧ bet (l.take k ++ x :: l.drop k) j (m + 1) = P ++ x :: Q ∧ (l.take k ++ x :: l.drop k).drop (m + 1 + 1) = l.drop (m + 1) := by
  have hk : (l.take k).length = k := by rw [List.length_take]; omega
  refine ⟨(l.take k).drop (j + 1), (l.drop k).take (m - k), ?_, ?_, ?_⟩
  · rw [bet, show m = k + (m - k) by omega, List.take_add, List.drop_append_of_le_length (by omega), show k + (m - k) - k = m - k by omega]
  · rw [bet, List.take_append, hk, List.take_of_length_le (by omega), show m + 1 - k = (m - k) + 1 by omega, List.take_succ_cons, List.drop_append_of_le_length (by omega)]
  · rw [List.drop_append, hk, List.drop_eq_nil_of_le (by omega), List.nil_append, show m + 1 + 1 - k = (m + 1 - k) + 1 by omega, List.drop_succ_cons, List.drop_drop, show k + (m + 1 - k) = m + 1 by omega]
theorem hard_need {l : List Bq} {j m k : Nat} (hm : Mt l j m) (h1 : j < k) (h2 : k ≤ m) : Mt (l.take k ++ ⟨5, noV⟩ :: l.drop k) j (m + 1) ∧ ndF (l.take k ++ ⟨5, noV⟩ :: l.drop k) j (m + 1) = -1 := by
  obtain ⟨P, Q, e1, e2, e3⟩ := bet_more ⟨5, noV⟩ h1 h2 hm.len
  refine ⟨mt_more hm h1 h2 rfl, ndF_no ?_⟩
  rw [e2, List.all_append, List.all_cons]
  simp [show flI ⟨5, noV⟩ = false from rfl]
theorem text_need {l : List Bq} {j m k : Nat} (s : ByteArray) (hm : Mt l j m) (h1 : j < k) (h2 : k ≤ m) :
    Mt (l.take k ++ ⟨0, s⟩ :: l.drop k) j (m + 1) ∧ ((ndF l j m = -1 ∧ ndF (l.take k ++ ⟨0, s⟩ :: l.drop k) j (m + 1) = -1) ∨ (0 ≤ ndF l j m ∧ ndF (l.take k ++ ⟨0, s⟩ :: l.drop k) j (m + 1) = ndF l j m + cols s.data.toList)) := by
  obtain ⟨P, Q, e1, e2, e3⟩ := bet_more ⟨0, s⟩ h1 h2 hm.len
  refine ⟨mt_more hm h1 h2 rfl, ?_⟩
  have ea : (bet (l.take k ++ ⟨0, s⟩ :: l.drop k) j (m + 1)).all flI = (bet l j m).all flI := by
    rw [e1, e2, List.all_append, List.all_append, List.all_cons, show flI ⟨0, s⟩ = true from rfl, Bool.true_and]
  cases h : (bet l j m).all flI
  · exact .inl ⟨ndF_no h, ndF_no (ea.trans h)⟩
  · refine .inr ?_
    rw [ndF_yes h, ndF_yes (ea.trans h), e3, e2, e1, colS_app, colS_app, colS, show colB ⟨0, s⟩ = cols s.data.toList from rfl]
    omega
/-- What stands behind. -/
theorem behind_need {l : List Bq} {j k : Nat} (s b : ByteArray) {m : Int} (hm : Mt l j k) (hb : brF m = true) :
    Mt (l.take (k + 1)) j k ∧ Mt (l.take (k + 1) ++ [⟨0, s⟩, ⟨m, noV⟩, ⟨0, b⟩]) j k ∧
    ((ndF (l.take (k + 1)) j k = -1 ∧ ndF (l.take (k + 1) ++ [⟨0, s⟩, ⟨m, noV⟩, ⟨0, b⟩]) j k = -1) ∨ (0 ≤ ndF (l.take (k + 1)) j k ∧ ndF (l.take (k + 1) ++ [⟨0, s⟩, ⟨m, noV⟩, ⟨0, b⟩]) j k = ndF (l.take (k + 1)) j k + cols s.data.toList)) := by
  have hl := hm.len
  have hlen : (l.take (k + 1)).length = k + 1 := by rw [List.length_take]; omega
  have e1 : bet (l.take (k + 1)) j k = bet l j k := by rw [bet, List.take_take, Nat.min_eq_left (by omega)]; rfl
  have e2 : bet (l.take (k + 1) ++ [⟨0, s⟩, ⟨m, noV⟩, ⟨0, b⟩]) j k = bet l j k := by
    rw [bet, List.take_append_of_le_length (by omega), List.take_take, Nat.min_eq_left (by omega)]; rfl
  have e3 : (l.take (k + 1)).drop (k + 1) = [] := List.drop_eq_nil_of_le (by omega)
  have e4 : (l.take (k + 1) ++ ([⟨0, s⟩, ⟨m, noV⟩, ⟨0, b⟩] : List Bq)).drop (k + 1) = ([⟨0, s⟩, ⟨m, noV⟩, ⟨0, b⟩] : List Bq) := by
    rw [List.drop_append_of_le_length (by omega), e3, List.nil_append]
  have e5 : beF ([⟨0, s⟩, ⟨m, noV⟩, ⟨0, b⟩] : List Bq) = cols s.data.toList := by
    have := beF_cut (a := [⟨0, s⟩]) (fun x hx => by rw [List.mem_singleton.1 hx]; rfl) (x := ⟨m, noV⟩) hb [⟨0, b⟩]
    rw [List.singleton_append] at this
    rw [this]; rfl
  refine ⟨mt_same hm (by rw [List.take_take, Nat.min_self]), mt_same hm (by rw [List.take_append_of_le_length (by omega), List.take_take, Nat.min_self]), ?_⟩
  cases h : (bet l j k).all flI
  · exact .inl ⟨ndF_no (by rw [e1]; exact h), ndF_no (by rw [e2]; exact h)⟩
  · refine .inr ?_
    rw [ndF_yes (by rw [e1]; exact h), ndF_yes (by rw [e2]; exact h), e1, e2, e3, e4, e5, show beF [] = 0 from rfl]
    omega
end Go.Proofs.Ytmknjhmfgapejaa
