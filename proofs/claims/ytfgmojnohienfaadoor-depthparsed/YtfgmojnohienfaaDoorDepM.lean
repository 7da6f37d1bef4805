/- How deep brackets stand (plain mathematics). -/
import Derived.Test.YtfgmojnohienfaaDoorIntR
namespace Go.Proofs.YtfgmojnohienfaaDoor
open Go.RowKit
set_option linter.unusedVariables false

/-- What opens, what closes. -/
def opD (t : Int) : Bool := t == 4 || t == 10 || t == 12
def clD (t : Int) : Bool := t == 5 || t == 11 || t == 14
def adD (t : Int) : Int := if opD t then 1 else if clD t then -1 else 0
def endD : List Int → Int
  | [] => 0
  | t :: l => adD t + endD l
def depD : List Int → Int
  | [] => 0
  | t :: l => max 0 (adD t + depD l)
/-- The place from e, k on. -/
def atG (d : Int) : List Int → Int → Nat → Int
  | [], _, _ => -1
  | t :: r, e, k => if opD t = true ∧ d < e + 1 then (k : Int) else atG d r (e + adD t) (k + 1)
def atD (d : Int) (l : List Int) : Int := atG d l 0 0
theorem adD_range (t : Int) : -1 ≤ adD t ∧ adD t ≤ 1 := by unfold adD; split <;> (try split) <;> omega
theorem adD_op {t : Int} (h : opD t = true) : adD t = 1 := by unfold adD; rw [if_pos h]
theorem adD_no {t : Int} (h : opD t = false) : adD t ≤ 0 := by
  unfold adD; rw [if_neg (by rw [h]; simp)]; split <;> omega
theorem adD_cl {t : Int} (h : clD t = true) : adD t = -1 := by
  have : opD t = false := by
    unfold clD at h; unfold opD
    simp only [Bool.or_eq_true, beq_iff_eq] at h
    rcases h with (rfl | rfl) | rfl <;> rfl
  unfold adD; rw [if_neg (by rw [this]; simp), if_pos h]
theorem adD_none {t : Int} (h : opD t = false) (h' : clD t = false) : adD t = 0 := by unfold adD; rw [if_neg (by rw [h]; simp), if_neg (by rw [h']; simp)]
theorem op_cl {t : Int} (h : opD t = true) : clD t = false := by
  unfold opD at h; unfold clD
  simp only [Bool.or_eq_true, beq_iff_eq] at h
  rcases h with (rfl | rfl) | rfl <;> rfl
theorem endD_app (b : List Int) : ∀ a, endD (a ++ b) = endD a + endD b
  | [] => by simp [endD]
  | t :: a => by simp only [List.cons_append, endD, endD_app b a]; omega
theorem endD_one (t : Int) : endD [t] = adD t := by simp [endD]
theorem depD_ge : ∀ l, 0 ≤ depD l
  | [] => Int.le_refl _
  | t :: l => by unfold depD; omega
theorem depD_app (b : List Int) : ∀ a, depD (a ++ b) = max (depD a) (endD a + depD b)
  | [] => by have := depD_ge b; simp [endD, depD]; omega
  | t :: a => by
    have h1 := depD_app b a
    have h2 := depD_ge a
    have h3 := depD_ge b
    simp only [List.cons_append, depD, endD, h1]
    omega
theorem endD_le : ∀ l, endD l ≤ depD l
  | [] => Int.le_refl _
  | t :: l => by have := endD_le l; unfold endD depD; omega
theorem endD_range : ∀ l : List Int, -(l.length : Int) ≤ endD l ∧ endD l ≤ l.length
  | [] => by simp [endD]
  | t :: l => by
    have h1 := endD_range l
    have h2 := adD_range t
    simp only [endD, List.length_cons]
    omega
theorem depD_le : ∀ l : List Int, depD l ≤ l.length
  | [] => by simp [depD]
  | t :: l => by
    have h1 := depD_le l
    have h2 := adD_range t
    simp only [depD, List.length_cons]
    omega
theorem take_snoc {l : List Int} {k : Nat} {t : Int} (h : l[k]? = some t) : l.take (k + 1) = l.take k ++ [t] := by
  rw [List.take_add_one, h]; rfl
theorem endD_take {l : List Int} {k : Nat} {t : Int} (h : l[k]? = some t) : endD (l.take (k + 1)) = endD (l.take k) + adD t := by
  rw [take_snoc h, endD_app, endD_one]
theorem depD_take {l : List Int} {k : Nat} {t : Int} (h : l[k]? = some t) : depD (l.take (k + 1)) = max (depD (l.take k)) (endD (l.take (k + 1))) := by
  rw [endD_take h, take_snoc h, depD_app]
  have h1 := endD_le (l.take k)
  have h2 : depD [t] = max 0 (adD t) := by simp [depD]
  rw [h2]; omega
theorem endD_takes (l : List Int) (k : Nat) : -(k : Int) ≤ endD (l.take k) ∧ endD (l.take k) ≤ k := by
  have h1 := endD_range (l.take k)
  have h2 : (l.take k).length ≤ k := by rw [List.length_take]; omega
  omega
theorem depD_takes (l : List Int) (k : Nat) : 0 ≤ depD (l.take k) ∧ depD (l.take k) ≤ k := by
  have h1 := depD_le (l.take k)
  have h2 : (l.take k).length ≤ k := by rw [List.length_take]; omega
  have h3 := depD_ge (l.take k)
  omega
theorem endD_take_le (l : List Int) (k : Nat) : endD (l.take k) ≤ depD l := by
  have h := depD_app (l.drop k) (l.take k)
  rw [List.take_append_drop] at h
  have := endD_le (l.take k)
  omega
/-- The depth is that of a beginning. -/
theorem depD_met : ∀ l : List Int, ∃ k, k ≤ l.length ∧ depD l = endD (l.take k)
  | [] => ⟨0, by simp, rfl⟩
  | t :: l => by
    obtain ⟨k, hk, e⟩ := depD_met l
    by_cases h : 0 ≤ adD t + depD l
    · exact ⟨k + 1, by simp; omega, by rw [List.take_succ_cons]; simp only [depD, endD]; omega⟩
    · exact ⟨0, by simp, by simp only [depD, List.take_zero, endD]; omega⟩
theorem drop_at {l : List Int} {k : Nat} {t : Int} (h : l[k]? = some t) : l.drop k = t :: l.drop (k + 1) := by
  obtain ⟨h1, h2⟩ := List.getElem?_eq_some_iff.1 h
  rw [List.drop_eq_getElem_cons h1, h2]
theorem atG_hit {d e t : Int} {l : List Int} {k : Nat} (h : l[k]? = some t) (h1 : opD t = true) (h2 : d < e + 1) : atG d (l.drop k) e k = k := by
  rw [drop_at h, atG, if_pos ⟨h1, h2⟩]
theorem atG_miss {d t : Int} {l : List Int} {k : Nat} (h : l[k]? = some t) (h1 : ¬ (opD t = true ∧ d < endD (l.take k) + 1)) :
    atG d (l.drop k) (endD (l.take k)) k = atG d (l.drop (k + 1)) (endD (l.take (k + 1))) (k + 1) := by
  rw [drop_at h, atG, if_neg h1, endD_take h]
theorem atG_end {d e : Int} {l : List Int} {k : Nat} (h : l.length ≤ k) : atG d (l.drop k) e k = -1 := by
  rw [List.drop_of_length_le h]; rfl
/-- What At answers. -/
def AtS (d : Int) (l : List Int) (z : Int) : Prop :=
  (z = -1 ∧ ∀ j t, l[j]? = some t → opD t = true → endD (l.take (j + 1)) ≤ d) ∨
  (∃ (k : Nat) (t : Int), z = k ∧ l[k]? = some t ∧ opD t = true ∧ d < endD (l.take (k + 1)) ∧ ∀ j u, j < k → l[j]? = some u → opD u = true → endD (l.take (j + 1)) ≤ d)
theorem atG_s {d : Int} {l : List Int} : ∀ (m k : Nat), k + m = l.length → (∀ j u, j < k → l[j]? = some u → opD u = true → endD (l.take (j + 1)) ≤ d) → AtS d l (atG d (l.drop k) (endD (l.take k)) k)
  | 0, k, h, hp => by
    rw [atG_end (by omega)]
    refine .inl ⟨rfl, fun j t hj ho => hp j t ?_ hj ho⟩
    have := (List.getElem?_eq_some_iff.1 hj).1
    omega
  | m + 1, k, h, hp => by
    obtain ⟨t, ht⟩ : ∃ t, l[k]? = some t := ⟨_, List.getElem?_eq_getElem (by omega)⟩
    by_cases hh : opD t = true ∧ d < endD (l.take k) + 1
    · rw [atG_hit ht hh.1 hh.2]
      exact .inr ⟨k, t, rfl, ht, hh.1, by rw [endD_take ht, adD_op hh.1]; exact hh.2, hp⟩
    · rw [atG_miss ht hh]
      refine atG_s m (k + 1) (by omega) fun j u hj hu ho => ?_
      by_cases e : j = k
      · subst e
        obtain rfl : t = u := by rw [ht] at hu; exact Option.some.inj hu
        rw [endD_take ht, adD_op ho]
        by_cases c : d < endD (l.take j) + 1
        · exact absurd ⟨ho, c⟩ hh
        · omega
      · exact hp j u (by omega) hu ho
theorem atD_s (d : Int) (l : List Int) : AtS d l (atD d l) := atG_s l.length 0 (by omega) fun j u hj => by omega
theorem AtS.range {d z : Int} {l : List Int} (h : AtS d l z) : -1 ≤ z ∧ z < l.length := by
  rcases h with ⟨rfl, -⟩ | ⟨k, t, rfl, ht, -⟩
  · omega
  · have := (List.getElem?_eq_some_iff.1 ht).1; omega
/-- All that does not pass d, at places that open, does so nowhere: from no less than 0. -/
theorem no_pass {d : Int} {l : List Int} (h0 : 0 ≤ d) {n : Nat} (h : ∀ j t, j < n → l[j]? = some t → opD t = true → endD (l.take (j + 1)) ≤ d) : ∀ k, k ≤ n → endD (l.take k) ≤ d
  | 0, _ => by simpa [endD] using h0
  | k + 1, hk => by
    have ih := no_pass h0 h k (by omega)
    cases ht : l[k]? with
    | none =>
      rw [List.getElem?_eq_none_iff] at ht
      rw [List.take_of_length_le (by omega)] at ih ⊢; exact ih
    | some t =>
      cases ho : opD t
      · have := adD_no ho
        rw [endD_take ht]; omega
      · exact h k t (by omega) ht ho
theorem dep_pass {d : Int} {l : List Int} (h : ∀ k, k ≤ l.length → endD (l.take k) ≤ d) : depD l ≤ d := by
  obtain ⟨k, hk, e⟩ := depD_met l
  rw [e]; exact h k hk
/-- The law of At. -/
theorem at_math {d z y : Int} {l : List Int} (h0 : 0 ≤ d) (h : AtS d l z) (h' : AtS (d + 1) l y) :
    (z = -1 ∧ depD l ≤ d ∧ y = -1) ∨
    (∃ k : Nat, z = k ∧ k < l.length ∧ d < depD l ∧ depD (l.take k) ≤ d ∧ endD (l.take (k + 1)) = d + 1 ∧ depD (l.take (k + 1)) = d + 1 ∧ (y = -1 ∨ z < y)) := by
  rcases h with ⟨rfl, hn⟩ | ⟨k, t, rfl, ht, ho, hd, hp⟩
  · have hk := no_pass (n := l.length) h0 fun j t _ => hn j t
    refine .inl ⟨rfl, dep_pass hk, ?_⟩
    rcases h' with ⟨rfl, -⟩ | ⟨j, u, rfl, hu, ho, hd, -⟩
    · rfl
    · have := hn j u hu ho; omega
  · have hkl := (List.getElem?_eq_some_iff.1 ht).1
    have hk := no_pass (n := k) h0 hp
    have e1 := hk k (Nat.le_refl _)
    have e2 : endD (l.take (k + 1)) = d + 1 := by rw [endD_take ht, adD_op ho] at hd ⊢; omega
    have e3 : depD (l.take k) ≤ d := dep_pass fun j hj => by
      rw [List.take_take]
      rw [List.length_take] at hj
      exact hk (min j k) (by omega)
    refine .inr ⟨k, rfl, hkl, ?_, e3, e2, ?_, ?_⟩
    · have := endD_take_le l (k + 1); omega
    · rw [depD_take ht, e2]; omega
    · rcases h' with ⟨rfl, -⟩ | ⟨j, u, rfl, hu, ho', hd', -⟩
      · exact .inl rfl
      · refine .inr ?_
        by_cases c : j < k
        · have := hp j u c hu ho'; omega
        · by_cases c2 : j = k
          · subst c2; omega
          · omega
/-- In brackets. -/
theorem wrap_math (l : List Int) : depD (4 :: (l ++ [5])) = depD l + 1 ∧ endD (4 :: (l ++ [5])) = endD l := by
  have h1 := depD_app [5] l
  have h2 := endD_app [5] l
  have h3 := endD_le l
  have h4 := depD_ge l
  have e1 : adD 4 = 1 := rfl
  have e2 : adD 5 = -1 := rfl
  simp only [depD, endD, e1, e2] at h1 h2 ⊢
  omega
theorem more_math {te : Int} (l : List Int) (h : opD te = false) (h' : clD te = false) : depD (te :: l) = depD l ∧ endD (te :: l) = endD l := by
  have h1 := depD_ge l
  simp only [depD, endD, adD_none h h']
  omega
/-- All open. -/
theorem opens_end : ∀ n : Nat, endD (List.replicate n 12) = n
  | 0 => rfl
  | n + 1 => by rw [List.replicate_succ]; simp only [endD, opens_end n, show adD 12 = 1 from rfl]; omega
theorem opens_dep : ∀ n : Nat, depD (List.replicate n 12) = n
  | 0 => rfl
  | n + 1 => by rw [List.replicate_succ]; simp only [depD, opens_dep n, show adD 12 = 1 from rfl]; omega
theorem opens_at {n d : Nat} : atD d (List.replicate n 12) = if d < n then (d : Int) else -1 := by
  rcases atD_s d (List.replicate n 12) with ⟨h, hn⟩ | ⟨k, t, h, ht, -, hd, hp⟩
  · rw [h, if_neg]
    intro c
    have := hn d 12 (by rw [List.getElem?_replicate, if_pos c]) rfl
    rw [List.take_replicate, opens_end] at this
    omega
  · rw [h]
    have hk := (List.getElem?_eq_some_iff.1 ht).1
    rw [List.length_replicate] at hk
    rw [List.take_replicate, opens_end] at hd
    by_cases c : d < k
    · have := hp d 12 c (by rw [List.getElem?_replicate, if_pos (by omega)]) rfl
      rw [List.take_replicate, opens_end] at this
      omega
    · rw [if_pos (by omega)]; omega
/-- What brackets() tells. -/
def begs (l : List Int) (k : Nat) : List (Nat × Int) := (List.range k).map fun j => (j, endD (l.take (j + 1)))
theorem begs_len (l : List Int) (k : Nat) : (begs l k).length = k := by simp [begs]
theorem begs_succ (l : List Int) (k : Nat) : begs l (k + 1) = begs l k ++ [(k, endD (l.take (k + 1)))] := by simp [begs, List.range_succ]
/-- The greatest, from none; the last. -/
def maxE (pre : List (Nat × Int)) : Int := pre.foldl (fun m p => max m p.2) 0
def lasE (pre : List (Nat × Int)) : Int := pre.foldl (fun _ p => p.2) 0
theorem maxE_snoc (pre : List (Nat × Int)) (x : Nat × Int) : maxE (pre ++ [x]) = max (maxE pre) x.2 := by simp [maxE]
theorem lasE_snoc (pre : List (Nat × Int)) (x : Nat × Int) : lasE (pre ++ [x]) = x.2 := by simp [lasE]
theorem maxE_begs (l : List Int) : ∀ k, k ≤ l.length → maxE (begs l k) = depD (l.take k)
  | 0, _ => by simp [begs, maxE, depD]
  | k + 1, h => by
    obtain ⟨t, ht⟩ : ∃ t, l[k]? = some t := ⟨_, List.getElem?_eq_getElem (by omega)⟩
    rw [begs_succ, maxE_snoc, maxE_begs l k (by omega), depD_take ht]
theorem lasE_begs (l : List Int) : ∀ k, lasE (begs l k) = endD (l.take k)
  | 0 => by simp [begs, lasE, endD]
  | k + 1 => by rw [begs_succ, lasE_snoc]
theorem maxE_all (l : List Int) : maxE (begs l l.length) = depD l := by rw [maxE_begs l _ (Nat.le_refl _), List.take_length]
theorem lasE_all (l : List Int) : lasE (begs l l.length) = endD l := by rw [lasE_begs, List.take_length]
/-- Was none deeper than d, of those that open? -/
inductive NoH (d : Int) : List (Nat × Int) → Prop
  | nil : NoH d []
  | snoc {pre : List (Nat × Int)} {x : Nat × Int} : NoH d pre → ¬ (lasE pre < x.2 ∧ d < x.2) → NoH d (pre ++ [x])
theorem NoH.last {d : Int} {pre : List (Nat × Int)} {x : Nat × Int} (h : NoH d (pre ++ [x])) : NoH d pre ∧ ¬ (lasE pre < x.2 ∧ d < x.2) := by
  generalize hq : pre ++ [x] = q at h
  cases h with
  | nil => simp at hq
  | snoc h1 h2 =>
    obtain ⟨rfl, e⟩ := List.append_inj' hq rfl
    injection e with e _
    subst e
    exact ⟨h1, h2⟩
theorem hit_iff {d : Int} {l : List Int} {k : Nat} {t : Int} (ht : l[k]? = some t) : (endD (l.take k) < endD (l.take (k + 1)) ∧ d < endD (l.take (k + 1))) ↔ (opD t = true ∧ d < endD (l.take k) + 1) := by
  rw [endD_take ht]
  cases ho : opD t
  · have := adD_no ho
    constructor
    · intro ⟨h, _⟩; omega
    · intro ⟨h, _⟩; cases h
  · rw [adD_op ho]
    constructor
    · intro ⟨_, h⟩; exact ⟨rfl, h⟩
    · intro ⟨_, h⟩; exact ⟨by omega, h⟩
theorem noh_begs {d : Int} {l : List Int} : ∀ k, k ≤ l.length → NoH d (begs l k) → atD d l = atG d (l.drop k) (endD (l.take k)) k
  | 0, _, _ => by simp [atD, endD]
  | k + 1, hk, h => by
    obtain ⟨t, ht⟩ : ∃ t, l[k]? = some t := ⟨_, List.getElem?_eq_getElem (by omega)⟩
    rw [begs_succ] at h
    obtain ⟨h1, h2⟩ := h.last
    rw [lasE_begs] at h2
    rw [noh_begs k (by omega) h1, atG_miss ht fun c => h2 ((hit_iff ht).2 c)]
theorem noh_all {d : Int} {l : List Int} (h : NoH d (begs l l.length)) : atD d l = -1 := by
  rw [noh_begs _ (Nat.le_refl _) h, atG_end (Nat.le_refl _)]
theorem hit_begs {d : Int} {l : List Int} {k : Nat} {ini : List (Nat × Int)} {x : Nat × Int} (hk : k ≤ l.length) (e : begs l k = ini ++ [x]) (h : NoH d ini) (h1 : lasE ini < x.2) (h2 : d < x.2) : atD d l = (x.1 : Int) := by
  cases k with
  | zero => have := congrArg List.length e; simp [begs] at this
  | succ k =>
    obtain ⟨t, ht⟩ : ∃ t, l[k]? = some t := ⟨_, List.getElem?_eq_getElem (by omega)⟩
    rw [begs_succ] at e
    obtain ⟨rfl, e2⟩ := List.append_inj' e rfl
    injection e2 with e2 _
    subst e2
    rw [lasE_begs] at h1
    obtain ⟨h3, h4⟩ := (hit_iff ht).1 ⟨h1, h2⟩
    rw [noh_begs k (by omega) h, atG_hit ht h3 h4]
end Go.Proofs.YtfgmojnohienfaaDoor
