/- No two rules of a variable begin with one terminal, and what follows (plain mathematics). -/
import Derived.Test.YtfgmojnohienfaaDoorPicN
namespace Go.Proofs.YtfgmojnohienfaaDoor
open Go.RowKit
set_option linter.unusedVariables false
set_option maxRecDepth 100000

/-- The rules of variable v. -/
def vsR (v : Int) : List Nat := (List.range 90).filter fun i => (varR i : Int) == v
theorem ofR_vs (v : Int) : ofR v = (vsR v).map fun i : Nat => (i : Int) := rfl
theorem vsR_lt {v : Int} {i : Nat} (h : i ∈ vsR v) : i < 90 := List.mem_range.1 (List.mem_filter.1 h).1
theorem vsR_none {v : Int} (h : v < 0 ∨ 43 ≤ v) : vsR v = [] := by
  have := ofR_none h
  rw [ofR_vs] at this
  exact List.map_eq_nil_iff.1 this
def fstT (te v : Int) : Bool := (vsR v).any (begT te)
theorem fstK_T (te v : Int) : fstK te v = fstT te v := by
  rw [fstK, ofR_vs, List.any_map, fstT, Bool.eq_iff_iff, List.any_eq_true, List.any_eq_true]
  constructor
  · rintro ⟨i, hi, hb⟩; exact ⟨i, hi, by rw [← begK_T te (vsR_lt hi)]; exact hb⟩
  · rintro ⟨i, hi, hb⟩; exact ⟨i, hi, by show begK te i = true; rw [begK_T te (vsR_lt hi)]; exact hb⟩
/-- With what is no terminal nothing begins. -/
theorem leaf_good : ∀ i, i < 90 → ((lfS i).all fun t => (t.k == 0 && decide (1 ≤ t.n) && decide (t.n ≤ 30)) || t.k == 2) = true := by decide +kernel
theorem begT_out {te : Int} (h : te ≤ 0 ∨ 31 ≤ te) {i : Nat} (hi : i < 90) : begT te i = false := by
  unfold begT
  rw [List.any_eq_false]
  intro t ht
  have hg := List.all_eq_true.1 (leaf_good i hi) t ht
  simp only [Bool.or_eq_true, Bool.and_eq_true, beq_iff_eq, decide_eq_true_eq] at hg
  unfold hitB
  rcases hg with ⟨⟨h0, h1⟩, h2⟩ | h2
  · rw [if_pos h0]
    have : ¬ (t.n = te) := by omega
    simp [this]
  · rw [if_neg (by omega)]
    have a1 : ¬ ((18 : Int) ≤ te ∧ te ≤ 30) := by omega
    have a2 : ¬ ((18 : Int) ≤ te ∧ te ≤ 30 ∧ te ≠ 23) := by omega
    have a3 : ¬ ((19 : Int) ≤ te ∧ te ≤ 21) := by omega
    simp only [inK, decide_eq_false a1, decide_eq_false a2, decide_eq_false a3, Bool.and_false, Bool.or_self]
    simp
theorem plR_over {i : Int} (h : i < 0 ∨ 90 ≤ i) : plR i = [] := by
  have e : symI i = [] := by
    unfold symI
    rcases h with h | h
    · rw [if_neg (by omega)]
    · rw [if_pos (by omega)]
      obtain ⟨k, hk⟩ : ∃ k : Nat, i.toNat = k + 90 := ⟨i.toNat - 90, by omega⟩
      rw [hk]; rfl
  rw [plR, e]; rfl
theorem begK_over (te : Int) {i : Int} (h : i < 0 ∨ 90 ≤ i) : begK te i = false := by rw [begK, plR_over h]; rfl
theorem begK_out {te : Int} (h : te ≤ 0 ∨ 31 ≤ te) (i : Int) : begK te i = false := by
  by_cases hi : 0 ≤ i ∧ i < 90
  · obtain ⟨a, rfl⟩ := Int.eq_ofNat_of_zero_le hi.1
    rw [begK_T te (by omega), begT_out h (by omega)]
  · exact begK_over te (by omega)
theorem fstK_out {te : Int} (h : te ≤ 0 ∨ 31 ≤ te) (v : Int) : fstK te v = false := by
  rw [fstK, List.any_eq_false]
  intro i _
  rw [begK_out h i]; simp
theorem fstK_over (te : Int) {v : Int} (h : v < 0 ∨ 43 ≤ v) : fstK te v = false := by rw [fstK, ofR_none h]; rfl
theorem empR_over {v : Int} (h : v < 0 ∨ 43 ≤ v) : empR v = -1 := by rw [empR, ofR_none h]; rfl
theorem begN_over (te : Int) {v : Int} (h : v < 0 ∨ 43 ≤ v) : begN te v = -1 := by rw [begN, ofR_none h]; rfl
theorem pickK_over (te : Int) {v : Int} (h : v < 0 ∨ 43 ≤ v) : pickK te v = -1 := by rw [pickK, begN_over te h, empR_over h]; rfl
/-- At most one rule of a variable begins with a terminal. -/
theorem one_dec : ∀ v, v < 43 → ∀ te, te < 31 → ((vsR (v : Nat)).filter (begT (te : Nat))).length ≤ 1 := by decide +kernel
theorem one_all (te v : Int) : ((ofR v).filter (begK te)).length ≤ 1 := by
  by_cases h : 0 < te ∧ te < 31
  · by_cases hv : 0 ≤ v ∧ v < 43
    · obtain ⟨a, rfl⟩ := Int.eq_ofNat_of_zero_le hv.1
      obtain ⟨b, rfl⟩ := Int.eq_ofNat_of_zero_le (show 0 ≤ te by omega)
      rw [ofR_vs, List.filter_map, List.length_map]
      have e : (vsR a).filter (begK b ∘ fun i : Nat => (i : Int)) = (vsR a).filter (begT b) :=
        List.filter_congr fun i hi => begK_T b (vsR_lt hi)
      rw [e]
      exact one_dec a (by omega) b (by omega)
    · rw [ofR_none (by omega)]; simp
  · rw [List.filter_eq_nil_iff.2 (fun i _ => by rw [begK_out (by omega) i]; simp)]; simp
/-- Each variable begins with some terminal. -/
theorem some_dec : ∀ v, v < 43 → ((List.range 31).any fun te => fstT (te : Nat) (v : Nat)) = true := by decide +kernel
def smB (v : Int) (n : Nat) : Bool := (List.range n).any fun te => fstK (te : Nat) v
theorem smB_succ (v : Int) (n : Nat) : smB v (n + 1) = (smB v n || fstK (n : Nat) v) := by unfold smB; rw [List.range_succ, List.any_append]; simp
theorem some_all {v : Int} (h : 0 ≤ v ∧ v < 43) : smB v 31 = true := by
  obtain ⟨a, rfl⟩ := Int.eq_ofNat_of_zero_le h.1
  have := some_dec a (by omega)
  unfold smB
  simpa only [fstK_T] using this
/-- What stands behind a variable that may be nothing can't begin it. -/
def folJ (te v : Int) : List Sq → Bool
  | [] => true
  | t :: l => !(fitK te t && fstK te v) && (!mayN t || folJ te v l)
def folK (te : Int) : List Sq → Bool
  | [] => true
  | t :: l => (!mayN t || folJ te t.n l) && folK te l
def fitT (te : Int) (t : Sq) : Bool := if t.k = 0 then t.n == te && te != 0 else if t.k = 2 then inK t.n te else if t.k = 1 then fstT te t.n else false
theorem fitK_T (te : Int) (t : Sq) : fitK te t = fitT te t := by
  obtain ⟨k, n⟩ := t
  unfold fitT
  by_cases h0 : k = 0
  · subst h0; rw [fitK_term]; simp
  · by_cases h2 : k = 2
    · subst h2; rw [fitK_class]; simp
    · by_cases h1 : k = 1
      · subst h1; rw [fitK_var, fstK_T]; simp
      · rw [fitK_other te h0 h1 h2]; simp [h0, h1, h2]
def folU (te v : Int) : List Sq → Bool
  | [] => true
  | t :: l => !(fitT te t && fstT te v) && (!mayN t || folU te v l)
def folT (te : Int) : List Sq → Bool
  | [] => true
  | t :: l => (!mayN t || folU te t.n l) && folT te l
theorem folJ_U (te v : Int) : ∀ l, folJ te v l = folU te v l
  | [] => rfl
  | t :: l => by rw [folJ, folU, fitK_T, fstK_T, folJ_U te v l]
theorem folK_T (te : Int) : ∀ l, folK te l = folT te l
  | [] => rfl
  | t :: l => by rw [folK, folT, folJ_U, folK_T te l]
theorem fol_dec : ∀ i, i < 90 → ∀ te, te < 31 → folT (te : Nat) (plS (symR i)) = true := by decide +kernel
theorem folJ_out {te : Int} (h : te ≤ 0 ∨ 31 ≤ te) (v : Int) : ∀ l, folJ te v l = true
  | [] => rfl
  | t :: l => by rw [folJ, fstK_out h v, folJ_out h v l]; simp
theorem folK_out {te : Int} (h : te ≤ 0 ∨ 31 ≤ te) : ∀ l, folK te l = true
  | [] => rfl
  | t :: l => by rw [folK, folJ_out h, folK_out h l]; simp
theorem fol_all (i te : Int) : folK te (plR i) = true := by
  by_cases h : 0 < te ∧ te < 31
  · by_cases hi : 0 ≤ i ∧ i < 90
    · obtain ⟨a, rfl⟩ := Int.eq_ofNat_of_zero_le hi.1
      obtain ⟨b, rfl⟩ := Int.eq_ofNat_of_zero_le (show 0 ≤ te by omega)
      have e : plR (a : Int) = plS (symR a) := by rw [plR, symI, if_pos hi.1]; rfl
      rw [folK_T, e]
      exact fol_dec a (by omega) b (by omega)
    · rw [plR_over (by omega)]; rfl
  · exact folK_out (by omega) _
/-- What begins with a name that asks for no word begins with each free name. -/
theorem free_dec : ∀ v, v < 43 → fstT 18 (v : Nat) = true → ∀ te, te < 31 → inK 1 (te : Nat) = true → fstT (te : Nat) (v : Nat) = true := by decide +kernel
theorem free_all (v te : Int) (h1 : fstK 18 v = true) (h2 : inK 1 te = true) : fstK te v = true := by
  by_cases hv : 0 ≤ v ∧ v < 43
  · have ht : 18 ≤ te ∧ te ≤ 30 := by
      have := h2
      rw [inK_1, Bool.and_eq_true] at this
      simpa [nmB] using this.1
    obtain ⟨a, rfl⟩ := Int.eq_ofNat_of_zero_le hv.1
    obtain ⟨b, rfl⟩ := Int.eq_ofNat_of_zero_le (show 0 ≤ te by omega)
    rw [fstK_T] at h1 ⊢
    exact free_dec a (by omega) h1 b (by omega) h2
  · rw [fstK_over 18 (by omega)] at h1; cases h1
end Go.Proofs.YtfgmojnohienfaaDoor
