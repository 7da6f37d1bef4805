/- Bits: their texts, and which may be printed (plain mathematics). -/
import Derived.RowKit
namespace Go.Proofs.Ytfcjihfnimefhaa
set_option linter.unusedVariables false
set_option maxRecDepth 100000

/-- A bit as it lies in a row. -/
structure Bq where
  m : Int
  v : ByteArray
/-- No text. -/
def noV : ByteArray := ⟨#[]⟩
/-- The texts of bits. -/
def txL (l : List Bq) : List ByteArray := l.filterMap fun b => if b.m = 0 then some b.v else none
theorem txL_nil : txL [] = [] := rfl
theorem txL_text {b : Bq} (l : List Bq) (h : b.m = 0) : txL (b :: l) = b.v :: txL l := by simp [txL, h]
theorem txL_mark {b : Bq} (l : List Bq) (h : b.m ≠ 0) : txL (b :: l) = txL l := by simp [txL, h]
theorem txL_app (a b : List Bq) : txL (a ++ b) = txL a ++ txL b := List.filterMap_append ..
theorem txL_le (l : List Bq) : (txL l).length ≤ l.length := List.length_filterMap_le _ _
theorem txL_next {l : List Bq} {k : Nat} {b : Bq} (h : l[k]? = some b) : txL (l.take (k + 1)) = txL (l.take k) ++ (if b.m = 0 then [b.v] else []) := by
  rw [List.take_add_one, h, txL_app]
  congr 1
  by_cases e : b.m = 0
  · rw [if_pos e]; exact txL_text [] e
  · rw [if_neg e]; exact txL_mark [] e

/-- By how much a mark opens, or goes in. -/
def dO (m : Int) : Int := if m = 6 then 1 else if m = 7 then -1 else 0
def dI (m : Int) : Int := if m = 8 then 1 else if m = 9 then -1 else 0
/-- May a bit stand? -/
def okB (b : Bq) : Bool := decide (0 ≤ b.m) && decide (b.m < 10) && (decide (b.v.size = 0) || decide (b.m = 0))
/-- May bits be printed, behind o that are open and i that went in? -/
def mayF : Int → Int → List Bq → Bool
  | o, i, [] => o == 0 && i == 0
  | o, i, b :: l => okB b && decide (0 ≤ o + dO b.m) && decide (0 ≤ i + dI b.m) && mayF (o + dO b.m) (i + dI b.m) l
def mayL (l : List Bq) : Bool := decide (l.length ≤ 4000) && mayF 0 0 l
theorem mayF_bad {b : Bq} (o i : Int) (l : List Bq) (h : okB b = false) : mayF o i (b :: l) = false := by rw [mayF, h]; rfl
theorem mayF_over {b : Bq} {o i : Int} (l : List Bq) (h : ¬ (0 ≤ o + dO b.m ∧ 0 ≤ i + dI b.m)) : mayF o i (b :: l) = false := by
  rw [mayF]
  by_cases h1 : 0 ≤ o + dO b.m
  · rw [decide_eq_false (p := 0 ≤ i + dI b.m) (fun h2 => h ⟨h1, h2⟩)]; simp
  · rw [decide_eq_false h1]; simp
theorem mayF_on {b : Bq} {o i : Int} (l : List Bq) (h : okB b = true) (h1 : 0 ≤ o + dO b.m) (h2 : 0 ≤ i + dI b.m) : mayF o i (b :: l) = mayF (o + dO b.m) (i + dI b.m) l := by
  rw [mayF, h, decide_eq_true h1, decide_eq_true h2]; rfl
theorem mayF_parts {b : Bq} {o i : Int} {l : List Bq} (h : mayF o i (b :: l) = true) : okB b = true ∧ 0 ≤ o + dO b.m ∧ 0 ≤ i + dI b.m ∧ mayF (o + dO b.m) (i + dI b.m) l = true := by
  rw [mayF, Bool.and_eq_true, Bool.and_eq_true, Bool.and_eq_true, decide_eq_true_eq, decide_eq_true_eq] at h
  exact ⟨h.1.1.1, h.1.1.2, h.1.2, h.2⟩
/-- Others behind bits that may be printed. -/
theorem mayF_app {a : List Bq} : ∀ {o i : Int} (p q : Int) (b : List Bq), mayF o i a = true → 0 ≤ p → 0 ≤ q → mayF (o + p) (i + q) (a ++ b) = mayF p q b := by
  induction a with
  | nil =>
    intro o i p q b h hp hq
    rw [mayF, Bool.and_eq_true, beq_iff_eq, beq_iff_eq] at h
    rw [h.1, h.2, Int.zero_add, Int.zero_add]; rfl
  | cons x a ih =>
    intro o i p q b h hp hq
    obtain ⟨h1, h2, h3, h4⟩ := mayF_parts h
    rw [List.cons_append, mayF_on _ h1 (by omega) (by omega), ← ih p q b h4 hp hq]
    congr 1 <;> omega
/-- What is open in the end. -/
theorem mayF_end {l : List Bq} : ∀ {o i o' i' : Int}, mayF o i l = true → mayF o' i' l = true → o = o' ∧ i = i' := by
  induction l with
  | nil =>
    intro o i o' i' h h'
    rw [mayF, Bool.and_eq_true, beq_iff_eq, beq_iff_eq] at h h'
    omega
  | cons x l ih =>
    intro o i o' i' h h'
    obtain ⟨-, -, -, h4⟩ := mayF_parts h
    obtain ⟨-, -, -, h5⟩ := mayF_parts h'
    have := ih h4 h5
    omega
/-- Without the first one, if that opens, they may not. -/
theorem mayF_first {b : Bq} {l : List Bq} (h : mayF 0 0 (b :: l) = true) (hb : b.m = 6 ∨ b.m = 8) : mayF 0 0 l = false := by
  cases h2 : mayF 0 0 l
  · rfl
  · obtain ⟨-, -, -, h4⟩ := mayF_parts h
    obtain ⟨e1, e2⟩ := mayF_end h4 h2
    rcases hb with e | e <;> rw [e] at e1 e2
    · exact absurd e1 (by decide)
    · exact absurd e2 (by decide)
/-- In a group. -/
theorem mayF_group {a : List Bq} (h : mayF 0 0 a = true) : mayF 0 0 (⟨6, noV⟩ :: (a ++ [⟨7, noV⟩])) = true := by
  rw [mayF_on _ (by decide) (by decide) (by decide)]
  have := mayF_app 1 0 [⟨7, noV⟩] h (by decide) (by decide)
  exact this.trans (by decide)
/-- A mark with a text. -/
theorem mayF_spoilt {b : Bq} (h : okB b = false) {a : List Bq} : ∀ o i : Int, mayF o i (a ++ [b]) = false := by
  induction a with
  | nil => intro o i; exact mayF_bad _ _ _ h
  | cons x a ih => intro o i; rw [List.cons_append, mayF, ih]; simp
theorem mayL_nil : mayL [] = true := by decide
theorem mayL_yes {l : List Bq} (h : mayL l = true) : mayF 0 0 l = true := by rw [mayL, Bool.and_eq_true] at h; exact h.2
theorem mayL_is {l : List Bq} (h : l.length ≤ 4000) : mayL l = mayF 0 0 l := by rw [mayL, decide_eq_true h]; rfl
theorem mayL_app {a : List Bq} (b : List Bq) (h : mayL a = true) (hl : (a ++ b).length ≤ 4000) : mayL (a ++ b) = mayL b := by
  rw [mayL_is hl, mayL_is (by rw [List.length_append] at hl; omega)]
  exact mayF_app 0 0 b (mayL_yes h) (Int.le_refl _) (Int.le_refl _)
theorem mayL_first {b : Bq} {l : List Bq} (h : mayL (b :: l) = true) (hb : b.m = 6 ∨ b.m = 8) : mayL l = false := by
  rw [mayL, mayF_first (mayL_yes h) hb]; simp
theorem mayL_spoilt {b : Bq} (h : okB b = false) (a : List Bq) : mayL (a ++ [b]) = false := by rw [mayL, mayF_spoilt h]; simp
theorem mayL_group {a : List Bq} (h : mayL a = true) (hl : a.length ≤ 1998) : mayL (⟨6, noV⟩ :: (a ++ [⟨7, noV⟩])) = true := by
  rw [mayL_is (by simp; omega)]; exact mayF_group (mayL_yes h)
end Go.Proofs.Ytfcjihfnimefhaa
