/- What symbols, variables and rules can begin with; which rule is picked (plain mathematics). -/
import Derived.Test.YtfgmojnohienfaaDoorRulM
import Derived.Test.YtfgmojnohienfaaDoorKinN
namespace Go.Proofs.YtfgmojnohienfaaDoor
open Go.RowKit
set_option linter.unusedVariables false
set_option maxRecDepth 100000

/-- The first of some numbers that is so; -1 if none is. -/
def fstN (p : Int → Bool) : List Int → Int
  | [] => -1
  | i :: l => if p i then i else fstN p l
theorem fstN_drop {p : Int → Bool} {l : List Int} {k : Nat} {i : Int} (h : l[k]? = some i) : fstN p (l.drop k) = if p i then i else fstN p (l.drop (k + 1)) := by
  obtain ⟨h1, rfl⟩ := List.getElem?_eq_some_iff.1 h
  rw [List.drop_eq_getElem_cons h1, fstN]
theorem fstN_ge {p : Int → Bool} : ∀ {l : List Int}, (∀ i ∈ l, 0 ≤ i) → decide (0 ≤ fstN p l) = l.any p
  | [], _ => rfl
  | i :: l, h => by
    have ih := fstN_ge (p := p) (l := l) (fun j hj => h j (List.mem_cons_of_mem _ hj))
    have hi := h i List.mem_cons_self
    rw [fstN, List.any_cons]
    by_cases hp : p i = true
    · rw [if_pos hp, hp]; simp [hi]
    · rw [if_neg hp, ih]; simp [hp]
theorem fstN_congr {p q : Int → Bool} : ∀ {l : List Int}, (∀ i ∈ l, p i = q i) → fstN p l = fstN q l
  | [], _ => rfl
  | i :: l, h => by
    rw [fstN, fstN, h i List.mem_cons_self, fstN_congr (l := l) (fun j hj => h j (List.mem_cons_of_mem _ hj))]
/-- The symbols of rule i; none if there is no such rule. -/
def symI (i : Int) : List Sq := if 0 ≤ i then symR i.toNat else []
/-- The rule of variable v without symbols; -1 if it has none. -/
def empB (i : Int) : Bool := (symI i).length == 0
def empR (v : Int) : Int := fstN empB (ofR v)
/-- Can a symbol stand for nothing? -/
def mayN (t : Sq) : Bool := t.k == 1 && decide (0 ≤ empR t.n)
/-- Does a row begin by what fits? -/
def goB (f : Sq → Bool) : List Sq → Bool
  | [] => false
  | t :: l => f t || (mayN t && goB f l)
theorem goB_drop {f : Sq → Bool} {l : List Sq} {k : Nat} {t : Sq} (h : l[k]? = some t) : goB f (l.drop k) = (f t || (mayN t && goB f (l.drop (k + 1)))) := by
  obtain ⟨h1, rfl⟩ := List.getElem?_eq_some_iff.1 h
  rw [List.drop_eq_getElem_cons h1, goB]
/-- The symbols of a row that count, all so? -/
def okS (f : Sq → Bool) : List Sq → Bool
  | [] => true
  | t :: l => f t && (!mayN t || okS f l)
theorem okS_drop {f : Sq → Bool} {l : List Sq} {k : Nat} {t : Sq} (h : l[k]? = some t) : okS f (l.drop k) = (f t && (!mayN t || okS f (l.drop (k + 1)))) := by
  obtain ⟨h1, rfl⟩ := List.getElem?_eq_some_iff.1 h
  rw [List.drop_eq_getElem_cons h1, okS]
theorem goB_congr {f g p : Sq → Bool} (hp : ∀ t, p t = true → f t = g t) : ∀ {l : List Sq}, okS p l = true → goB f l = goB g l
  | [], _ => rfl
  | t :: l, h => by
    rw [okS, Bool.and_eq_true] at h
    rw [goB, goB, hp t h.1]
    cases hm : mayN t
    · rfl
    · have h2 := h.2
      rw [hm] at h2
      rw [goB_congr hp (l := l) (by simpa using h2)]
/-- The symbols of rule i that are no marks. -/
def plR (i : Int) : List Sq := plS (symI i)
/-- Do d questions behind one another suffice for a symbol? -/
def depB : Nat → Sq → Bool
  | 0, t => !(t.k == 1)
  | d + 1, t => !(t.k == 1) || (ofR t.n).all fun i => okS (depB d) (plR i)
/-- Does a symbol fit te? -/
def fitD : Nat → Int → Sq → Bool
  | d, te, t => if t.k = 0 then t.n == te && te != 0 else if t.k = 2 then inK t.n te else if t.k = 1 then (match d with | 0 => false | e + 1 => (ofR t.n).any fun i => goB (fitD e te) (plR i)) else false
theorem fitD_more {te : Int} : ∀ (d e : Nat) (t : Sq), depB d t = true → d ≤ e → fitD e te t = fitD d te t
  | 0, e, t, h, _ => by
    have h1 : t.k ≠ 1 := by simpa [depB] using h
    unfold fitD
    simp [h1]
  | d + 1, 0, t, _, h => by omega
  | d + 1, e + 1, t, h, hle => by
    by_cases h1 : t.k = 1
    · unfold fitD
      simp only [h1]
      simp only [show ¬ (1 : Int) = 0 by decide, show ¬ (1 : Int) = 2 by decide, if_false, if_true]
      have ha : ∀ i ∈ ofR t.n, okS (depB d) (plR i) = true := by
        have : (ofR t.n).all (fun i => okS (depB d) (plR i)) = true := by simpa [depB, h1] using h
        exact List.all_eq_true.1 this
      rw [Bool.eq_iff_iff, List.any_eq_true, List.any_eq_true]
      constructor
      · rintro ⟨i, hi, hg⟩
        exact ⟨i, hi, by rw [← goB_congr (fun u hu => fitD_more d e u hu (by omega)) (ha i hi)]; exact hg⟩
      · rintro ⟨i, hi, hg⟩
        exact ⟨i, hi, by rw [goB_congr (fun u hu => fitD_more d e u hu (by omega)) (ha i hi)]; exact hg⟩
    · unfold fitD
      simp [h1]
theorem dep_vars : ∀ v, v < 43 → depB 6 ⟨1, (v : Nat)⟩ = true := by decide +kernel
theorem dep_all (t : Sq) : depB 6 t = true := by
  obtain ⟨k, n⟩ := t
  by_cases h1 : k = 1
  · subst h1
    by_cases hv : 0 ≤ n ∧ n < 43
    · obtain ⟨a, rfl⟩ := Int.eq_ofNat_of_zero_le hv.1
      exact dep_vars a (by omega)
    · rw [depB, show (⟨1, n⟩ : Sq).n = n from rfl, ofR_none (by omega)]; rfl
  · rw [depB]; simp [h1]
/-- Does a symbol fit te? -/
def fitK (te : Int) (t : Sq) : Bool := fitD 6 te t
theorem fitK_eq (d : Nat) (te : Int) (t : Sq) (h : depB d t = true) (hd : d ≤ 6) : fitK te t = fitD d te t := fitD_more d 6 t h hd
/-- Can rule i begin with te? -/
def begK (te : Int) (i : Int) : Bool := goB (fitK te) (plR i)
/-- Can a rule of variable v? -/
def fstK (te v : Int) : Bool := (ofR v).any (begK te)
/-- The first of the rules of variable v that can; -1 if none can. -/
def begN (te v : Int) : Int := fstN (begK te) (ofR v)
/-- The rule of variable v that te asks for. -/
def pickK (te v : Int) : Int := if 0 ≤ begN te v then begN te v else empR v
theorem fitK_term (te n : Int) : fitK te ⟨0, n⟩ = (n == te && te != 0) := by unfold fitK fitD; simp
theorem fitK_class (te n : Int) : fitK te ⟨2, n⟩ = inK n te := by unfold fitK fitD; simp
theorem fitK_other (te : Int) {k n : Int} (h0 : k ≠ 0) (h1 : k ≠ 1) (h2 : k ≠ 2) : fitK te ⟨k, n⟩ = false := by unfold fitK fitD; simp [h0, h1, h2]
theorem fitK_var (te n : Int) : fitK te ⟨1, n⟩ = fstK te n := by
  have e : fitK te ⟨1, n⟩ = fitD 7 te ⟨1, n⟩ := (fitD_more 6 7 ⟨1, n⟩ (dep_all _) (by omega)).symm
  rw [e]
  unfold fitD
  simp only [show ¬ (1 : Int) = 0 by decide, show ¬ (1 : Int) = 2 by decide, if_false, if_true]
  rfl
theorem ofR_ge {v i : Int} (h : i ∈ ofR v) : 0 ≤ i ∧ i < 90 := by
  obtain ⟨a, h1, _, rfl⟩ := ofR_mem.1 h
  omega
theorem begN_ge (te v : Int) : decide (0 ≤ begN te v) = fstK te v := fstN_ge fun i hi => (ofR_ge hi).1
/-- A symbol's rank: how many questions behind one another it wants. -/
def rkK (t : Sq) : Nat := if depB 0 t then 0 else if depB 1 t then 1 else if depB 2 t then 2 else if depB 3 t then 3 else if depB 4 t then 4 else if depB 5 t then 5 else 6
end Go.Proofs.YtfgmojnohienfaaDoor
