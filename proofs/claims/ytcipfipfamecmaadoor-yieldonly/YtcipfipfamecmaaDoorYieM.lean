/- What rules derive (plain mathematics). -/
import Derived.Test.YtcipfipfamecmaaDoorParO
namespace Go.Proofs.YtcipfipfamecmaaDoor
open Go.RowKit
set_option linter.unusedVariables false
set_option maxRecDepth 100000

/-- Is i a rule of variable v? -/
def isR (v i : Int) : Bool := decide (0 ≤ i ∧ i < 90) && ((varR i.toNat : Int) == v)
theorem isR_yes {v i : Int} (h : isR v i = true) : ∃ a : Nat, i = (a : Int) ∧ a < 90 ∧ (varR a : Int) = v := by
  rw [isR, Bool.and_eq_true, decide_eq_true_eq, beq_iff_eq] at h
  obtain ⟨a, rfl⟩ := Int.eq_ofNat_of_zero_le h.1.1
  exact ⟨a, rfl, by omega, h.2⟩
theorem isR_of {v : Int} {a : Nat} (h1 : a < 90) (h2 : (varR a : Int) = v) : isR v (a : Int) = true := by
  rw [isR, Bool.and_eq_true, decide_eq_true_eq, beq_iff_eq]
  exact ⟨by omega, h2⟩
theorem symI_at (a : Nat) : symI (a : Int) = symR a := by rw [symI, if_pos (by omega)]; rfl
/-- From a stack on, by rules: the symbols derived, the rules that are left, and whether the stack is empty then. -/
inductive Der : List Sq → List Int → List Sq → List Int → Bool → Prop
  | nil {R : List Int} : Der [] R [] R true
  | put {t : Sq} {S : List Sq} {R Z : List Int} {out : List Sq} {f : Bool} : t.k ≠ 1 → Der S R out Z f → Der (t :: S) R (t :: out) Z f
  | var {t : Sq} {S : List Sq} {i : Int} {R Z : List Int} {out : List Sq} {f : Bool} : t.k = 1 → isR t.n i = true → Der (symI i ++ S) R out Z f → Der (t :: S) (i :: R) out Z f
  | none {t : Sq} {S : List Sq} : t.k = 1 → Der (t :: S) [] [] [] false
  | stop {t : Sq} {S : List Sq} {i : Int} {R : List Int} : t.k = 1 → isR t.n i = false → Der (t :: S) (i :: R) [] (i :: R) false
theorem Der.det {S : List Sq} {R Z : List Int} {out : List Sq} {f : Bool} (d : Der S R out Z f) :
    ∀ {out' : List Sq} {Z' : List Int} {f' : Bool}, Der S R out' Z' f' → out = out' ∧ Z = Z' ∧ f = f' := by
  induction d with
  | nil => intro out' Z' f' d'; cases d'; exact ⟨rfl, rfl, rfl⟩
  | put hk _ ih =>
    intro out' Z' f' d'
    cases d' with
    | put _ d2 => obtain ⟨e1, e2, e3⟩ := ih d2; exact ⟨by rw [e1], e2, e3⟩
    | var h2 _ _ => exact absurd h2 hk
    | none h2 => exact absurd h2 hk
    | stop h2 _ => exact absurd h2 hk
  | var hk hi _ ih =>
    intro out' Z' f' d'
    cases d' with
    | put h2 _ => exact absurd hk h2
    | var _ _ d2 => exact ih d2
    | stop _ h2 => rw [hi] at h2; cases h2
  | none hk =>
    intro out' Z' f' d'
    cases d' with
    | put h2 _ => exact absurd hk h2
    | none _ => exact ⟨rfl, rfl, rfl⟩
  | stop hk hi =>
    intro out' Z' f' d'
    cases d' with
    | put h2 _ => exact absurd hk h2
    | var _ h2 _ => rw [hi] at h2; cases h2
    | stop _ _ => exact ⟨rfl, rfl, rfl⟩
theorem der_ex : ∀ (R : List Int) (S : List Sq), ∃ out Z f, Der S R out Z f := by
  intro R
  induction R with
  | nil =>
    intro S
    induction S with
    | nil => exact ⟨_, _, _, .nil⟩
    | cons t S ih =>
      by_cases hk : t.k = 1
      · exact ⟨_, _, _, .none hk⟩
      · obtain ⟨out, Z, f, h⟩ := ih
        exact ⟨_, _, _, .put hk h⟩
  | cons i R ihR =>
    intro S
    induction S with
    | nil => exact ⟨_, _, _, .nil⟩
    | cons t S ih =>
      by_cases hk : t.k = 1
      · cases hi : isR t.n i
        · exact ⟨_, _, _, .stop hk hi⟩
        · obtain ⟨out, Z, f, h⟩ := ihR (symI i ++ S)
          exact ⟨_, _, _, .var hk hi h⟩
      · obtain ⟨out, Z, f, h⟩ := ih
        exact ⟨_, _, _, .put hk h⟩
/-- What Full answers. -/
def Ful (R : List Int) (X : List Sq) (is : Bool) : Prop := ∃ out Z f, Der docS R out Z f ∧ is = (f && Z.isEmpty) ∧ X = if is then out else []
theorem ful_ex (R : List Int) : ∃ X is, Ful R X is := by
  obtain ⟨out, Z, f, h⟩ := der_ex R docS
  exact ⟨_, _, out, Z, f, h, rfl, rfl⟩
theorem Ful.det {R : List Int} {X X' : List Sq} {is is' : Bool} (h : Ful R X is) (h' : Ful R X' is') : X = X' ∧ is = is' := by
  obtain ⟨o, Z, f, d, rfl, rfl⟩ := h
  obtain ⟨o', Z', f', d', rfl, rfl⟩ := h'
  obtain ⟨rfl, rfl, rfl⟩ := d.det d'
  exact ⟨rfl, rfl⟩
theorem Ful.yes {R : List Int} {X : List Sq} (h : Ful R X true) : Der docS R X [] true := by
  obtain ⟨o, Z, f, d, e1, rfl⟩ := h
  have e2 := e1.symm
  rw [Bool.and_eq_true, List.isEmpty_iff] at e2
  obtain ⟨rfl, rfl⟩ := e2
  exact d
theorem Ful.of {R : List Int} {X : List Sq} (d : Der docS R X [] true) : Ful R X true := ⟨X, [], true, d, rfl, rfl⟩
theorem Ful.no {R : List Int} {X : List Sq} (h : Ful R X false) : X = [] := by
  obtain ⟨o, Z, f, d, e1, rfl⟩ := h
  rfl
theorem Ful.not {R : List Int} {X : List Sq} {is : Bool} (h : Ful R X is) (hn : ∀ X, ¬ Der docS R X [] true) : is = false := by
  cases is
  · rfl
  · exact absurd h.yes (hn X)

/-- What is told of a symbol: what is put, what has to wait, the rules that are left. -/
def tel : Nat → Sq → List Int → Option (List Sq × List Sq × List Int)
  | 0, t, R => some ([t], [], R)
  | d + 1, t, R => if t.k = 1 then (match R with
      | [] => none
      | i :: R' => if isR t.n i then (match symI i with
          | [] => some ([], [], R')
          | u :: l => (tel d u R').map fun x => (x.1, x.2.1 ++ l, x.2.2)) else none) else some ([t], [], R)
/-- Do d calls within each other suffice? -/
def chB : Nat → Sq → Bool
  | 0, t => !(t.k == 1)
  | d + 1, t => !(t.k == 1) || (ofR t.n).all fun i => match symI i with | [] => true | u :: _ => chB d u
theorem ch_vars : ∀ v, v < 43 → chB 3 ⟨1, (v : Nat)⟩ = true := by decide +kernel
theorem ch_all (t : Sq) : chB 3 t = true := by
  obtain ⟨k, n⟩ := t
  by_cases h1 : k = 1
  · subst h1
    by_cases hv : 0 ≤ n ∧ n < 43
    · obtain ⟨a, rfl⟩ := Int.eq_ofNat_of_zero_le hv.1
      exact ch_vars a (by omega)
    · rw [chB, show (⟨1, n⟩ : Sq).n = n from rfl, ofR_none (by omega)]; rfl
  · rw [chB]; simp [h1]
theorem tel_leaf (d : Nat) {t : Sq} (R : List Int) (hk : t.k ≠ 1) : tel d t R = some ([t], [], R) := by
  cases d with
  | zero => rfl
  | succ d => exact if_neg hk
theorem tel_nil (d : Nat) {t : Sq} (hk : t.k = 1) : tel (d + 1) t [] = none := by rw [tel, if_pos hk]
theorem tel_no (d : Nat) {t : Sq} {i : Int} (R : List Int) (hk : t.k = 1) (hi : isR t.n i = false) : tel (d + 1) t (i :: R) = none := by
  rw [tel, if_pos hk]; simp only [hi]; rfl
theorem tel_empty (d : Nat) {t : Sq} {i : Int} (R : List Int) (hk : t.k = 1) (hi : isR t.n i = true) (hs : symI i = []) : tel (d + 1) t (i :: R) = some ([], [], R) := by
  rw [tel, if_pos hk]; simp only [hi, hs]; rfl
theorem tel_deep (d : Nat) {t u : Sq} {i : Int} {l : List Sq} (R : List Int) (hk : t.k = 1) (hi : isR t.n i = true) (hs : symI i = u :: l) : tel (d + 1) t (i :: R) = (tel d u R).map fun x => (x.1, x.2.1 ++ l, x.2.2) := by
  rw [tel, if_pos hk]; simp only [hi, hs]; rfl
theorem ch_next {d : Nat} {t u : Sq} {i : Int} {l : List Sq} (hc : chB (d + 1) t = true) (hk : t.k = 1) (hi : isR t.n i = true) (hs : symI i = u :: l) : chB d u = true := by
  obtain ⟨a, rfl, h1, h2⟩ := isR_yes hi
  have : (ofR t.n).all (fun i => match symI i with | [] => true | u :: _ => chB d u) = true := by simpa [chB, hk] using hc
  have := List.all_eq_true.1 this a (ofR_mem.2 ⟨a, h1, h2, rfl⟩)
  rw [hs] at this
  exact this
theorem tlI_len (i : Int) : (symI i).length ≤ 10 := by
  unfold symI
  by_cases h : 0 ≤ i
  · rw [if_pos h, symR_len]
    by_cases h2 : i.toNat < 90
    · exact tlR_len _ h2
    · have e : tlR i.toNat = [] := by
        unfold tlR
        have : codR i.toNat = [] := by
          generalize i.toNat = n at h2
          obtain ⟨k, rfl⟩ : ∃ k, n = k + 90 := ⟨n - 90, by omega⟩
          rfl
        rw [this]; rfl
      rw [e]; exact Nat.zero_le _
  · rw [if_neg h]; exact Nat.zero_le _
theorem tel_size : ∀ (d : Nat) (t : Sq) (R : List Int) {o p : List Sq} {Z : List Int}, tel d t R = some (o, p, Z) → p.length + 10 * Z.length ≤ 10 * R.length ∧ o.length + p.length + 10 * Z.length ≤ 1 + 10 * R.length
  | 0, t, R, o, p, Z, h => by
    rw [tel] at h
    cases h
    simp
  | d + 1, t, R, o, p, Z, h => by
    by_cases hk : t.k = 1
    · cases R with
      | nil => rw [tel_nil d hk] at h; cases h
      | cons i R =>
        cases hi : isR t.n i
        · rw [tel_no d R hk hi] at h; cases h
        · cases hs : symI i with
          | nil =>
            rw [tel_empty d R hk hi hs] at h
            cases h
            simp
            omega
          | cons u l =>
            rw [tel_deep d R hk hi hs, Option.map_eq_some_iff] at h
            obtain ⟨⟨o', p', Z'⟩, h1, h2⟩ := h
            cases h2
            have h3 := tel_size d u R h1
            have h4 := tlI_len i
            rw [hs, List.length_cons] at h4
            dsimp only
            rw [List.length_append, List.length_cons]
            omega
    · rw [tel_leaf (d + 1) R hk] at h
      cases h
      simp
theorem tel_some : ∀ (d : Nat) (t : Sq) (R : List Int) {o p : List Sq} {Z : List Int}, chB d t = true → tel d t R = some (o, p, Z) → ∀ (W out : List Sq) (Y : List Int) (f : Bool), Der (p ++ W) Z out Y f → Der (t :: W) R (o ++ out) Y f
  | 0, t, R, o, p, Z, hc, h => by
    rw [tel] at h
    cases h
    intro W out Y f hd
    exact .put (by simpa [chB] using hc) hd
  | d + 1, t, R, o, p, Z, hc, h => by
    intro W out Y f hd
    by_cases hk : t.k = 1
    · cases R with
      | nil => rw [tel_nil d hk] at h; cases h
      | cons i R =>
        cases hi : isR t.n i
        · rw [tel_no d R hk hi] at h; cases h
        · cases hs : symI i with
          | nil =>
            rw [tel_empty d R hk hi hs] at h
            cases h
            exact .var hk hi (by rw [hs]; exact hd)
          | cons u l =>
            rw [tel_deep d R hk hi hs, Option.map_eq_some_iff] at h
            obtain ⟨⟨o', p', Z'⟩, h1, h2⟩ := h
            cases h2
            exact .var hk hi (by rw [hs, List.cons_append]; exact tel_some d u R (ch_next hc hk hi hs) h1 _ _ _ _ (by rw [← List.append_assoc]; exact hd))
    · rw [tel_leaf (d + 1) R hk] at h
      cases h
      exact .put hk hd
theorem tel_none : ∀ (d : Nat) (t : Sq) (R : List Int), chB d t = true → tel d t R = none → ∀ (W : List Sq), ∃ Y, Der (t :: W) R [] Y false
  | 0, t, R, hc, h => by rw [tel] at h; cases h
  | d + 1, t, R, hc, h => by
    intro W
    by_cases hk : t.k = 1
    · cases R with
      | nil => exact ⟨_, .none hk⟩
      | cons i R =>
        cases hi : isR t.n i
        · exact ⟨_, .stop hk hi⟩
        · cases hs : symI i with
          | nil => rw [tel_empty d R hk hi hs] at h; cases h
          | cons u l =>
            rw [tel_deep d R hk hi hs, Option.map_eq_none_iff] at h
            obtain ⟨Y, hY⟩ := tel_none d u R (ch_next hc hk hi hs) h (l ++ W)
            exact ⟨Y, .var hk hi (by rw [hs]; exact hY)⟩
    · rw [tel_leaf (d + 1) R hk] at h
      cases h

/-- Do symbols fit what is at hand, one behind the other? -/
def fitA (h : Nat → Int) : Nat → List Sq → Bool
  | _, [] => true
  | a, t :: l => fitK (h a) t && fitA h (a + 1) l
theorem fitA_drop {h : Nat → Int} {l : List Sq} {a k : Nat} {t : Sq} (e : l[k]? = some t) : fitA h a (l.drop k) = (fitK (h a) t && fitA h (a + 1) (l.drop (k + 1))) := by
  obtain ⟨h1, rfl⟩ := List.getElem?_eq_some_iff.1 e
  rw [List.drop_eq_getElem_cons h1, fitA]
/-- What Derives answers. -/
def derB (is : Bool) (X : List Sq) (L : List Int) : Bool := is && decide ((plS X).length = L.length) && fitA (hdL L) 0 (plS X)

theorem plS_cons {t : Sq} (l : List Sq) (h : t.k ≠ 3) : plS (t :: l) = t :: plS l := by
  rw [plS, List.filter_cons, if_pos (by simpa using h)]; rfl
theorem plS_mark {t : Sq} (l : List Sq) (h : t.k = 3) : plS (t :: l) = plS l := by
  rw [plS, List.filter_cons, if_neg (by simp [h])]; rfl
/-- Marks ahead. -/
theorem plS_split {S : List Sq} : ∀ {S' : List Sq}, plS S' = S → ∃ M S2, S' = M ++ S2 ∧ (∀ t ∈ M, t.k = 3) ∧ plS S2 = S ∧ (∀ t l, S2 = t :: l → t.k ≠ 3)
  | [], h => ⟨[], [], rfl, fun t ht => absurd ht (by simp), h, fun t l e => by cases e⟩
  | t :: S', h => by
    by_cases hk : t.k = 3
    · rw [plS_mark _ hk] at h
      obtain ⟨M, S2, rfl, h2, h3, h4⟩ := plS_split h
      exact ⟨t :: M, S2, rfl, List.forall_mem_cons.2 ⟨hk, h2⟩, h3, h4⟩
    · exact ⟨[], t :: S', rfl, fun u hu => absurd hu (by simp), h, fun u l e => by cases e; exact hk⟩
theorem Der.marks {M : List Sq} (hM : ∀ t ∈ M, t.k = 3) {S out : List Sq} {R Z : List Int} {f : Bool} (d : Der S R out Z f) : ∃ o, Der (M ++ S) R o Z f ∧ plS o = plS out := by
  induction M with
  | nil => exact ⟨out, d, rfl⟩
  | cons t M ih =>
    obtain ⟨o, h1, h2⟩ := ih fun u hu => hM u (List.mem_cons_of_mem _ hu)
    have hk := hM t List.mem_cons_self
    exact ⟨t :: o, .put (by omega) h1, by rw [plS_mark _ hk, h2]⟩
/-- What the parser tells, rules derive. -/
theorem back {h : Nat → Int} {S : List Sq} {a z : Nat} {rs : List Int} {f : Bool} (r : Run h S a rs z f) : f = true → ∀ {S' : List Sq}, plS S' = S →
    ∃ out, Der S' rs out [] true ∧ a + (plS out).length = z ∧ fitA h a (plS out) = true := by
  induction r with
  | nil =>
    intro _ S' e
    obtain ⟨M, S2, rfl, h2, h3, h4⟩ := plS_split e
    cases S2 with
    | nil =>
      obtain ⟨o, h5, h6⟩ := Der.marks h2 (Der.nil (R := []))
      exact ⟨o, h5, by rw [h6]; rfl, by rw [h6]; rfl⟩
    | cons t l => rw [plS_cons _ (h4 t l rfl)] at h3; cases h3
  | @term t S a z rs f hk hf r ih =>
    intro hf1 S' e
    obtain ⟨M, S2, rfl, h2, h3, h4⟩ := plS_split e
    cases S2 with
    | nil => cases h3
    | cons u l =>
      have h3k := h4 u l rfl
      rw [plS_cons _ h3k] at h3
      injection h3 with e1 e2
      subst e1
      obtain ⟨o, d, h5, h6⟩ := ih hf1 e2
      obtain ⟨o', d', h7⟩ := Der.marks h2 (Der.put hk d)
      rw [plS_cons _ h3k] at h7
      exact ⟨o', d', by rw [h7, List.length_cons]; omega, by rw [h7, fitA, hf, h6]; rfl⟩
  | miss _ _ => intro hf; cases hf
  | @var t S a z i rs f hk hp h0 r ih =>
    intro hf1 S' e
    obtain ⟨M, S2, rfl, h2, h3, h4⟩ := plS_split e
    cases S2 with
    | nil => cases h3
    | cons u l =>
      rw [plS_cons _ (h4 u l rfl)] at h3
      injection h3 with e1 e2
      subst e1
      obtain ⟨o, d, h5, h6⟩ := ih hf1 (S' := symI i ++ l) (by rw [plS_app, e2]; rfl)
      obtain ⟨x, rfl, x1, x2⟩ := pick_rule hp h0
      obtain ⟨o', d', h7⟩ := Der.marks h2 (Der.var hk (isR_of x1 x2) d)
      exact ⟨o', d', by rw [h7]; exact h5, by rw [h7]; exact h6⟩
  | stop _ _ => intro hf; cases hf

/-- What can stand behind a variable. -/
def folL : List (List Nat) := [
  [],
  [],
  [12, 17, 19, 20, 21, 22, 24, 25, 26, 27, 28, 29],
  [4, 9, 12],
  [9, 12],
  [5],
  [2, 5],
  [2, 5, 9, 14, 17, 18, 19, 20, 21, 22, 23, 24, 25, 26, 27, 28, 29, 30],
  [2, 5, 8, 9, 11, 14, 17, 18, 19, 20, 21, 22, 23, 24, 25, 26, 27, 28, 29, 30],
  [2, 5, 8, 9, 11, 14, 17, 18, 19, 20, 21, 22, 23, 24, 25, 26, 27, 28, 29, 30],
  [2, 5, 6, 8, 12, 14, 17, 18, 19, 20, 21, 22, 23, 24, 25, 26, 27, 28, 29, 30],
  [2, 5, 6, 8, 9, 12, 14, 17, 18, 19, 20, 21, 22, 23, 24, 25, 26, 27, 28, 29, 30],
  [5, 14],
  [5, 14, 18, 19, 20, 21, 22, 23, 24, 25, 26, 27, 28, 29, 30],
  [2, 5, 9, 10, 11, 12, 14, 15, 16, 17, 18, 19, 20, 21, 22, 23, 24, 25, 26, 27, 28, 29, 30],
  [11],
  [11],
  [14],
  [6, 12, 14, 17, 18, 19, 20, 21, 22, 23, 24, 25, 26, 27, 28, 29, 30],
  [14],
  [6, 14, 18, 19, 20, 21, 22, 23, 24, 25, 26, 27, 28, 29, 30],
  [4, 6, 9, 12, 14, 18, 19, 20, 21, 22, 23, 24, 25, 26, 27, 28, 29, 30],
  [6, 14, 18, 19, 20, 21, 22, 23, 24, 25, 26, 27, 28, 29, 30],
  [6, 14, 18, 19, 20, 21, 22, 23, 24, 25, 26, 27, 28, 29, 30],
  [12, 17, 19, 20, 21, 22, 24, 25, 26, 27, 28, 29],
  [9, 12],
  [18, 19, 20, 21, 22, 23, 24, 25, 26, 27, 28, 29, 30],
  [9, 12],
  [12, 17, 19, 20, 21, 22, 24, 25, 26, 27, 28, 29],
  [14],
  [14, 17, 18, 19, 20, 21, 22, 23, 24, 25, 26, 27, 28, 29, 30],
  [18, 19, 20, 21, 22, 23, 24, 25, 26, 27, 28, 29, 30],
  [7],
  [5],
  [5, 14, 17, 18, 19, 20, 21, 22, 23, 24, 25, 26, 27, 28, 29, 30],
  [12, 17, 19, 20, 21, 22, 24, 25, 26, 27, 28, 29],
  [14],
  [14, 17, 18, 19, 20, 21, 22, 23, 24, 25, 26, 27, 28, 29, 30],
  [12, 17, 19, 20, 21, 22, 24, 25, 26, 27, 28, 29],
  [18, 19, 20, 21, 22, 23, 24, 25, 26, 27, 28, 29, 30],
  [12, 17, 19, 20, 21, 22, 24, 25, 26, 27, 28, 29],
  [12, 17, 19, 20, 21, 22, 24, 25, 26, 27, 28, 29],
  [14]]
def folF (te v : Int) : Bool := (folL.getD v.toNat []).contains te.toNat
def folA (te v : Int) : List Sq → Bool
  | [] => true
  | t :: l => (!(t.k == 1) || ((!goB (fitT te) l || folF te t.n) && (!l.all mayN || !folF te v || folF te t.n))) && folA te v l
theorem folA_dec : ∀ i, i < 90 → ∀ te, te < 31 → folA (te : Nat) (varR i : Nat) (plS (symR i)) = true := by decide +kernel
theorem fol_emp : ∀ v, v < 43 → decide (0 ≤ empR (v : Nat)) = true → ∀ te, te < 31 → (!folF (te : Nat) (v : Nat) || !fstT (te : Nat) (v : Nat)) = true := by decide +kernel
theorem nul_dec : ∀ i, i < 90 → (!(plS (symR i)).all mayN || (symR i).length == 0) = true := by decide +kernel
theorem emp_one : ∀ i, i < 90 → (!((symR i).length == 0) || empR (varR i : Nat) == (i : Int)) = true := by decide +kernel
theorem goB_app (f : Sq → Bool) (B : List Sq) : ∀ A : List Sq, goB f (A ++ B) = (goB f A || (A.all mayN && goB f B))
  | [] => by simp [goB]
  | t :: A => by
    rw [List.cons_append, goB, goB, goB_app f B A, List.all_cons]
    cases f t <;> cases mayN t <;> simp
theorem fit_funT (te : Int) : fitK te = fitT te := funext (fitK_T te)
theorem nul_rule {v i : Int} (hi : isR v i = true) (hn : (plR i).all mayN = true) : symI i = [] ∧ empR v = i := by
  obtain ⟨a, rfl, h1, h2⟩ := isR_yes hi
  rw [pl_at] at hn
  have e1 := nul_dec a h1
  rw [hn] at e1
  have e1 : (symR a).length = 0 := by simpa using e1
  have e2 := emp_one a h1
  rw [e1] at e2
  have e2 : empR (varR a : Nat) = (a : Int) := by simpa using e2
  exact ⟨by rw [symI_at]; exact List.eq_nil_of_length_eq_zero e1, by rw [← h2]; exact e2⟩
theorem one_mem {l : List Int} (h : l.length ≤ 1) {x y : Int} (hx : x ∈ l) (hy : y ∈ l) : x = y := by
  match l, h with
  | [], _ => cases hx
  | [z], _ => rw [List.mem_singleton] at hx hy; rw [hx, hy]
/-- The rule that begins with the terminal at hand is picked. -/
theorem beg_pick {te v i : Int} (hi : isR v i = true) (hb : begK te i = true) : pickK te v = i := by
  obtain ⟨a, rfl, h1, h2⟩ := isR_yes hi
  have hm : (a : Int) ∈ ofR v := ofR_mem.2 ⟨a, h1, h2, rfl⟩
  have hf : fstK te v = true := List.any_eq_true.2 ⟨a, hm, hb⟩
  have hg := begN_ge te v
  rw [hf, decide_eq_true_eq] at hg
  have h3 : begN te v = (a : Int) := by
    rcases fstN_or (p := begK te) (ofR v) with e | ⟨e1, e2⟩
    · rw [begN, e] at hg; omega
    · exact one_mem (one_all te v) (List.mem_filter.2 ⟨e1, e2⟩) (List.mem_filter.2 ⟨hm, hb⟩)
  rw [pickK, if_pos hg, h3]
/-- The rule without symbols is picked where the terminal at hand may stand behind. -/
theorem emp_pick {te v i : Int} (hi : isR v i = true) (he : empR v = i) (hf : 0 < te → te < 31 → folF te v = true) : pickK te v = i := by
  by_cases hr : 0 < te ∧ te < 31
  · obtain ⟨a, rfl, h1, h2⟩ := isR_yes hi
    obtain ⟨b, rfl⟩ := Int.eq_ofNat_of_zero_le (show 0 ≤ te by omega)
    have hv := varR_lt a h1
    obtain rfl : v = ((varR a : Nat) : Int) := h2.symm
    have h3 := fol_emp (varR a) hv (by rw [he]; exact decide_eq_true (by omega)) b (by omega)
    rw [hf hr.1 hr.2] at h3
    have h4 : fstT (b : Nat) (varR a : Nat) = false := by simpa using h3
    have h5 := begN_ge (b : Nat) (varR a : Nat)
    rw [fstK_T, h4] at h5
    rw [pickK, if_neg (by simpa using h5), he]
  · rw [pick_out (by omega), he]
/-- Behind each variable stands what can. -/
def okF : List Sq → Prop
  | [] => True
  | t :: S => (t.k = 1 → ∀ te, 0 < te → te < 31 → goB (fitK te) S = true → folF te t.n = true) ∧ okF S
theorem okF_app {v : Int} {S : List Sq} (hS : okF S) (hv : ∀ te, 0 < te → te < 31 → goB (fitK te) S = true → folF te v = true) :
    ∀ {P : List Sq}, (∀ te, 0 < te → te < 31 → folA te v P = true) → okF (P ++ S)
  | [], _ => hS
  | u :: P, hP => by
    refine ⟨fun hk te h1 h2 hg => ?_, okF_app hS hv fun te h1 h2 => ?_⟩
    · have := hP te h1 h2
      rw [folA, Bool.and_eq_true, hk] at this
      have this := this.1
      have hg : goB (fitK te) (P ++ S) = true := hg
      rw [goB_app, Bool.or_eq_true, Bool.and_eq_true] at hg
      rcases hg with hg | ⟨hg1, hg2⟩
      · rw [fit_funT] at hg
        rw [hg] at this
        simp only [beq_self_eq_true, Bool.not_true, Bool.false_or, Bool.and_eq_true] at this
        exact this.1
      · rw [hg1, hv te h1 h2 hg2] at this
        simp only [beq_self_eq_true, Bool.not_true, Bool.false_or, Bool.and_eq_true] at this
        exact this.2
    · have := hP te h1 h2
      rw [folA, Bool.and_eq_true] at this
      exact this.2
theorem okF_var {t : Sq} {S : List Sq} {i : Int} (hk : t.k = 1) (h : okF (t :: S)) (hi : isR t.n i = true) : okF (plR i ++ S) := by
  refine okF_app h.2 (h.1 hk) fun te h1 h2 => ?_
  obtain ⟨a, rfl, x1, x2⟩ := isR_yes hi
  obtain ⟨b, rfl⟩ := Int.eq_ofNat_of_zero_le (show 0 ≤ te by omega)
  rw [pl_at, ← x2]
  exact folA_dec a x1 b (by omega)
/-- What is derived of a stack begins as the stack can. -/
theorem Der.lead {S out : List Sq} {R Z : List Int} {f : Bool} (d : Der S R out Z f) : f = true →
    (∀ (te : Int) (u : Sq) (X : List Sq), plS out = u :: X → fitK te u = true → goB (fitK te) (plS S) = true) ∧ (plS out = [] → (plS S).all mayN = true) := by
  induction d with
  | nil => intro _; exact ⟨fun te u X e => absurd e (by simp [plS]), fun _ => rfl⟩
  | @put t S R Z out f hk d ih =>
    intro hf
    obtain ⟨h1, h2⟩ := ih hf
    by_cases h3 : t.k = 3
    · rw [plS_mark _ h3, plS_mark _ h3]; exact ⟨h1, h2⟩
    · rw [plS_cons _ h3, plS_cons _ h3]
      exact ⟨fun te u X e hu => by injection e with e1 e2; rw [goB, e1, hu]; rfl, fun e => by cases e⟩
  | @var t S i R Z out f hk hi d ih =>
    intro hf
    obtain ⟨h1, h2⟩ := ih hf
    rw [plS_app] at h1 h2
    rw [plS_cons _ (by omega)]
    have e : (plS (symI i)).all mayN = true → mayN t = true := fun h => by
      obtain ⟨-, h4⟩ := nul_rule hi h
      obtain ⟨a, rfl, -, -⟩ := isR_yes hi
      rw [mayN, hk, h4]; simp
    constructor
    · intro te u X e1 hu
      have h3 := h1 te u X e1 hu
      rw [goB_app, Bool.or_eq_true, Bool.and_eq_true] at h3
      rw [goB]
      rcases h3 with h3 | ⟨h3, h4⟩
      · have hf : fitK te t = true := by
          obtain ⟨k, n⟩ := t
          change k = 1 at hk
          subst hk
          obtain ⟨a, rfl, x1, x2⟩ := isR_yes hi
          rw [fitK_var]
          exact List.any_eq_true.2 ⟨a, ofR_mem.2 ⟨a, x1, x2, rfl⟩, h3⟩
        rw [hf]; rfl
      · rw [e h3, h4]; simp
    · intro e1
      have h3 := h2 e1
      rw [List.all_append, Bool.and_eq_true] at h3
      rw [List.all_cons, e h3.1, h3.2]; rfl
  | none _ => intro hf; cases hf
  | stop _ _ => intro hf; cases hf
/-- Rules that derive what is at hand are those that the parser tells. -/
theorem only {h : Nat → Int} {N : Nat} (hN : h N = 0) {S' out : List Sq} {R Z : List Int} {f : Bool} (d : Der S' R out Z f) : f = true → Z = [] →
    ∀ {a : Nat}, okF (plS S') → fitA h a (plS out) = true → a + (plS out).length = N → Run h (plS S') a R N true := by
  induction d with
  | nil =>
    intro _ hZ a _ _ hl
    subst hZ
    obtain rfl : a = N := by simpa [plS] using hl
    exact .nil
  | @put t S R Z out f hk d ih =>
    intro hf hZ a ho hfit hl
    by_cases h3 : t.k = 3
    · rw [plS_mark _ h3] at ho hfit hl ⊢
      exact ih hf hZ ho hfit hl
    · rw [plS_cons _ h3] at ho hfit hl ⊢
      rw [fitA, Bool.and_eq_true] at hfit
      rw [List.length_cons] at hl
      exact .term hk hfit.1 (ih hf hZ ho.2 hfit.2 (by omega))
  | @var t S i R Z out f hk hi d ih =>
    intro hf hZ a ho hfit hl
    have hk3 : t.k ≠ 3 := by omega
    rw [plS_cons _ hk3] at ho ⊢
    have hr := ih hf hZ (a := a) (by rw [plS_app]; exact okF_var hk ho hi) hfit hl
    rw [plS_app] at hr
    obtain ⟨l1, l2⟩ := d.lead hf
    rw [plS_app] at l1 l2
    have h0 : 0 ≤ i := by obtain ⟨x, rfl, -, -⟩ := isR_yes hi; omega
    refine .var hk ?_ h0 hr
    cases ho2 : plS out with
    | nil =>
      have h4 := l2 ho2
      rw [List.all_append, Bool.and_eq_true] at h4
      rw [ho2] at hl
      obtain rfl : a = N := by simpa using hl
      rw [hN]
      exact emp_pick hi (nul_rule hi h4.1).2 fun h _ => absurd h (by decide)
    | cons u X =>
      rw [ho2, fitA, Bool.and_eq_true] at hfit
      have h4 := l1 (h a) u X ho2 hfit.1
      rw [goB_app, Bool.or_eq_true, Bool.and_eq_true] at h4
      rcases h4 with h4 | ⟨h4, h5⟩
      · exact beg_pick hi h4
      · exact emp_pick hi (nul_rule hi h4).2 fun x1 x2 => ho.1 hk _ x1 x2 h5
  | none _ => intro hf; cases hf
  | stop _ _ => intro hf; cases hf
end Go.Proofs.YtcipfipfamecmaaDoor
