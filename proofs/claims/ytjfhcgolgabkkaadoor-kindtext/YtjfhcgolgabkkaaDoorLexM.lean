/- Plain mathematics of layer 9: the token that a list of bytes begins with; what is handed on, token by token. No program. -/
import Derived.Test.YtjfhcgolgabkkaaDoorTextM
import Derived.Test.YtjfhcgolgabkkaaDoorNumM
import Derived.Test.YtjfhcgolgabkkaaDoorFoldN
namespace Go.Proofs.YtjfhcgolgabkkaaDoor
set_option linter.unusedVariables false

/-- A token, or why there is none: its kind, its text, how many bytes it has (or how far on it goes wrong), the error. -/
structure Tk where
  k : Int
  v : List UInt8
  n : Nat
  e : Int

def sgL : List UInt8 := [33, 36, 38, 40, 41, 58, 61, 64, 91, 93, 123, 124, 125]
def d3 : List UInt8 := [46, 46, 46]
def tkBad : Tk := ⟨0, [], 0, 2⟩
def tkNum (l : List UInt8) : Tk := if (Sc.numA l 0).b = true then ⟨(Sc.numA l 0).k, l.take (Sc.numA l 0).e.toNat, (Sc.numA l 0).e.toNat, 0⟩ else ⟨0, [], (Sc.numA l 0).e.toNat, 3⟩
def tkRaw (l : List UInt8) : Tk := if (Fo.rawA l 0).b = true then ⟨5, Fo.fld (Fo.rawA l 0).v, (Fo.rawA l 0).n, 0⟩ else ⟨0, [], (Fo.rawA l 0).n, 4⟩
def tkStr (l : List UInt8) : Tk := if (strA l 0).b = true then ⟨5, (strA l 0).v, (strA l 0).n, 0⟩ else ⟨0, [], (strA l 0).n, 4⟩
def tkC (c : UInt8) (l : List UInt8) : Tk :=
  if c = 46 then (if d3.isPrefixOf l = true then ⟨1, d3, 3, 0⟩ else tkBad)
  else if sgL.contains c = true then ⟨1, [c], 1, 0⟩
  else if Sc.bgI c.toNat = true then ⟨2, l.take (Sc.nmT l), Sc.nmT l, 0⟩
  else if c = 45 ∨ Sc.dgI c.toNat = true then tkNum l
  else if c = 34 then (if Fo.q3.isPrefixOf l = true then tkRaw l else tkStr l)
  else tkBad
def tk : List UInt8 → Tk
  | [] => tkBad
  | c :: t => tkC c (c :: t)

/-- By which of the eight ways a token is told. -/
inductive Way (c : UInt8) (l : List UInt8) : Tk → Prop
  | dots : c = 46 → d3.isPrefixOf l = true → Way c l ⟨1, d3, 3, 0⟩
  | dot : c = 46 → d3.isPrefixOf l = false → Way c l tkBad
  | sign : c ≠ 46 → sgL.contains c = true → Way c l ⟨1, [c], 1, 0⟩
  | name : c ≠ 46 → sgL.contains c = false → Sc.bgI c.toNat = true → Way c l ⟨2, l.take (Sc.nmT l), Sc.nmT l, 0⟩
  | num : c ≠ 46 → sgL.contains c = false → Sc.bgI c.toNat = false → (c = 45 ∨ Sc.dgI c.toNat = true) → Way c l (tkNum l)
  | raw : c = 34 → Fo.q3.isPrefixOf l = true → Way c l (tkRaw l)
  | str : c = 34 → Fo.q3.isPrefixOf l = false → Way c l (tkStr l)
  | bad : c ≠ 46 → sgL.contains c = false → Sc.bgI c.toNat = false → ¬ (c = 45 ∨ Sc.dgI c.toNat = true) → c ≠ 34 → Way c l tkBad

theorem way (c : UInt8) (l : List UInt8) : Way c l (tkC c l) := by
  unfold tkC
  by_cases h1 : c = 46
  · rw [if_pos h1]
    cases h2 : d3.isPrefixOf l
    · rw [if_neg (by decide)]; exact .dot h1 h2
    · rw [if_pos rfl]; exact .dots h1 h2
  · rw [if_neg h1]
    cases h2 : sgL.contains c
    · rw [if_neg (by decide)]
      cases h3 : Sc.bgI c.toNat
      · rw [if_neg (by decide)]
        by_cases h4 : c = 45 ∨ Sc.dgI c.toNat = true
        · rw [if_pos h4]; exact .num h1 h2 h3 h4
        · rw [if_neg h4]
          by_cases h5 : c = 34
          · rw [if_pos h5]
            cases h6 : Fo.q3.isPrefixOf l
            · rw [if_neg (by decide)]; exact .str h5 h6
            · rw [if_pos rfl]; exact .raw h5 h6
          · rw [if_neg h5]; exact .bad h1 h2 h3 h4 h5
      · rw [if_pos rfl]; exact .name h1 h2 h3
    · rw [if_pos rfl]; exact .sign h1 h2
theorem way_eq {c : UInt8} {l : List UInt8} {t : Tk} (h : Way c l t) : tkC c l = t := by
  unfold tkC
  cases h with
  | dots h1 h2 => rw [if_pos h1, if_pos h2]
  | dot h1 h2 => rw [if_pos h1, if_neg (by rw [h2]; decide)]
  | sign h1 h2 => rw [if_neg h1, if_pos h2]
  | name h1 h2 h3 => rw [if_neg h1, if_neg (by rw [h2]; decide), if_pos h3]
  | num h1 h2 h3 h4 => rw [if_neg h1, if_neg (by rw [h2]; decide), if_neg (by rw [h3]; decide), if_pos h4]
  | raw h1 h2 => subst h1; rw [if_neg (by decide), if_neg (by decide), if_neg (by decide), if_neg (by decide), if_pos rfl, if_pos h2]
  | str h1 h2 => subst h1; rw [if_neg (by decide), if_neg (by decide), if_neg (by decide), if_neg (by decide), if_pos rfl, if_neg (by rw [h2]; decide)]
  | bad h1 h2 h3 h4 h5 => rw [if_neg h1, if_neg (by rw [h2]; decide), if_neg (by rw [h3]; decide), if_neg h4, if_neg h5]

/-! ### How far -/
theorem str_bd (l : List UInt8) : (strA l 0).n ≤ l.length ∧ ((strA l 0).b = true → 0 < (strA l 0).n) ∧ (strA l 0).v.length ≤ l.length ∧ ((strA l 0).b = false → (strA l 0).v = []) := by
  unfold strA
  split
  · rename_i h
    have h1 : l ≠ [] := by intro e; rw [e] at h; simp at h
    obtain ⟨c, t, rfl⟩ := List.exists_cons_of_ne_nil h1
    have := bod_le t
    simp only [Int.toNat_zero, Nat.zero_add, List.drop_succ_cons, List.drop_zero, List.length_cons]
    exact ⟨by omega, fun _ => by omega, by omega, fun h => bod_no h⟩
  · simp
structure TkOk (l : List UInt8) (t : Tk) : Prop where
  le : t.n ≤ l.length
  ok : t.e = 0 → 0 < t.n
  err : t.e ≠ 0 → t.k = 0 ∧ t.v = []
  kind : t.e = 0 ∨ t.e = 2 ∨ t.e = 3 ∨ t.e = 4
  two : t.e = 2 → t.n = 0
theorem num0 (l : List UInt8) : 0 ≤ (Sc.numA l 0).e ∧ (Sc.numA l 0).e ≤ l.length ∧ ((Sc.numA l 0).b = true → 0 < (Sc.numA l 0).e) := by
  have h := (Sc.num_in (l := l) (i := 0) (by omega) (by omega))
  have h2 := Sc.num_lo l 0
  refine ⟨h2.1, ?_, h.2⟩
  rcases h2.2 with h3 | h3 <;> omega
theorem nm_pos {c : UInt8} (t : List UInt8) (h : Sc.bgI c.toNat = true) : 0 < Sc.nmT (c :: t) := by
  rw [Sc.nmT_cons, if_pos h, Sc.rn_yes t (by unfold Sc.nmI; rw [h]; rfl)]; omega
theorem bad_ok (l : List UInt8) : TkOk l tkBad := ⟨Nat.zero_le _, fun h => (by simp [tkBad] at h), fun _ => ⟨rfl, rfl⟩, .inr (.inl rfl), fun _ => rfl⟩
theorem tk_ok (l : List UInt8) : TkOk l (tk l) := by
  cases l with
  | nil => exact bad_ok []
  | cons c t =>
    show TkOk (c :: t) (tkC c (c :: t))
    have hw := way c (c :: t)
    revert hw
    generalize tkC c (c :: t) = r
    intro hw
    have bad := bad_ok (c :: t)
    cases hw with
    | dots h1 h2 => exact ⟨Fo.pre_len h2, fun _ => by decide, fun h => absurd rfl h, .inl rfl, fun h => (by simp at h)⟩
    | dot h1 h2 => exact bad
    | sign h1 h2 => exact ⟨by simp, fun _ => Nat.one_pos, fun h => absurd rfl h, .inl rfl, fun h => (by simp at h)⟩
    | name h1 h2 h3 => exact ⟨Sc.nmT_le (c :: t), fun _ => nm_pos t h3, fun h => absurd rfl h, .inl rfl, fun h => (by simp at h)⟩
    | num h1 h2 h3 h4 =>
      have hn := num0 (c :: t)
      unfold tkNum
      split
      · rename_i h
        exact ⟨by show (Sc.numA (c :: t) 0).e.toNat ≤ _; omega, fun _ => by show 0 < (Sc.numA (c :: t) 0).e.toNat; have := hn.2.2 h; omega, fun h => absurd rfl h, .inl rfl, fun h => (by simp at h)⟩
      · exact ⟨by show (Sc.numA (c :: t) 0).e.toNat ≤ _; omega, fun h => (by simp at h), fun _ => ⟨rfl, rfl⟩, .inr (.inr (.inl rfl)), fun h => (by simp at h)⟩
    | raw h1 h2 =>
      have hn := Fo.rawA_n (c :: t) 0
      unfold tkRaw
      split
      · rename_i h
        exact ⟨hn.1, fun _ => by have := (hn.2.1 h).2.1; show 0 < (Fo.rawA (c :: t) 0).n; omega, fun h => absurd rfl h, .inl rfl, fun h => (by simp at h)⟩
      · exact ⟨hn.1, fun h => (by simp at h), fun _ => ⟨rfl, rfl⟩, .inr (.inr (.inr rfl)), fun h => (by simp at h)⟩
    | str h1 h2 =>
      have hn := str_bd (c :: t)
      unfold tkStr
      split
      · rename_i h
        exact ⟨hn.1, fun _ => hn.2.1 h, fun h => absurd rfl h, .inl rfl, fun h => (by simp at h)⟩
      · exact ⟨hn.1, fun h => (by simp at h), fun _ => ⟨rfl, rfl⟩, .inr (.inr (.inr rfl)), fun h => (by simp at h)⟩
    | bad h1 h2 h3 h4 h5 => exact bad

/-! ### What is handed on -/
/-- A token at its place. -/
structure Yl where
  t : Tk
  o : Nat
/-- What is handed on of the rest r, which begins at place o. -/
def ylds (r : List UInt8) (o : Nat) : List Yl :=
  if h : Sc.blT r < r.length then
    ⟨tk (r.drop (Sc.blT r)), o + Sc.blT r⟩ :: (if h2 : (tk (r.drop (Sc.blT r))).e = 0 then ylds (r.drop (Sc.blT r + (tk (r.drop (Sc.blT r))).n)) (o + Sc.blT r + (tk (r.drop (Sc.blT r))).n) else [])
  else []
termination_by r.length
decreasing_by
  have := (tk_ok (r.drop (Sc.blT r))).ok h2
  simp; omega
theorem ylds_stop {r : List UInt8} (o : Nat) (h : ¬ Sc.blT r < r.length) : ylds r o = [] := by rw [ylds, dif_neg h]
theorem ylds_go {r : List UInt8} {t : Tk} (o : Nat) (h : Sc.blT r < r.length) (ht : tk (r.drop (Sc.blT r)) = t) (he : t.e = 0) :
    ylds r o = ⟨t, o + Sc.blT r⟩ :: ylds (r.drop (Sc.blT r + t.n)) (o + Sc.blT r + t.n) := by
  rw [ylds, dif_pos h]
  subst ht
  rw [dif_pos he]
theorem ylds_err {r : List UInt8} {t : Tk} (o : Nat) (h : Sc.blT r < r.length) (ht : tk (r.drop (Sc.blT r)) = t) (he : t.e ≠ 0) :
    ylds r o = [⟨t, o + Sc.blT r⟩] := by
  rw [ylds, dif_pos h]
  subst ht
  rw [dif_neg he]
/-- All are tokens. -/
def allOk (ys : List Yl) : Bool := ys.all fun y => y.t.e == 0
theorem allOk_nil : allOk [] = true := rfl
theorem allOk_cons (y : Yl) (ys : List Yl) : allOk (y :: ys) = ((y.t.e == 0) && allOk ys) := rfl
theorem allOk_append (a b : List Yl) : allOk (a ++ b) = (allOk a && allOk b) := by simp [allOk]

/-- Induction over what is handed on. -/
theorem ylds_ind {M : List UInt8 → Nat → Prop} (stop : ∀ r o, ¬ Sc.blT r < r.length → M r o)
    (err : ∀ r o, Sc.blT r < r.length → (tk (r.drop (Sc.blT r))).e ≠ 0 → M r o)
    (go : ∀ r o, Sc.blT r < r.length → (tk (r.drop (Sc.blT r))).e = 0 → M (r.drop (Sc.blT r + (tk (r.drop (Sc.blT r))).n)) (o + Sc.blT r + (tk (r.drop (Sc.blT r))).n) → M r o) (r : List UInt8) (o : Nat) : M r o := by
  induction hn : r.length using Nat.strongRecOn generalizing r o with
  | _ n ih =>
    subst hn
    by_cases h : Sc.blT r < r.length
    · by_cases he : (tk (r.drop (Sc.blT r))).e = 0
      · refine go r o h he (ih _ ?_ _ _ rfl)
        have := (tk_ok (r.drop (Sc.blT r))).ok he
        simp; omega
      · exact err r o h he
    · exact stop r o h

/-- Where the first error lies, if there is one, and which. -/
def errOf : List Yl → Int × Int
  | [] => (0, 0)
  | y :: ys => if y.t.e = 0 then errOf ys else (y.t.e, ((y.o + y.t.n : Nat) : Int))
theorem errOf_append {a : List Yl} (h : allOk a = true) (b : List Yl) : errOf (a ++ b) = errOf b := by
  induction a with
  | nil => rfl
  | cons y ys ih =>
    rw [allOk_cons, Bool.and_eq_true, beq_iff_eq] at h
    show (if y.t.e = 0 then errOf (ys ++ b) else _) = _
    rw [if_pos h.1, ih h.2]
theorem errOf_last {a : List Yl} {y : Yl} (h : allOk a = true) (he : y.t.e ≠ 0) : errOf (a ++ [y]) = (y.t.e, ((y.o + y.t.n : Nat) : Int)) := by
  rw [errOf_append h]; show (if y.t.e = 0 then _ else _) = _; rw [if_neg he]
theorem ylds_bd (r : List UInt8) (o : Nat) : (ylds r o).length ≤ r.length := by
  refine ylds_ind (M := fun r o => (ylds r o).length ≤ r.length) ?_ ?_ ?_ r o
  · intro r o h; rw [ylds_stop o h]; exact Nat.zero_le _
  · intro r o h he; rw [ylds_err o h rfl he]; simp; omega
  · intro r o h he ih
    rw [ylds_go o h rfl he, List.length_cons]
    have := (tk_ok (r.drop (Sc.blT r))).ok he
    simp at ih
    omega
/-- Each lies within the text. -/
theorem ylds_in (r : List UInt8) (o : Nat) : ∀ y ∈ ylds r o, o ≤ y.o ∧ y.o + y.t.n ≤ o + r.length ∧ TkOk (r.drop (y.o - o)) y.t ∧ y.t = tk (r.drop (y.o - o)) ∧ y.o < o + r.length := by
  refine ylds_ind (M := fun r o => ∀ y ∈ ylds r o, o ≤ y.o ∧ y.o + y.t.n ≤ o + r.length ∧ TkOk (r.drop (y.o - o)) y.t ∧ y.t = tk (r.drop (y.o - o)) ∧ y.o < o + r.length) ?_ ?_ ?_ r o
  · intro r o h y hy; rw [ylds_stop o h] at hy; cases hy
  · intro r o h he y hy
    rw [ylds_err o h rfl he, List.mem_singleton] at hy
    subst hy
    have hk := tk_ok (r.drop (Sc.blT r))
    have hl := hk.le
    rw [List.length_drop] at hl
    refine ⟨Nat.le_add_right _ _, by dsimp; omega, ?_, ?_, by dsimp; omega⟩
    · rw [Nat.add_sub_cancel_left]; exact hk
    · rw [Nat.add_sub_cancel_left]
  · intro r o h he ih y hy
    rw [ylds_go o h rfl he, List.mem_cons] at hy
    have hk := tk_ok (r.drop (Sc.blT r))
    have hl := hk.le
    rw [List.length_drop] at hl
    rcases hy with rfl | hy
    · refine ⟨Nat.le_add_right _ _, by dsimp; omega, ?_, ?_, by dsimp; omega⟩
      · rw [Nat.add_sub_cancel_left]; exact hk
      · rw [Nat.add_sub_cancel_left]
    · obtain ⟨h1, h2, h3, h4, h5⟩ := ih y hy
      rw [List.length_drop] at h2 h5
      rw [List.drop_drop, show Sc.blT r + (tk (r.drop (Sc.blT r))).n + (y.o - (o + Sc.blT r + (tk (r.drop (Sc.blT r))).n)) = y.o - o by omega] at h3 h4
      exact ⟨by omega, by omega, h3, h4, by omega⟩
end Go.Proofs.YtjfhcgolgabkkaaDoor
