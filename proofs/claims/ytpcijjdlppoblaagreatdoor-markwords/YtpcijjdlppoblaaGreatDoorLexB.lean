/- Plain mathematics of layer 9: the token that a list of bytes begins with; what is handed on, token by token. No program. -/
import Derived.Test.YtpcijjdlppoblaaGreatDoorTextC
import Derived.Test.YtpcijjdlppoblaaGreatDoorNumB
import Derived.Test.YtpcijjdlppoblaaGreatDoorFoldD
import Derived.Test.YtpcijjdlppoblaaGreatDoorScanC
import Derived.Test.YtpcijjdlppoblaaGreatDoorTextE
import Derived.Test.YtpcijjdlppoblaaGreatDoorFoldE
import Derived.Test.YtpcijjdlppoblaaGreatDoorUtfD
namespace Go.Proofs.YtpcijjdlppoblaaGreatDoor
set_option linter.unusedVariables false

/-- A token, or why there is none: its kind, its text, how many bytes it has (or how far on it goes wrong), the error. -/
structure Tk where
  k : Int
  v : List UInt8
  n : Nat
  e : Int

def sgL : List UInt8 := [33, 36, 38, 40, 41, 58, 61, 64, 91, 93, 123, 124, 125]
def d3 : List UInt8 := [46, 46, 46]
def tkBad : Tk := ⟨0, [], 0, 2⟩
def tkNum (l : List UInt8) : Tk := if (Sc.numA l 0).b = true then ⟨(Sc.numA l 0).k, l.take (Sc.numA l 0).e.toNat, (Sc.numA l 0).e.toNat, 0⟩ else ⟨0, [], (Sc.numA l 0).e.toNat, 3⟩
def tkRaw (l : List UInt8) : Tk := if (Fo.rawA l 0).b = true then ⟨5, Fo.fld (Fo.rawA l 0).v, (Fo.rawA l 0).n, 0⟩ else ⟨0, [], (Fo.rawA l 0).n, 4⟩
def tkStr (l : List UInt8) : Tk := if (strA l 0).b = true then ⟨5, (strA l 0).v, (strA l 0).n, 0⟩ else ⟨0, [], (strA l 0).n, 4⟩
def tkC (c : UInt8) (l : List UInt8) : Tk :=
  if c = 46 then (if d3.isPrefixOf l = true then ⟨1, d3, 3, 0⟩ else tkBad)
  else if sgL.contains c = true then ⟨1, [c], 1, 0⟩
  else if Sc.bgI c.toNat = true then ⟨2, l.take (Sc.nmT l), Sc.nmT l, 0⟩
  else if c = 45 ∨ Sc.dgI c.toNat = true then tkNum l
  else if c = 34 then (if Fo.q3.isPrefixOf l = true then tkRaw l else tkStr l)
  else tkBad
def tk : List UInt8 → Tk
  | [] => tkBad
  | c :: t => tkC c (c :: t)

/-- By which of the eight ways a token is told. -/
inductive Way (c : UInt8) (l : List UInt8) : Tk → Prop
  | dots : c = 46 → d3.isPrefixOf l = true → Way c l ⟨1, d3, 3, 0⟩
  | dot : c = 46 → d3.isPrefixOf l = false → Way c l tkBad
  | sign : c ≠ 46 → sgL.contains c = true → Way c l ⟨1, [c], 1, 0⟩
  | name : c ≠ 46 → sgL.contains c = false → Sc.bgI c.toNat = true → Way c l ⟨2, l.take (Sc.nmT l), Sc.nmT l, 0⟩
  | num : c ≠ 46 → sgL.contains c = false → Sc.bgI c.toNat = false → (c = 45 ∨ Sc.dgI c.toNat = true) → Way c l (tkNum l)
  | raw : c = 34 → Fo.q3.isPrefixOf l = true → Way c l (tkRaw l)
  | str : c = 34 → Fo.q3.isPrefixOf l = false → Way c l (tkStr l)
  | bad : c ≠ 46 → sgL.contains c = false → Sc.bgI c.toNat = false → ¬ (c = 45 ∨ Sc.dgI c.toNat = true) → c ≠ 34 → Way c l tkBad

theorem way (c : UInt8) (l : List UInt8) : Way c l (tkC c l) := by
  unfold tkC
  by_cases h1 : c = 46
  · rw [if_pos h1]
    cases h2 : d3.isPrefixOf l
    · rw [if_neg (by decide)]; exact .dot h1 h2
    · rw [if_pos rfl]; exact .dots h1 h2
  · rw [if_neg h1]
    cases h2 : sgL.contains c
    · rw [if_neg (by decide)]
      cases h3 : Sc.bgI c.toNat
      · rw [if_neg (by decide)]
        by_cases h4 : c = 45 ∨ Sc.dgI c.toNat = true
        · rw [if_pos h4]; exact .num h1 h2 h3 h4
        · rw [if_neg h4]
          by_cases h5 : c = 34
          · rw [if_pos h5]
            cases h6 : Fo.q3.isPrefixOf l
            · rw [if_neg (by decide)]; exact .str h5 h6
            · rw [if_pos rfl]; exact .raw h5 h6
          · rw [if_neg h5]; exact .bad h1 h2 h3 h4 h5
      · rw [if_pos rfl]; exact .name h1 h2 h3
    · rw [if_pos rfl]; exact .sign h1 h2
theorem way_eq {c : UInt8} {l : List UInt8} {t : Tk} (h : Way c l t) : tkC c l = t := by
  unfold tkC
  cases h with
  | dots h1 h2 => rw [if_pos h1, if_pos h2]
  | dot h1 h2 => rw [if_pos h1, if_neg (by rw [h2]; decide)]
  | sign h1 h2 => rw [if_neg h1, if_pos h2]
  | name h1 h2 h3 => rw [if_neg h1, if_neg (by rw [h2]; decide), if_pos h3]
  | num h1 h2 h3 h4 => rw [if_neg h1, if_neg (by rw [h2]; decide), if_neg (by rw [h3]; decide), if_pos h4]
  | raw h1 h2 => subst h1; rw [if_neg (by decide), if_neg (by decide), if_neg (by decide), if_neg (by decide), if_pos rfl, if_pos h2]
  | str h1 h2 => subst h1; rw [if_neg (by decide), if_neg (by decide), if_neg (by decide), if_neg (by decide), if_pos rfl, if_neg (by rw [h2]; decide)]
  | bad h1 h2 h3 h4 h5 => rw [if_neg h1, if_neg (by rw [h2]; decide), if_neg (by rw [h3]; decide), if_neg h4, if_neg h5]

/-! ### How far -/
theorem str_bd (l : List UInt8) : (strA l 0).n ≤ l.length ∧ ((strA l 0).b = true → 0 < (strA l 0).n) ∧ (strA l 0).v.length ≤ l.length ∧ ((strA l 0).b = false → (strA l 0).v = []) := by
  unfold strA
  split
  · rename_i h
    have h1 : l ≠ [] := by intro e; rw [e] at h; simp at h
    obtain ⟨c, t, rfl⟩ := List.exists_cons_of_ne_nil h1
    have := bod_le t
    simp only [Int.toNat_zero, Nat.zero_add, List.drop_succ_cons, List.drop_zero, List.length_cons]
    exact ⟨by omega, fun _ => by omega, by omega, fun h => bod_no h⟩
  · simp
structure TkOk (l : List UInt8) (t : Tk) : Prop where
  le : t.n ≤ l.length
  ok : t.e = 0 → 0 < t.n
  err : t.e ≠ 0 → t.k = 0 ∧ t.v = []
  kind : t.e = 0 ∨ t.e = 2 ∨ t.e = 3 ∨ t.e = 4
  two : t.e = 2 → t.n = 0
theorem num0 (l : List UInt8) : 0 ≤ (Sc.numA l 0).e ∧ (Sc.numA l 0).e ≤ l.length ∧ ((Sc.numA l 0).b = true → 0 < (Sc.numA l 0).e) := by
  have h := (Sc.num_in (l := l) (i := 0) (by omega) (by omega))
  have h2 := Sc.num_lo l 0
  refine ⟨h2.1, ?_, h.2⟩
  rcases h2.2 with h3 | h3 <;> omega
theorem nm_pos {c : UInt8} (t : List UInt8) (h : Sc.bgI c.toNat = true) : 0 < Sc.nmT (c :: t) := by
  rw [Sc.nmT_cons, if_pos h, Sc.rn_yes t (by unfold Sc.nmI; rw [h]; rfl)]; omega
theorem bad_ok (l : List UInt8) : TkOk l tkBad := ⟨Nat.zero_le _, fun h => (by simp [tkBad] at h), fun _ => ⟨rfl, rfl⟩, .inr (.inl rfl), fun _ => rfl⟩
theorem tk_ok (l : List UInt8) : TkOk l (tk l) := by
  cases l with
  | nil => exact bad_ok []
  | cons c t =>
    show TkOk (c :: t) (tkC c (c :: t))
    have hw := way c (c :: t)
    revert hw
    generalize tkC c (c :: t) = r
    intro hw
    have bad := bad_ok (c :: t)
    cases hw with
    | dots h1 h2 => exact ⟨Fo.pre_len h2, fun _ => by decide, fun h => absurd rfl h, .inl rfl, fun h => (by simp at h)⟩
    | dot h1 h2 => exact bad
    | sign h1 h2 => exact ⟨by simp, fun _ => Nat.one_pos, fun h => absurd rfl h, .inl rfl, fun h => (by simp at h)⟩
    | name h1 h2 h3 => exact ⟨Sc.nmT_le (c :: t), fun _ => nm_pos t h3, fun h => absurd rfl h, .inl rfl, fun h => (by simp at h)⟩
    | num h1 h2 h3 h4 =>
      have hn := num0 (c :: t)
      unfold tkNum
      split
      · rename_i h
        exact ⟨by show (Sc.numA (c :: t) 0).e.toNat ≤ _; omega, fun _ => by show 0 < (Sc.numA (c :: t) 0).e.toNat; have := hn.2.2 h; omega, fun h => absurd rfl h, .inl rfl, fun h => (by simp at h)⟩
      · exact ⟨by show (Sc.numA (c :: t) 0).e.toNat ≤ _; omega, fun h => (by simp at h), fun _ => ⟨rfl, rfl⟩, .inr (.inr (.inl rfl)), fun h => (by simp at h)⟩
    | raw h1 h2 =>
      have hn := Fo.rawA_n (c :: t) 0
      unfold tkRaw
      split
      · rename_i h
        exact ⟨hn.1, fun _ => by have := (hn.2.1 h).2.1; show 0 < (Fo.rawA (c :: t) 0).n; omega, fun h => absurd rfl h, .inl rfl, fun h => (by simp at h)⟩
      · exact ⟨hn.1, fun h => (by simp at h), fun _ => ⟨rfl, rfl⟩, .inr (.inr (.inr rfl)), fun h => (by simp at h)⟩
    | str h1 h2 =>
      have hn := str_bd (c :: t)
      unfold tkStr
      split
      · rename_i h
        exact ⟨hn.1, fun _ => hn.2.1 h, fun h => absurd rfl h, .inl rfl, fun h => (by simp at h)⟩
      · exact ⟨hn.1, fun h => (by simp at h), fun _ => ⟨rfl, rfl⟩, .inr (.inr (.inr rfl)), fun h => (by simp at h)⟩
    | bad h1 h2 h3 h4 h5 => exact bad

/-! ### What is handed on -/
/-- A token at its place. -/
structure Yl where
  t : Tk
  o : Nat
/-- What is handed on of the rest r, which begins at place o. -/
def ylds (r : List UInt8) (o : Nat) : List Yl :=
  if h : Sc.blT r < r.length then
    ⟨tk (r.drop (Sc.blT r)), o + Sc.blT r⟩ :: (if h2 : (tk (r.drop (Sc.blT r))).e = 0 then ylds (r.drop (Sc.blT r + (tk (r.drop (Sc.blT r))).n)) (o + Sc.blT r + (tk (r.drop (Sc.blT r))).n) else [])
  else []
termination_by r.length
decreasing_by
  have := (tk_ok (r.drop (Sc.blT r))).ok h2
  simp; omega
theorem ylds_stop {r : List UInt8} (o : Nat) (h : ¬ Sc.blT r < r.length) : ylds r o = [] := by rw [ylds, dif_neg h]
theorem ylds_go {r : List UInt8} {t : Tk} (o : Nat) (h : Sc.blT r < r.length) (ht : tk (r.drop (Sc.blT r)) = t) (he : t.e = 0) :
    ylds r o = ⟨t, o + Sc.blT r⟩ :: ylds (r.drop (Sc.blT r + t.n)) (o + Sc.blT r + t.n) := by
  rw [ylds, dif_pos h]
  subst ht
  rw [dif_pos he]
theorem ylds_err {r : List UInt8} {t : Tk} (o : Nat) (h : Sc.blT r < r.length) (ht : tk (r.drop (Sc.blT r)) = t) (he : t.e ≠ 0) :
    ylds r o = [⟨t, o + Sc.blT r⟩] := by
  rw [ylds, dif_pos h]
  subst ht
  rw [dif_neg he]
/-- All are tokens. -/
def allOk (ys : List Yl) : Bool := ys.all fun y => y.t.e == 0
theorem allOk_nil : allOk [] = true := rfl
theorem allOk_cons (y : Yl) (ys : List Yl) : allOk (y :: ys) = ((y.t.e == 0) && allOk ys) := rfl
theorem allOk_append (a b : List Yl) : allOk (a ++ b) = (allOk a && allOk b) := by simp [allOk]

/-- Induction over what is handed on. -/
theorem ylds_ind {M : List UInt8 → Nat → Prop} (stop : ∀ r o, ¬ Sc.blT r < r.length → M r o)
    (err : ∀ r o, Sc.blT r < r.length → (tk (r.drop (Sc.blT r))).e ≠ 0 → M r o)
    (go : ∀ r o, Sc.blT r < r.length → (tk (r.drop (Sc.blT r))).e = 0 → M (r.drop (Sc.blT r + (tk (r.drop (Sc.blT r))).n)) (o + Sc.blT r + (tk (r.drop (Sc.blT r))).n) → M r o) (r : List UInt8) (o : Nat) : M r o := by
  induction hn : r.length using Nat.strongRecOn generalizing r o with
  | _ n ih =>
    subst hn
    by_cases h : Sc.blT r < r.length
    · by_cases he : (tk (r.drop (Sc.blT r))).e = 0
      · refine go r o h he (ih _ ?_ _ _ rfl)
        have := (tk_ok (r.drop (Sc.blT r))).ok he
        simp; omega
      · exact err r o h he
    · exact stop r o h

/-- Where the first error lies, if there is one, and which. -/
def errOf : List Yl → Int × Int
  | [] => (0, 0)
  | y :: ys => if y.t.e = 0 then errOf ys else (y.t.e, ((y.o + y.t.n : Nat) : Int))
theorem errOf_append {a : List Yl} (h : allOk a = true) (b : List Yl) : errOf (a ++ b) = errOf b := by
  induction a with
  | nil => rfl
  | cons y ys ih =>
    rw [allOk_cons, Bool.and_eq_true, beq_iff_eq] at h
    show (if y.t.e = 0 then errOf (ys ++ b) else _) = _
    rw [if_pos h.1, ih h.2]
theorem errOf_last {a : List Yl} {y : Yl} (h : allOk a = true) (he : y.t.e ≠ 0) : errOf (a ++ [y]) = (y.t.e, ((y.o + y.t.n : Nat) : Int)) := by
  rw [errOf_append h]; show (if y.t.e = 0 then _ else _) = _; rw [if_neg he]
theorem ylds_bd (r : List UInt8) (o : Nat) : (ylds r o).length ≤ r.length := by
  refine ylds_ind (M := fun r o => (ylds r o).length ≤ r.length) ?_ ?_ ?_ r o
  · intro r o h; rw [ylds_stop o h]; exact Nat.zero_le _
  · intro r o h he; rw [ylds_err o h rfl he]; simp; omega
  · intro r o h he ih
    rw [ylds_go o h rfl he, List.length_cons]
    have := (tk_ok (r.drop (Sc.blT r))).ok he
    simp at ih
    omega
/-- Each lies within the text. -/
theorem ylds_in (r : List UInt8) (o : Nat) : ∀ y ∈ ylds r o, o ≤ y.o ∧ y.o + y.t.n ≤ o + r.length ∧ TkOk (r.drop (y.o - o)) y.t ∧ y.t = tk (r.drop (y.o - o)) ∧ y.o < o + r.length := by
  refine ylds_ind (M := fun r o => ∀ y ∈ ylds r o, o ≤ y.o ∧ y.o + y.t.n ≤ o + r.length ∧ TkOk (r.drop (y.o - o)) y.t ∧ y.t = tk (r.drop (y.o - o)) ∧ y.o < o + r.length) ?_ ?_ ?_ r o
  · intro r o h y hy; rw [ylds_stop o h] at hy; cases hy
  · intro r o h he y hy
    rw [ylds_err o h rfl he, List.mem_singleton] at hy
    subst hy
    have hk := tk_ok (r.drop (Sc.blT r))
    have hl := hk.le
    rw [List.length_drop] at hl
    refine ⟨Nat.le_add_right _ _, by dsimp; omega, ?_, ?_, by dsimp; omega⟩
    · rw [Nat.add_sub_cancel_left]; exact hk
    · rw [Nat.add_sub_cancel_left]
  · intro r o h he ih y hy
    rw [ylds_go o h rfl he, List.mem_cons] at hy
    have hk := tk_ok (r.drop (Sc.blT r))
    have hl := hk.le
    rw [List.length_drop] at hl
    rcases hy with rfl | hy
    · refine ⟨Nat.le_add_right _ _, by dsimp; omega, ?_, ?_, by dsimp; omega⟩
      · rw [Nat.add_sub_cancel_left]; exact hk
      · rw [Nat.add_sub_cancel_left]
    · obtain ⟨h1, h2, h3, h4, h5⟩ := ih y hy
      rw [List.length_drop] at h2 h5
      rw [List.drop_drop, show Sc.blT r + (tk (r.drop (Sc.blT r))).n + (y.o - (o + Sc.blT r + (tk (r.drop (Sc.blT r))).n)) = y.o - o by omega] at h3 h4
      exact ⟨by omega, by omega, h3, h4, by omega⟩
end Go.Proofs.YtpcijjdlppoblaaGreatDoor

/- The tokens of a source, one by one. -/
namespace Go.Proofs.YtpcijjdlppoblaaGreatDoor
open Go.RowKit
set_option linter.unusedVariables false

theorem thru_asc {c : UInt8} (t : List UInt8) (h : srcB c.toNat = true) (h2 : c.toNat < 128) : thru (c :: t) = 1 + thru t := by
  have e : enc c.toNat = [c] := by rw [enc1 h2]; simp
  have hi : Is (c :: t) c.toNat := ⟨h, by rw [e]; exact ⟨t, rfl⟩⟩
  have hn := nxt_is hi
  have hn2 : (nxt (c :: t)).2 = 1 := by rw [hn, e]; rfl
  rw [thru_go (by rw [hn2]; decide), hn2]; rfl
theorem ylds_step {r : List UInt8} {t : Tk} (o : Nat) (h0 : Sc.st r = 0) (hr : 0 < r.length) (ht : tk r = t) (he : t.e = 0) : ylds r o = ⟨t, o⟩ :: ylds (r.drop t.n) (o + t.n) := by
  have hb : Sc.blT r = 0 := Sc.blT_stop h0
  have := ylds_go (r := r) (t := t) o (by rw [hb]; exact hr) (by rw [hb]; exact ht) he
  rw [hb, Nat.zero_add, Nat.add_zero] at this
  exact this
end Go.Proofs.YtpcijjdlppoblaaGreatDoor

/- Contracts of package lex's functions: token, number, folded, quoted, One. -/
namespace Go.Proofs.YtpcijjdlppoblaaGreatDoor
open Go.RowKit
set_option linter.unusedVariables false

/-- What a call that hands back a token ends with. -/
def tokE (k : Int) (v : ByteArray) (a e er p : Int) : Ending := .returned (.tuple #[.agg #[.int .i64 k, .string v, .int .i64 a, .int .i64 e], .int .i64 er, .int .i64 p])

set_option maxHeartbeats 400000 in
theorem token_any (k : Int) (v : ByteArray) (i e : Int) (w : World) :
    Calls Tryz.prog 88 #[.int .i64 k, .string v, .int .i64 i, .int .i64 e] w fun r w' => r = tokE k v i e 0 e ∧ Below w.heap.size w w' := by
  go_enter Tryz.func88, Tryz.ntmps88
  go_wp2
  go_returns
  exact ⟨rfl, by go_grown⟩
theorem token_b {k : Int} {v : ByteArray} {i e : Int} {u : ByteArray} (h : v = u) (w : World) :
    Calls Tryz.prog 88 #[.int .i64 k, .string v, .int .i64 i, .int .i64 e] w fun r w' => r = .returned (.tuple #[.agg #[.int .i64 k, .string u, .int .i64 i, .int .i64 e], .int .i64 0, .int .i64 e]) ∧ Below w.heap.size w w' := by
  subst h; exact token_any k v i e w

/-- A token's box: its four cells. -/
structure B4 (w : World) (b : Nat) (v0 v1 v2 v3 : Value) : Prop where
  c0 : w.cell? ⟨b, 0, none⟩ = some v0
  c1 : w.cell? ⟨b, 1, none⟩ = some v1
  c2 : w.cell? ⟨b, 2, none⟩ = some v2
  c3 : w.cell? ⟨b, 3, none⟩ = some v3
  f0 : w.frozen? ⟨b, 0, none⟩ = false
  f1 : w.frozen? ⟨b, 1, none⟩ = false
  f2 : w.frozen? ⟨b, 2, none⟩ = false
  f3 : w.frozen? ⟨b, 3, none⟩ = false
theorem B4.new (w : World) (v0 v1 v2 v3 : Value) (t : TypeId) : B4 (w.alloc (.cells #[v0, v1, v2, v3] t)) w.heap.size v0 v1 v2 v3 := by
  constructor <;> simp [go_sem]
theorem B4.below {w w' : World} {b : Nat} {v0 v1 v2 v3 : Value} (h : B4 w b v0 v1 v2 v3) (hb : Below w.heap.size w w') : B4 w' b v0 v1 v2 v3 := by
  have hlt : b < w.heap.size := World.block_lt_of_cell? w _ h.c0
  exact ⟨(hb.cell (p := ⟨b, 0, none⟩) hlt).trans h.c0, (hb.cell (p := ⟨b, 1, none⟩) hlt).trans h.c1, (hb.cell (p := ⟨b, 2, none⟩) hlt).trans h.c2, (hb.cell (p := ⟨b, 3, none⟩) hlt).trans h.c3,
    (hb.frozen (p := ⟨b, 0, none⟩) hlt).trans h.f0, (hb.frozen (p := ⟨b, 1, none⟩) hlt).trans h.f1, (hb.frozen (p := ⟨b, 2, none⟩) hlt).trans h.f2, (hb.frozen (p := ⟨b, 3, none⟩) hlt).trans h.f3⟩
/-- The box written. -/
def set4 (w : World) (b : Nat) (v0 v1 v2 v3 : Value) : World := (((w.setCell ⟨b, 0, none⟩ v0).setCell ⟨b, 1, none⟩ v1).setCell ⟨b, 2, none⟩ v2).setCell ⟨b, 3, none⟩ v3
theorem bel_set4 {w w' : World} {b : Nat} (h : Below w.heap.size w w') (hb : w.heap.size ≤ b) (v0 v1 v2 v3 : Value) : Below w.heap.size w (set4 w' b v0 v1 v2 v3) :=
  (((h.setCell (p := ⟨b, 0, none⟩) hb v0).setCell (p := ⟨b, 1, none⟩) hb v1).setCell (p := ⟨b, 2, none⟩) hb v2).setCell (p := ⟨b, 3, none⟩) hb v3
theorem B4.set {w : World} {b : Nat} {u0 u1 u2 u3 : Value} (h : B4 w b u0 u1 u2 u3) (v0 v1 v2 v3 : Value) : B4 (set4 w b v0 v1 v2 v3) b v0 v1 v2 v3 := by
  obtain ⟨c0, c1, c2, c3, f0, f1, f2, f3⟩ := h
  unfold set4
  constructor <;> simp [World.cell?_setCell_same, go_sem, c0, c1, c2, c3, f0, f1, f2, f3]
theorem ret_box {fn : Func} {t u v : Tmp} (hr : fn.results = #[.cell t 25, .tmp u, .tmp v]) {tmps : Array Value} {W : World} {b : Nat} {v0 v1 v2 v3 : Value}
    (ht : tmps.getD t undef = .pointer (some ⟨b, 0, none⟩)) (h : B4 W b v0 v1 v2 v3) : (results fn tmps).run Tryz.prog W = .ok (.tuple #[.agg #[v0, v1, v2, v3], tmps.getD u undef, tmps.getD v undef]) W := by
  obtain ⟨c0, c1, c2, c3, f0, f1, f2, f3⟩ := h
  unfold results
  rw [hr]
  simp only [List.mapM_toArray, List.mapM_cons, List.mapM_nil, ht]
  simp [go_sem, c0, c1, c2, c3]
theorem body_box {fn : Func} {R : Ending → World → Prop} {t u v : Tmp} (hr : fn.results = #[.cell t 25, .tmp u, .tmp v]) {a : Act} {w : World} {b : Nat} {u0 u1 u2 u3 v0 v1 v2 v3 : Value}
    (h : B4 w b u0 u1 u2 u3) (ht : a.tmps.getD t undef = .pointer (some ⟨b, 0, none⟩)) (hd : a.defers = [])
    (hR : R (.returned (.tuple #[.agg #[v0, v1, v2, v3], a.tmps.getD u undef, a.tmps.getD v undef])) (set4 w b v0 v1 v2 v3)) : bodyPost Tryz.prog fn R .ret a (set4 w b v0 v1 v2 v3) :=
  bodyPost_ret (ret_box hr ht (h.set v0 v1 v2 v3)) hd hR

theorem ext_take (s : ByteArray) (k n : Nat) : s.extract k (k + n) = mkb ((s.data.toList.drop k).take n) := by
  apply ByteArray.ext
  apply Array.ext'
  simp [mkb, ByteArray.data_extract, Array.toList_extract, List.extract_eq_take_drop]

set_option maxHeartbeats 400000 in
theorem number_ok {s : ByteArray} {i : Int} {k : Nat} {m : Nat} {kd : Int} (hs : s.size ≤ 1000000) (hi : i = (k : Int)) (hn : Sc.numA s.data.toList i = ⟨kd, i + (m : Int), true⟩) (hle : k + m ≤ s.size) (w : World) :
    Calls Tryz.prog 91 #[.string s, .int .i64 i] w fun r w' => r = .returned (.tuple #[.agg #[.int .i64 kd, .string (mkb ((s.data.toList.drop k).take m)), .int .i64 i, .int .i64 (i + (m : Int))], .int .i64 0, .int .i64 (i + (m : Int))]) ∧ Below w.heap.size w w' := by
  subst hi
  have r1 := fun w => Sc.number_any s (k : Int) w (by omega) (by omega) (by omega)
  rw [hn] at r1
  unfold Sc.Nm.end at r1
  have ht := fun w => token_b (k := kd) (i := (k : Int)) (e := (k : Int) + (m : Int)) (v := s.extract k (k + m)) (ext_take s k m) w
  clear hn
  go_enter Tryz.func91, Tryz.ntmps91
  go_wp2_with fail
  (with_reducible refine (r1 _).mono ?_)
  rintro e w1 ⟨rfl, hb1⟩
  go_wp2_with fail
  (with_reducible refine (ht _).mono ?_)
  rintro e w2 ⟨rfl, hb2⟩
  have H := ((B4.new w (.int .i64 0) (.string ⟨#[]⟩) (.int .i64 0) (.int .i64 0) 25).below hb1).below hb2
  obtain ⟨c0, c1, c2, c3, f0, f1, f2, f3⟩ := H
  have hb := bel_trans (bel_trans (bel_alloc (Below.refl _ w) _) hb1) hb2
  clear hb1 hb2
  go_wp2
  refine body_box rfl ⟨c0, c1, c2, c3, f0, f1, f2, f3⟩ rfl rfl ?_
  exact ⟨rfl, bel_set4 hb (Nat.le_refl _) _ _ _ _⟩
set_option maxHeartbeats 400000 in
theorem number_no {s : ByteArray} {i p : Int} {kd : Int} (hs : s.size ≤ 1000000) (hi0 : 0 ≤ i) (hi : i ≤ s.size) (hn : Sc.numA s.data.toList i = ⟨kd, p, false⟩) (w : World) :
    Calls Tryz.prog 91 #[.string s, .int .i64 i] w fun r w' => r = .returned (.tuple #[.agg #[.int .i64 0, .string ⟨#[]⟩, .int .i64 0, .int .i64 0], .int .i64 3, .int .i64 p]) ∧ Below w.heap.size w w' := by
  have r1 := fun w => Sc.number_any s i w (by omega) (by omega) (by omega)
  rw [hn] at r1
  unfold Sc.Nm.end at r1
  clear hn
  go_enter Tryz.func91, Tryz.ntmps91
  go_wp2_with fail
  (with_reducible refine (r1 _).mono ?_)
  rintro e w1 ⟨rfl, hb1⟩
  have H := ((B4.new w (.int .i64 0) (.string ⟨#[]⟩) (.int .i64 0) (.int .i64 0) 25).below hb1)
  obtain ⟨c0, c1, c2, c3, f0, f1, f2, f3⟩ := H
  have hb := bel_trans (bel_alloc (Below.refl _ w) _) hb1
  clear hb1
  go_wp2
  refine body_box rfl ⟨c0, c1, c2, c3, f0, f1, f2, f3⟩ rfl rfl ?_
  exact ⟨rfl, bel_set4 hb (Nat.le_refl _) _ _ _ _⟩

set_option maxHeartbeats 400000 in
theorem folded_any (s : ByteArray) (i : Int) (hs : s.size ≤ 1000000) (w : World) :
    Calls Tryz.prog 111 #[.string s, .int .i64 i] w fun r w' => r = .returned (.tuple #[.string (mkb (Fo.fld (Fo.rawA s.data.toList i).v)), .int .i64 (i + ((Fo.rawA s.data.toList i).n : Int)), .bool (Fo.rawA s.data.toList i).b]) ∧ Below w.heap.size w w' := by
  have hv := (Fo.rawA_n s.data.toList i).2.2.2.2
  rw [← Lib.size_eq] at hv
  have r1 := fun w => Fo.raw_any s i w (by omega)
  unfold Fo.rawE at r1
  generalize Fo.rawA s.data.toList i = r at *
  have r2 := fun w => Fo.fold_any (mkb r.v) (by rw [mkb_size]; omega) w
  rw [mkb_data] at r2
  go_enter Tryz.func111, Tryz.ntmps111
  go_wp2_with fail
  (with_reducible refine (r1 _).mono ?_)
  rintro e w1 ⟨rfl, hb1⟩
  go_wp2_with fail
  (with_reducible refine (r2 _).mono ?_)
  rintro e w2 ⟨rfl, hb2⟩
  go_wp2
  go_ret3
  exact ⟨rfl, bel_trans hb1 hb2⟩
end Go.Proofs.YtpcijjdlppoblaaGreatDoor

/- Contracts of package lex's functions: quoted, One. -/
namespace Go.Proofs.YtpcijjdlppoblaaGreatDoor
open Go.RowKit
set_option linter.unusedVariables false

theorem hp_b {s : ByteArray} {k : Nat} {p : ByteArray} {b : Bool} (h : p.data.toList.isPrefixOf (s.data.toList.drop k) = b) (w : World) :
    Calls Tryz.prog 86 #[.string (s.extract k s.size), .string p] w fun e w' => e = .returned (.bool b) ∧ w = w' := by
  have e : Lib.hasPrefix (s.extract k s.size).data.toList p.data.toList = b := by rw [Fo.ext_drop]; exact h
  have := hp_any (s.extract k s.size) p w
  rw [e] at this
  exact this

/-- What quoted, number and One end with, of the token t at place k. -/
def oneE (t : Tk) (k : Nat) : Ending :=
  if t.e = 0 then tokE t.k (mkb t.v) k ((k : Int) + (t.n : Int)) 0 ((k : Int) + (t.n : Int)) else tokE 0 ⟨#[]⟩ 0 0 t.e ((k : Int) + (t.n : Int))
theorem oneE_ok {kd : Int} {v : List UInt8} {n k : Nat} : oneE ⟨kd, v, n, 0⟩ k = tokE kd (mkb v) k ((k : Int) + (n : Int)) 0 ((k : Int) + (n : Int)) := rfl
theorem oneE_no {t : Tk} {k : Nat} (h : t.e ≠ 0) : oneE t k = tokE 0 ⟨#[]⟩ 0 0 t.e ((k : Int) + (t.n : Int)) := by unfold oneE; rw [if_neg h]

set_option maxHeartbeats 400000 in
theorem quoted_str {s : ByteArray} {k n : Nat} {v : List UInt8} {b : Bool} (hs : s.size ≤ 1000000) (hk : k ≤ s.size) (hq : Fo.q3.isPrefixOf (s.data.toList.drop k) = false) (hv : strA s.data.toList k = ⟨v, n, b⟩) (w : World) :
    Calls Tryz.prog 92 #[.string s, .int .i64 k] w fun r w' => r = (if b = true then tokE 5 (mkb v) k ((k : Int) + (n : Int)) 0 ((k : Int) + (n : Int)) else tokE 0 ⟨#[]⟩ 0 0 4 ((k : Int) + (n : Int))) ∧ Below w.heap.size w w' := by
  have r0 := hp_b (s := s) (k := k) (p := ⟨#[34, 34, 34]⟩) hq
  have r1 := fun w => string_b (mkb_of s).symm hv (by rw [← Lib.size_eq]; omega) w
  have ht := fun w => token_b (k := 5) (i := (k : Int)) (e := (k : Int) + (n : Int)) (v := mkb v) rfl w
  clear hq hv
  cases b
  · show Calls Tryz.prog 92 #[.string s, .int .i64 k] w fun r w' => r = tokE 0 ⟨#[]⟩ 0 0 4 ((k : Int) + (n : Int)) ∧ Below w.heap.size w w'
    go_enter Tryz.func92, Tryz.ntmps92
    go_wp2_with fail
    (with_reducible refine (r0 _).mono ?_)
    rintro e w' ⟨rfl, rfl⟩
    go_wp2_with fail
    (with_reducible refine (r1 _).mono ?_)
    rintro e w1 ⟨rfl, hb1⟩
    have H := ((B4.new w (.int .i64 0) (.string ⟨#[]⟩) (.int .i64 0) (.int .i64 0) 25).below hb1)
    obtain ⟨c0, c1, c2, c3, f0, f1, f2, f3⟩ := H
    have hb := bel_trans (bel_alloc (Below.refl _ w) _) hb1
    clear hb1
    go_wp2
    refine body_box rfl ⟨c0, c1, c2, c3, f0, f1, f2, f3⟩ rfl rfl ?_
    exact ⟨rfl, bel_set4 hb (Nat.le_refl _) _ _ _ _⟩
  · show Calls Tryz.prog 92 #[.string s, .int .i64 k] w fun r w' => r = tokE 5 (mkb v) k ((k : Int) + (n : Int)) 0 ((k : Int) + (n : Int)) ∧ Below w.heap.size w w'
    go_enter Tryz.func92, Tryz.ntmps92
    go_wp2_with fail
    (with_reducible refine (r0 _).mono ?_)
    rintro e w' ⟨rfl, rfl⟩
    go_wp2_with fail
    (with_reducible refine (r1 _).mono ?_)
    rintro e w1 ⟨rfl, hb1⟩
    go_wp2_with fail
    (with_reducible refine (ht _).mono ?_)
    rintro e w2 ⟨rfl, hb2⟩
    have H := ((B4.new w (.int .i64 0) (.string ⟨#[]⟩) (.int .i64 0) (.int .i64 0) 25).below hb1).below hb2
    obtain ⟨c0, c1, c2, c3, f0, f1, f2, f3⟩ := H
    have hb := bel_trans (bel_trans (bel_alloc (Below.refl _ w) _) hb1) hb2
    clear hb1 hb2
    go_wp2
    refine body_box rfl ⟨c0, c1, c2, c3, f0, f1, f2, f3⟩ rfl rfl ?_
    exact ⟨rfl, bel_set4 hb (Nat.le_refl _) _ _ _ _⟩

set_option maxHeartbeats 400000 in
theorem quoted_raw {s : ByteArray} {k n : Nat} {v : List UInt8} {b : Bool} (hs : s.size ≤ 1000000) (hk : k ≤ s.size) (hq : Fo.q3.isPrefixOf (s.data.toList.drop k) = true) (hv : Fo.rawA s.data.toList k = ⟨v, n, b⟩) (w : World) :
    Calls Tryz.prog 92 #[.string s, .int .i64 k] w fun r w' => r = (if b = true then tokE 5 (mkb (Fo.fld v)) k ((k : Int) + (n : Int)) 0 ((k : Int) + (n : Int)) else tokE 0 ⟨#[]⟩ 0 0 4 ((k : Int) + (n : Int))) ∧ Below w.heap.size w w' := by
  have r0 := hp_b (s := s) (k := k) (p := ⟨#[34, 34, 34]⟩) hq
  have r1 := fun w => folded_any s k hs w
  rw [hv] at r1
  dsimp only at r1
  have ht := fun w => token_b (k := 5) (i := (k : Int)) (e := (k : Int) + (n : Int)) (v := mkb (Fo.fld v)) rfl w
  clear hq hv
  generalize Fo.fld v = v at *
  cases b
  · show Calls Tryz.prog 92 #[.string s, .int .i64 k] w fun r w' => r = tokE 0 ⟨#[]⟩ 0 0 4 ((k : Int) + (n : Int)) ∧ Below w.heap.size w w'
    go_enter Tryz.func92, Tryz.ntmps92
    go_wp2_with fail
    (with_reducible refine (r0 _).mono ?_)
    rintro e w' ⟨rfl, rfl⟩
    go_wp2_with fail
    (with_reducible refine (r1 _).mono ?_)
    rintro e w1 ⟨rfl, hb1⟩
    have H := ((B4.new w (.int .i64 0) (.string ⟨#[]⟩) (.int .i64 0) (.int .i64 0) 25).below hb1)
    obtain ⟨c0, c1, c2, c3, f0, f1, f2, f3⟩ := H
    have hb := bel_trans (bel_alloc (Below.refl _ w) _) hb1
    clear hb1
    go_wp2
    refine body_box rfl ⟨c0, c1, c2, c3, f0, f1, f2, f3⟩ rfl rfl ?_
    exact ⟨rfl, bel_set4 hb (Nat.le_refl _) _ _ _ _⟩
  · show Calls Tryz.prog 92 #[.string s, .int .i64 k] w fun r w' => r = tokE 5 (mkb v) k ((k : Int) + (n : Int)) 0 ((k : Int) + (n : Int)) ∧ Below w.heap.size w w'
    go_enter Tryz.func92, Tryz.ntmps92
    go_wp2_with fail
    (with_reducible refine (r0 _).mono ?_)
    rintro e w' ⟨rfl, rfl⟩
    go_wp2_with fail
    (with_reducible refine (r1 _).mono ?_)
    rintro e w1 ⟨rfl, hb1⟩
    go_wp2_with fail
    (with_reducible refine (ht _).mono ?_)
    rintro e w2 ⟨rfl, hb2⟩
    have H := ((B4.new w (.int .i64 0) (.string ⟨#[]⟩) (.int .i64 0) (.int .i64 0) 25).below hb1).below hb2
    obtain ⟨c0, c1, c2, c3, f0, f1, f2, f3⟩ := H
    have hb := bel_trans (bel_trans (bel_alloc (Below.refl _ w) _) hb1) hb2
    clear hb1 hb2
    go_wp2
    refine body_box rfl ⟨c0, c1, c2, c3, f0, f1, f2, f3⟩ rfl rfl ?_
    exact ⟨rfl, bel_set4 hb (Nat.le_refl _) _ _ _ _⟩

set_option maxHeartbeats 400000 in
theorem one_out (s : ByteArray) {i : Int} (h : i < 0 ∨ (s.size : Int) ≤ i) (w : World) :
    Calls Tryz.prog 60 #[.string s, .int .i64 i] w fun r w' => r = tokE 0 ⟨#[]⟩ 0 0 2 i ∧ Below w.heap.size w w' := by
  by_cases h0 : i < 0
  · go_enter Tryz.func60, Tryz.ntmps60
    go_wp2
    go_returns
    exact ⟨rfl, by go_grown⟩
  · have h1 : (s.size : Int) ≤ i := by omega
    clear h
    go_enter Tryz.func60, Tryz.ntmps60
    go_wp2
    go_returns
    exact ⟨rfl, by go_grown⟩

/-! ### THE WAYS -/
theorem ixb {c : UInt8} {b : Bool} (h : sgL.contains c = b) : ∃ x : Int, (∀ w, Calls Tryz.prog 87 #[.string ⟨#[33, 36, 38, 40, 41, 58, 61, 64, 91, 93, 123, 124, 125]⟩, .int .u8 c.toNat] w fun e w' => e = .returned (.int .i64 x) ∧ w = w') ∧ decide (0 ≤ x) = b := by
  refine ⟨Lib.indexByte sgL c, fun w => Sc.index_any ⟨#[33, 36, 38, 40, 41, 58, 61, 64, 91, 93, 123, 124, 125]⟩ c w, ?_⟩
  rw [← h, Bool.eq_iff_iff, decide_eq_true_iff]; exact Sc.idx_nonneg sgL c
theorem bgb {c : UInt8} {b : Bool} (h : Sc.bgI c.toNat = b) (w : World) : Calls Tryz.prog 89 #[.int .u8 c.toNat] w fun e w' => e = .returned (.bool b) ∧ w = w' := by
  rw [← h]; exact Sc.begins_any c.toNat w
theorem neB {c : UInt8} {n : Nat} (h : c ≠ UInt8.ofNat n) (hn : n < 256) : ((c.toNat : Int) == (n : Int)) = false := by
  simp only [beq_eq_false_iff_ne, ne_eq]; intro e; exact h (by rw [← show c.toNat = n by exact_mod_cast e]; simp)
set_option maxHeartbeats 400000 in
theorem one_bad {s : ByteArray} {k : Nat} {c : UInt8} (hs : s.size ≤ 1000000) (hk : k < s.size) (hc : s[k] = c) (h46 : c ≠ 46) (hsg : sgL.contains c = false) (hbg : Sc.bgI c.toNat = false) (hnum : ¬ (c = 45 ∨ Sc.dgI c.toNat = true)) (h34 : c ≠ 34) (w : World) :
    Calls Tryz.prog 60 #[.string s, .int .i64 k] w fun r w' => r = tokE 0 ⟨#[]⟩ 0 0 2 k ∧ Below w.heap.size w w' := by
  have e46 := neB (n := 46) h46 (by decide)
  have e34 := neB (n := 34) h34 (by decide)
  have e45 := neB (n := 45) (fun h => hnum (.inl h)) (by decide)
  obtain ⟨x, r0, hx⟩ := ixb hsg; have ix : ¬ 0 ≤ x := of_decide_eq_false hx
  have r1 := fun w => bgb hbg w
  have ed : ¬ (48 ≤ (c.toNat : Int) ∧ (c.toNat : Int) ≤ 57) := fun h => hnum (.inr ((Sc.dg_iff _).2 h))
  clear h46 h34 hnum hsg hbg hx
  by_cases e48 : 48 ≤ (c.toNat : Int)
  · have e57 : ¬ (c.toNat : Int) ≤ 57 := fun h => ed ⟨e48, h⟩
    clear ed
    go_enter Tryz.func60, Tryz.ntmps60
    go_wp2_with fail
    (with_reducible refine (r0 _).mono ?_)
    rintro e w' ⟨rfl, rfl⟩
    go_wp2_with fail
    (with_reducible refine (r1 _).mono ?_)
    rintro e w' ⟨rfl, rfl⟩
    go_wp2
    go_returns
    exact ⟨rfl, by go_grown⟩
  · clear ed
    go_enter Tryz.func60, Tryz.ntmps60
    go_wp2_with fail
    (with_reducible refine (r0 _).mono ?_)
    rintro e w' ⟨rfl, rfl⟩
    go_wp2_with fail
    (with_reducible refine (r1 _).mono ?_)
    rintro e w' ⟨rfl, rfl⟩
    go_wp2
    go_returns
    exact ⟨rfl, by go_grown⟩
set_option maxHeartbeats 400000 in
theorem one_dot {s : ByteArray} {k : Nat} {c : UInt8} (hs : s.size ≤ 1000000) (hk : k < s.size) (hc : s[k] = c) (h46 : c = 46) (hp : d3.isPrefixOf (s.data.toList.drop k) = false) (w : World) :
    Calls Tryz.prog 60 #[.string s, .int .i64 k] w fun r w' => r = tokE 0 ⟨#[]⟩ 0 0 2 k ∧ Below w.heap.size w w' := by
  subst h46
  have r0 := hp_b (s := s) (k := k) (p := ⟨#[46, 46, 46]⟩) hp
  clear hp
  go_enter Tryz.func60, Tryz.ntmps60
  go_wp2_with fail
  (with_reducible refine (r0 _).mono ?_)
  rintro e w' ⟨rfl, rfl⟩
  go_wp2
  go_returns
  exact ⟨rfl, by go_grown⟩
set_option maxHeartbeats 400000 in
theorem one_dots {s : ByteArray} {k : Nat} {c : UInt8} (hs : s.size ≤ 1000000) (hk : k < s.size) (hc : s[k] = c) (h46 : c = 46) (hp : d3.isPrefixOf (s.data.toList.drop k) = true) (w : World) :
    Calls Tryz.prog 60 #[.string s, .int .i64 k] w fun r w' => r = tokE 1 (mkb ((s.data.toList.drop k).take 3)) k ((k : Int) + (3 : Int)) 0 ((k : Int) + (3 : Int)) ∧ Below w.heap.size w w' := by
  subst h46
  have hl := Fo.pre_len hp
  rw [List.length_drop, ← Lib.size_eq] at hl
  change 3 ≤ s.size - k at hl
  have hl3 : k + 3 ≤ s.size := by omega
  have r0 := hp_b (s := s) (k := k) (p := ⟨#[46, 46, 46]⟩) hp
  have ht := fun w => token_b (k := 1) (i := (k : Int)) (e := (k : Int) + 3) (v := s.extract k (k + 3)) (ext_take s k 3) w
  clear hp hl
  go_enter Tryz.func60, Tryz.ntmps60
  go_wp2_with fail
  (with_reducible refine (r0 _).mono ?_)
  rintro e w' ⟨rfl, rfl⟩
  go_wp2_with fail
  (with_reducible refine (ht _).mono ?_)
  rintro e w1 ⟨rfl, hb1⟩
  obtain ⟨c0, c1, c2, c3, f0, f1, f2, f3⟩ := ((B4.new w (.int .i64 0) (.string ⟨#[]⟩) (.int .i64 0) (.int .i64 0) 25).below hb1)
  have hb := (bel_trans (bel_alloc (Below.refl _ w) _) hb1)
  clear hb1
  go_wp2
  refine body_box rfl ⟨c0, c1, c2, c3, f0, f1, f2, f3⟩ rfl rfl ?_
  exact ⟨rfl, bel_set4 hb (Nat.le_refl _) _ _ _ _⟩
set_option maxHeartbeats 400000 in
theorem one_sign {s : ByteArray} {k : Nat} {c : UInt8} (hs : s.size ≤ 1000000) (hk : k < s.size) (hc : s[k] = c) (h46 : c ≠ 46) (hsg : sgL.contains c = true) (w : World) :
    Calls Tryz.prog 60 #[.string s, .int .i64 k] w fun r w' => r = tokE 1 (mkb ((s.data.toList.drop k).take 1)) k ((k : Int) + (1 : Int)) 0 ((k : Int) + (1 : Int)) ∧ Below w.heap.size w w' := by
  have e46 := neB (n := 46) h46 (by decide)
  obtain ⟨x, r0, hx⟩ := ixb hsg; have ix : 0 ≤ x := of_decide_eq_true hx
  have ht := fun w => token_b (k := 1) (i := (k : Int)) (e := (k : Int) + 1) (v := s.extract k (k + 1)) (ext_take s k 1) w
  clear h46 hsg hx
  go_enter Tryz.func60, Tryz.ntmps60
  go_wp2_with fail
  (with_reducible refine (r0 _).mono ?_)
  rintro e w' ⟨rfl, rfl⟩
  go_wp2_with fail
  (with_reducible refine (ht _).mono ?_)
  rintro e w1 ⟨rfl, hb1⟩
  obtain ⟨c0, c1, c2, c3, f0, f1, f2, f3⟩ := ((B4.new w (.int .i64 0) (.string ⟨#[]⟩) (.int .i64 0) (.int .i64 0) 25).below hb1)
  have hb := (bel_trans (bel_alloc (Below.refl _ w) _) hb1)
  clear hb1
  go_wp2
  refine body_box rfl ⟨c0, c1, c2, c3, f0, f1, f2, f3⟩ rfl rfl ?_
  exact ⟨rfl, bel_set4 hb (Nat.le_refl _) _ _ _ _⟩
set_option maxHeartbeats 400000 in
theorem one_name {s : ByteArray} {k : Nat} {c : UInt8} (hs : s.size ≤ 1000000) (hk : k < s.size) (hc : s[k] = c) (h46 : c ≠ 46) (hsg : sgL.contains c = false) (hbg : Sc.bgI c.toNat = true) {n : Nat} (hn : Sc.nmT (s.data.toList.drop k) = n) (w : World) :
    Calls Tryz.prog 60 #[.string s, .int .i64 k] w fun r w' => r = tokE 2 (mkb ((s.data.toList.drop k).take n)) k ((k : Int) + (n : Int)) 0 ((k : Int) + (n : Int)) ∧ Below w.heap.size w w' := by
  have e46 := neB (n := 46) h46 (by decide)
  obtain ⟨x, r0, hx⟩ := ixb hsg; have ix : ¬ 0 ≤ x := of_decide_eq_false hx
  have r1 := fun w => bgb hbg w
  have hle := Sc.nmT_le (s.data.toList.drop k)
  rw [List.length_drop, ← Lib.size_eq, hn] at hle
  have hl2 : k + n ≤ s.size := by omega
  have r2 := fun w => Sc.name_any s k w (by omega)
  rw [Sc.atE_in (by rw [← Lib.size_eq]; omega), hn] at r2
  have ht := fun w => token_b (k := 2) (i := (k : Int)) (e := (k : Int) + (n : Int)) (v := s.extract k (k + n)) (ext_take s k n) w
  clear h46 hsg hx hbg hn hle
  go_enter Tryz.func60, Tryz.ntmps60
  go_wp2_with fail
  (with_reducible refine (r0 _).mono ?_)
  rintro e w' ⟨rfl, rfl⟩
  go_wp2_with fail
  (with_reducible refine (r1 _).mono ?_)
  rintro e w' ⟨rfl, rfl⟩
  go_wp2_with fail
  (with_reducible refine (r2 _).mono ?_)
  rintro e w1 ⟨rfl, hb1⟩
  go_wp2_with fail
  (with_reducible refine (ht _).mono ?_)
  rintro e w2 ⟨rfl, hb2⟩
  obtain ⟨c0, c1, c2, c3, f0, f1, f2, f3⟩ := (((B4.new w (.int .i64 0) (.string ⟨#[]⟩) (.int .i64 0) (.int .i64 0) 25).below hb1).below hb2)
  have hb := (bel_trans (bel_trans (bel_alloc (Below.refl _ w) _) hb1) hb2)
  clear hb1 hb2
  go_wp2
  refine body_box rfl ⟨c0, c1, c2, c3, f0, f1, f2, f3⟩ rfl rfl ?_
  exact ⟨rfl, bel_set4 hb (Nat.le_refl _) _ _ _ _⟩
set_option maxHeartbeats 400000 in
theorem one_num_ok {s : ByteArray} {k : Nat} {c : UInt8} (hs : s.size ≤ 1000000) (hk : k < s.size) (hc : s[k] = c) (h46 : c ≠ 46) (hsg : sgL.contains c = false) (hbg : Sc.bgI c.toNat = false) (hnum : c = 45 ∨ Sc.dgI c.toNat = true) {m : Nat} {kd : Int} (hn : Sc.numA s.data.toList k = ⟨kd, (k : Int) + (m : Int), true⟩) (hle : k + m ≤ s.size) (w : World) :
    Calls Tryz.prog 60 #[.string s, .int .i64 k] w fun r w' => r = tokE kd (mkb ((s.data.toList.drop k).take m)) k ((k : Int) + (m : Int)) 0 ((k : Int) + (m : Int)) ∧ Below w.heap.size w w' := by
  have e46 := neB (n := 46) h46 (by decide)
  obtain ⟨x, r0, hx⟩ := ixb hsg; have ix : ¬ 0 ≤ x := of_decide_eq_false hx
  have r1 := fun w => bgb hbg w
  have r2 := fun w => number_ok hs rfl hn hle w
  clear h46 hsg hbg hx hn
  by_cases h45 : c = 45
  · subst h45
    have q0 : ∀ w, Calls Tryz.prog 87 #[.string ⟨#[33, 36, 38, 40, 41, 58, 61, 64, 91, 93, 123, 124, 125]⟩, .int .u8 45] w fun e w' => e = .returned (.int .i64 x) ∧ w = w' := r0
    have q1 : ∀ w, Calls Tryz.prog 89 #[.int .u8 45] w fun e w' => e = .returned (.bool false) ∧ w = w' := r1
    go_enter Tryz.func60, Tryz.ntmps60
    go_wp2_with fail
    (with_reducible refine (q0 _).mono ?_)
    rintro e w' ⟨rfl, rfl⟩
    go_wp2_with fail
    (with_reducible refine (q1 _).mono ?_)
    rintro e w' ⟨rfl, rfl⟩
    go_wp2_with fail
    (with_reducible refine (r2 _).mono ?_)
    rintro e w1 ⟨rfl, hb1⟩
    obtain ⟨c0, c1, c2, c3, f0, f1, f2, f3⟩ := ((B4.new w (.int .i64 0) (.string ⟨#[]⟩) (.int .i64 0) (.int .i64 0) 25).below hb1)
    have hb := (bel_trans (bel_alloc (Below.refl _ w) _) hb1)
    clear hb1
    go_wp2
    refine body_box rfl ⟨c0, c1, c2, c3, f0, f1, f2, f3⟩ rfl rfl ?_
    exact ⟨rfl, bel_set4 hb (Nat.le_refl _) _ _ _ _⟩
  · have hd := (Sc.dg_iff _).1 (hnum.resolve_left h45)
    have e45 := neB (n := 45) h45 (by decide)
    obtain ⟨e48, e57⟩ := hd
    clear hnum h45
    go_enter Tryz.func60, Tryz.ntmps60
    go_wp2_with fail
    (with_reducible refine (r0 _).mono ?_)
    rintro e w' ⟨rfl, rfl⟩
    go_wp2_with fail
    (with_reducible refine (r1 _).mono ?_)
    rintro e w' ⟨rfl, rfl⟩
    go_wp2_with fail
    (with_reducible refine (r2 _).mono ?_)
    rintro e w1 ⟨rfl, hb1⟩
    obtain ⟨c0, c1, c2, c3, f0, f1, f2, f3⟩ := ((B4.new w (.int .i64 0) (.string ⟨#[]⟩) (.int .i64 0) (.int .i64 0) 25).below hb1)
    have hb := (bel_trans (bel_alloc (Below.refl _ w) _) hb1)
    clear hb1
    go_wp2
    refine body_box rfl ⟨c0, c1, c2, c3, f0, f1, f2, f3⟩ rfl rfl ?_
    exact ⟨rfl, bel_set4 hb (Nat.le_refl _) _ _ _ _⟩
set_option maxHeartbeats 400000 in
theorem one_num_no {s : ByteArray} {k : Nat} {c : UInt8} (hs : s.size ≤ 1000000) (hk : k < s.size) (hc : s[k] = c) (h46 : c ≠ 46) (hsg : sgL.contains c = false) (hbg : Sc.bgI c.toNat = false) (hnum : c = 45 ∨ Sc.dgI c.toNat = true) {m : Nat} {kd : Int} (hn : Sc.numA s.data.toList k = ⟨kd, (k : Int) + (m : Int), false⟩) (w : World) :
    Calls Tryz.prog 60 #[.string s, .int .i64 k] w fun r w' => r = tokE 0 ⟨#[]⟩ 0 0 3 ((k : Int) + (m : Int)) ∧ Below w.heap.size w w' := by
  have e46 := neB (n := 46) h46 (by decide)
  obtain ⟨x, r0, hx⟩ := ixb hsg; have ix : ¬ 0 ≤ x := of_decide_eq_false hx
  have r1 := fun w => bgb hbg w
  have r2 := fun w => number_no hs (by omega) (by omega) hn w
  clear h46 hsg hbg hx hn
  by_cases h45 : c = 45
  · subst h45
    have q0 : ∀ w, Calls Tryz.prog 87 #[.string ⟨#[33, 36, 38, 40, 41, 58, 61, 64, 91, 93, 123, 124, 125]⟩, .int .u8 45] w fun e w' => e = .returned (.int .i64 x) ∧ w = w' := r0
    have q1 : ∀ w, Calls Tryz.prog 89 #[.int .u8 45] w fun e w' => e = .returned (.bool false) ∧ w = w' := r1
    go_enter Tryz.func60, Tryz.ntmps60
    go_wp2_with fail
    (with_reducible refine (q0 _).mono ?_)
    rintro e w' ⟨rfl, rfl⟩
    go_wp2_with fail
    (with_reducible refine (q1 _).mono ?_)
    rintro e w' ⟨rfl, rfl⟩
    go_wp2_with fail
    (with_reducible refine (r2 _).mono ?_)
    rintro e w1 ⟨rfl, hb1⟩
    obtain ⟨c0, c1, c2, c3, f0, f1, f2, f3⟩ := ((B4.new w (.int .i64 0) (.string ⟨#[]⟩) (.int .i64 0) (.int .i64 0) 25).below hb1)
    have hb := (bel_trans (bel_alloc (Below.refl _ w) _) hb1)
    clear hb1
    go_wp2
    refine body_box rfl ⟨c0, c1, c2, c3, f0, f1, f2, f3⟩ rfl rfl ?_
    exact ⟨rfl, bel_set4 hb (Nat.le_refl _) _ _ _ _⟩
  · have hd := (Sc.dg_iff _).1 (hnum.resolve_left h45)
    have e45 := neB (n := 45) h45 (by decide)
    obtain ⟨e48, e57⟩ := hd
    clear hnum h45
    go_enter Tryz.func60, Tryz.ntmps60
    go_wp2_with fail
    (with_reducible refine (r0 _).mono ?_)
    rintro e w' ⟨rfl, rfl⟩
    go_wp2_with fail
    (with_reducible refine (r1 _).mono ?_)
    rintro e w' ⟨rfl, rfl⟩
    go_wp2_with fail
    (with_reducible refine (r2 _).mono ?_)
    rintro e w1 ⟨rfl, hb1⟩
    obtain ⟨c0, c1, c2, c3, f0, f1, f2, f3⟩ := ((B4.new w (.int .i64 0) (.string ⟨#[]⟩) (.int .i64 0) (.int .i64 0) 25).below hb1)
    have hb := (bel_trans (bel_alloc (Below.refl _ w) _) hb1)
    clear hb1
    go_wp2
    refine body_box rfl ⟨c0, c1, c2, c3, f0, f1, f2, f3⟩ rfl rfl ?_
    exact ⟨rfl, bel_set4 hb (Nat.le_refl _) _ _ _ _⟩
set_option maxHeartbeats 400000 in
theorem one_str_ok {s : ByteArray} {k : Nat} {c : UInt8} (hs : s.size ≤ 1000000) (hk : k < s.size) (hc : s[k] = c) (h34 : c = 34) {n : Nat} {v : List UInt8} (hq : Fo.q3.isPrefixOf (s.data.toList.drop k) = false) (hv : strA s.data.toList k = ⟨v, n, true⟩) (w : World) :
    Calls Tryz.prog 60 #[.string s, .int .i64 k] w fun r w' => r = tokE 5 (mkb v) k ((k : Int) + (n : Int)) 0 ((k : Int) + (n : Int)) ∧ Below w.heap.size w w' := by
  subst h34
  have r2 : ∀ w, Calls Tryz.prog 92 #[.string s, .int .i64 k] w fun r w' => r = tokE 5 (mkb v) k ((k : Int) + (n : Int)) 0 ((k : Int) + (n : Int)) ∧ Below w.heap.size w w' := fun w => quoted_str hs (by omega) hq hv w
  unfold tokE at r2
  obtain ⟨x, r0, hx⟩ := ixb (c := 34) (b := false) (by decide); have ix : ¬ 0 ≤ x := of_decide_eq_false hx
  have r1 := fun w => bgb (c := 34) (b := false) (by decide) w
  have q0 : ∀ w, Calls Tryz.prog 87 #[.string ⟨#[33, 36, 38, 40, 41, 58, 61, 64, 91, 93, 123, 124, 125]⟩, .int .u8 34] w fun e w' => e = .returned (.int .i64 x) ∧ w = w' := r0
  have q1 : ∀ w, Calls Tryz.prog 89 #[.int .u8 34] w fun e w' => e = .returned (.bool false) ∧ w = w' := r1
  clear hx hq hv
  go_enter Tryz.func60, Tryz.ntmps60
  go_wp2_with fail
  (with_reducible refine (q0 _).mono ?_)
  rintro e w' ⟨rfl, rfl⟩
  go_wp2_with fail
  (with_reducible refine (q1 _).mono ?_)
  rintro e w' ⟨rfl, rfl⟩
  go_wp2_with fail
  (with_reducible refine (r2 _).mono ?_)
  rintro e w1 ⟨rfl, hb1⟩
  obtain ⟨c0, c1, c2, c3, f0, f1, f2, f3⟩ := ((B4.new w (.int .i64 0) (.string ⟨#[]⟩) (.int .i64 0) (.int .i64 0) 25).below hb1)
  have hb := (bel_trans (bel_alloc (Below.refl _ w) _) hb1)
  clear hb1
  go_wp2
  refine body_box rfl ⟨c0, c1, c2, c3, f0, f1, f2, f3⟩ rfl rfl ?_
  exact ⟨rfl, bel_set4 hb (Nat.le_refl _) _ _ _ _⟩
set_option maxHeartbeats 400000 in
theorem one_str_no {s : ByteArray} {k : Nat} {c : UInt8} (hs : s.size ≤ 1000000) (hk : k < s.size) (hc : s[k] = c) (h34 : c = 34) {n : Nat} {v : List UInt8} (hq : Fo.q3.isPrefixOf (s.data.toList.drop k) = false) (hv : strA s.data.toList k = ⟨v, n, false⟩) (w : World) :
    Calls Tryz.prog 60 #[.string s, .int .i64 k] w fun r w' => r = tokE 0 ⟨#[]⟩ 0 0 4 ((k : Int) + (n : Int)) ∧ Below w.heap.size w w' := by
  subst h34
  have r2 : ∀ w, Calls Tryz.prog 92 #[.string s, .int .i64 k] w fun r w' => r = tokE 0 ⟨#[]⟩ 0 0 4 ((k : Int) + (n : Int)) ∧ Below w.heap.size w w' := fun w => quoted_str hs (by omega) hq hv w
  unfold tokE at r2
  obtain ⟨x, r0, hx⟩ := ixb (c := 34) (b := false) (by decide); have ix : ¬ 0 ≤ x := of_decide_eq_false hx
  have r1 := fun w => bgb (c := 34) (b := false) (by decide) w
  have q0 : ∀ w, Calls Tryz.prog 87 #[.string ⟨#[33, 36, 38, 40, 41, 58, 61, 64, 91, 93, 123, 124, 125]⟩, .int .u8 34] w fun e w' => e = .returned (.int .i64 x) ∧ w = w' := r0
  have q1 : ∀ w, Calls Tryz.prog 89 #[.int .u8 34] w fun e w' => e = .returned (.bool false) ∧ w = w' := r1
  clear hx hq hv
  go_enter Tryz.func60, Tryz.ntmps60
  go_wp2_with fail
  (with_reducible refine (q0 _).mono ?_)
  rintro e w' ⟨rfl, rfl⟩
  go_wp2_with fail
  (with_reducible refine (q1 _).mono ?_)
  rintro e w' ⟨rfl, rfl⟩
  go_wp2_with fail
  (with_reducible refine (r2 _).mono ?_)
  rintro e w1 ⟨rfl, hb1⟩
  obtain ⟨c0, c1, c2, c3, f0, f1, f2, f3⟩ := ((B4.new w (.int .i64 0) (.string ⟨#[]⟩) (.int .i64 0) (.int .i64 0) 25).below hb1)
  have hb := (bel_trans (bel_alloc (Below.refl _ w) _) hb1)
  clear hb1
  go_wp2
  refine body_box rfl ⟨c0, c1, c2, c3, f0, f1, f2, f3⟩ rfl rfl ?_
  exact ⟨rfl, bel_set4 hb (Nat.le_refl _) _ _ _ _⟩
set_option maxHeartbeats 400000 in
theorem one_raw_ok {s : ByteArray} {k : Nat} {c : UInt8} (hs : s.size ≤ 1000000) (hk : k < s.size) (hc : s[k] = c) (h34 : c = 34) {n : Nat} {v : List UInt8} (hq : Fo.q3.isPrefixOf (s.data.toList.drop k) = true) (hv : Fo.rawA s.data.toList k = ⟨v, n, true⟩) (w : World) :
    Calls Tryz.prog 60 #[.string s, .int .i64 k] w fun r w' => r = tokE 5 (mkb (Fo.fld v)) k ((k : Int) + (n : Int)) 0 ((k : Int) + (n : Int)) ∧ Below w.heap.size w w' := by
  subst h34
  have r2 : ∀ w, Calls Tryz.prog 92 #[.string s, .int .i64 k] w fun r w' => r = tokE 5 (mkb (Fo.fld v)) k ((k : Int) + (n : Int)) 0 ((k : Int) + (n : Int)) ∧ Below w.heap.size w w' := fun w => quoted_raw hs (by omega) hq hv w
  unfold tokE at r2
  obtain ⟨x, r0, hx⟩ := ixb (c := 34) (b := false) (by decide); have ix : ¬ 0 ≤ x := of_decide_eq_false hx
  have r1 := fun w => bgb (c := 34) (b := false) (by decide) w
  have q0 : ∀ w, Calls Tryz.prog 87 #[.string ⟨#[33, 36, 38, 40, 41, 58, 61, 64, 91, 93, 123, 124, 125]⟩, .int .u8 34] w fun e w' => e = .returned (.int .i64 x) ∧ w = w' := r0
  have q1 : ∀ w, Calls Tryz.prog 89 #[.int .u8 34] w fun e w' => e = .returned (.bool false) ∧ w = w' := r1
  clear hx hq hv
  generalize Fo.fld v = v at *
  go_enter Tryz.func60, Tryz.ntmps60
  go_wp2_with fail
  (with_reducible refine (q0 _).mono ?_)
  rintro e w' ⟨rfl, rfl⟩
  go_wp2_with fail
  (with_reducible refine (q1 _).mono ?_)
  rintro e w' ⟨rfl, rfl⟩
  go_wp2_with fail
  (with_reducible refine (r2 _).mono ?_)
  rintro e w1 ⟨rfl, hb1⟩
  obtain ⟨c0, c1, c2, c3, f0, f1, f2, f3⟩ := ((B4.new w (.int .i64 0) (.string ⟨#[]⟩) (.int .i64 0) (.int .i64 0) 25).below hb1)
  have hb := (bel_trans (bel_alloc (Below.refl _ w) _) hb1)
  clear hb1
  go_wp2
  refine body_box rfl ⟨c0, c1, c2, c3, f0, f1, f2, f3⟩ rfl rfl ?_
  exact ⟨rfl, bel_set4 hb (Nat.le_refl _) _ _ _ _⟩
set_option maxHeartbeats 400000 in
theorem one_raw_no {s : ByteArray} {k : Nat} {c : UInt8} (hs : s.size ≤ 1000000) (hk : k < s.size) (hc : s[k] = c) (h34 : c = 34) {n : Nat} {v : List UInt8} (hq : Fo.q3.isPrefixOf (s.data.toList.drop k) = true) (hv : Fo.rawA s.data.toList k = ⟨v, n, false⟩) (w : World) :
    Calls Tryz.prog 60 #[.string s, .int .i64 k] w fun r w' => r = tokE 0 ⟨#[]⟩ 0 0 4 ((k : Int) + (n : Int)) ∧ Below w.heap.size w w' := by
  subst h34
  have r2 : ∀ w, Calls Tryz.prog 92 #[.string s, .int .i64 k] w fun r w' => r = tokE 0 ⟨#[]⟩ 0 0 4 ((k : Int) + (n : Int)) ∧ Below w.heap.size w w' := fun w => quoted_raw hs (by omega) hq hv w
  unfold tokE at r2
  obtain ⟨x, r0, hx⟩ := ixb (c := 34) (b := false) (by decide); have ix : ¬ 0 ≤ x := of_decide_eq_false hx
  have r1 := fun w => bgb (c := 34) (b := false) (by decide) w
  have q0 : ∀ w, Calls Tryz.prog 87 #[.string ⟨#[33, 36, 38, 40, 41, 58, 61, 64, 91, 93, 123, 124, 125]⟩, .int .u8 34] w fun e w' => e = .returned (.int .i64 x) ∧ w = w' := r0
  have q1 : ∀ w, Calls Tryz.prog 89 #[.int .u8 34] w fun e w' => e = .returned (.bool false) ∧ w = w' := r1
  clear hx hq hv
  generalize Fo.fld v = v at *
  go_enter Tryz.func60, Tryz.ntmps60
  go_wp2_with fail
  (with_reducible refine (q0 _).mono ?_)
  rintro e w' ⟨rfl, rfl⟩
  go_wp2_with fail
  (with_reducible refine (q1 _).mono ?_)
  rintro e w' ⟨rfl, rfl⟩
  go_wp2_with fail
  (with_reducible refine (r2 _).mono ?_)
  rintro e w1 ⟨rfl, hb1⟩
  obtain ⟨c0, c1, c2, c3, f0, f1, f2, f3⟩ := ((B4.new w (.int .i64 0) (.string ⟨#[]⟩) (.int .i64 0) (.int .i64 0) 25).below hb1)
  have hb := (bel_trans (bel_alloc (Below.refl _ w) _) hb1)
  clear hb1
  go_wp2
  refine body_box rfl ⟨c0, c1, c2, c3, f0, f1, f2, f3⟩ rfl rfl ?_
  exact ⟨rfl, bel_set4 hb (Nat.le_refl _) _ _ _ _⟩
end Go.Proofs.YtpcijjdlppoblaaGreatDoor
