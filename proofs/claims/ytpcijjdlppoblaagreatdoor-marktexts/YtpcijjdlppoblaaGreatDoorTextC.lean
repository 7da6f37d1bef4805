/- Plain mathematics of layer 6: codes, escapes, strings. No program. -/
import Derived.Test.YtpcijjdlppoblaaGreatDoorUtfD
import Derived.IntWalk
import Derived.WalkMore
import Derived.Test.YtpcijjdlppoblaaGreatDoorTokR
import Derived.Test.YtpcijjdlppoblaaGreatDoorUtfH
import Derived.Lib.AppendStr
import Derived.OneCell
import Derived.OwnWalk
import Derived.Deep.LoopGhost
import Derived.Laws.Rows
namespace Go.Proofs.YtpcijjdlppoblaaGreatDoor
set_option linter.unusedVariables false

/-- What a character of a code is worth. -/
def hxd (c : UInt8) : Option Nat :=
  if 48 ≤ c.toNat ∧ c.toNat ≤ 57 then some (c.toNat - 48)
  else if 97 ≤ c.toNat ∧ c.toNat ≤ 102 then some (c.toNat - 87)
  else if 65 ≤ c.toNat ∧ c.toNat ≤ 70 then some (c.toNat - 55)
  else none
theorem hxd_lt {c : UInt8} {n : Nat} (h : hxd c = some n) : n < 16 := by
  unfold hxd at h
  split at h
  · cases h; omega
  · split at h
    · cases h; omega
    · split at h
      · cases h; omega
      · cases h

/-- The code that l begins with. -/
def hx4 : List UInt8 → Option Nat
  | a :: b :: c :: d :: _ => (hxd a).bind fun x => (hxd b).bind fun y => (hxd c).bind fun z => (hxd d).bind fun u => some (((x * 16 + y) * 16 + z) * 16 + u)
  | _ => none
theorem hx4_some {l : List UInt8} {n : Nat} (h : hx4 l = some n) : ∃ a b c d t x y z u, l = a :: b :: c :: d :: t ∧ hxd a = some x ∧ hxd b = some y ∧ hxd c = some z ∧ hxd d = some u ∧ n = ((x * 16 + y) * 16 + z) * 16 + u := by
  match l, h with
  | a :: b :: c :: d :: t, h =>
    simp only [hx4, Option.bind_eq_some_iff] at h
    obtain ⟨x, hx, y, hy, z, hz, u, hu, h⟩ := h
    exact ⟨a, b, c, d, t, x, y, z, u, rfl, hx, hy, hz, hu, (Option.some.inj h).symm⟩
theorem hx4_of {a b c d : UInt8} {x y z u : Nat} (ha : hxd a = some x) (hb : hxd b = some y) (hc : hxd c = some z) (hd : hxd d = some u) (t : List UInt8) :
    hx4 (a :: b :: c :: d :: t) = some (((x * 16 + y) * 16 + z) * 16 + u) := by simp [hx4, ha, hb, hc, hd]
theorem hx4_lt {l : List UInt8} {n : Nat} (h : hx4 l = some n) : n < 65536 := by
  obtain ⟨a, b, c, d, t, x, y, z, u, -, hx, hy, hz, hu, rfl⟩ := hx4_some h
  have := hxd_lt hx; have := hxd_lt hy; have := hxd_lt hz; have := hxd_lt hu
  omega
theorem hx4_len {l : List UInt8} {n : Nat} (h : hx4 l = some n) : 4 ≤ l.length := by
  obtain ⟨a, b, c, d, t, x, y, z, u, rfl, -⟩ := hx4_some h
  simp
theorem hx4_stay {l : List UInt8} {n : Nat} (h : hx4 l = some n) (t : List UInt8) : hx4 (l.take 4 ++ t) = some n := by
  obtain ⟨a, b, c, d, t, x, y, z, u, rfl, hx, hy, hz, hu, rfl⟩ := hx4_some h
  exact hx4_of hx hy hz hu _
theorem hx4_short {l : List UInt8} (h : l.length < 4) : hx4 l = none := by
  cases e : hx4 l
  · rfl
  · have := hx4_len e; omega

/-- What one of the eight letters tells. -/
def shB (c : UInt8) : Option UInt8 :=
  if c = 34 ∨ c = 92 ∨ c = 47 then some c
  else if c = 98 then some 8
  else if c = 102 then some 12
  else if c = 110 then some 10
  else if c = 114 then some 13
  else if c = 116 then some 9
  else none

def loB (n : Nat) : Bool := decide (56320 ≤ n ∧ n ≤ 57343)
def hiB (n : Nat) : Bool := decide (55296 ≤ n ∧ n < 56320)
theorem loB_iff {n : Nat} : loB n = true ↔ 56320 ≤ n ∧ n ≤ 57343 := by simp [loB]
theorem hiB_iff {n : Nat} : hiB n = true ↔ 55296 ≤ n ∧ n < 56320 := by simp [hiB]
theorem loB_no {n : Nat} : loB n = false ↔ ¬ (56320 ≤ n ∧ n ≤ 57343) := by simp [loB]
theorem hiB_no {n : Nat} : hiB n = false ↔ ¬ (55296 ≤ n ∧ n < 56320) := by simp [hiB]

/-- The bytes of a code's character. -/
def putC (n : Nat) : List UInt8 := if n < 32 then [UInt8.ofNat n] else enc n
/-- The character of two codes. -/
def two (n m : Nat) : Nat := 65536 + 1024 * (n - 55296) + (m - 56320)

/-- The code behind a backslash and a u. -/
def cod : List UInt8 → Option Nat
  | a :: b :: t => if a = 92 ∧ b = 117 then hx4 t else none
  | _ => none
theorem cod_some {l : List UInt8} {n : Nat} (h : cod l = some n) : ∃ t, l = 92 :: 117 :: t ∧ hx4 t = some n := by
  match l, h with
  | a :: b :: t, h =>
    simp only [cod] at h
    split at h
    · rename_i hab; obtain ⟨rfl, rfl⟩ := hab; exact ⟨t, rfl, h⟩
    · cases h
theorem cod_of {t : List UInt8} : cod (92 :: 117 :: t) = hx4 t := by simp [cod]

/-- What a u escape tells, and how many bytes it has. -/
def uni (l : List UInt8) : Option (List UInt8 × Nat) :=
  (cod l).bind fun n =>
    if loB n = true then none
    else if hiB n = true then (cod (l.drop 6)).bind fun m => if loB m = true then some (enc (two n m), 12) else none
    else some (putC n, 6)
/-- What an escape tells, and how many bytes it has. -/
def esc : List UInt8 → Option (List UInt8 × Nat)
  | a :: c :: t => if a = 92 then (if c = 117 then uni (a :: c :: t) else (shB c).bind fun b => some ([b], 2)) else none
  | _ => none
/-- What stands next in a string that is no quote. -/
def pce (l : List UInt8) : Option (List UInt8 × Nat) :=
  if l.head? = some 92 then esc l
  else if (nxt l).2 = 0 ∨ (nxt l).1 = 10 ∨ (nxt l).1 = 13 then none
  else some (l.take (nxt l).2, (nxt l).2)

/-- p is a piece of a string, that tells t, whatever stands behind. -/
structure Pc (p t : List UInt8) : Prop where
  pos : 1 ≤ p.length
  no : p.head? ≠ some 34
  le : t.length ≤ p.length
  is : ∀ x, pce (p ++ x) = some (t, p.length)

theorem uni_some {l t : List UInt8} {k : Nat} (h : uni l = some (t, k)) :
    (∃ n, cod l = some n ∧ loB n = false ∧ hiB n = false ∧ t = putC n ∧ k = 6) ∨
    (∃ n m, cod l = some n ∧ hiB n = true ∧ cod (l.drop 6) = some m ∧ loB m = true ∧ t = enc (two n m) ∧ k = 12) := by
  unfold uni at h
  rw [Option.bind_eq_some_iff] at h
  obtain ⟨n, hn, h⟩ := h
  split at h
  · cases h
  · rename_i h1
    split at h
    · rename_i h2
      rw [Option.bind_eq_some_iff] at h
      obtain ⟨m, hm, h⟩ := h
      split at h
      · rename_i h3
        simp only [Option.some.injEq, Prod.mk.injEq] at h
        exact .inr ⟨n, m, hn, h2, hm, h3, h.1.symm, h.2.symm⟩
      · cases h
    · rename_i h2; cases h
      exact .inl ⟨n, hn, by simpa using h1, by simpa using h2, rfl, rfl⟩
theorem uni_one {l : List UInt8} {n : Nat} (h : cod l = some n) (h1 : loB n = false) (h2 : hiB n = false) : uni l = some (putC n, 6) := by simp [uni, h, h1, h2]
theorem hi_lo {n : Nat} (h : hiB n = true) : loB n = false := by rw [hiB_iff] at h; rw [loB_no]; omega
theorem uni_two {l : List UInt8} {n m : Nat} (h : cod l = some n) (h2 : hiB n = true) (h3 : cod (l.drop 6) = some m) (h4 : loB m = true) : uni l = some (enc (two n m), 12) := by
  unfold uni; simp [h, hi_lo h2, h2, h3, h4]
theorem uni_n1 {l : List UInt8} (h : cod l = none) : uni l = none := by simp [uni, h]
theorem uni_n2 {l : List UInt8} {n : Nat} (h : cod l = some n) (h1 : loB n = true) : uni l = none := by simp [uni, h, h1]
theorem uni_n3 {l : List UInt8} {n : Nat} (h : cod l = some n) (h1 : hiB n = true) (h2 : cod (l.drop 6) = none) : uni l = none := by unfold uni; simp [h, h1, h2]
theorem uni_n4 {l : List UInt8} {n m : Nat} (h : cod l = some n) (h1 : hiB n = true) (h2 : cod (l.drop 6) = some m) (h3 : loB m = false) : uni l = none := by unfold uni; simp [h, h1, h2, h3]

theorem two_bd {n m : Nat} (h : hiB n = true) (k : loB m = true) : 65536 ≤ two n m ∧ two n m ≤ 1114111 ∧ srcB (two n m) = true := by
  rw [hiB_iff] at h; rw [loB_iff] at k
  refine ⟨?_, ?_, ?_⟩
  · unfold two; omega
  · unfold two; omega
  · rw [srcB_iff]; unfold two; omega
theorem enc_four {c : Nat} (h : 65536 ≤ c) : (enc c).length = 4 := by rw [enc4 h]; rfl
theorem put_src {n : Nat} (h : n < 65536) (h1 : loB n = false) (h2 : hiB n = false) (h3 : 32 ≤ n) : srcB n = true := by
  rw [loB_no] at h1; rw [hiB_no] at h2; rw [srcB_iff]; omega
theorem putC_len {n : Nat} (h : n < 65536) : 1 ≤ (putC n).length ∧ (putC n).length ≤ 3 := by
  unfold putC
  split
  · simp
  · rw [enc_len]; repeat' split
    all_goals omega

theorem take_append_len {p x : List UInt8} : (p ++ x).take p.length = p := by simp
/-- A code behind a backslash and a u, whatever stands behind. -/
theorem cod_cut {l : List UInt8} {n : Nat} (h : cod l = some n) : ∃ q, q.length = 4 ∧ l = 92 :: 117 :: (q ++ l.drop 6) ∧ ∀ x, hx4 (q ++ x) = some n := by
  obtain ⟨t, rfl, ht⟩ := cod_some h
  obtain ⟨a, b, c, d, t, x, y, z, u, rfl, hx, hy, hz, hu, rfl⟩ := hx4_some ht
  exact ⟨[a, b, c, d], rfl, rfl, fun r => hx4_of hx hy hz hu r⟩

theorem esc_uni {t : List UInt8} : esc (92 :: 117 :: t) = uni (92 :: 117 :: t) := by simp [esc]
theorem esc_sh {c : UInt8} (h : c ≠ 117) (t : List UInt8) : esc (92 :: c :: t) = (shB c).bind fun b => some ([b], 2) := by simp [esc, h]
theorem pce_esc {l : List UInt8} (h : l.head? = some 92) : pce l = esc l := by simp [pce, h]
theorem esc_head {l t : List UInt8} {k : Nat} (h : esc l = some (t, k)) : l.head? = some 92 := by
  match l, h with
  | a :: c :: t, h =>
    simp only [esc] at h
    split at h
    · rename_i h9; rw [h9]; rfl
    · cases h

theorem esc_cut {l t : List UInt8} {k : Nat} (h : esc l = some (t, k)) : ∃ p x, l = p ++ x ∧ p.length = k ∧ Pc p t := by
  have hh := esc_head h
  match l, h, hh with
  | a :: c :: r, h, hh =>
    obtain rfl : a = 92 := by simpa using hh
    by_cases hc : c = 117
    · subst hc
      rw [esc_uni] at h
      rcases uni_some h with ⟨n, hn, h1, h2, rfl, rfl⟩ | ⟨n, m, hn, h2, hm, h3, ht, hk⟩
      · obtain ⟨q, hq, hl, hx⟩ := cod_cut hn
        have hb := (hx4_lt (hx []))
        have hp := putC_len hb
        refine ⟨92 :: 117 :: q, (92 :: 117 :: r).drop 6, hl, by simp [hq], ⟨by simp, by simp, by simp [hq]; omega, fun x => ?_⟩⟩
        rw [pce_esc (by rfl)]
        show esc (92 :: 117 :: (q ++ x)) = _
        rw [esc_uni, uni_one (cod_of.trans (hx x)) h1 h2]
        simp [hq]
      · obtain ⟨q, hq, hl, hx⟩ := cod_cut hn
        obtain ⟨q', hq', hl', hx'⟩ := cod_cut hm
        rw [hl'] at hl
        refine ⟨92 :: 117 :: (q ++ 92 :: 117 :: q'), ((92 :: 117 :: r).drop 6).drop 6, by refine hl.trans ?_; simp, by rw [hk]; simp [hq, hq'], ⟨by simp, by simp, ?_, fun x => ?_⟩⟩
        · rw [ht, enc_four (two_bd h2 h3).1]; simp [hq, hq']
        · rw [pce_esc (by rfl)]
          have e : (92 :: 117 :: (q ++ 92 :: 117 :: q')) ++ x = 92 :: 117 :: (q ++ (92 :: 117 :: (q' ++ x))) := by simp
          have ed : (92 :: 117 :: (q ++ (92 :: 117 :: (q' ++ x)))).drop 6 = 92 :: 117 :: (q' ++ x) := by
            show (q ++ (92 :: 117 :: (q' ++ x))).drop 4 = _
            rw [← hq, List.drop_left]
          rw [e, esc_uni, uni_two (cod_of.trans (hx _)) h2 (by rw [ed]; exact cod_of.trans (hx' x)) h3, ht]
          simp [hq, hq']
    · rw [esc_sh hc, Option.bind_eq_some_iff] at h
      obtain ⟨b, hb, h⟩ := h
      cases h
      refine ⟨[92, c], r, rfl, rfl, ⟨by simp, by simp, by simp, fun x => ?_⟩⟩
      rw [pce_esc (by rfl)]
      show esc (92 :: c :: x) = _
      rw [esc_sh hc, hb]; rfl

/-- A character that is no quote, no backslash, and no end of a line. -/
theorem Is.piece {p : List UInt8} {c : Nat} (hs : srcB c = true) (hp : p = enc c) (h34 : p.head? ≠ some 34) (h92 : p.head? ≠ some 92) (h10 : c ≠ 10) (h13 : c ≠ 13) : Pc p p := by
  have hl := enc_pos c
  refine ⟨by rw [hp]; exact hl.1, h34, Nat.le_refl _, fun x => ?_⟩
  have hn := nxt_is (is_enc hs x)
  rw [← hp] at hn
  have hh : (p ++ x).head? = p.head? := by
    cases p with
    | nil => rw [← hp] at hl; simp at hl
    | cons a t => rfl
  unfold pce
  rw [if_neg (by rw [hh]; exact h92), hn, if_neg (by rw [hp]; simp only [h10, h13, or_false]; omega), List.take_left]

theorem pce_cut {l t : List UInt8} {k : Nat} (hq : l.head? ≠ some 34) (h : pce l = some (t, k)) : ∃ p x, l = p ++ x ∧ p.length = k ∧ Pc p t := by
  by_cases h92 : l.head? = some 92
  · rw [pce_esc h92] at h; exact esc_cut h
  · unfold pce at h
    rw [if_neg h92] at h
    split at h
    · cases h
    · rename_i hn
      rcases nxt_cases l with ⟨c, hc, e⟩ | ⟨_, e⟩
      · rw [e] at h hn
        cases h
        obtain ⟨hs, r, hr⟩ := hc
        have hl := enc_pos c
        have ht : l.take (enc c).length = enc c := by rw [← hr, List.take_left]
        have hh : (enc c).head? = l.head? := by
          rw [← hr]
          cases e2 : enc c with
          | nil => rw [e2] at hl; simp at hl
          | cons a t => rfl
        refine ⟨enc c, r, hr.symm, rfl, ?_⟩
        show Pc (enc c) (l.take (enc c).length)
        rw [ht]
        exact Is.piece hs rfl (by rw [hh]; exact hq) (by rw [hh]; exact h92) (fun e => hn (.inr (.inl e))) (fun e => hn (.inr (.inr e)))
      · rw [e] at hn; exact absurd (.inl rfl) hn
theorem pce_bd {l t : List UInt8} {k : Nat} (hq : l.head? ≠ some 34) (h : pce l = some (t, k)) : 1 ≤ k ∧ k ≤ l.length ∧ t.length ≤ k := by
  obtain ⟨p, x, rfl, rfl, hp⟩ := pce_cut hq h
  exact ⟨hp.pos, by simp, hp.le⟩

/-- What is told from a place behind the first quote on: the text, how many bytes it takes, with the quote; or how many there are ahead of where it goes wrong. -/
structure Tx where
  v : List UInt8
  n : Nat
  b : Bool

def bodF : Nat → List UInt8 → Tx
  | 0, _ => ⟨[], 0, false⟩
  | f + 1, l =>
    if l.head? = some 34 then ⟨[], 1, true⟩
    else match pce l with
      | none => ⟨[], 0, false⟩
      | some (t, k) => let r := bodF f (l.drop k); ⟨if r.b = true then t ++ r.v else [], k + r.n, r.b⟩
def bod (l : List UInt8) : Tx := bodF (l.length + 1) l

theorem bodF_more {f g : Nat} {l : List UInt8} (hf : l.length < f) (hg : l.length < g) : bodF f l = bodF g l := by
  induction f generalizing g l with
  | zero => omega
  | succ f ih =>
    cases g with
    | zero => omega
    | succ g =>
      unfold bodF
      split
      · rfl
      · rename_i hq
        cases hp : pce l with
        | none => rfl
        | some q =>
          obtain ⟨t, k⟩ := q
          have := pce_bd hq hp
          simp only
          rw [ih (g := g) (l := l.drop k) (by simp; omega) (by simp; omega)]
theorem bod_quote {l : List UInt8} (h : l.head? = some 34) : bod l = ⟨[], 1, true⟩ := by unfold bod bodF; rw [if_pos h]
theorem bod_none {l : List UInt8} (hq : l.head? ≠ some 34) (h : pce l = none) : bod l = ⟨[], 0, false⟩ := by unfold bod bodF; rw [if_neg hq, h]
theorem bod_some {l t : List UInt8} {k : Nat} (hq : l.head? ≠ some 34) (h : pce l = some (t, k)) :
    bod l = ⟨if (bod (l.drop k)).b = true then t ++ (bod (l.drop k)).v else [], k + (bod (l.drop k)).n, (bod (l.drop k)).b⟩ := by
  have hb := pce_bd hq h
  have e : bodF l.length (l.drop k) = bod (l.drop k) := bodF_more (by simp; omega) (by simp)
  conv => lhs; unfold bod bodF
  rw [if_neg hq, h]
  simp only [e]

/-- p is what stands between the quotes of a string that tells v. -/
inductive Bd : List UInt8 → List UInt8 → Prop
  | nil : Bd [] []
  | cons {p t q v : List UInt8} : Pc p t → Bd q v → Bd (p ++ q) (t ++ v)
theorem Bd.append {p v q u : List UInt8} (h : Bd p v) (k : Bd q u) : Bd (p ++ q) (v ++ u) := by
  induction h with
  | nil => exact k
  | cons hp _ ih => rw [List.append_assoc, List.append_assoc]; exact .cons hp ih
theorem Bd.le {p v : List UInt8} (h : Bd p v) : v.length ≤ p.length := by
  induction h with
  | nil => simp
  | cons hp _ ih => have := hp.le; simp; omega
theorem Pc.head {p t : List UInt8} (h : Pc p t) (x : List UInt8) : (p ++ x).head? ≠ some 34 := by
  cases p with
  | nil => have := h.pos; simp at this
  | cons a p => exact h.no
theorem Bd.then {p v : List UInt8} (h : Bd p v) (x : List UInt8) : bod (p ++ x) = ⟨if (bod x).b = true then v ++ (bod x).v else [], p.length + (bod x).n, (bod x).b⟩ := by
  induction h with
  | nil => cases e : bod x; rename_i v n b
           cases b
           · simp only [List.nil_append, e, List.length_nil, Nat.zero_add, Bool.false_eq_true, if_false]
             congr 1
             induction hn : x.length using Nat.strongRecOn generalizing x v n with
             | _ m ih =>
               by_cases hq : x.head? = some 34
               · rw [bod_quote hq] at e; cases e
               · cases hp : pce x with
                 | none => rw [bod_none hq hp] at e; cases e; rfl
                 | some r =>
                   obtain ⟨t, k⟩ := r
                   rw [bod_some hq hp] at e
                   injection e with e1 e2 e3
                   rw [e3] at e1; simpa using e1.symm
           · simp [e]
  | @cons p t q v hp hq ih =>
    rw [List.append_assoc, bod_some (hp.head _) (hp.is _), List.drop_left, ih]
    split
    · simp [Nat.add_assoc]
    · rename_i h; simp [h, Nat.add_assoc]
theorem bod_no {l : List UInt8} (h : (bod l).b = false) : (bod l).v = [] := by
  have := Bd.then .nil l
  rw [List.nil_append, h] at this
  rw [this]; rfl
theorem bod_ends {p v : List UInt8} (h : Bd p v) (x : List UInt8) : bod (p ++ 34 :: x) = ⟨v, p.length + 1, true⟩ := by
  rw [h.then, bod_quote (by rfl)]; simp
theorem bod_open {p v x : List UInt8} (h : Bd p v) (hq : x.head? ≠ some 34) (hx : pce x = none) : bod (p ++ x) = ⟨[], p.length, false⟩ := by
  rw [h.then, bod_none hq hx]; simp
theorem bod_cut (l : List UInt8) : ∃ p v x, l = p ++ x ∧ Bd p v ∧ ((∃ y, x = 34 :: y ∧ bod l = ⟨v, p.length + 1, true⟩) ∨ (x.head? ≠ some 34 ∧ pce x = none ∧ bod l = ⟨[], p.length, false⟩)) := by
  induction hn : l.length using Nat.strongRecOn generalizing l with
  | _ m ih =>
    subst hn
    by_cases hq : l.head? = some 34
    · cases l with
      | nil => simp at hq
      | cons a y =>
        obtain rfl : a = 34 := by simpa using hq
        exact ⟨[], [], 34 :: y, rfl, .nil, .inl ⟨y, rfl, bod_ends .nil y⟩⟩
    · cases hp : pce l with
      | none => exact ⟨[], [], l, rfl, .nil, .inr ⟨hq, hp, bod_open .nil hq hp⟩⟩
      | some r =>
        obtain ⟨t, k⟩ := r
        obtain ⟨p, x, rfl, rfl, hpc⟩ := pce_cut hq hp
        have hpos := hpc.pos
        obtain ⟨p', v, y, rfl, hb, hc⟩ := ih x.length (by simp; omega) x rfl
        refine ⟨p ++ p', t ++ v, y, by simp, .cons hpc hb, ?_⟩
        rcases hc with ⟨z, rfl, e⟩ | ⟨h1, h2, e⟩
        · refine .inl ⟨z, rfl, ?_⟩
          rw [← List.append_assoc]; exact bod_ends (.cons hpc hb) z
        · refine .inr ⟨h1, h2, ?_⟩
          rw [← List.append_assoc]; exact bod_open (.cons hpc hb) h1 h2
theorem pce_nil : pce [] = none := by unfold pce; rw [if_neg (by simp), nxt_nil]; rfl
theorem bod_le (l : List UInt8) : (bod l).n ≤ l.length ∧ (bod l).v.length ≤ l.length := by
  obtain ⟨p, v, x, rfl, hb, ⟨y, rfl, e⟩ | ⟨_, _, e⟩⟩ := bod_cut l
  · rw [e]; have := hb.le; simp; omega
  · rw [e]; simp

/-- What the program's Hex, Escape and String answer. -/
def hexA (l : List UInt8) (i : Int) : Option Nat := if 0 ≤ i then hx4 (l.drop i.toNat) else none
def escA (l : List UInt8) (i : Int) : Option (List UInt8 × Nat) := if 0 ≤ i then esc (l.drop i.toNat) else none
def strA (l : List UInt8) (i : Int) : Tx := if 0 ≤ i ∧ l[i.toNat]? = some 34 then (let r := bod (l.drop (i.toNat + 1)); ⟨r.v, r.n + 1, r.b⟩) else ⟨[], 0, false⟩
end Go.Proofs.YtpcijjdlppoblaaGreatDoor

/- Contracts of package text's functions: stands, digit, Hex, isLow, isHigh, codeBehind, plain. -/
namespace Go.Proofs.YtpcijjdlppoblaaGreatDoor
open Go.RowKit
set_option linter.unusedVariables false

/-- Does x stand at place i? -/
def stI (l : List UInt8) (i x : Int) : Bool := decide (0 ≤ i ∧ i < l.length) && (((l.getD i.toNat 0).toNat : Int) == x)
theorem stI_in {s : ByteArray} {k : Nat} (h : k < s.size) (x : Int) : stI s.data.toList k x = (((s[k]).toNat : Int) == x) := by
  have hsz : s.data.toList.length = s.size := (Lib.size_eq s).symm
  unfold stI
  rw [decide_eq_true (by omega), Bool.true_and, Int.toNat_natCast, List.getD_eq_getElem?_getD, List.getElem?_eq_getElem (by omega)]
  rfl
theorem stI_out {l : List UInt8} {i : Int} (h : i < 0 ∨ (l.length : Int) ≤ i) (x : Int) : stI l i x = false := by
  unfold stI; rw [decide_eq_false (by omega), Bool.false_and]
theorem stI_iff {l : List UInt8} {i : Int} {c : UInt8} : stI l i c.toNat = true ↔ 0 ≤ i ∧ l[i.toNat]? = some c := by
  unfold stI
  rw [Bool.and_eq_true, decide_eq_true_iff, beq_iff_eq]
  constructor
  · rintro ⟨⟨h0, h1⟩, h2⟩
    refine ⟨h0, ?_⟩
    have h3 : i.toNat < l.length := by omega
    rw [List.getD_eq_getElem?_getD, List.getElem?_eq_getElem h3] at h2
    rw [List.getElem?_eq_getElem h3]
    congr 1
    have h5 : ((l[i.toNat].toNat : Nat) : Int) = c.toNat := by simpa using h2
    exact UInt8.toNat_inj.1 (by omega)
  · rintro ⟨h0, h1⟩
    obtain ⟨h3, h4⟩ := List.getElem?_eq_some_iff.1 h1
    refine ⟨⟨h0, by omega⟩, ?_⟩
    rw [List.getD_eq_getElem?_getD, h1]; rfl
theorem stI_head {l : List UInt8} {k : Nat} {c : UInt8} : stI l k c.toNat = true ↔ (l.drop k).head? = some c := by
  rw [stI_iff, List.head?_drop]; simp
theorem stI_lt {l : List UInt8} {i x : Int} (h : stI l i x = true) : 0 ≤ i ∧ i < l.length := by
  unfold stI at h; rw [Bool.and_eq_true, decide_eq_true_iff] at h; exact h.1

set_option maxHeartbeats 400000 in
theorem stands_any (s : ByteArray) (i x : Int) (w : World) :
    Calls Tryz.prog 130 #[.string s, .int .i64 i, .int .u8 x] w fun e w' => e = .returned (.bool (stI s.data.toList i x)) ∧ w = w' := by
  have hsz : s.data.toList.length = s.size := (Lib.size_eq s).symm
  by_cases h0 : 0 ≤ i
  · obtain ⟨k, rfl⟩ := Int.eq_ofNat_of_zero_le h0
    by_cases h1 : k < s.size
    · rw [stI_in h1]
      clear hsz
      have d0 : decide ((0 : Int) ≤ (k : Int)) = true := by simp
      have d1 : decide ((k : Int) < (s.size : Int)) = true := by simp [h1]
      go_enter Tryz.func130, Tryz.ntmps130
      go_wp2
      go_ret
      exact ⟨rfl, rfl⟩
    · rw [stI_out (.inr (by omega))]
      clear hsz
      have d0 : decide ((0 : Int) ≤ (k : Int)) = true := by simp
      have d1 : decide ((k : Int) < (s.size : Int)) = false := by simp; omega
      go_enter Tryz.func130, Tryz.ntmps130
      go_wp2
      go_ret
      exact ⟨rfl, rfl⟩
  · rw [stI_out (.inl (by omega))]
    clear hsz
    have d0 : decide ((0 : Int) ≤ i) = false := by simp; omega
    go_enter Tryz.func130, Tryz.ntmps130
    go_wp2
    go_ret
    exact ⟨rfl, rfl⟩
theorem stands_b {s : ByteArray} {i x : Int} {v : Bool} (h : stI s.data.toList i x = v) (w : World) :
    Calls Tryz.prog 130 #[.string s, .int .i64 i, .int .u8 x] w fun e w' => e = .returned (.bool v) ∧ w = w' := h ▸ stands_any s i x w

/-- What a pair of a number and a yes tells of an optional one. -/
def optE (o : Option Nat) : Ending := .returned (.tuple #[.int .i64 ((o.getD 0 : Nat) : Int), .bool o.isSome])

set_option maxHeartbeats 400000 in
theorem digit_any (c : UInt8) (w : World) :
    Calls Tryz.prog 156 #[.int .u8 c.toNat] w fun e w' => e = optE (hxd c) ∧ w = w' := by
  have hlt : c.toNat < 256 := UInt8.toNat_lt c
  unfold hxd
  generalize c.toNat = x at *
  by_cases h1 : 48 ≤ x ∧ x ≤ 57
  · rw [if_pos h1]
    obtain ⟨h1, h2⟩ := h1
    have e1 : IntKind.u8.wrap ((x : Int) - 48) = ((x - 48 : Nat) : Int) := by unfold IntKind.wrap; simp [IntKind.bits, IntKind.signed]; omega
    have e2 : IntKind.i64.wrap (((x - 48 : Nat) : Int)) = ((x - 48 : Nat) : Int) := IntWalk.i64_in _ (by omega)
    go_enter Tryz.func156, Tryz.ntmps156
    go_wp2
    go_ret2
    exact ⟨rfl, rfl⟩
  rw [if_neg h1]
  by_cases h2 : 97 ≤ x ∧ x ≤ 102
  · rw [if_pos h2]
    obtain ⟨h2, h3⟩ := h2
    have h4 : ¬ x ≤ 57 := by omega
    have e1 : IntKind.u8.wrap ((x : Int) - 97) = ((x - 97 : Nat) : Int) := by unfold IntKind.wrap; simp [IntKind.bits, IntKind.signed]; omega
    have e2 : IntKind.i64.wrap (((x - 97 : Nat) : Int)) = ((x - 97 : Nat) : Int) := IntWalk.i64_in _ (by omega)
    have e3 : ((x - 87 : Nat) : Int) = ((x - 97 : Nat) : Int) + 10 := by omega
    have E3 := Lib.hid e3
    clear e3 h1
    go_enter Tryz.func156, Tryz.ntmps156
    go_wp2
    go_ret2
    exact ⟨by unfold optE; rw [Option.getD_some, E3.out]; rfl, rfl⟩
  rw [if_neg h2]
  by_cases h3 : 65 ≤ x ∧ x ≤ 70
  · rw [if_pos h3]
    obtain ⟨h3, h4⟩ := h3
    have h5 : ¬ x ≤ 57 := by omega
    have h6 : ¬ 97 ≤ x := by omega
    have e1 : IntKind.u8.wrap ((x : Int) - 65) = ((x - 65 : Nat) : Int) := by unfold IntKind.wrap; simp [IntKind.bits, IntKind.signed]; omega
    have e2 : IntKind.i64.wrap (((x - 65 : Nat) : Int)) = ((x - 65 : Nat) : Int) := IntWalk.i64_in _ (by omega)
    have e3 : ((x - 55 : Nat) : Int) = ((x - 65 : Nat) : Int) + 10 := by omega
    have E3 := Lib.hid e3
    clear e3 h1 h2
    go_enter Tryz.func156, Tryz.ntmps156
    go_wp2
    go_ret2
    exact ⟨by unfold optE; rw [Option.getD_some, E3.out]; rfl, rfl⟩
  rw [if_neg h3]
  have hall : x < 48 ∨ (57 < x ∧ x < 65) ∨ (70 < x ∧ x < 97) ∨ 102 < x := by omega
  clear h1 h2 h3
  rcases hall with h | ⟨h, h'⟩ | ⟨h, h'⟩ | h
  · have g1 : ¬ 48 ≤ x := by omega
    have g2 : ¬ 97 ≤ x := by omega
    have g3 : ¬ 65 ≤ x := by omega
    go_enter Tryz.func156, Tryz.ntmps156
    go_wp2
    go_ret2
    exact ⟨rfl, rfl⟩
  · have g1 : ¬ x ≤ 57 := by omega
    have g2 : ¬ 97 ≤ x := by omega
    have g3 : ¬ 65 ≤ x := by omega
    go_enter Tryz.func156, Tryz.ntmps156
    go_wp2
    go_ret2
    exact ⟨rfl, rfl⟩
  · have g1 : ¬ x ≤ 57 := by omega
    have g2 : ¬ 97 ≤ x := by omega
    have g3 : ¬ x ≤ 70 := by omega
    go_enter Tryz.func156, Tryz.ntmps156
    go_wp2
    go_ret2
    exact ⟨rfl, rfl⟩
  · have g1 : ¬ x ≤ 57 := by omega
    have g2 : ¬ x ≤ 102 := by omega
    have g3 : ¬ x ≤ 70 := by omega
    go_enter Tryz.func156, Tryz.ntmps156
    go_wp2
    go_ret2
    exact ⟨rfl, rfl⟩
theorem digit_y {c : UInt8} {n : Nat} (h : hxd c = some n) (w : World) :
    Calls Tryz.prog 156 #[.int .u8 c.toNat] w fun e w' => e = .returned (.tuple #[.int .i64 (n : Int), .bool true]) ∧ w = w' := by
  have := digit_any c w; rw [h] at this; exact this
theorem digit_n {c : UInt8} (h : hxd c = none) (w : World) :
    Calls Tryz.prog 156 #[.int .u8 c.toNat] w fun e w' => e = .returned (.tuple #[.int .i64 0, .bool false]) ∧ w = w' := by
  have := digit_any c w; rw [h] at this; exact this

theorem drop_four {s : ByteArray} {k : Nat} (h : k + 4 ≤ s.size) : s.data.toList.drop k = s[k] :: s[k + 1] :: s[k + 2] :: s[k + 3] :: s.data.toList.drop (k + 4) := by
  have hsz : s.data.toList.length = s.size := (Lib.size_eq s).symm
  rw [List.drop_eq_getElem_cons (by omega), List.drop_eq_getElem_cons (i := k + 1) (by omega), List.drop_eq_getElem_cons (i := k + 2) (by omega), List.drop_eq_getElem_cons (i := k + 3) (by omega)]
  rfl
theorem hexA_neg {l : List UInt8} {i : Int} (h : i < 0) : hexA l i = none := by unfold hexA; rw [if_neg (by omega)]
theorem hexA_nat {l : List UInt8} {k : Nat} : hexA l k = hx4 (l.drop k) := by unfold hexA; rw [if_pos (by omega)]; rfl
theorem hexA_out {l : List UInt8} {i : Int} (h : (l.length : Int) - 4 < i) : hexA l i = none := by
  unfold hexA
  split
  · exact hx4_short (by simp; omega)
  · rfl

set_option maxHeartbeats 1000000 in
theorem hex_any (s : ByteArray) (i : Int) (w : World) (hs : s.size ≤ 1000000) :
    Calls Tryz.prog 153 #[.string s, .int .i64 i] w fun e w' => e = optE (hexA s.data.toList i) ∧ w = w' := by
  have hsz : s.data.toList.length = s.size := (Lib.size_eq s).symm
  by_cases h0 : 0 ≤ i
  · obtain ⟨k, rfl⟩ := Int.eq_ofNat_of_zero_le h0
    by_cases h1 : k + 4 ≤ s.size
    · rw [hexA_nat, drop_four h1]
      have g1 : ¬ (s.size : Int) - 4 < (k : Int) := by omega
      have n1 : k + 1 < s.size := by omega
      have n2 : k + 2 < s.size := by omega
      have n3 : k + 3 < s.size := by omega
      have n0 : k < s.size := by omega
      clear hsz
      cases ha : hxd s[k] with
      | none =>
        have e : hx4 (s[k] :: s[k + 1] :: s[k + 2] :: s[k + 3] :: s.data.toList.drop (k + 4)) = none := by simp [hx4, ha]
        rw [e]; clear e
        have ra := digit_n ha
        clear ha
        go_enter Tryz.func153, Tryz.ntmps153
        go_wp2
        refine wp_loop_rounds 1 ?_
        rw [rounds_succ]
        go_wp2_with fail
        (with_reducible refine (ra _).mono ?_)
        rintro e w' ⟨rfl, rfl⟩
        go_wp2
        go_ret2
        exact ⟨rfl, rfl⟩
      | some x =>
        have ra := digit_y ha
        have bx1 := hxd_lt ha
        cases hb : hxd s[k + 1] with
        | none =>
          have e : hx4 (s[k] :: s[k + 1] :: s[k + 2] :: s[k + 3] :: s.data.toList.drop (k + 4)) = none := by simp [hx4, ha, hb]
          rw [e]; clear e
          have rb := digit_n hb
          clear ha hb
          go_enter Tryz.func153, Tryz.ntmps153
          go_wp2
          refine wp_loop_rounds 2 ?_
          rw [rounds_succ]
          go_wp2_with fail
          (with_reducible refine (ra _).mono ?_)
          rintro e w' ⟨rfl, rfl⟩
          go_wp2_with fail
          rw [rounds_succ]
          go_wp2_with fail
          (with_reducible refine (rb _).mono ?_)
          rintro e w' ⟨rfl, rfl⟩
          go_wp2
          go_ret2
          exact ⟨rfl, rfl⟩
        | some y =>
          have rb := digit_y hb
          have by1 := hxd_lt hb
          cases hc : hxd s[k + 2] with
          | none =>
            have e : hx4 (s[k] :: s[k + 1] :: s[k + 2] :: s[k + 3] :: s.data.toList.drop (k + 4)) = none := by simp [hx4, ha, hb, hc]
            rw [e]; clear e
            have rc := digit_n hc
            clear ha hb hc
            go_enter Tryz.func153, Tryz.ntmps153
            go_wp2
            refine wp_loop_rounds 3 ?_
            rw [rounds_succ]
            go_wp2_with fail
            (with_reducible refine (ra _).mono ?_)
            rintro e w' ⟨rfl, rfl⟩
            go_wp2_with fail
            rw [rounds_succ]
            go_wp2_with fail
            (with_reducible refine (rb _).mono ?_)
            rintro e w' ⟨rfl, rfl⟩
            go_wp2_with fail
            rw [rounds_succ]
            go_wp2_with fail
            (with_reducible refine (rc _).mono ?_)
            rintro e w' ⟨rfl, rfl⟩
            go_wp2
            go_ret2
            exact ⟨rfl, rfl⟩
          | some z =>
            have rc := digit_y hc
            have bz1 := hxd_lt hc
            cases hd : hxd s[k + 3] with
            | none =>
              have e : hx4 (s[k] :: s[k + 1] :: s[k + 2] :: s[k + 3] :: s.data.toList.drop (k + 4)) = none := by simp [hx4, ha, hb, hc, hd]
              rw [e]; clear e
              have rd := digit_n hd
              clear ha hb hc hd
              go_enter Tryz.func153, Tryz.ntmps153
              go_wp2
              refine wp_loop_rounds 4 ?_
              rw [rounds_succ]
              go_wp2_with fail
              (with_reducible refine (ra _).mono ?_)
              rintro e w' ⟨rfl, rfl⟩
              go_wp2_with fail
              rw [rounds_succ]
              go_wp2_with fail
              (with_reducible refine (rb _).mono ?_)
              rintro e w' ⟨rfl, rfl⟩
              go_wp2_with fail
              rw [rounds_succ]
              go_wp2_with fail
              (with_reducible refine (rc _).mono ?_)
              rintro e w' ⟨rfl, rfl⟩
              go_wp2_with fail
              rw [rounds_succ]
              go_wp2_with fail
              (with_reducible refine (rd _).mono ?_)
              rintro e w' ⟨rfl, rfl⟩
              go_wp2
              go_ret2
              exact ⟨rfl, rfl⟩
            | some u =>
              have rd := digit_y hd
              have bu1 := hxd_lt hd
              rw [hx4_of ha hb hc hd]
              have e : (((((x * 16 + y) * 16 + z) * 16 + u : Nat)) : Int) = (((x : Int) * 16 + y) * 16 + z) * 16 + u := by omega
              have E := Lib.hid e
              clear e ha hb hc hd
              go_enter Tryz.func153, Tryz.ntmps153
              go_wp2
              refine wp_loop_rounds 5 ?_
              rw [rounds_succ]
              go_wp2_with fail
              (with_reducible refine (ra _).mono ?_)
              rintro e w' ⟨rfl, rfl⟩
              go_wp2_with fail
              rw [rounds_succ]
              go_wp2_with fail
              (with_reducible refine (rb _).mono ?_)
              rintro e w' ⟨rfl, rfl⟩
              go_wp2_with fail
              rw [rounds_succ]
              go_wp2_with fail
              (with_reducible refine (rc _).mono ?_)
              rintro e w' ⟨rfl, rfl⟩
              go_wp2_with fail
              rw [rounds_succ]
              go_wp2_with fail
              (with_reducible refine (rd _).mono ?_)
              rintro e w' ⟨rfl, rfl⟩
              go_wp2_with fail
              rw [rounds_succ]
              go_wp2
              go_ret2
              exact ⟨by unfold optE; rw [Option.getD_some, E.out]; rfl, rfl⟩
    · rw [hexA_out (by omega)]
      have g1 : (s.size : Int) - 4 < (k : Int) := by omega
      clear hsz
      go_enter Tryz.func153, Tryz.ntmps153
      go_wp2
      go_ret2
      exact ⟨rfl, rfl⟩
  · rw [hexA_neg (by omega)]
    have g0 : i < 0 := by omega
    clear hsz
    go_enter Tryz.func153, Tryz.ntmps153
    go_wp2
    go_ret2
    exact ⟨rfl, rfl⟩
theorem hex_y {s : ByteArray} {i : Int} {n : Nat} (h : hexA s.data.toList i = some n) (hs : s.size ≤ 1000000) (w : World) :
    Calls Tryz.prog 153 #[.string s, .int .i64 i] w fun e w' => e = .returned (.tuple #[.int .i64 (n : Int), .bool true]) ∧ w = w' := by
  have := hex_any s i w hs; rw [h] at this; exact this
theorem hex_n {s : ByteArray} {i : Int} (h : hexA s.data.toList i = none) (hs : s.size ≤ 1000000) (w : World) :
    Calls Tryz.prog 153 #[.string s, .int .i64 i] w fun e w' => e = .returned (.tuple #[.int .i64 0, .bool false]) ∧ w = w' := by
  have := hex_any s i w hs; rw [h] at this; exact this

set_option maxHeartbeats 400000 in
theorem low_any (n : Nat) (w : World) :
    Calls Tryz.prog 148 #[.int .i64 n] w fun e w' => e = .returned (.bool (loB n)) ∧ w = w' := by
  have e : loB n = (decide (56320 ≤ (n : Int)) && decide ((n : Int) ≤ 57343)) := by
    unfold loB; rw [Bool.eq_iff_iff]; simp; omega
  rw [e]; clear e
  generalize (n : Int) = x
  by_cases h1 : 56320 ≤ x <;> by_cases h2 : x ≤ 57343
  all_goals
    go_enter Tryz.func148, Tryz.ntmps148
    go_wp2
    go_ret
    exact ⟨by simp [h1, h2], rfl⟩
theorem low_b {n : Nat} {v : Bool} (h : loB n = v) (w : World) : Calls Tryz.prog 148 #[.int .i64 n] w fun e w' => e = .returned (.bool v) ∧ w = w' := h ▸ low_any n w
set_option maxHeartbeats 400000 in
theorem high_any (n : Nat) (w : World) :
    Calls Tryz.prog 149 #[.int .i64 n] w fun e w' => e = .returned (.bool (hiB n)) ∧ w = w' := by
  have e : hiB n = (decide (55296 ≤ (n : Int)) && decide ((n : Int) < 56320)) := by
    unfold hiB; rw [Bool.eq_iff_iff]; simp; omega
  rw [e]; clear e
  generalize (n : Int) = x
  by_cases h1 : 55296 ≤ x <;> by_cases h2 : x < 56320
  all_goals
    go_enter Tryz.func149, Tryz.ntmps149
    go_wp2
    go_ret
    exact ⟨by simp [h1, h2], rfl⟩
theorem high_b {n : Nat} {v : Bool} (h : hiB n = v) (w : World) : Calls Tryz.prog 149 #[.int .i64 n] w fun e w' => e = .returned (.bool v) ∧ w = w' := h ▸ high_any n w

theorem drop_cons {l : List UInt8} {k : Nat} {c : UInt8} (h : (l.drop k).head? = some c) : l.drop k = c :: l.drop (k + 1) := by
  rw [List.head?_drop] at h
  obtain ⟨h1, h2⟩ := List.getElem?_eq_some_iff.1 h
  rw [List.drop_eq_getElem_cons h1, h2]
theorem cod_no {l : List UInt8} (h : l.head? ≠ some 92) : cod l = none := by
  cases e : cod l with
  | none => rfl
  | some n => obtain ⟨t, rfl, _⟩ := cod_some e; exact absurd rfl h
theorem cod_no2 {a : UInt8} {l : List UInt8} (h : l.head? ≠ some 117) : cod (a :: l) = none := by
  cases e : cod (a :: l) with
  | none => rfl
  | some n => obtain ⟨t, h2, _⟩ := cod_some e; injection h2 with _ h2; rw [h2] at h; exact absurd rfl h
theorem not_st {l : List UInt8} {k : Nat} {c : UInt8} (h : stI l k c.toNat = false) : (l.drop k).head? ≠ some c := by
  intro e; rw [← stI_head] at e; rw [h] at e; cases e

set_option maxHeartbeats 400000 in
theorem code_any (s : ByteArray) (k : Nat) (w : World) (hs : s.size ≤ 1000000) (hk : k ≤ 2000000) :
    Calls Tryz.prog 147 #[.string s, .int .i64 k] w fun e w' => e = optE (cod (s.data.toList.drop k)) ∧ w = w' := by
  cases h1 : stI s.data.toList k 92
  · rw [cod_no (not_st (c := 92) h1)]
    have r1 := stands_b h1
    clear h1
    go_enter Tryz.func147, Tryz.ntmps147
    go_wp2_with fail
    (with_reducible refine (r1 _).mono ?_)
    rintro e w' ⟨rfl, rfl⟩
    go_wp2
    go_ret2
    exact ⟨rfl, rfl⟩
  have d1 := drop_cons ((stI_head (c := 92)).1 h1)
  have r1 := stands_b h1
  clear h1
  have ek : ((k : Int) + 1) = ((k + 1 : Nat) : Int) := by omega
  cases h2 : stI s.data.toList ((k : Int) + 1) 117
  · have h3 := h2
    rw [ek] at h3
    rw [d1, cod_no2 (not_st (c := 117) h3)]
    have r2 := stands_b h2
    clear h2 h3 d1 ek
    go_enter Tryz.func147, Tryz.ntmps147
    go_wp2_with fail
    (with_reducible refine (r1 _).mono ?_)
    rintro e w' ⟨rfl, rfl⟩
    go_wp2_with fail
    (with_reducible refine (r2 _).mono ?_)
    rintro e w' ⟨rfl, rfl⟩
    go_wp2
    go_ret2
    exact ⟨rfl, rfl⟩
  have h3 := h2
  rw [ek] at h3
  have d2 := drop_cons ((stI_head (c := 117)).1 h3)
  have r2 := stands_b h2
  rw [d1, d2, cod_of]
  have ek2 : ((k : Int) + 2) = ((k + 2 : Nat) : Int) := by omega
  have e3 : hexA s.data.toList ((k : Int) + 2) = hx4 (s.data.toList.drop (k + 1 + 1)) := by rw [ek2, hexA_nat]
  cases h4 : hx4 (s.data.toList.drop (k + 1 + 1)) with
  | none =>
    have r3 := hex_n (e3.trans h4) hs
    clear h2 h3 h4 d1 d2 ek ek2 e3
    go_enter Tryz.func147, Tryz.ntmps147
    go_wp2_with fail
    (with_reducible refine (r1 _).mono ?_)
    rintro e w' ⟨rfl, rfl⟩
    go_wp2_with fail
    (with_reducible refine (r2 _).mono ?_)
    rintro e w' ⟨rfl, rfl⟩
    go_wp2_with fail
    (with_reducible refine (r3 _).mono ?_)
    rintro e w' ⟨rfl, rfl⟩
    go_wp2
    go_ret2
    exact ⟨rfl, rfl⟩
  | some n =>
    have r3 := hex_y (e3.trans h4) hs
    clear h2 h3 h4 d1 d2 ek ek2 e3
    go_enter Tryz.func147, Tryz.ntmps147
    go_wp2_with fail
    (with_reducible refine (r1 _).mono ?_)
    rintro e w' ⟨rfl, rfl⟩
    go_wp2_with fail
    (with_reducible refine (r2 _).mono ?_)
    rintro e w' ⟨rfl, rfl⟩
    go_wp2_with fail
    (with_reducible refine (r3 _).mono ?_)
    rintro e w' ⟨rfl, rfl⟩
    go_wp2
    go_ret2
    exact ⟨rfl, rfl⟩
theorem code_y {s : ByteArray} {k n : Nat} (h : cod (s.data.toList.drop k) = some n) (hs : s.size ≤ 1000000) (hk : k ≤ 2000000) (w : World) :
    Calls Tryz.prog 147 #[.string s, .int .i64 k] w fun e w' => e = .returned (.tuple #[.int .i64 (n : Int), .bool true]) ∧ w = w' := by
  have := code_any s k w hs hk; rw [h] at this; exact this
theorem code_n {s : ByteArray} {k : Nat} (h : cod (s.data.toList.drop k) = none) (hs : s.size ≤ 1000000) (hk : k ≤ 2000000) (w : World) :
    Calls Tryz.prog 147 #[.string s, .int .i64 k] w fun e w' => e = .returned (.tuple #[.int .i64 0, .bool false]) ∧ w = w' := by
  have := code_any s k w hs hk; rw [h] at this; exact this

/-- It goes wrong at i. -/
def wrE (i : Int) : Ending := .panicked [{ v := .iface 133 (.int .i64 i), recovered := false }]

theorem nxtC_at (s : ByteArray) (k : Nat) (hk : k ≤ s.size) : nxtC s k = ((nxt (s.data.toList.drop k)).1 : Int) := by
  unfold nxtC
  by_cases h : k < s.size
  · simp [h]
  · have e : s.data.toList.drop k = [] := by apply List.drop_eq_nil_of_le; rw [← Lib.size_eq]; omega
    rw [e, nxt_nil, if_neg (by omega)]; rfl
theorem next_b {s : ByteArray} {k c n : Nat} (hk : k ≤ s.size) (h : nxt (s.data.toList.drop k) = (c, n)) (w : World) :
    Calls Tryz.prog 75 #[.string s, .int .i64 k] w fun e w' => e = .returned (.tuple #[.int .i64 (c : Int), .int .i64 (n : Int)]) ∧ Below w.heap.size w w' := by
  have := next_any s k w
  rw [nxtC_at s k hk, nxtN_at s k hk, h] at this
  exact this.mono fun _ _ h => ⟨h.1, h.2.below⟩

set_option maxHeartbeats 400000 in
theorem plain_n {s : ByteArray} {k c n : Nat} (hk : k ≤ s.size) (h : nxt (s.data.toList.drop k) = (c, n)) (hb : n = 0 ∨ c = 10 ∨ c = 13) (w : World) :
    Calls Tryz.prog 133 #[.string s, .int .i64 k] w fun e w' => e = wrE k ∧ Below w.heap.size w w' := by
  have r1 := next_b hk h
  clear h
  by_cases h0 : n = 0
  · have t0 : ((n : Int) == 0) = true := by simp [h0]
    clear h0 hb
    go_enter Tryz.func133, Tryz.ntmps133
    go_wp2_with fail
    (with_reducible refine (r1 _).mono ?_)
    rintro e w1 ⟨rfl, hb1⟩
    go_wp2
    exact ⟨rfl, rfl, hb1⟩
  have t0 : ((n : Int) == 0) = false := by simp [h0]
  by_cases h1 : c = 10
  · have t1 : ((c : Int) == 10) = true := by simp [h1]
    clear h0 h1 hb
    go_enter Tryz.func133, Tryz.ntmps133
    go_wp2_with fail
    (with_reducible refine (r1 _).mono ?_)
    rintro e w1 ⟨rfl, hb1⟩
    go_wp2
    exact ⟨rfl, rfl, hb1⟩
  have t1 : ((c : Int) == 10) = false := by simp; omega
  have t2 : ((c : Int) == 13) = true := by simp; omega
  clear h0 h1 hb
  go_enter Tryz.func133, Tryz.ntmps133
  go_wp2_with fail
  (with_reducible refine (r1 _).mono ?_)
  rintro e w1 ⟨rfl, hb1⟩
  go_wp2
  exact ⟨rfl, rfl, hb1⟩

set_option maxHeartbeats 400000 in
theorem plain_y {s : ByteArray} {k c n : Nat} (hs : s.size ≤ 1000000) (hk : k ≤ s.size) (h : nxt (s.data.toList.drop k) = (c, n)) (h0 : n ≠ 0) (h1 : c ≠ 10) (h2 : c ≠ 13) (w : World) :
    Calls Tryz.prog 133 #[.string s, .int .i64 k] w fun e w' => e = .returned (.tuple #[.string (s.extract k (k + n)), .int .i64 ((k + n : Nat) : Int)]) ∧ Below w.heap.size w w' := by
  have r1 := next_b hk h
  have hle := (nxt_le (s.data.toList.drop k)).1
  rw [h, List.length_drop, ← Lib.size_eq] at hle
  have hle2 : k + n ≤ s.size := by dsimp only at hle; omega
  clear h hle
  have t0 : ((n : Int) == 0) = false := by simp [h0]
  have t1 : ((c : Int) == 10) = false := by simp; omega
  have t2 : ((c : Int) == 13) = false := by simp; omega
  clear h0 h1 h2
  go_enter Tryz.func133, Tryz.ntmps133
  go_wp2_with fail
  (with_reducible refine (r1 _).mono ?_)
  rintro e w1 ⟨rfl, hb1⟩
  go_wp2
  go_ret2
  exact ⟨by simp, hb1⟩
end Go.Proofs.YtpcijjdlppoblaaGreatDoor

/- Contracts of package text's functions: coded, escaped. -/
namespace Go.Proofs.YtpcijjdlppoblaaGreatDoor
open Go.RowKit
set_option linter.unusedVariables false
attribute [local go_sem] conv1

/-- How a piece ends: what it tells, and where it ends; or it goes wrong at i. -/
def escE (o : Option (List UInt8 × Nat)) (i : Int) : Ending :=
  match o with
  | some (t, m) => .returned (.tuple #[.string (mkb t), .int .i64 (i + (m : Int))])
  | none => wrE i

theorem code_y2 {s : ByteArray} {k n : Nat} {i : Int} (hi : i = k) (h : cod (s.data.toList.drop k) = some n) (hs : s.size ≤ 1000000) (hk : k ≤ 2000000) (w : World) :
    Calls Tryz.prog 147 #[.string s, .int .i64 i] w fun e w' => e = .returned (.tuple #[.int .i64 (n : Int), .bool true]) ∧ w = w' := by
  subst hi; exact code_y h hs hk w
theorem code_n2 {s : ByteArray} {k : Nat} {i : Int} (hi : i = k) (h : cod (s.data.toList.drop k) = none) (hs : s.size ≤ 1000000) (hk : k ≤ 2000000) (w : World) :
    Calls Tryz.prog 147 #[.string s, .int .i64 i] w fun e w' => e = .returned (.tuple #[.int .i64 0, .bool false]) ∧ w = w' := by
  subst hi; exact code_n h hs hk w
theorem put_b {r : Int} {c : Nat} (hr : r = c) (h : srcB c = true) (w : World) :
    Calls Tryz.prog 76 #[.int .i64 r] w fun e w' => e = .returned (.string (mkb (enc c))) ∧ w = w' := by
  subst hr
  have e : putA (c : Int) = mkb (enc c) := by unfold putA mkb; rw [putL_yes h, Int.toNat_natCast]
  have := put_any c w
  rwa [e] at this

set_option maxHeartbeats 1000000 in
theorem coded_any (s : ByteArray) (k : Nat) (w : World) (hs : s.size ≤ 1000000) (hk : k ≤ 1000000) :
    Calls Tryz.prog 140 #[.string s, .int .i64 k] w fun e w' => e = escE (uni (s.data.toList.drop k)) k ∧ Below w.heap.size w w' := by
  have e6 : (s.data.toList.drop k).drop 6 = s.data.toList.drop (k + 6) := by rw [List.drop_drop]
  cases h1 : cod (s.data.toList.drop k) with
  | none =>
    rw [uni_n1 h1]
    have r1 := code_n h1 hs (by omega)
    clear h1 e6
    go_enter Tryz.func140, Tryz.ntmps140
    go_wp2_with fail
    (with_reducible refine (r1 _).mono ?_)
    rintro e w' ⟨rfl, rfl⟩
    go_wp2
    exact ⟨rfl, rfl, Below.refl _ _⟩
  | some n =>
    have r1 := code_y h1 hs (by omega)
    have bn : n < 65536 := by obtain ⟨t, _, ht⟩ := cod_some h1; exact hx4_lt ht
    cases h2 : loB n
    · have r2 := low_b h2
      cases h3 : hiB n
      · have r3 := high_b h3
        rw [uni_one h1 h2 h3]
        by_cases h4 : n < 32
        · have e1 : putC n = [UInt8.ofNat n] := by unfold putC; rw [if_pos h4]
          have e2 : IntKind.u8.wrap (n : Int) = (n : Int) := by unfold IntKind.wrap; simp [IntKind.bits, IntKind.signed]; omega
          rw [e1]
          clear h1 h2 h3 e1 e6
          go_enter Tryz.func140, Tryz.ntmps140
          go_wp2_with fail
          (with_reducible refine (r1 _).mono ?_)
          rintro e w' ⟨rfl, rfl⟩
          go_wp2_with fail
          (with_reducible refine (r2 _).mono ?_)
          rintro e w' ⟨rfl, rfl⟩
          go_wp2_with fail
          (with_reducible refine (r3 _).mono ?_)
          rintro e w' ⟨rfl, rfl⟩
          go_wp2
          go_ret2
          exact ⟨rfl, (Below.refl _ _).alloc (Nat.le_refl _) _⟩
        · have e1 : putC n = enc n := by unfold putC; rw [if_neg h4]
          have r4 := put_b rfl (put_src bn h2 h3 (by omega))
          have g4 : ¬ (n : Int) < 32 := by omega
          rw [e1]
          clear h1 h2 h3 e1 e6
          go_enter Tryz.func140, Tryz.ntmps140
          go_wp2_with fail
          (with_reducible refine (r1 _).mono ?_)
          rintro e w' ⟨rfl, rfl⟩
          go_wp2_with fail
          (with_reducible refine (r2 _).mono ?_)
          rintro e w' ⟨rfl, rfl⟩
          go_wp2_with fail
          (with_reducible refine (r3 _).mono ?_)
          rintro e w' ⟨rfl, rfl⟩
          go_wp2_with fail
          (with_reducible refine (r4 _).mono ?_)
          rintro e w' ⟨rfl, rfl⟩
          go_wp2
          go_ret2
          exact ⟨rfl, Below.refl _ _⟩
      · have r3 := high_b h3
        cases h4 : cod (s.data.toList.drop (k + 6)) with
        | none =>
          rw [uni_n3 h1 h3 (by rw [e6]; exact h4)]
          have r4 := code_n2 (i := (k : Int) + 6) (by omega) h4 hs (by omega)
          clear h1 h2 h3 h4 e6
          go_enter Tryz.func140, Tryz.ntmps140
          go_wp2_with fail
          (with_reducible refine (r1 _).mono ?_)
          rintro e w' ⟨rfl, rfl⟩
          go_wp2_with fail
          (with_reducible refine (r2 _).mono ?_)
          rintro e w' ⟨rfl, rfl⟩
          go_wp2_with fail
          (with_reducible refine (r3 _).mono ?_)
          rintro e w' ⟨rfl, rfl⟩
          go_wp2_with fail
          (with_reducible refine (r4 _).mono ?_)
          rintro e w' ⟨rfl, rfl⟩
          go_wp2
          exact ⟨rfl, rfl, Below.refl _ _⟩
        | some m =>
          have r4 := code_y2 (i := (k : Int) + 6) (by omega) h4 hs (by omega)
          have bm : m < 65536 := by obtain ⟨t, _, ht⟩ := cod_some h4; exact hx4_lt ht
          cases h5 : loB m
          · have r5 := low_b h5
            rw [uni_n4 h1 h3 (by rw [e6]; exact h4) h5]
            clear h1 h2 h3 h4 h5 e6
            go_enter Tryz.func140, Tryz.ntmps140
            go_wp2_with fail
            (with_reducible refine (r1 _).mono ?_)
            rintro e w' ⟨rfl, rfl⟩
            go_wp2_with fail
            (with_reducible refine (r2 _).mono ?_)
            rintro e w' ⟨rfl, rfl⟩
            go_wp2_with fail
            (with_reducible refine (r3 _).mono ?_)
            rintro e w' ⟨rfl, rfl⟩
            go_wp2_with fail
            (with_reducible refine (r4 _).mono ?_)
            rintro e w' ⟨rfl, rfl⟩
            go_wp2_with fail
            (with_reducible refine (r5 _).mono ?_)
            rintro e w' ⟨rfl, rfl⟩
            go_wp2
            exact ⟨rfl, rfl, Below.refl _ _⟩
          · have r5 := low_b h5
            rw [uni_two h1 h3 (by rw [e6]; exact h4) h5]
            have t1 := (hiB_iff).1 h3
            have t2 := (loB_iff).1 h5
            have r6 := put_b (r := 65536 + 1024 * ((n : Int) - 55296) + (m : Int) - 56320) (c := two n m) (by unfold two; omega) (two_bd h3 h5).2.2
            clear h1 h2 h3 h4 h5 e6
            go_enter Tryz.func140, Tryz.ntmps140
            go_wp2_with fail
            (with_reducible refine (r1 _).mono ?_)
            rintro e w' ⟨rfl, rfl⟩
            go_wp2_with fail
            (with_reducible refine (r2 _).mono ?_)
            rintro e w' ⟨rfl, rfl⟩
            go_wp2_with fail
            (with_reducible refine (r3 _).mono ?_)
            rintro e w' ⟨rfl, rfl⟩
            go_wp2_with fail
            (with_reducible refine (r4 _).mono ?_)
            rintro e w' ⟨rfl, rfl⟩
            go_wp2_with fail
            (with_reducible refine (r5 _).mono ?_)
            rintro e w' ⟨rfl, rfl⟩
            go_wp2_with fail
            (with_reducible refine (r6 _).mono ?_)
            rintro e w' ⟨rfl, rfl⟩
            go_wp2
            go_ret2
            exact ⟨rfl, Below.refl _ _⟩
    · have r2 := low_b h2
      rw [uni_n2 h1 h2]
      clear h1 h2 e6
      go_enter Tryz.func140, Tryz.ntmps140
      go_wp2_with fail
      (with_reducible refine (r1 _).mono ?_)
      rintro e w' ⟨rfl, rfl⟩
      go_wp2_with fail
      (with_reducible refine (r2 _).mono ?_)
      rintro e w' ⟨rfl, rfl⟩
      go_wp2
      exact ⟨rfl, rfl, Below.refl _ _⟩

theorem esc_no {l : List UInt8} (h : l.head? ≠ some 92) : esc l = none := by
  cases e : esc l with
  | none => rfl
  | some q => obtain ⟨t, k⟩ := q; exact absurd (esc_head e) h
theorem escA_neg {l : List UInt8} {i : Int} (h : i < 0) : escA l i = none := by unfold escA; rw [if_neg (by omega)]
theorem escA_nat {l : List UInt8} {k : Nat} : escA l k = esc (l.drop k) := by unfold escA; rw [if_pos (by omega)]; rfl
theorem escA_no {l : List UInt8} {i : Int} (h : stI l i 92 = false) : escA l i = none := by
  by_cases h0 : 0 ≤ i
  · obtain ⟨k, rfl⟩ := Int.eq_ofNat_of_zero_le h0
    rw [escA_nat]; exact esc_no (not_st (c := 92) h)
  · exact escA_neg (by omega)
theorem drop_two {s : ByteArray} {k : Nat} (h : (s.data.toList.drop k).head? = some 92) (h1 : k + 1 < s.size) : s.data.toList.drop k = 92 :: s[k + 1] :: s.data.toList.drop (k + 2) := by
  have hsz : s.data.toList.length = s.size := (Lib.size_eq s).symm
  rw [drop_cons h, List.drop_eq_getElem_cons (by omega)]; rfl
theorem extract_one {s : ByteArray} {k : Nat} (h : k + 1 < s.size) : s.extract (k + 1) (k + 2) = mkb [s[k + 1]] := by
  have hsz : s.data.toList.length = s.size := (Lib.size_eq s).symm
  rw [← mkb_of (s.extract (k + 1) (k + 2)), Lib.extract_data]
  have e : k + 2 - (k + 1) = 1 := by omega
  rw [e, List.drop_eq_getElem_cons (by omega)]; rfl
theorem esc_two {X : ByteArray} {t : List UInt8} {i : Int} (h : X = mkb t) : Ending.returned (.tuple #[.string X, .int .i64 (i + 2)]) = escE (some (t, 2)) i := by rw [h]; rfl
theorem byte_of {c : UInt8} {n : Nat} (h : c.toNat = n) : c = UInt8.ofNat n := by rw [← h]; simp
theorem shB_none {c : UInt8} (h : ∀ n ∈ [34, 92, 47, 98, 102, 110, 114, 116], c.toNat ≠ n) : shB c = none := by
  have g : ∀ n : Nat, n ∈ [34, 92, 47, 98, 102, 110, 114, 116] → c ≠ UInt8.ofNat n := fun n hn e => by
    have h9 : n < 256 := by simp at hn; omega
    refine h n hn ?_; rw [e]; simp; omega
  have g1 : c ≠ 34 := g 34 (by simp)
  have g2 : c ≠ 92 := g 92 (by simp)
  have g3 : c ≠ 47 := g 47 (by simp)
  have g4 : c ≠ 98 := g 98 (by simp)
  have g5 : c ≠ 102 := g 102 (by simp)
  have g6 : c ≠ 110 := g 110 (by simp)
  have g7 : c ≠ 114 := g 114 (by simp)
  have g8 : c ≠ 116 := g 116 (by simp)
  unfold shB
  rw [if_neg (fun h => h.elim g1 (fun h => h.elim g2 g3)), if_neg g4, if_neg g5, if_neg g6, if_neg g7, if_neg g8]

set_option maxHeartbeats 2000000 in
theorem escaped_any (s : ByteArray) (i : Int) (w : World) (hs : s.size ≤ 1000000) :
    Calls Tryz.prog 132 #[.string s, .int .i64 i] w fun e w' => e = escE (escA s.data.toList i) i ∧ Below w.heap.size w w' := by
  have hsz : s.data.toList.length = s.size := (Lib.size_eq s).symm
  cases h1 : stI s.data.toList i 92
  · rw [escA_no h1]
    have r1 := stands_b h1
    clear h1 hsz
    go_enter Tryz.func132, Tryz.ntmps132
    go_wp2_with fail
    (with_reducible refine (r1 _).mono ?_)
    rintro e w' ⟨rfl, rfl⟩
    go_wp2
    exact ⟨rfl, rfl, Below.refl _ _⟩
  have hin := stI_lt h1
  obtain ⟨k, rfl⟩ := Int.eq_ofNat_of_zero_le hin.1
  have r1 := stands_b h1
  have hk : k < s.size := by omega
  have hh := (stI_head (c := 92)).1 h1
  rw [escA_nat]
  clear h1 hin
  by_cases h2 : k + 1 = s.size
  · have t1 : (((k : Int) + 1) == (s.size : Int)) = true := by simp; omega
    have e1 : esc (s.data.toList.drop k) = none := by
      rw [drop_cons hh, List.drop_eq_nil_of_le (by omega)]; rfl
    rw [e1]
    clear e1 h2 hsz hh
    go_enter Tryz.func132, Tryz.ntmps132
    go_wp2_with fail
    (with_reducible refine (r1 _).mono ?_)
    rintro e w' ⟨rfl, rfl⟩
    go_wp2
    exact ⟨rfl, rfl, Below.refl _ _⟩
  have t1 : (((k : Int) + 1) == (s.size : Int)) = false := by simp; omega
  have h3 : k + 1 < s.size := by omega
  have d2 := drop_two hh h3
  have ru := fun w => coded_any s k w hs (by omega)
  rw [d2] at ru ⊢
  clear hh hsz h2 d2
  by_cases x34 : (s[k + 1]).toNat = 34
  · have ec : s[k + 1] = 34 := byte_of x34
    have t34 : (((s[k + 1]).toNat : Int) == 34) = true := by rw [x34]; rfl
    have ee : esc (92 :: s[k + 1] :: s.data.toList.drop (k + 2)) = some ([s[k + 1]], 2) := by rw [esc_sh (by rw [ec]; decide)]; unfold shB; rw [if_pos (by rw [ec]; decide)]; rfl
    have hx := extract_one h3
    rw [ee]
    have HX := Lib.hid hx
    clear ee ec hx ru x34
    go_enter Tryz.func132, Tryz.ntmps132
    go_wp2_with fail
    (with_reducible refine (r1 _).mono ?_)
    rintro e w' ⟨rfl, rfl⟩
    go_wp2
    go_ret2
    exact ⟨esc_two HX.out, Below.refl _ _⟩
  by_cases x92 : (s[k + 1]).toNat = 92
  · have ec : s[k + 1] = 92 := byte_of x92
    have t34 : (((s[k + 1]).toNat : Int) == 34) = false := by rw [x92]; rfl
    have t92 : (((s[k + 1]).toNat : Int) == 92) = true := by rw [x92]; rfl
    have ee : esc (92 :: s[k + 1] :: s.data.toList.drop (k + 2)) = some ([s[k + 1]], 2) := by rw [esc_sh (by rw [ec]; decide)]; unfold shB; rw [if_pos (by rw [ec]; decide)]; rfl
    have hx := extract_one h3
    rw [ee]
    have HX := Lib.hid hx
    clear ee ec hx ru x34 x92
    go_enter Tryz.func132, Tryz.ntmps132
    go_wp2_with fail
    (with_reducible refine (r1 _).mono ?_)
    rintro e w' ⟨rfl, rfl⟩
    go_wp2
    go_ret2
    exact ⟨esc_two HX.out, Below.refl _ _⟩
  by_cases x47 : (s[k + 1]).toNat = 47
  · have ec : s[k + 1] = 47 := byte_of x47
    have t34 : (((s[k + 1]).toNat : Int) == 34) = false := by rw [x47]; rfl
    have t92 : (((s[k + 1]).toNat : Int) == 92) = false := by rw [x47]; rfl
    have t47 : (((s[k + 1]).toNat : Int) == 47) = true := by rw [x47]; rfl
    have ee : esc (92 :: s[k + 1] :: s.data.toList.drop (k + 2)) = some ([s[k + 1]], 2) := by rw [esc_sh (by rw [ec]; decide)]; unfold shB; rw [if_pos (by rw [ec]; decide)]; rfl
    have hx := extract_one h3
    rw [ee]
    have HX := Lib.hid hx
    clear ee ec hx ru x34 x92 x47
    go_enter Tryz.func132, Tryz.ntmps132
    go_wp2_with fail
    (with_reducible refine (r1 _).mono ?_)
    rintro e w' ⟨rfl, rfl⟩
    go_wp2
    go_ret2
    exact ⟨esc_two HX.out, Below.refl _ _⟩
  by_cases x98 : (s[k + 1]).toNat = 98
  · have ec : s[k + 1] = 98 := byte_of x98
    have t34 : (((s[k + 1]).toNat : Int) == 34) = false := by rw [x98]; rfl
    have t92 : (((s[k + 1]).toNat : Int) == 92) = false := by rw [x98]; rfl
    have t47 : (((s[k + 1]).toNat : Int) == 47) = false := by rw [x98]; rfl
    have t98 : (((s[k + 1]).toNat : Int) == 98) = true := by rw [x98]; rfl
    have ee : esc (92 :: s[k + 1] :: s.data.toList.drop (k + 2)) = some ([8], 2) := by rw [ec]; rfl
    rw [ee]
    clear ee ec ru x34 x92 x47 x98
    go_enter Tryz.func132, Tryz.ntmps132
    go_wp2_with fail
    (with_reducible refine (r1 _).mono ?_)
    rintro e w' ⟨rfl, rfl⟩
    go_wp2
    go_ret2
    exact ⟨rfl, Below.refl _ _⟩
  by_cases x102 : (s[k + 1]).toNat = 102
  · have ec : s[k + 1] = 102 := byte_of x102
    have t34 : (((s[k + 1]).toNat : Int) == 34) = false := by rw [x102]; rfl
    have t92 : (((s[k + 1]).toNat : Int) == 92) = false := by rw [x102]; rfl
    have t47 : (((s[k + 1]).toNat : Int) == 47) = false := by rw [x102]; rfl
    have t98 : (((s[k + 1]).toNat : Int) == 98) = false := by rw [x102]; rfl
    have t102 : (((s[k + 1]).toNat : Int) == 102) = true := by rw [x102]; rfl
    have ee : esc (92 :: s[k + 1] :: s.data.toList.drop (k + 2)) = some ([12], 2) := by rw [ec]; rfl
    rw [ee]
    clear ee ec ru x34 x92 x47 x98 x102
    go_enter Tryz.func132, Tryz.ntmps132
    go_wp2_with fail
    (with_reducible refine (r1 _).mono ?_)
    rintro e w' ⟨rfl, rfl⟩
    go_wp2
    go_ret2
    exact ⟨rfl, Below.refl _ _⟩
  by_cases x110 : (s[k + 1]).toNat = 110
  · have ec : s[k + 1] = 110 := byte_of x110
    have t34 : (((s[k + 1]).toNat : Int) == 34) = false := by rw [x110]; rfl
    have t92 : (((s[k + 1]).toNat : Int) == 92) = false := by rw [x110]; rfl
    have t47 : (((s[k + 1]).toNat : Int) == 47) = false := by rw [x110]; rfl
    have t98 : (((s[k + 1]).toNat : Int) == 98) = false := by rw [x110]; rfl
    have t102 : (((s[k + 1]).toNat : Int) == 102) = false := by rw [x110]; rfl
    have t110 : (((s[k + 1]).toNat : Int) == 110) = true := by rw [x110]; rfl
    have ee : esc (92 :: s[k + 1] :: s.data.toList.drop (k + 2)) = some ([10], 2) := by rw [ec]; rfl
    rw [ee]
    clear ee ec ru x34 x92 x47 x98 x102 x110
    go_enter Tryz.func132, Tryz.ntmps132
    go_wp2_with fail
    (with_reducible refine (r1 _).mono ?_)
    rintro e w' ⟨rfl, rfl⟩
    go_wp2
    go_ret2
    exact ⟨rfl, Below.refl _ _⟩
  by_cases x114 : (s[k + 1]).toNat = 114
  · have ec : s[k + 1] = 114 := byte_of x114
    have t34 : (((s[k + 1]).toNat : Int) == 34) = false := by rw [x114]; rfl
    have t92 : (((s[k + 1]).toNat : Int) == 92) = false := by rw [x114]; rfl
    have t47 : (((s[k + 1]).toNat : Int) == 47) = false := by rw [x114]; rfl
    have t98 : (((s[k + 1]).toNat : Int) == 98) = false := by rw [x114]; rfl
    have t102 : (((s[k + 1]).toNat : Int) == 102) = false := by rw [x114]; rfl
    have t110 : (((s[k + 1]).toNat : Int) == 110) = false := by rw [x114]; rfl
    have t114 : (((s[k + 1]).toNat : Int) == 114) = true := by rw [x114]; rfl
    have ee : esc (92 :: s[k + 1] :: s.data.toList.drop (k + 2)) = some ([13], 2) := by rw [ec]; rfl
    rw [ee]
    clear ee ec ru x34 x92 x47 x98 x102 x110 x114
    go_enter Tryz.func132, Tryz.ntmps132
    go_wp2_with fail
    (with_reducible refine (r1 _).mono ?_)
    rintro e w' ⟨rfl, rfl⟩
    go_wp2
    go_ret2
    exact ⟨rfl, Below.refl _ _⟩
  by_cases x116 : (s[k + 1]).toNat = 116
  · have ec : s[k + 1] = 116 := byte_of x116
    have t34 : (((s[k + 1]).toNat : Int) == 34) = false := by rw [x116]; rfl
    have t92 : (((s[k + 1]).toNat : Int) == 92) = false := by rw [x116]; rfl
    have t47 : (((s[k + 1]).toNat : Int) == 47) = false := by rw [x116]; rfl
    have t98 : (((s[k + 1]).toNat : Int) == 98) = false := by rw [x116]; rfl
    have t102 : (((s[k + 1]).toNat : Int) == 102) = false := by rw [x116]; rfl
    have t110 : (((s[k + 1]).toNat : Int) == 110) = false := by rw [x116]; rfl
    have t114 : (((s[k + 1]).toNat : Int) == 114) = false := by rw [x116]; rfl
    have t116 : (((s[k + 1]).toNat : Int) == 116) = true := by rw [x116]; rfl
    have ee : esc (92 :: s[k + 1] :: s.data.toList.drop (k + 2)) = some ([9], 2) := by rw [ec]; rfl
    rw [ee]
    clear ee ec ru x34 x92 x47 x98 x102 x110 x114 x116
    go_enter Tryz.func132, Tryz.ntmps132
    go_wp2_with fail
    (with_reducible refine (r1 _).mono ?_)
    rintro e w' ⟨rfl, rfl⟩
    go_wp2
    go_ret2
    exact ⟨rfl, Below.refl _ _⟩
  by_cases x117 : (s[k + 1]).toNat = 117
  · have ec : s[k + 1] = 117 := byte_of x117
    have t34 : (((s[k + 1]).toNat : Int) == 34) = false := by rw [x117]; rfl
    have t92 : (((s[k + 1]).toNat : Int) == 92) = false := by rw [x117]; rfl
    have t47 : (((s[k + 1]).toNat : Int) == 47) = false := by rw [x117]; rfl
    have t98 : (((s[k + 1]).toNat : Int) == 98) = false := by rw [x117]; rfl
    have t102 : (((s[k + 1]).toNat : Int) == 102) = false := by rw [x117]; rfl
    have t110 : (((s[k + 1]).toNat : Int) == 110) = false := by rw [x117]; rfl
    have t114 : (((s[k + 1]).toNat : Int) == 114) = false := by rw [x117]; rfl
    have t116 : (((s[k + 1]).toNat : Int) == 116) = false := by rw [x117]; rfl
    have t117 : (((s[k + 1]).toNat : Int) == 117) = true := by rw [x117]; rfl
    have ee : esc (92 :: s[k + 1] :: s.data.toList.drop (k + 2)) = uni (92 :: s[k + 1] :: s.data.toList.drop (k + 2)) := by rw [ec]; rfl
    rw [ee]
    clear ee ec x34 x92 x47 x98 x102 x110 x114 x116 x117
    cases hu : uni (92 :: s[k + 1] :: s.data.toList.drop (k + 2)) with
    | none =>
      have rn : ∀ w, Calls Tryz.prog 140 #[.string s, .int .i64 k] w fun e w' => e = .panicked [{ v := .iface 133 (.int .i64 (k : Int)), recovered := false }] ∧ Below w.heap.size w w' := fun w => by have := ru w; rw [hu] at this; exact this
      clear ru hu
      go_enter Tryz.func132, Tryz.ntmps132
      go_wp2_with fail
      (with_reducible refine (r1 _).mono ?_)
      rintro e w' ⟨rfl, rfl⟩
      go_wp2_with fail
      (with_reducible refine (rn _).mono ?_)
      rintro e w1 ⟨rfl, hb1⟩
      go_wp2
      exact ⟨rfl, rfl, hb1⟩
    | some q =>
      obtain ⟨t, m⟩ := q
      have ry : ∀ w, Calls Tryz.prog 140 #[.string s, .int .i64 k] w fun e w' => e = .returned (.tuple #[.string (mkb t), .int .i64 ((k : Int) + (m : Int))]) ∧ Below w.heap.size w w' := fun w => by have := ru w; rw [hu] at this; exact this
      clear ru hu
      go_enter Tryz.func132, Tryz.ntmps132
      go_wp2_with fail
      (with_reducible refine (r1 _).mono ?_)
      rintro e w' ⟨rfl, rfl⟩
      go_wp2_with fail
      (with_reducible refine (ry _).mono ?_)
      rintro e w1 ⟨rfl, hb1⟩
      go_wp2
      go_ret2
      exact ⟨rfl, hb1⟩
  have ee : esc (92 :: s[k + 1] :: s.data.toList.drop (k + 2)) = none := by
    rw [esc_sh (fun e => x117 (by rw [e]; rfl)), shB_none (by intro n hn; simp at hn; rcases hn with rfl | rfl | rfl | rfl | rfl | rfl | rfl | rfl <;> assumption)]; rfl
  rw [ee]
  have t34 : (((s[k + 1]).toNat : Int) == 34) = false := beq_false_of_ne (by omega)
  have t92 : (((s[k + 1]).toNat : Int) == 92) = false := beq_false_of_ne (by omega)
  have t47 : (((s[k + 1]).toNat : Int) == 47) = false := beq_false_of_ne (by omega)
  have t98 : (((s[k + 1]).toNat : Int) == 98) = false := beq_false_of_ne (by omega)
  have t102 : (((s[k + 1]).toNat : Int) == 102) = false := beq_false_of_ne (by omega)
  have t110 : (((s[k + 1]).toNat : Int) == 110) = false := beq_false_of_ne (by omega)
  have t114 : (((s[k + 1]).toNat : Int) == 114) = false := beq_false_of_ne (by omega)
  have t116 : (((s[k + 1]).toNat : Int) == 116) = false := beq_false_of_ne (by omega)
  have t117 : (((s[k + 1]).toNat : Int) == 117) = false := beq_false_of_ne (by omega)
  clear ee ru x34 x92 x47 x98 x102 x110 x114 x116 x117
  go_enter Tryz.func132, Tryz.ntmps132
  go_wp2_with fail
  (with_reducible refine (r1 _).mono ?_)
  rintro e w' ⟨rfl, rfl⟩
  go_wp2
  exact ⟨rfl, rfl, Below.refl _ _⟩
theorem escaped_y {s : ByteArray} {i : Int} {t : List UInt8} {m : Nat} (h : escA s.data.toList i = some (t, m)) (hs : s.size ≤ 1000000) (w : World) :
    Calls Tryz.prog 132 #[.string s, .int .i64 i] w fun e w' => e = .returned (.tuple #[.string (mkb t), .int .i64 (i + (m : Int))]) ∧ Below w.heap.size w w' := by
  have := escaped_any s i w hs; rw [h] at this; exact this
theorem escaped_n {s : ByteArray} {i : Int} (h : escA s.data.toList i = none) (hs : s.size ≤ 1000000) (w : World) :
    Calls Tryz.prog 132 #[.string s, .int .i64 i] w fun e w' => e = .panicked [{ v := .iface 133 (.int .i64 i), recovered := false }] ∧ Below w.heap.size w w' := by
  have := escaped_any s i w hs; rw [h] at this; exact this
end Go.Proofs.YtpcijjdlppoblaaGreatDoor

/- Contracts of package text's functions: the gathering closure, quoted. -/
namespace Go.Proofs.YtpcijjdlppoblaaGreatDoor
open Go.RowKit
set_option linter.unusedVariables false

def bc (l : List UInt8) : List Value := l.map fun b => Value.int .u8 b.toNat
theorem bc_app (a : List UInt8) (p : ByteArray) : bc a ++ Lib.strCells p = bc (a ++ p.data.toList) := by simp [bc, Lib.strCells]
theorem bc_len (a : List UInt8) : (bc a).length = a.length := by simp [bc]

/-- What stands while a string is gathered: what is told, and the place. -/
structure Qv (w0 : World) (bt ba : Nat) (acc : List UInt8) (k : Int) (v : Value) (w : World) : Prop where
  tb : w.heap[bt]? = some (.cells #[v] 82 (0, 0))
  ab : w.heap[ba]? = some (.cells #[.int .i64 k] 3 (0, 0))
  ow : w.ownsRow w0.heap.size 5 1 v acc.length (bc acc)
  o1 : w0.heap.size ≤ bt
  o2 : w0.heap.size ≤ ba
  bel : Below w0.heap.size w0 w

theorem blk_ne {w : World} {g g' : Nat} {t t' : TypeId} {cs cs' : Array Value} (h : w.heap[g]? = some (.cells cs t (0, 0))) (h' : w.heap[g']? = some (.cells cs' t' (0, 0))) (hne : t ≠ t') : g ≠ g' := by
  rintro rfl
  rw [h] at h'
  injection h' with h'
  injection h' with _ ht
  exact hne ht
theorem own_ne {w : World} {g base : Nat} {e t : TypeId} {cs : Array Value} {size n : Nat} {v : Value} {xs : List Value} (h : w.ownsRow base e size v n xs) (hg : w.heap[g]? = some (.cells cs t (0, 0))) (hne : e ≠ t) : v.ownBlock ≠ some g := by
  rcases h.2 with ⟨rfl, _⟩ | ⟨g', cap, cur, rfl, _, hh, _⟩
  · simp [Value.ownBlock]
  · intro he
    have : g' = g := by simpa [Value.ownBlock] using he
    subst this
    exact blk_ne hh hg hne rfl

theorem own_slice {w : World} {base : Nat} {e : TypeId} {size n : Nat} {v : Value} {xs : List Value} (h : w.ownsRow base e size v n xs) : ∃ A m c, v = .slice A m c := by
  rcases h.2 with ⟨rfl, _⟩ | ⟨g', cap, cur, rfl, _⟩
  · exact ⟨_, _, _, rfl⟩
  · exact ⟨_, _, _, rfl⟩
theorem Qv.below {w0 : World} {bt ba : Nat} {acc : List UInt8} {k : Int} {v : Value} {w w' : World} (h : Qv w0 bt ba acc k v w) (b : Below w.heap.size w w') : Qv w0 bt ba acc k v w' :=
  ⟨(b.block bt (lt_of_block h.tb)).trans h.tb, (b.block ba (lt_of_block h.ab)).trans h.ab,
    h.ow.kept (row := none) ⟨b.os, b.tape, b.output, b.size, fun k hk _ => b.block k hk⟩ (by cases hv : v.ownBlock <;> simp), h.o1, h.o2, h.bel.trans (b.mono h.bel.size)⟩

theorem Qv.next {w0 : World} {bt ba : Nat} {acc : List UInt8} {k e : Int} {v v' : Value} {w w1 : World} {p : ByteArray} (h : Qv w0 bt ba acc k v w)
    (ho : w1.ownsRow w0.heap.size 5 1 v' (acc.length + p.size) (bc acc ++ Lib.strCells p)) (hg : w.grownBy w1 v.ownBlock) :
    Qv w0 bt ba (acc ++ p.data.toList) e v' ((w1.setCell ⟨bt, 0, none⟩ v').setCell ⟨ba, 0, none⟩ (.int .i64 e)) := by
  have t1 : w1.heap[bt]? = some (.cells #[v] 82 (0, 0)) := (hg.block bt (lt_of_block h.tb) (fun e => own_ne h.ow h.tb (by decide) e.symm)).trans h.tb
  have a1 : w1.heap[ba]? = some (.cells #[.int .i64 k] 3 (0, 0)) := (hg.block ba (lt_of_block h.ab) (fun e => own_ne h.ow h.ab (by decide) e.symm)).trans h.ab
  have hne : bt ≠ ba := blk_ne t1 a1 (by decide)
  have t2 := one_setCell (u := v') t1
  have a2 : (w1.setCell ⟨bt, 0, none⟩ v').heap[ba]? = some (.cells #[.int .i64 k] 3 (0, 0)) := (Below.heap_setCell _ _ _ _ (fun e => hne e.symm)).trans a1
  rw [bc_app] at ho
  have hl : (acc ++ p.data.toList).length = acc.length + p.size := by rw [List.length_append, ← Lib.size_eq]
  rw [← hl] at ho
  refine ⟨(Below.heap_setCell _ _ _ _ hne).trans t2, one_setCell a2, ?_, h.o1, h.o2, ?_⟩
  · exact ownsRow_setCell_other (ownsRow_setCell_other ho (own_ne ho t1 (by decide)) _) (own_ne ho a1 (by decide)) _
  · exact ((h.bel.grown hg h.bel.size (fun k hk => (h.ow.lt k hk).1)).setCell h.o1 _).setCell h.o2 _

def QvE (w0 : World) (bt ba : Nat) (acc : List UInt8) (k : Int) (w : World) : Prop := ∃ v, Qv w0 bt ba acc k v w

theorem Qv.ex {w0 : World} {bt ba : Nat} {acc : List UInt8} {k : Int} {v : Value} {w : World} (h : Qv w0 bt ba acc k v w) : QvE w0 bt ba acc k w := ⟨v, h⟩

theorem infoB : (Tryz.prog.info? 5).map (fun i => (i.zero, i.size, i.bytes)) = some (some (.int .u8 0), 1, 1) := by kernel_rfl

set_option maxHeartbeats 400000 in
theorem gather_any {w0 : World} {bt ba : Nat} {acc : List UInt8} {k : Int} {w : World} (hq : QvE w0 bt ba acc k w) (p : ByteArray) (e : Int) (hl : acc.length + p.size ≤ 100000000) :
    Calls Tryz.prog 131 #[.string p, .int .i64 e, .pointer (some ⟨bt, 0, none⟩), .pointer (some ⟨ba, 0, none⟩)] w fun en w' => en = .returned (.tuple #[]) ∧ QvE w0 bt ba (acc ++ p.data.toList) e w' := by
  obtain ⟨v, h⟩ := hq
  obtain ⟨i0, hi, hz0, hz1, hz2⟩ := info_parts infoB
  have c1 := cell_of_one h.tb
  have H := Lib.hid h
  have hown := h.ow
  have hsz := h.bel.size
  clear h
  go_enter Tryz.func131, Tryz.ntmps131
  go_wp2_with (at_builtin; refine Lib.wpList_append_own_string _ rfl _ _ 82 9 rfl w0.heap.size 5 i0 Tryz.underlying82 Tryz.underlying9 hi hz0 hz1 hz2 _ _ _ rfl hown p rfl (by unfold maxLen; omega) (by omega) hsz ?_)
  intro v' w1 ho hg _
  obtain ⟨A, m, c, rfl⟩ := own_slice ho
  have hn := H.out.next (e := e) ho hg
  have t1 : w1.heap[bt]? = some (.cells #[v] 82 (0, 0)) := (hg.block bt (lt_of_block H.out.tb) (fun e => own_ne H.out.ow H.out.tb (by decide) e.symm)).trans H.out.tb
  have a1 : w1.heap[ba]? = some (.cells #[.int .i64 k] 3 (0, 0)) := (hg.block ba (lt_of_block H.out.ab) (fun e => own_ne H.out.ow H.out.ab (by decide) e.symm)).trans H.out.ab
  have hne : bt ≠ ba := blk_ne t1 a1 (by decide)
  have f1 := free_of_one t1
  have f2 := free_of_one a1
  have c2 := cell_of_one t1
  have c3 := cell_of_one a1
  have HN := Lib.hid hn
  clear hn ho hg hown t1 a1 c1
  go_wp2
  go_end0
  exact ⟨rfl, _, HN.out⟩

theorem conv_own {w : World} {base : Nat} {v : Value} {acc : List UInt8} (h : w.ownsRow base 5 1 v acc.length (bc acc)) (n : Nat) :
    (convert 82 9 v).run Tryz.prog (w.drewN n) = .ok (.string (mkb acc)) (w.drewN n) := by
  rcases h.2 with ⟨rfl, h0⟩ | ⟨g, cap, cur, rfl, r⟩
  · rw [run_convert_bytes_string _ _ _ 5 _ _ _ Tryz.underlying82 Tryz.underlying5 Tryz.underlying9]
    obtain rfl : acc = [] := List.eq_nil_of_length_eq_zero h0
    simp [Conv.bytesToString, mkb]
    rfl
  · rw [run_convert_bytes_string _ _ _ 5 _ _ _ Tryz.underlying82 Tryz.underlying5 Tryz.underlying9]
    have hb : bc acc = (acc.map fun b => (b.toNat : Int)).map (Value.int .u8) := by simp [bc]
    have hl := run_loadCells_list (P := Tryz.prog) (w.drewN n) ⟨g, 0, none⟩ (bc acc) (fun j v hj => h.cells (g := g) rfl j v hj)
    rw [bc_len, hb] at hl
    rw [run_bytesToString _ _ _ _ _ hl, push_bytes]
    rw [show (ByteArray.empty).data = #[] from rfl, Array.empty_append, List.map_map]
    have e : acc.map ((fun n : Int => UInt8.ofNat n.toNat) ∘ fun b : UInt8 => (b.toNat : Int)) = acc := by
      conv => rhs; rw [← List.map_id acc]
      apply List.map_congr_left; intro b _; simp
    rw [e]; rfl

/-- What has been gone through tells acc; now it is at j. -/
def Lnk (l : List UInt8) (k : Nat) (acc : List UInt8) (j : Nat) : Prop := ∃ p, Bd p acc ∧ l.drop (k + 1) = p ++ l.drop j ∧ j = k + 1 + p.length
theorem Lnk.start (l : List UInt8) (k : Nat) : Lnk l k [] (k + 1) := ⟨[], .nil, rfl, rfl⟩
theorem Lnk.next {l : List UInt8} {k : Nat} {acc t : List UInt8} {j m : Nat} (h : Lnk l k acc j) (hq : (l.drop j).head? ≠ some 34) (hp : pce (l.drop j) = some (t, m)) : Lnk l k (acc ++ t) (j + m) := by
  obtain ⟨p, hb, he, hj⟩ := h
  obtain ⟨p', x, e1, rfl, hpc⟩ := pce_cut hq hp
  refine ⟨p ++ p', ?_, ?_, by simp; omega⟩
  · have := hb.append (.cons hpc .nil)
    simpa using this
  · have : l.drop (j + p'.length) = x := by rw [← List.drop_drop, e1, List.drop_left]
    rw [he, e1, this, List.append_assoc]
theorem Lnk.le {l : List UInt8} {k : Nat} {acc : List UInt8} {j : Nat} (h : Lnk l k acc j) : acc.length + (k + 1) ≤ j := by
  obtain ⟨p, hb, he, hj⟩ := h
  have := hb.le; omega
theorem strA_at {l : List UInt8} {k : Nat} (h : (l.drop k).head? = some 34) : strA l k = ⟨(bod (l.drop (k + 1))).v, (bod (l.drop (k + 1))).n + 1, (bod (l.drop (k + 1))).b⟩ := by
  rw [List.head?_drop] at h
  unfold strA; rw [if_pos ⟨by omega, by rw [Int.toNat_natCast]; exact h⟩]; rfl
theorem strA_no {l : List UInt8} {i : Int} (h : stI l i 34 = false) : strA l i = ⟨[], 0, false⟩ := by
  unfold strA; rw [if_neg]
  intro h2; rw [← stI_iff (c := 34)] at h2; exact absurd (h.symm.trans h2) (by decide)
theorem Lnk.quote {l : List UInt8} {k : Nat} {acc : List UInt8} {j : Nat} (h : Lnk l k acc j) (h0 : (l.drop k).head? = some 34) (hq : (l.drop j).head? = some 34) : strA l k = ⟨acc, j + 1 - k, true⟩ := by
  obtain ⟨p, hb, he, hj⟩ := h
  rw [strA_at h0, he, drop_cons hq, bod_ends hb]
  simp; omega
theorem Lnk.wrong {l : List UInt8} {k : Nat} {acc : List UInt8} {j : Nat} (h : Lnk l k acc j) (h0 : (l.drop k).head? = some 34) (hq : (l.drop j).head? ≠ some 34) (hp : pce (l.drop j) = none) : strA l k = ⟨[], j - k, false⟩ := by
  obtain ⟨p, hb, he, hj⟩ := h
  rw [strA_at h0, he, bod_open hb hq hp]
  simp; omega

/-- How the inner function ends. -/
def strE (r : Tx) (i : Int) : Ending := if r.b = true then .returned (.tuple #[.string (mkb r.v), .int .i64 (i + (r.n : Int))]) else wrE (i + (r.n : Int))

theorem qv_start (w : World) (k : Int) : QvE w w.heap.size (w.heap.size + 1) [] k ((w.alloc (.cells #[.slice none 0 0] 82)).alloc (.cells #[.int .i64 k] 3)) := by
  refine ⟨.slice none 0 0, ?_, ?_, World.ownsRow_nil _ _ _ _, by omega, by omega, bel_alloc (bel_alloc (Below.refl _ _) _) _⟩
  · (first | rw [heap_alloc_old _ _ _ (by simp)] | rw [heap_alloc_old _ _ (by simp)]); exact heap_alloc_new w _
  · have := heap_alloc_new (w.alloc (.cells #[.slice none 0 0] 82)) (.cells #[.int .i64 k] 3)
    rwa [World.size_alloc] at this

theorem plain_pce {l : List UInt8} (h : l.head? ≠ some 92) : ∃ c n, nxt l = (c, n) ∧ ((pce l = none ∧ (n = 0 ∨ c = 10 ∨ c = 13)) ∨ (pce l = some (l.take n, n) ∧ n ≠ 0 ∧ c ≠ 10 ∧ c ≠ 13)) := by
  obtain ⟨⟨c, n⟩, e⟩ : ∃ r, nxt l = r := ⟨_, rfl⟩
  refine ⟨c, n, e, ?_⟩
  unfold pce
  rw [if_neg h, e]
  by_cases hb : n = 0 ∨ c = 10 ∨ c = 13
  · exact .inl ⟨if_pos hb, hb⟩
  · exact .inr ⟨if_neg hb, fun h => hb (.inl h), fun h => hb (.inr (.inl h)), fun h => hb (.inr (.inr h))⟩

theorem plain_n2 {s : ByteArray} {k c n : Nat} (hk : k ≤ s.size) (h : nxt (s.data.toList.drop k) = (c, n)) (hb : n = 0 ∨ c = 10 ∨ c = 13) (w : World) :
    Calls Tryz.prog 133 #[.string s, .int .i64 k] w fun e w' => e = .panicked [{ v := .iface 133 (.int .i64 (k : Int)), recovered := false }] ∧ Below w.heap.size w w' := plain_n hk h hb w
theorem plain_y2 {s : ByteArray} {k c n : Nat} (hs : s.size ≤ 1000000) (hk : k ≤ s.size) (h : nxt (s.data.toList.drop k) = (c, n)) (h0 : n ≠ 0) (h1 : c ≠ 10) (h2 : c ≠ 13) (w : World) :
    Calls Tryz.prog 133 #[.string s, .int .i64 k] w fun e w' => e = .returned (.tuple #[.string (mkb ((s.data.toList.drop k).take n)), .int .i64 ((k : Int) + (n : Int))]) ∧ Below w.heap.size w w' := by
  have := plain_y hs hk h h0 h1 h2 w
  have e : s.extract k (k + n) = mkb ((s.data.toList.drop k).take n) := by
    rw [← mkb_of (s.extract k (k + n)), Lib.extract_data, Nat.add_sub_cancel_left]
  rw [e] at this
  exact this
theorem str_yes {acc : List UInt8} {k j : Nat} (h : k ≤ j) : strE ⟨acc, j + 1 - k, true⟩ k = .returned (.tuple #[.string (mkb acc), .int .i64 ((j : Int) + 1)]) := by
  have e : (k : Int) + ((j + 1 - k : Nat) : Int) = (j : Int) + 1 := by omega
  unfold strE; simp only [if_true]; rw [e]
theorem str_no {k j : Nat} (h : k ≤ j) : strE ⟨[], j - k, false⟩ k = .panicked [{ v := .iface 133 (.int .i64 (j : Int)), recovered := false }] := by
  have e : (k : Int) + ((j - k : Nat) : Int) = (j : Int) := by omega
  unfold strE; simp only [Bool.false_eq_true, if_false]; rw [e]; rfl

set_option maxHeartbeats 1000000 in
theorem quoted_any (s : ByteArray) (i : Int) (w : World) (hs : s.size ≤ 1000000) :
    Calls Tryz.prog 126 #[.string s, .int .i64 i] w fun e w' => e = strE (strA s.data.toList i) i ∧ Below w.heap.size w w' := by
  have hsz : s.data.toList.length = s.size := (Lib.size_eq s).symm
  have hmf : ∀ (fn : Fn) (first cap : Array Value) (w : World), (Instr.makeFunc fn first cap).run Tryz.prog w = .ok (.func fn first cap) w := fun _ _ _ _ => rfl
  cases h1 : stI s.data.toList i 34
  · rw [strA_no h1]
    have r1 := stands_b h1
    clear h1 hsz
    go_enter Tryz.func126, Tryz.ntmps126
    go_wp2_with fail
    (with_reducible refine (r1 _).mono ?_)
    rintro e w' ⟨rfl, rfl⟩
    go_wp2
    exact ⟨rfl, by unfold strE; simp [wrE], Below.refl _ _⟩
  have hin := stI_lt h1
  obtain ⟨k, rfl⟩ := Int.eq_ofNat_of_zero_le hin.1
  have r1 := stands_b h1
  have hk : k < s.size := by omega
  have hh := (stI_head (c := 34)).1 h1
  have HH := Lib.hid hh
  have HZ := Lib.hid hsz
  have HQ := Lib.hid (qv_start w ((k : Int) + 1))
  clear h1 hin hh hsz
  go_enter Tryz.func126, Tryz.ntmps126
  go_wp2_with fail
  (with_reducible refine (r1 _).mono ?_)
  rintro e w' ⟨rfl, rfl⟩
  go_wp2_with fail
  go_loopg [] (s.size - (k + 1)) (fun g wr => ∃ (j : Nat) (acc : List UInt8), g = s.size - j ∧ QvE w w.heap.size (w.heap.size + 1) acc j wr ∧ j ≤ s.size ∧ Lnk s.data.toList k acc j)
  case atStart => exact ⟨k + 1, [], rfl, HQ.out, by omega, Lnk.start _ _⟩
  case round =>
    obtain ⟨j, acc, hg, ⟨v, hq⟩, hj, hl⟩ := hrel
    have hle := hl.le
    have c1 := cell_of_one hq.ab
    have c2 := cell_of_one hq.tb
    have HL := Lib.hid hl
    have HV := Lib.hid hq
    have HG := Lib.hid hg
    clear hl hg r1 HQ
    cases h34 : stI s.data.toList j 34
    · have r1 := stands_b h34
      have n34 := not_st (c := 34) h34
      clear h34
      have HN := Lib.hid n34
      clear n34
      cases h92 : stI s.data.toList j 92
      · have r2 := stands_b h92
        obtain ⟨c, n, hn, ⟨hp, hb⟩ | ⟨hp, n0, n10, n13⟩⟩ := plain_pce (not_st (c := 92) h92)
        · have r3 := plain_n2 hj hn hb
          have hw := HL.out.wrong HH.out HN.out hp
          have HW := Lib.hid hw
          clear h92 hn hp hb hw hq c2
          go_wp2_with fail
          (with_reducible refine (r1 _).mono ?_)
          rintro e w' ⟨rfl, rfl⟩
          go_wp2_with fail
          (with_reducible refine (r2 _).mono ?_)
          rintro e w' ⟨rfl, rfl⟩
          go_wp2_with fail
          (with_reducible refine (r3 _).mono ?_)
          rintro e w1 ⟨rfl, hb1⟩
          go_wp2
          exact ⟨rfl, by rw [HW.out, str_no (by omega)], (HV.out.below hb1).bel⟩
        · have r3 := plain_y2 hs hj hn n0 n10 n13
          have hbd := pce_bd HN.out hp
          rw [List.length_drop, HZ.out] at hbd
          have hz : acc.length + (mkb ((s.data.toList.drop j).take n)).size ≤ 100000000 := by rw [mkb_size]; omega
          have HX := Lib.hid (HL.out.next HN.out hp)
          have b1 := hbd.1
          have b2 := hbd.2.1
          clear h92 hn hp hbd hq c2 n0 n10 n13
          go_wp2_with fail
          (with_reducible refine (r1 _).mono ?_)
          rintro e w' ⟨rfl, rfl⟩
          go_wp2_with fail
          (with_reducible refine (r2 _).mono ?_)
          rintro e w' ⟨rfl, rfl⟩
          go_wp2_with fail
          (with_reducible refine (r3 _).mono ?_)
          rintro e w1 ⟨rfl, hb1⟩
          have HV1 := Lib.hid (HV.out.below hb1)
          go_wp2_with fail
          (with_reducible refine (gather_any HV1.out.ex _ _ hz).mono ?_)
          rintro e w2 ⟨rfl, hq2⟩
          have HQ2 := Lib.hid hq2
          clear hq2
          go_wp2
          go_roundg (s.size - (j + n))
          case measure => rw [HG.out]; omega
          case rel => exact ⟨j + n, _, rfl, HQ2.out, by omega, HX.out⟩
      · have r2 := stands_b h92
        have ep := pce_esc ((stI_head (c := 92)).1 h92)
        rw [← escA_nat] at ep
        cases hp : escA s.data.toList j with
        | none =>
          have r3 := escaped_n hp hs
          have hw := HL.out.wrong HH.out HN.out (ep.trans hp)
          have HW := Lib.hid hw
          clear h92 hp hw hq c2 ep
          go_wp2_with fail
          (with_reducible refine (r1 _).mono ?_)
          rintro e w' ⟨rfl, rfl⟩
          go_wp2_with fail
          (with_reducible refine (r2 _).mono ?_)
          rintro e w' ⟨rfl, rfl⟩
          go_wp2_with fail
          (with_reducible refine (r3 _).mono ?_)
          rintro e w1 ⟨rfl, hb1⟩
          go_wp2
          exact ⟨rfl, by rw [HW.out, str_no (by omega)], (HV.out.below hb1).bel⟩
        | some q =>
          obtain ⟨t, m⟩ := q
          have r3 := escaped_y hp hs
          have hbd := pce_bd HN.out (ep.trans hp)
          rw [List.length_drop, HZ.out] at hbd
          have hz : acc.length + (mkb t).size ≤ 100000000 := by rw [mkb_size]; omega
          have HX := Lib.hid (HL.out.next HN.out (ep.trans hp))
          have b1 := hbd.1
          have b2 := hbd.2.1
          clear h92 hp hbd hq c2 ep
          go_wp2_with fail
          (with_reducible refine (r1 _).mono ?_)
          rintro e w' ⟨rfl, rfl⟩
          go_wp2_with fail
          (with_reducible refine (r2 _).mono ?_)
          rintro e w' ⟨rfl, rfl⟩
          go_wp2_with fail
          (with_reducible refine (r3 _).mono ?_)
          rintro e w1 ⟨rfl, hb1⟩
          have HV1 := Lib.hid (HV.out.below hb1)
          go_wp2_with fail
          (with_reducible refine (gather_any HV1.out.ex _ _ hz).mono ?_)
          rintro e w2 ⟨rfl, hq2⟩
          have HQ2 := Lib.hid hq2
          clear hq2
          go_wp2
          go_roundg (s.size - (j + m))
          case measure => rw [HG.out]; omega
          case rel => exact ⟨j + m, _, rfl, HQ2.out, by omega, HX.out⟩
    · have r1 := stands_b h34
      have hw := HL.out.quote HH.out ((stI_head (c := 34)).1 h34)
      have HW := Lib.hid hw
      have hcv := conv_own hq.ow
      have hwr : IntKind.i64.wrap ((j : Int) + 1) = (j : Int) + 1 := IntWalk.i64_in _ (by omega)
      clear h34 hw hq
      go_wp2_with fail
      (with_reducible refine (r1 _).mono ?_)
      rintro e w' ⟨rfl, rfl⟩
      go_wp2_with fail
      go_quiet (fail)
      go_wp2_with fail
      go_ret2
      refine ⟨?_, below_drewN HV.out.bel _⟩
      rw [HW.out, str_yes (by omega)]
      rfl
end Go.Proofs.YtpcijjdlppoblaaGreatDoor
