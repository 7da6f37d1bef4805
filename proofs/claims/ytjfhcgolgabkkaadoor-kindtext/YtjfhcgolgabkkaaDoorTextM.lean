/- Plain mathematics of layer 6: codes, escapes, strings. No program. -/
import Derived.Test.YtjfhcgolgabkkaaDoorUtfM
namespace Go.Proofs.YtjfhcgolgabkkaaDoor
set_option linter.unusedVariables false

/-- What a character of a code is worth. -/
def hxd (c : UInt8) : Option Nat :=
  if 48 ≤ c.toNat ∧ c.toNat ≤ 57 then some (c.toNat - 48)
  else if 97 ≤ c.toNat ∧ c.toNat ≤ 102 then some (c.toNat - 87)
  else if 65 ≤ c.toNat ∧ c.toNat ≤ 70 then some (c.toNat - 55)
  else none
theorem hxd_lt {c : UInt8} {n : Nat} (h : hxd c = some n) : n < 16 := by
  unfold hxd at h
  split at h
  · cases h; omega
  · split at h
    · cases h; omega
    · split at h
      · cases h; omega
      · cases h

/-- The code that l begins with. -/
def hx4 : List UInt8 → Option Nat
  | a :: b :: c :: d :: _ => (hxd a).bind fun x => (hxd b).bind fun y => (hxd c).bind fun z => (hxd d).bind fun u => some (((x * 16 + y) * 16 + z) * 16 + u)
  | _ => none
theorem hx4_some {l : List UInt8} {n : Nat} (h : hx4 l = some n) : ∃ a b c d t x y z u, l = a :: b :: c :: d :: t ∧ hxd a = some x ∧ hxd b = some y ∧ hxd c = some z ∧ hxd d = some u ∧ n = ((x * 16 + y) * 16 + z) * 16 + u := by
  match l, h with
  | a :: b :: c :: d :: t, h =>
    simp only [hx4, Option.bind_eq_some_iff] at h
    obtain ⟨x, hx, y, hy, z, hz, u, hu, h⟩ := h
    exact ⟨a, b, c, d, t, x, y, z, u, rfl, hx, hy, hz, hu, (Option.some.inj h).symm⟩
theorem hx4_of {a b c d : UInt8} {x y z u : Nat} (ha : hxd a = some x) (hb : hxd b = some y) (hc : hxd c = some z) (hd : hxd d = some u) (t : List UInt8) :
    hx4 (a :: b :: c :: d :: t) = some (((x * 16 + y) * 16 + z) * 16 + u) := by simp [hx4, ha, hb, hc, hd]
theorem hx4_lt {l : List UInt8} {n : Nat} (h : hx4 l = some n) : n < 65536 := by
  obtain ⟨a, b, c, d, t, x, y, z, u, -, hx, hy, hz, hu, rfl⟩ := hx4_some h
  have := hxd_lt hx; have := hxd_lt hy; have := hxd_lt hz; have := hxd_lt hu
  omega
theorem hx4_len {l : List UInt8} {n : Nat} (h : hx4 l = some n) : 4 ≤ l.length := by
  obtain ⟨a, b, c, d, t, x, y, z, u, rfl, -⟩ := hx4_some h
  simp
theorem hx4_stay {l : List UInt8} {n : Nat} (h : hx4 l = some n) (t : List UInt8) : hx4 (l.take 4 ++ t) = some n := by
  obtain ⟨a, b, c, d, t, x, y, z, u, rfl, hx, hy, hz, hu, rfl⟩ := hx4_some h
  exact hx4_of hx hy hz hu _
theorem hx4_short {l : List UInt8} (h : l.length < 4) : hx4 l = none := by
  cases e : hx4 l
  · rfl
  · have := hx4_len e; omega

/-- What one of the eight letters tells. -/
def shB (c : UInt8) : Option UInt8 :=
  if c = 34 ∨ c = 92 ∨ c = 47 then some c
  else if c = 98 then some 8
  else if c = 102 then some 12
  else if c = 110 then some 10
  else if c = 114 then some 13
  else if c = 116 then some 9
  else none

def loB (n : Nat) : Bool := decide (56320 ≤ n ∧ n ≤ 57343)
def hiB (n : Nat) : Bool := decide (55296 ≤ n ∧ n < 56320)
theorem loB_iff {n : Nat} : loB n = true ↔ 56320 ≤ n ∧ n ≤ 57343 := by simp [loB]
theorem hiB_iff {n : Nat} : hiB n = true ↔ 55296 ≤ n ∧ n < 56320 := by simp [hiB]
theorem loB_no {n : Nat} : loB n = false ↔ ¬ (56320 ≤ n ∧ n ≤ 57343) := by simp [loB]
theorem hiB_no {n : Nat} : hiB n = false ↔ ¬ (55296 ≤ n ∧ n < 56320) := by simp [hiB]

/-- The bytes of a code's character. -/
def putC (n : Nat) : List UInt8 := if n < 32 then [UInt8.ofNat n] else enc n
/-- The character of two codes. -/
def two (n m : Nat) : Nat := 65536 + 1024 * (n - 55296) + (m - 56320)

/-- The code behind a backslash and a u. -/
def cod : List UInt8 → Option Nat
  | a :: b :: t => if a = 92 ∧ b = 117 then hx4 t else none
  | _ => none
theorem cod_some {l : List UInt8} {n : Nat} (h : cod l = some n) : ∃ t, l = 92 :: 117 :: t ∧ hx4 t = some n := by
  match l, h with
  | a :: b :: t, h =>
    simp only [cod] at h
    split at h
    · rename_i hab; obtain ⟨rfl, rfl⟩ := hab; exact ⟨t, rfl, h⟩
    · cases h
theorem cod_of {t : List UInt8} : cod (92 :: 117 :: t) = hx4 t := by simp [cod]

/-- What a u escape tells, and how many bytes it has. -/
def uni (l : List UInt8) : Option (List UInt8 × Nat) :=
  (cod l).bind fun n =>
    if loB n = true then none
    else if hiB n = true then (cod (l.drop 6)).bind fun m => if loB m = true then some (enc (two n m), 12) else none
    else some (putC n, 6)
/-- What an escape tells, and how many bytes it has. -/
def esc : List UInt8 → Option (List UInt8 × Nat)
  | a :: c :: t => if a = 92 then (if c = 117 then uni (a :: c :: t) else (shB c).bind fun b => some ([b], 2)) else none
  | _ => none
/-- What stands next in a string that is no quote. -/
def pce (l : List UInt8) : Option (List UInt8 × Nat) :=
  if l.head? = some 92 then esc l
  else if (nxt l).2 = 0 ∨ (nxt l).1 = 10 ∨ (nxt l).1 = 13 then none
  else some (l.take (nxt l).2, (nxt l).2)

/-- p is a piece of a string, that tells t, whatever stands behind. -/
structure Pc (p t : List UInt8) : Prop where
  pos : 1 ≤ p.length
  no : p.head? ≠ some 34
  le : t.length ≤ p.length
  is : ∀ x, pce (p ++ x) = some (t, p.length)

theorem uni_some {l t : List UInt8} {k : Nat} (h : uni l = some (t, k)) :
    (∃ n, cod l = some n ∧ loB n = false ∧ hiB n = false ∧ t = putC n ∧ k = 6) ∨
    (∃ n m, cod l = some n ∧ hiB n = true ∧ cod (l.drop 6) = some m ∧ loB m = true ∧ t = enc (two n m) ∧ k = 12) := by
  unfold uni at h
  rw [Option.bind_eq_some_iff] at h
  obtain ⟨n, hn, h⟩ := h
  split at h
  · cases h
  · rename_i h1
    split at h
    · rename_i h2
      rw [Option.bind_eq_some_iff] at h
      obtain ⟨m, hm, h⟩ := h
      split at h
      · rename_i h3
        simp only [Option.some.injEq, Prod.mk.injEq] at h
        exact .inr ⟨n, m, hn, h2, hm, h3, h.1.symm, h.2.symm⟩
      · cases h
    · rename_i h2; cases h
      exact .inl ⟨n, hn, by simpa using h1, by simpa using h2, rfl, rfl⟩
theorem uni_one {l : List UInt8} {n : Nat} (h : cod l = some n) (h1 : loB n = false) (h2 : hiB n = false) : uni l = some (putC n, 6) := by simp [uni, h, h1, h2]
theorem hi_lo {n : Nat} (h : hiB n = true) : loB n = false := by rw [hiB_iff] at h; rw [loB_no]; omega
theorem uni_two {l : List UInt8} {n m : Nat} (h : cod l = some n) (h2 : hiB n = true) (h3 : cod (l.drop 6) = some m) (h4 : loB m = true) : uni l = some (enc (two n m), 12) := by
  unfold uni; simp [h, hi_lo h2, h2, h3, h4]
theorem uni_n1 {l : List UInt8} (h : cod l = none) : uni l = none := by simp [uni, h]
theorem uni_n2 {l : List UInt8} {n : Nat} (h : cod l = some n) (h1 : loB n = true) : uni l = none := by simp [uni, h, h1]
theorem uni_n3 {l : List UInt8} {n : Nat} (h : cod l = some n) (h1 : hiB n = true) (h2 : cod (l.drop 6) = none) : uni l = none := by unfold uni; simp [h, h1, h2]
theorem uni_n4 {l : List UInt8} {n m : Nat} (h : cod l = some n) (h1 : hiB n = true) (h2 : cod (l.drop 6) = some m) (h3 : loB m = false) : uni l = none := by unfold uni; simp [h, h1, h2, h3]

theorem two_bd {n m : Nat} (h : hiB n = true) (k : loB m = true) : 65536 ≤ two n m ∧ two n m ≤ 1114111 ∧ srcB (two n m) = true := by
  rw [hiB_iff] at h; rw [loB_iff] at k
  refine ⟨?_, ?_, ?_⟩
  · unfold two; omega
  · unfold two; omega
  · rw [srcB_iff]; unfold two; omega
theorem enc_four {c : Nat} (h : 65536 ≤ c) : (enc c).length = 4 := by rw [enc4 h]; rfl
theorem put_src {n : Nat} (h : n < 65536) (h1 : loB n = false) (h2 : hiB n = false) (h3 : 32 ≤ n) : srcB n = true := by
  rw [loB_no] at h1; rw [hiB_no] at h2; rw [srcB_iff]; omega
theorem putC_len {n : Nat} (h : n < 65536) : 1 ≤ (putC n).length ∧ (putC n).length ≤ 3 := by
  unfold putC
  split
  · simp
  · rw [enc_len]; repeat' split
    all_goals omega

theorem take_append_len {p x : List UInt8} : (p ++ x).take p.length = p := by simp
/-- A code behind a backslash and a u, whatever stands behind. -/
theorem cod_cut {l : List UInt8} {n : Nat} (h : cod l = some n) : ∃ q, q.length = 4 ∧ l = 92 :: 117 :: (q ++ l.drop 6) ∧ ∀ x, hx4 (q ++ x) = some n := by
  obtain ⟨t, rfl, ht⟩ := cod_some h
  obtain ⟨a, b, c, d, t, x, y, z, u, rfl, hx, hy, hz, hu, rfl⟩ := hx4_some ht
  exact ⟨[a, b, c, d], rfl, rfl, fun r => hx4_of hx hy hz hu r⟩

theorem esc_uni {t : List UInt8} : esc (92 :: 117 :: t) = uni (92 :: 117 :: t) := by simp [esc]
theorem esc_sh {c : UInt8} (h : c ≠ 117) (t : List UInt8) : esc (92 :: c :: t) = (shB c).bind fun b => some ([b], 2) := by simp [esc, h]
theorem pce_esc {l : List UInt8} (h : l.head? = some 92) : pce l = esc l := by simp [pce, h]
theorem esc_head {l t : List UInt8} {k : Nat} (h : esc l = some (t, k)) : l.head? = some 92 := by
  match l, h with
  | a :: c :: t, h =>
    simp only [esc] at h
    split at h
    · rename_i h9; rw [h9]; rfl
    · cases h

theorem esc_cut {l t : List UInt8} {k : Nat} (h : esc l = some (t, k)) : ∃ p x, l = p ++ x ∧ p.length = k ∧ Pc p t := by
  have hh := esc_head h
  match l, h, hh with
  | a :: c :: r, h, hh =>
    obtain rfl : a = 92 := by simpa using hh
    by_cases hc : c = 117
    · subst hc
      rw [esc_uni] at h
      rcases uni_some h with ⟨n, hn, h1, h2, rfl, rfl⟩ | ⟨n, m, hn, h2, hm, h3, ht, hk⟩
      · obtain ⟨q, hq, hl, hx⟩ := cod_cut hn
        have hb := (hx4_lt (hx []))
        have hp := putC_len hb
        refine ⟨92 :: 117 :: q, (92 :: 117 :: r).drop 6, hl, by simp [hq], ⟨by simp, by simp, by simp [hq]; omega, fun x => ?_⟩⟩
        rw [pce_esc (by rfl)]
        show esc (92 :: 117 :: (q ++ x)) = _
        rw [esc_uni, uni_one (cod_of.trans (hx x)) h1 h2]
        simp [hq]
      · obtain ⟨q, hq, hl, hx⟩ := cod_cut hn
        obtain ⟨q', hq', hl', hx'⟩ := cod_cut hm
        rw [hl'] at hl
        refine ⟨92 :: 117 :: (q ++ 92 :: 117 :: q'), ((92 :: 117 :: r).drop 6).drop 6, by refine hl.trans ?_; simp, by rw [hk]; simp [hq, hq'], ⟨by simp, by simp, ?_, fun x => ?_⟩⟩
        · rw [ht, enc_four (two_bd h2 h3).1]; simp [hq, hq']
        · rw [pce_esc (by rfl)]
          have e : (92 :: 117 :: (q ++ 92 :: 117 :: q')) ++ x = 92 :: 117 :: (q ++ (92 :: 117 :: (q' ++ x))) := by simp
          have ed : (92 :: 117 :: (q ++ (92 :: 117 :: (q' ++ x)))).drop 6 = 92 :: 117 :: (q' ++ x) := by
            show (q ++ (92 :: 117 :: (q' ++ x))).drop 4 = _
            rw [← hq, List.drop_left]
          rw [e, esc_uni, uni_two (cod_of.trans (hx _)) h2 (by rw [ed]; exact cod_of.trans (hx' x)) h3, ht]
          simp [hq, hq']
    · rw [esc_sh hc, Option.bind_eq_some_iff] at h
      obtain ⟨b, hb, h⟩ := h
      cases h
      refine ⟨[92, c], r, rfl, rfl, ⟨by simp, by simp, by simp, fun x => ?_⟩⟩
      rw [pce_esc (by rfl)]
      show esc (92 :: c :: x) = _
      rw [esc_sh hc, hb]; rfl

/-- A character that is no quote, no backslash, and no end of a line. -/
theorem Is.piece {p : List UInt8} {c : Nat} (hs : srcB c = true) (hp : p = enc c) (h34 : p.head? ≠ some 34) (h92 : p.head? ≠ some 92) (h10 : c ≠ 10) (h13 : c ≠ 13) : Pc p p := by
  have hl := enc_pos c
  refine ⟨by rw [hp]; exact hl.1, h34, Nat.le_refl _, fun x => ?_⟩
  have hn := nxt_is (is_enc hs x)
  rw [← hp] at hn
  have hh : (p ++ x).head? = p.head? := by
    cases p with
    | nil => rw [← hp] at hl; simp at hl
    | cons a t => rfl
  unfold pce
  rw [if_neg (by rw [hh]; exact h92), hn, if_neg (by rw [hp]; simp only [h10, h13, or_false]; omega), List.take_left]

theorem pce_cut {l t : List UInt8} {k : Nat} (hq : l.head? ≠ some 34) (h : pce l = some (t, k)) : ∃ p x, l = p ++ x ∧ p.length = k ∧ Pc p t := by
  by_cases h92 : l.head? = some 92
  · rw [pce_esc h92] at h; exact esc_cut h
  · unfold pce at h
    rw [if_neg h92] at h
    split at h
    · cases h
    · rename_i hn
      rcases nxt_cases l with ⟨c, hc, e⟩ | ⟨_, e⟩
      · rw [e] at h hn
        cases h
        obtain ⟨hs, r, hr⟩ := hc
        have hl := enc_pos c
        have ht : l.take (enc c).length = enc c := by rw [← hr, List.take_left]
        have hh : (enc c).head? = l.head? := by
          rw [← hr]
          cases e2 : enc c with
          | nil => rw [e2] at hl; simp at hl
          | cons a t => rfl
        refine ⟨enc c, r, hr.symm, rfl, ?_⟩
        show Pc (enc c) (l.take (enc c).length)
        rw [ht]
        exact Is.piece hs rfl (by rw [hh]; exact hq) (by rw [hh]; exact h92) (fun e => hn (.inr (.inl e))) (fun e => hn (.inr (.inr e)))
      · rw [e] at hn; exact absurd (.inl rfl) hn
theorem pce_bd {l t : List UInt8} {k : Nat} (hq : l.head? ≠ some 34) (h : pce l = some (t, k)) : 1 ≤ k ∧ k ≤ l.length ∧ t.length ≤ k := by
  obtain ⟨p, x, rfl, rfl, hp⟩ := pce_cut hq h
  exact ⟨hp.pos, by simp, hp.le⟩

/-- What is told from a place behind the first quote on: the text, how many bytes it takes, with the quote; or how many there are ahead of where it goes wrong. -/
structure Tx where
  v : List UInt8
  n : Nat
  b : Bool

def bodF : Nat → List UInt8 → Tx
  | 0, _ => ⟨[], 0, false⟩
  | f + 1, l =>
    if l.head? = some 34 then ⟨[], 1, true⟩
    else match pce l with
      | none => ⟨[], 0, false⟩
      | some (t, k) => let r := bodF f (l.drop k); ⟨if r.b = true then t ++ r.v else [], k + r.n, r.b⟩
def bod (l : List UInt8) : Tx := bodF (l.length + 1) l

theorem bodF_more {f g : Nat} {l : List UInt8} (hf : l.length < f) (hg : l.length < g) : bodF f l = bodF g l := by
  induction f generalizing g l with
  | zero => omega
  | succ f ih =>
    cases g with
    | zero => omega
    | succ g =>
      unfold bodF
      split
      · rfl
      · rename_i hq
        cases hp : pce l with
        | none => rfl
        | some q =>
          obtain ⟨t, k⟩ := q
          have := pce_bd hq hp
          simp only
          rw [ih (g := g) (l := l.drop k) (by simp; omega) (by simp; omega)]
theorem bod_quote {l : List UInt8} (h : l.head? = some 34) : bod l = ⟨[], 1, true⟩ := by unfold bod bodF; rw [if_pos h]
theorem bod_none {l : List UInt8} (hq : l.head? ≠ some 34) (h : pce l = none) : bod l = ⟨[], 0, false⟩ := by unfold bod bodF; rw [if_neg hq, h]
theorem bod_some {l t : List UInt8} {k : Nat} (hq : l.head? ≠ some 34) (h : pce l = some (t, k)) :
    bod l = ⟨if (bod (l.drop k)).b = true then t ++ (bod (l.drop k)).v else [], k + (bod (l.drop k)).n, (bod (l.drop k)).b⟩ := by
  have hb := pce_bd hq h
  have e : bodF l.length (l.drop k) = bod (l.drop k) := bodF_more (by simp; omega) (by simp)
  conv => lhs; unfold bod bodF
  rw [if_neg hq, h]
  simp only [e]

/-- p is what stands between the quotes of a string that tells v. -/
inductive Bd : List UInt8 → List UInt8 → Prop
  | nil : Bd [] []
  | cons {p t q v : List UInt8} : Pc p t → Bd q v → Bd (p ++ q) (t ++ v)
theorem Bd.append {p v q u : List UInt8} (h : Bd p v) (k : Bd q u) : Bd (p ++ q) (v ++ u) := by
  induction h with
  | nil => exact k
  | cons hp _ ih => rw [List.append_assoc, List.append_assoc]; exact .cons hp ih
theorem Bd.le {p v : List UInt8} (h : Bd p v) : v.length ≤ p.length := by
  induction h with
  | nil => simp
  | cons hp _ ih => have := hp.le; simp; omega
theorem Pc.head {p t : List UInt8} (h : Pc p t) (x : List UInt8) : (p ++ x).head? ≠ some 34 := by
  cases p with
  | nil => have := h.pos; simp at this
  | cons a p => exact h.no
theorem Bd.then {p v : List UInt8} (h : Bd p v) (x : List UInt8) : bod (p ++ x) = ⟨if (bod x).b = true then v ++ (bod x).v else [], p.length + (bod x).n, (bod x).b⟩ := by
  induction h with
  | nil => cases e : bod x; rename_i v n b
           cases b
           · simp only [List.nil_append, e, List.length_nil, Nat.zero_add, Bool.false_eq_true, if_false]
             congr 1
             induction hn : x.length using Nat.strongRecOn generalizing x v n with
             | _ m ih =>
               by_cases hq : x.head? = some 34
               · rw [bod_quote hq] at e; cases e
               · cases hp : pce x with
                 | none => rw [bod_none hq hp] at e; cases e; rfl
                 | some r =>
                   obtain ⟨t, k⟩ := r
                   rw [bod_some hq hp] at e
                   injection e with e1 e2 e3
                   rw [e3] at e1; simpa using e1.symm
           · simp [e]
  | @cons p t q v hp hq ih =>
    rw [List.append_assoc, bod_some (hp.head _) (hp.is _), List.drop_left, ih]
    split
    · simp [Nat.add_assoc]
    · rename_i h; simp [h, Nat.add_assoc]
theorem bod_no {l : List UInt8} (h : (bod l).b = false) : (bod l).v = [] := by
  have := Bd.then .nil l
  rw [List.nil_append, h] at this
  rw [this]; rfl
theorem bod_ends {p v : List UInt8} (h : Bd p v) (x : List UInt8) : bod (p ++ 34 :: x) = ⟨v, p.length + 1, true⟩ := by
  rw [h.then, bod_quote (by rfl)]; simp
theorem bod_open {p v x : List UInt8} (h : Bd p v) (hq : x.head? ≠ some 34) (hx : pce x = none) : bod (p ++ x) = ⟨[], p.length, false⟩ := by
  rw [h.then, bod_none hq hx]; simp
theorem bod_cut (l : List UInt8) : ∃ p v x, l = p ++ x ∧ Bd p v ∧ ((∃ y, x = 34 :: y ∧ bod l = ⟨v, p.length + 1, true⟩) ∨ (x.head? ≠ some 34 ∧ pce x = none ∧ bod l = ⟨[], p.length, false⟩)) := by
  induction hn : l.length using Nat.strongRecOn generalizing l with
  | _ m ih =>
    subst hn
    by_cases hq : l.head? = some 34
    · cases l with
      | nil => simp at hq
      | cons a y =>
        obtain rfl : a = 34 := by simpa using hq
        exact ⟨[], [], 34 :: y, rfl, .nil, .inl ⟨y, rfl, bod_ends .nil y⟩⟩
    · cases hp : pce l with
      | none => exact ⟨[], [], l, rfl, .nil, .inr ⟨hq, hp, bod_open .nil hq hp⟩⟩
      | some r =>
        obtain ⟨t, k⟩ := r
        obtain ⟨p, x, rfl, rfl, hpc⟩ := pce_cut hq hp
        have hpos := hpc.pos
        obtain ⟨p', v, y, rfl, hb, hc⟩ := ih x.length (by simp; omega) x rfl
        refine ⟨p ++ p', t ++ v, y, by simp, .cons hpc hb, ?_⟩
        rcases hc with ⟨z, rfl, e⟩ | ⟨h1, h2, e⟩
        · refine .inl ⟨z, rfl, ?_⟩
          rw [← List.append_assoc]; exact bod_ends (.cons hpc hb) z
        · refine .inr ⟨h1, h2, ?_⟩
          rw [← List.append_assoc]; exact bod_open (.cons hpc hb) h1 h2
theorem pce_nil : pce [] = none := by unfold pce; rw [if_neg (by simp), nxt_nil]; rfl
theorem bod_le (l : List UInt8) : (bod l).n ≤ l.length ∧ (bod l).v.length ≤ l.length := by
  obtain ⟨p, v, x, rfl, hb, ⟨y, rfl, e⟩ | ⟨_, _, e⟩⟩ := bod_cut l
  · rw [e]; have := hb.le; simp; omega
  · rw [e]; simp

/-- What the program's Hex, Escape and String answer. -/
def hexA (l : List UInt8) (i : Int) : Option Nat := if 0 ≤ i then hx4 (l.drop i.toNat) else none
def escA (l : List UInt8) (i : Int) : Option (List UInt8 × Nat) := if 0 ≤ i then esc (l.drop i.toNat) else none
def strA (l : List UInt8) (i : Int) : Tx := if 0 ≤ i ∧ l[i.toNat]? = some 34 then (let r := bod (l.drop (i.toNat + 1)); ⟨r.v, r.n + 1, r.b⟩) else ⟨[], 0, false⟩
end Go.Proofs.YtjfhcgolgabkkaaDoor
