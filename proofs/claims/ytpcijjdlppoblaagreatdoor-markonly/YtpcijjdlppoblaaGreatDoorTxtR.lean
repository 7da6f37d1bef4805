/- Bits: what is printed of tokens (plain mathematics). -/
import Derived.Test.YtpcijjdlppoblaaGreatDoorTokR
import Derived.Test.YtpcijjdlppoblaaGreatDoorQuoC
import Derived.Test.YtpcijjdlppoblaaGreatDoorYieN
import Derived.Laws.AppendOwnNone
namespace Go.Proofs.YtpcijjdlppoblaaGreatDoor
open Go.RowKit
set_option linter.unusedVariables false
set_option maxRecDepth 100000

/-- A bit as it lies in a row. -/
structure Bq where
  m : Int
  v : ByteArray
/-- No text. -/
def noV : ByteArray := ⟨#[]⟩
/-- What is shown of a token. -/
def shQ (t : Tq) : Option ByteArray := if t.k = 5 then (qtA t.v.data.toList).map (fun cs => mkb (quo cs)) else some t.v
/-- The bits of symbols and tokens. -/
def btF : List Sq → List Tq → Option (List Bq)
  | [], _ => some []
  | s :: X, ts => if s.k = 3 then (btF X ts).map (⟨s.n, noV⟩ :: ·) else match ts with
      | [] => none
      | t :: ts' => match shQ t with
        | none => none
        | some v => (btF X ts').map (⟨0, v⟩ :: ·)
theorem btF_nil (ts : List Tq) : btF [] ts = some [] := rfl
theorem btF_mark {s : Sq} (X : List Sq) (ts : List Tq) (h : s.k = 3) : btF (s :: X) ts = (btF X ts).map (⟨s.n, noV⟩ :: ·) := by simp only [btF, if_pos h]
theorem btF_text {s : Sq} (X : List Sq) {t : Tq} (ts : List Tq) {v : ByteArray} (h : s.k ≠ 3) (hv : shQ t = some v) : btF (s :: X) (t :: ts) = (btF X ts).map (⟨0, v⟩ :: ·) := by
  simp only [btF, if_neg h, hv]
theorem btF_none {s : Sq} (X : List Sq) {t : Tq} (ts : List Tq) (h : s.k ≠ 3) (hv : shQ t = none) : btF (s :: X) (t :: ts) = none := by
  simp only [btF, if_neg h, hv]
theorem btF_over {s : Sq} (X : List Sq) (h : s.k ≠ 3) : btF (s :: X) [] = none := by simp only [btF, if_neg h]
/-- The texts of bits. -/
def txL (l : List Bq) : List ByteArray := l.filterMap fun b => if b.m = 0 then some b.v else none
theorem txL_nil : txL [] = [] := rfl
theorem txL_text {b : Bq} (l : List Bq) (h : b.m = 0) : txL (b :: l) = b.v :: txL l := by simp [txL, h]
theorem txL_mark {b : Bq} (l : List Bq) (h : b.m ≠ 0) : txL (b :: l) = txL l := by simp [txL, h]
theorem txL_app (a b : List Bq) : txL (a ++ b) = txL a ++ txL b := List.filterMap_append ..
theorem txL_le (l : List Bq) : (txL l).length ≤ l.length := List.length_filterMap_le _ _
theorem txL_next {l : List Bq} {k : Nat} {b : Bq} (h : l[k]? = some b) : txL (l.take (k + 1)) = txL (l.take k) ++ (if b.m = 0 then [b.v] else []) := by
  rw [List.take_add_one, h, txL_app]
  congr 1
  by_cases e : b.m = 0
  · rw [if_pos e]; exact txL_text [] e
  · rw [if_neg e]; exact txL_mark [] e

/-- By how much a mark opens, or goes in. -/
def dO (m : Int) : Int := if m = 6 then 1 else if m = 7 then -1 else 0
def dI (m : Int) : Int := if m = 8 then 1 else if m = 9 then -1 else 0
/-- May a bit stand? -/
def okB (b : Bq) : Bool := decide (0 ≤ b.m) && decide (b.m < 10) && (decide (b.v.size = 0) || decide (b.m = 0))
/-- May bits be printed, behind o that are open and i that went in? -/
def mayF : Int → Int → List Bq → Bool
  | o, i, [] => o == 0 && i == 0
  | o, i, b :: l => okB b && decide (0 ≤ o + dO b.m) && decide (0 ≤ i + dI b.m) && mayF (o + dO b.m) (i + dI b.m) l
def mayL (l : List Bq) : Bool := decide (l.length ≤ 4000) && mayF 0 0 l
theorem mayF_bad {b : Bq} (o i : Int) (l : List Bq) (h : okB b = false) : mayF o i (b :: l) = false := by rw [mayF, h]; rfl
theorem mayF_over {b : Bq} {o i : Int} (l : List Bq) (h : ¬ (0 ≤ o + dO b.m ∧ 0 ≤ i + dI b.m)) : mayF o i (b :: l) = false := by
  rw [mayF]
  by_cases h1 : 0 ≤ o + dO b.m
  · rw [decide_eq_false (p := 0 ≤ i + dI b.m) (fun h2 => h ⟨h1, h2⟩)]; simp
  · rw [decide_eq_false h1]; simp
theorem mayF_on {b : Bq} {o i : Int} (l : List Bq) (h : okB b = true) (h1 : 0 ≤ o + dO b.m) (h2 : 0 ≤ i + dI b.m) : mayF o i (b :: l) = mayF (o + dO b.m) (i + dI b.m) l := by
  rw [mayF, h, decide_eq_true h1, decide_eq_true h2]; rfl
theorem mayF_parts {b : Bq} {o i : Int} {l : List Bq} (h : mayF o i (b :: l) = true) : okB b = true ∧ 0 ≤ o + dO b.m ∧ 0 ≤ i + dI b.m ∧ mayF (o + dO b.m) (i + dI b.m) l = true := by
  rw [mayF, Bool.and_eq_true, Bool.and_eq_true, Bool.and_eq_true, decide_eq_true_eq, decide_eq_true_eq] at h
  exact ⟨h.1.1.1, h.1.1.2, h.1.2, h.2⟩
/-- Others behind bits that may be printed. -/
theorem mayF_app {a : List Bq} : ∀ {o i : Int} (p q : Int) (b : List Bq), mayF o i a = true → 0 ≤ p → 0 ≤ q → mayF (o + p) (i + q) (a ++ b) = mayF p q b := by
  induction a with
  | nil =>
    intro o i p q b h hp hq
    rw [mayF, Bool.and_eq_true, beq_iff_eq, beq_iff_eq] at h
    rw [h.1, h.2, Int.zero_add, Int.zero_add]; rfl
  | cons x a ih =>
    intro o i p q b h hp hq
    obtain ⟨h1, h2, h3, h4⟩ := mayF_parts h
    rw [List.cons_append, mayF_on _ h1 (by omega) (by omega), ← ih p q b h4 hp hq]
    congr 1 <;> omega
/-- What is open in the end. -/
theorem mayF_end {l : List Bq} : ∀ {o i o' i' : Int}, mayF o i l = true → mayF o' i' l = true → o = o' ∧ i = i' := by
  induction l with
  | nil =>
    intro o i o' i' h h'
    rw [mayF, Bool.and_eq_true, beq_iff_eq, beq_iff_eq] at h h'
    omega
  | cons x l ih =>
    intro o i o' i' h h'
    obtain ⟨-, -, -, h4⟩ := mayF_parts h
    obtain ⟨-, -, -, h5⟩ := mayF_parts h'
    have := ih h4 h5
    omega
/-- Without the first one, if that opens, they may not. -/
theorem mayF_first {b : Bq} {l : List Bq} (h : mayF 0 0 (b :: l) = true) (hb : b.m = 6 ∨ b.m = 8) : mayF 0 0 l = false := by
  cases h2 : mayF 0 0 l
  · rfl
  · obtain ⟨-, -, -, h4⟩ := mayF_parts h
    obtain ⟨e1, e2⟩ := mayF_end h4 h2
    rcases hb with e | e <;> rw [e] at e1 e2
    · exact absurd e1 (by decide)
    · exact absurd e2 (by decide)
/-- In a group. -/
theorem mayF_group {a : List Bq} (h : mayF 0 0 a = true) : mayF 0 0 (⟨6, noV⟩ :: (a ++ [⟨7, noV⟩])) = true := by
  rw [mayF_on _ (by decide) (by decide) (by decide)]
  have := mayF_app 1 0 [⟨7, noV⟩] h (by decide) (by decide)
  exact this.trans (by decide)
/-- A mark with a text. -/
theorem mayF_spoilt {b : Bq} (h : okB b = false) {a : List Bq} : ∀ o i : Int, mayF o i (a ++ [b]) = false := by
  induction a with
  | nil => intro o i; exact mayF_bad _ _ _ h
  | cons x a ih => intro o i; rw [List.cons_append, mayF, ih]; simp
theorem mayL_nil : mayL [] = true := by decide
theorem mayL_yes {l : List Bq} (h : mayL l = true) : mayF 0 0 l = true := by rw [mayL, Bool.and_eq_true] at h; exact h.2
theorem mayL_is {l : List Bq} (h : l.length ≤ 4000) : mayL l = mayF 0 0 l := by rw [mayL, decide_eq_true h]; rfl
theorem mayL_app {a : List Bq} (b : List Bq) (h : mayL a = true) (hl : (a ++ b).length ≤ 4000) : mayL (a ++ b) = mayL b := by
  rw [mayL_is hl, mayL_is (by rw [List.length_append] at hl; omega)]
  exact mayF_app 0 0 b (mayL_yes h) (Int.le_refl _) (Int.le_refl _)
theorem mayL_first {b : Bq} {l : List Bq} (h : mayL (b :: l) = true) (hb : b.m = 6 ∨ b.m = 8) : mayL l = false := by
  rw [mayL, mayF_first (mayL_yes h) hb]; simp
theorem mayL_spoilt {b : Bq} (h : okB b = false) (a : List Bq) : mayL (a ++ [b]) = false := by rw [mayL, mayF_spoilt h]; simp
theorem mayL_group {a : List Bq} (h : mayL a = true) (hl : a.length ≤ 1998) : mayL (⟨6, noV⟩ :: (a ++ [⟨7, noV⟩])) = true := by
  rw [mayL_is (by simp; omega)]; exact mayF_group (mayL_yes h)

/-- What is open, and what went in, behind symbols. -/
def balF : Int → Int → List Sq → Option (Int × Int)
  | o, i, [] => some (o, i)
  | o, i, s :: X => if s.k = 3 then (if 1 ≤ s.n ∧ s.n ≤ 9 ∧ 0 ≤ o + dO s.n ∧ 0 ≤ i + dI s.n then balF (o + dO s.n) (i + dI s.n) X else none) else balF o i X
theorem balF_mark {s : Sq} {X : List Sq} {o i : Int} (h : s.k = 3) {p : Int × Int} : balF o i (s :: X) = some p ↔ (1 ≤ s.n ∧ s.n ≤ 9 ∧ 0 ≤ o + dO s.n ∧ 0 ≤ i + dI s.n) ∧ balF (o + dO s.n) (i + dI s.n) X = some p := by
  rw [balF, if_pos h]
  by_cases c : 1 ≤ s.n ∧ s.n ≤ 9 ∧ 0 ≤ o + dO s.n ∧ 0 ≤ i + dI s.n
  · rw [if_pos c]; exact ⟨fun e => ⟨c, e⟩, fun e => e.2⟩
  · rw [if_neg c]; exact ⟨fun e => (by cases e), fun e => absurd e.1 c⟩
theorem balF_skip {s : Sq} (X : List Sq) (o i : Int) (h : s.k ≠ 3) : balF o i (s :: X) = balF o i X := by rw [balF, if_neg h]
theorem balF_shift {X : List Sq} : ∀ {o i o' i' : Int} (p q : Int), balF o i X = some (o', i') → 0 ≤ p → 0 ≤ q → balF (o + p) (i + q) X = some (o' + p, i' + q) := by
  induction X with
  | nil => intro o i o' i' p q h hp hq; cases h; rfl
  | cons s X ih =>
    intro o i o' i' p q h hp hq
    by_cases hk : s.k = 3
    · obtain ⟨⟨h1, h2, h3, h4⟩, h5⟩ := (balF_mark hk).1 h
      refine (balF_mark hk).2 ⟨⟨h1, h2, by omega, by omega⟩, ?_⟩
      rw [← ih p q h5 hp hq]
      congr 1 <;> omega
    · rw [balF_skip _ _ _ hk] at h ⊢
      exact ih p q h hp hq
theorem balF_app {X : List Sq} : ∀ {o i o' i' : Int} (Y : List Sq), balF o i X = some (o', i') → balF o i (X ++ Y) = balF o' i' Y := by
  induction X with
  | nil => intro o i o' i' Y h; cases h; rfl
  | cons s X ih =>
    intro o i o' i' Y h
    by_cases hk : s.k = 3
    · obtain ⟨h1, h5⟩ := (balF_mark hk).1 h
      rw [List.cons_append, balF, if_pos hk, if_pos h1]
      exact ih Y h5
    · rw [balF_skip _ _ _ hk] at h
      rw [List.cons_append, balF_skip _ _ _ hk]
      exact ih Y h
theorem bal_dec : ∀ a, a < 90 → balF 0 0 (symR a) = some (0, 0) := by decide +kernel
/-- Each rule closes what it opens. -/
theorem bal_rule {v i : Int} (h : isR v i = true) {o q : Int} (ho : 0 ≤ o) (hq : 0 ≤ q) : balF o q (symI i) = some (o, q) := by
  obtain ⟨a, rfl, h1, -⟩ := isR_yes h
  rw [symI_at]
  have := balF_shift o q (bal_dec a h1) ho hq
  simpa using this
theorem Der.bal {S out : List Sq} {R Z : List Int} {f : Bool} (d : Der S R out Z f) : f = true → ∀ {o i : Int} {p : Int × Int}, 0 ≤ o → 0 ≤ i → balF o i S = some p → balF o i out = some p := by
  induction d with
  | nil => intro _ o i p _ _ h; exact h
  | @put t S R Z out f hk _ ih =>
    intro hf o i p ho hi h
    by_cases h3 : t.k = 3
    · obtain ⟨h1, h5⟩ := (balF_mark h3).1 h
      exact (balF_mark h3).2 ⟨h1, ih hf h1.2.2.1 h1.2.2.2 h5⟩
    · rw [balF_skip _ _ _ h3] at h ⊢
      exact ih hf ho hi h
  | @var t S i R Z out f hk hi _ ih =>
    intro hf o q p ho hq h
    rw [balF_skip _ _ _ (by omega)] at h
    refine ih hf ho hq ?_
    rw [balF_app S (bal_rule hi ho hq)]
    exact h
  | none _ => intro hf; cases hf
  | stop _ _ => intro hf; cases hf
theorem ful_bal {R : List Int} {X : List Sq} (h : Ful R X true) : balF 0 0 X = some (0, 0) := h.yes.bal rfl (Int.le_refl _) (Int.le_refl _) (by decide)
/-- Bits of symbols that close what they open may be printed. -/
theorem bal_may {X : List Sq} : ∀ {ts : List Tq} {bs : List Bq} {o i : Int}, 0 ≤ o → 0 ≤ i → btF X ts = some bs → balF o i X = some (0, 0) → mayF o i bs = true := by
  induction X with
  | nil =>
    intro ts bs o i _ _ h hb
    cases h
    cases hb
    rfl
  | cons s X ih =>
    intro ts bs o i ho hi h hb
    by_cases hk : s.k = 3
    · rw [btF_mark _ _ hk, Option.map_eq_some_iff] at h
      obtain ⟨r, h1, rfl⟩ := h
      obtain ⟨⟨b1, b2, b3, b4⟩, b5⟩ := (balF_mark hk).1 hb
      rw [mayF_on _ (by show (decide (0 ≤ s.n) && decide (s.n < 10) && (decide (noV.size = 0) || decide (s.n = 0))) = true; rw [decide_eq_true (show 0 ≤ s.n by omega), decide_eq_true (show s.n < 10 by omega)]; rfl) b3 b4]
      exact ih b3 b4 h1 b5
    · rw [balF_skip _ _ _ hk] at hb
      cases ts with
      | nil => rw [btF_over _ hk] at h; cases h
      | cons t ts =>
        cases hv : shQ t with
        | none => rw [btF_none _ _ hk hv] at h; cases h
        | some v =>
          rw [btF_text _ _ hk hv, Option.map_eq_some_iff] at h
          obtain ⟨r, h1, rfl⟩ := h
          rw [mayF_on _ (by simp [okB]) (by show 0 ≤ o + 0; omega) (by show 0 ≤ i + 0; omega)]
          show mayF (o + 0) (i + 0) r = true
          rw [Int.add_zero, Int.add_zero]
          exact ih ho hi h1 hb
/-- There are as many bits as symbols. -/
theorem btF_len {X : List Sq} : ∀ {ts : List Tq} {bs : List Bq}, btF X ts = some bs → bs.length = X.length := by
  induction X with
  | nil => intro ts bs h; cases h; rfl
  | cons s X ih =>
    intro ts bs h
    by_cases hk : s.k = 3
    · rw [btF_mark _ _ hk, Option.map_eq_some_iff] at h
      obtain ⟨r, h1, rfl⟩ := h
      rw [List.length_cons, List.length_cons, ih h1]
    · cases ts with
      | nil => rw [btF_over _ hk] at h; cases h
      | cons t ts =>
        cases hv : shQ t with
        | none => rw [btF_none _ _ hk hv] at h; cases h
        | some v =>
          rw [btF_text _ _ hk hv, Option.map_eq_some_iff] at h
          obtain ⟨r, h1, rfl⟩ := h
          rw [List.length_cons, List.length_cons, ih h1]
/-- The texts are what the tokens show. -/
theorem btF_txt {X : List Sq} : ∀ {ts : List Tq} {bs : List Bq} {o i : Int} {p : Int × Int}, btF X ts = some bs → balF o i X = some p → (plS X).length = ts.length → (txL bs).map some = ts.map shQ := by
  induction X with
  | nil =>
    intro ts bs o i p h hb hl
    cases h
    rw [List.length_eq_zero_iff.1 hl.symm]; rfl
  | cons s X ih =>
    intro ts bs o i p h hb hl
    by_cases hk : s.k = 3
    · rw [btF_mark _ _ hk, Option.map_eq_some_iff] at h
      obtain ⟨r, h1, rfl⟩ := h
      obtain ⟨⟨b1, -, -, -⟩, b5⟩ := (balF_mark hk).1 hb
      rw [plS_mark _ hk] at hl
      rw [txL_mark _ (by show s.n ≠ 0; omega)]
      exact ih h1 b5 hl
    · rw [balF_skip _ _ _ hk] at hb
      rw [plS_cons _ hk] at hl
      cases ts with
      | nil => cases hl
      | cons t ts =>
        cases hv : shQ t with
        | none => rw [btF_none _ _ hk hv] at h; cases h
        | some v =>
          rw [btF_text _ _ hk hv, Option.map_eq_some_iff] at h
          obtain ⟨r, h1, rfl⟩ := h
          rw [txL_text _ rfl, List.map_cons, List.map_cons, hv, ih h1 hb (by simpa using hl)]
/-- All show: there are bits. -/
theorem btF_ex {X : List Sq} : ∀ {ts : List Tq}, (plS X).length = ts.length → (∀ t ∈ ts, ∃ v, shQ t = some v) → ∃ bs, btF X ts = some bs := by
  induction X with
  | nil => intro ts _ _; exact ⟨[], rfl⟩
  | cons s X ih =>
    intro ts hl hs
    by_cases hk : s.k = 3
    · rw [plS_mark _ hk] at hl
      obtain ⟨r, h⟩ := ih hl hs
      exact ⟨_, by rw [btF_mark _ _ hk, h]; rfl⟩
    · rw [plS_cons _ hk] at hl
      cases ts with
      | nil => cases hl
      | cons t ts =>
        obtain ⟨v, hv⟩ := hs t List.mem_cons_self
        obtain ⟨r, h⟩ := ih (ts := ts) (by simpa using hl) fun u hu => hs u (List.mem_cons_of_mem _ hu)
        exact ⟨_, by rw [btF_text _ _ hk hv, h]; rfl⟩
/-- The answer of Bits: whether there are, and which. -/
def biL (d : Bool) (X : List Sq) (ts : List Tq) : Option (List Bq) := if d then btF X ts else none
/-- Do all of them show? -/
def allSh (ts : List Tq) : Bool := ts.all fun t => (shQ t).isSome
theorem biL_all {X : List Sq} {ts : List Tq} {o i : Int} {p : Int × Int} (hb : balF o i X = some p) (hl : (plS X).length = ts.length) : (btF X ts).isSome = allSh ts := by
  cases h : allSh ts
  · cases h2 : btF X ts with
    | none => rfl
    | some bs =>
      exfalso
      have e := btF_txt h2 hb hl
      have : allSh ts = true := by
        rw [allSh, List.all_eq_true]
        intro t ht
        have : shQ t ∈ (txL bs).map some := by rw [e]; exact List.mem_map_of_mem ht
        obtain ⟨v, _, hv⟩ := List.mem_map.1 this
        rw [← hv]; rfl
      rw [h] at this; cases this
  · rw [allSh, List.all_eq_true] at h
    obtain ⟨bs, e⟩ := btF_ex hl fun t ht => Option.isSome_iff_exists.1 (h t ht)
    rw [e]; rfl
end Go.Proofs.YtpcijjdlppoblaaGreatDoor

/- Rows of bits. -/
namespace Go.Proofs.YtpcijjdlppoblaaGreatDoor
open Go.RowKit
set_option linter.unusedVariables false

/-- A row of bits from A on. -/
def Br (w : World) (A : Option Addr) (bs : List Bq) : Prop := ∀ j t, bs[j]? = some t → ∃ b o : Nat, A = some ⟨b, o, none⟩ ∧
  w.cell? ⟨b, o + j * 2, none⟩ = some (.int .i64 t.m) ∧ w.cell? ⟨b, o + j * 2 + 1, none⟩ = some (.string t.v)
theorem Br.nil (w : World) (A : Option Addr) : Br w A [] := fun j t h => by simp at h
theorem Br.below {w w' : World} {A : Option Addr} {bs : List Bq} (h : Br w A bs) (hb : Below w.heap.size w w') : Br w' A bs := fun j t ht => by
  obtain ⟨b, o, h0, h1, h2⟩ := h j t ht
  exact ⟨b, o, h0, bel_cell hb h1, bel_cell hb h2⟩
theorem infoBit : (Tryz.prog.info? 47).map (fun i => (i.zero, i.size, i.bytes)) = some (some (.agg #[.int .i64 0, .string ⟨#[]⟩]), 2, 24) := by kernel_rfl
/-- A row's cells. -/
def clb (bs : List Bq) : List Value := bs.flatMap fun t => [.int .i64 t.m, .string t.v]
theorem clb_cons (t : Bq) (bs : List Bq) : clb (t :: bs) = .int .i64 t.m :: .string t.v :: clb bs := rfl
theorem clb_len (bs : List Bq) : (clb bs).length = bs.length * 2 := by
  induction bs with
  | nil => rfl
  | cons t bs ih => rw [clb_cons, List.length_cons, List.length_cons, ih, List.length_cons]; omega
theorem clb_append (a b : List Bq) : clb (a ++ b) = clb a ++ clb b := by simp [clb]
theorem clb_one (bs : List Bq) : ∀ u ∈ clb bs, u.oneCell' = true := by
  intro u hu
  simp only [clb, List.mem_flatMap] at hu
  obtain ⟨t, _, hu⟩ := hu
  simp at hu
  rcases hu with rfl | rfl <;> rfl
theorem clb_at {bs : List Bq} {j : Nat} {t : Bq} (h : bs[j]? = some t) : (clb bs)[j * 2]? = some (.int .i64 t.m) ∧ (clb bs)[j * 2 + 1]? = some (.string t.v) := by
  induction bs generalizing j with
  | nil => simp at h
  | cons x bs ih =>
    rw [clb_cons]
    cases j with
    | zero =>
      obtain rfl : x = t := by simpa using h
      exact ⟨rfl, rfl⟩
    | succ j =>
      have := ih (j := j) (by simpa using h)
      rw [show (j + 1) * 2 = j * 2 + 2 by omega]
      exact this
theorem br_news {w : World} {ad : Addr} {bs : List Bq} (h : Br w (some ad) bs) : ∀ j u, (clb bs)[j]? = some u → w.cell? (ad.add j) = some u := fun j u hj => by
  have hl := (List.getElem?_eq_some_iff.1 hj).1
  rw [clb_len] at hl
  have hd : j / 2 < bs.length := by omega
  obtain ⟨t, ht⟩ : ∃ t, bs[j / 2]? = some t := ⟨_, List.getElem?_eq_getElem hd⟩
  obtain ⟨b, o, e, c0, c1⟩ := h (j / 2) t ht
  obtain rfl : ad = ⟨b, o, none⟩ := Option.some.inj e
  obtain ⟨e0, e1⟩ := clb_at ht
  rw [Addr.add_lit]
  have hm : j % 2 = 0 ∨ j % 2 = 1 := by omega
  rcases hm with hm | hm
  · have ej : j = j / 2 * 2 := by omega
    rw [ej] at hj ⊢; rw [e0] at hj; rw [← hj]; exact c0
  · have ej : j = j / 2 * 2 + 1 := by omega
    rw [ej] at hj ⊢; rw [e1] at hj; rw [← hj, ← Nat.add_assoc]; exact c1
theorem br_row {w : World} {base n c : Nat} {A : Option Addr} {bs : List Bq} (h : w.ownsRow base 47 2 (.slice A n c) bs.length (clb bs)) : n = bs.length ∧ Br w A bs ∧ (A = none → n = 0 ∧ c = 0) := by
  obtain ⟨hl, ⟨h1, h2⟩ | ⟨g, cap, cur, h1, h3, h4, h5, h6, h7, h8⟩⟩ := h
  · injection h1 with h1 h1' h1''
    have hy : bs = [] := List.length_eq_zero_iff.1 h2
    subst hy
    exact ⟨by rw [h1', List.length_nil], Br.nil _ _, fun _ => ⟨h1', h1''⟩⟩
  · injection h1 with h1 h1' h1''
    refine ⟨h1', fun j t ht => ?_, fun e => by rw [h1] at e; cases e⟩
    obtain ⟨e0, e1⟩ := clb_at ht
    have hj : j < bs.length := (List.getElem?_eq_some_iff.1 ht).1
    have key : ∀ (m : Nat) (v : Value), m < bs.length * 2 → (clb bs)[m]? = some v → w.cell? ⟨g, m, none⟩ = some v := by
      intro m v hm hv
      rw [← h8, List.getElem?_take_of_lt hm] at hv
      simp [World.cell?, h4]
      simpa using hv
    refine ⟨g, 0, h1, ?_, ?_⟩
    · rw [Nat.zero_add]; exact key _ _ (by omega) e0
    · rw [Nat.zero_add]; exact key _ _ (by omega) e1
/-- 'append(l, bs...)', l the call's own. -/
theorem app_bits {w : World} {ops : Array Oper} {rest : List Oper} {o : Oper} {a : Act} {Q : Exit → Act → World → Prop} (hgd : o.guard = none) (s x : Operand)
    (ho : o.op = .call { callee := .builtin .append, args := #[s, x], argTypes := #[26, 26] })
    (base : Nat) (v : Value) (n : Nat) (qs : List Bq) (hs : a.eval s = v) (hown : w.ownsRow base 47 2 v n (clb qs))
    {A : Option Addr} {m c : Nat} {bs : List Bq} (hx : a.eval x = .slice A m c) (htr : Br w A bs) (hm : bs.length = m) (hA : A = none → m = 0 ∧ c = 0)
    (hb : n + m ≤ 1000000) (hbase : base ≤ w.heap.size)
    (h : ∀ v' w', w'.ownsRow base 47 2 v' (n + m) (clb (qs ++ bs)) → w.grownBy w' v.ownBlock → wpList Tryz.prog ops Q rest (a.put o.dst v') w') : wpList Tryz.prog ops Q (o :: rest) a w := by
  obtain ⟨i0, hi, hz0, hz1, hz2⟩ := info_parts infoBit
  cases A with
  | none =>
    obtain ⟨rfl, rfl⟩ := hA rfl
    have hts : bs = [] := List.length_eq_zero_iff.1 hm
    subst hts
    refine wpList_append_own_none hgd s x 26 ho base 47 i0 2 Tryz.underlying26 hi v n (clb qs) hs hown hx ?_
    exact h v w (by rw [List.append_nil]; exact hown) (grown_refl w _)
  | some ad =>
    refine wpList_append_own _ hgd s x 26 ho base 47 i0 (.agg #[.int .i64 0, .string ⟨#[]⟩]) 2 24 Tryz.underlying26 hi hz0 hz1 hz2 rfl (by decide) v n (clb qs) hs hown ad m c (clb bs) hx (by rw [clb_len, hm]) (br_news htr) (clb_one bs) (by unfold maxLen; omega) (by omega) hbase ?_
    intro v' w' h1 h2 _
    exact h v' w' (by rw [clb_append]; exact h1) h2
/-- A block of one bit, as a row. -/
theorem br_one {w : World} {g : Nat} {m : Int} {v : ByteArray} {t : TypeId} {fr : Nat × Nat} (h : w.heap[g]? = some (.cells #[.int .i64 m, .string v] t fr)) : Br w (some ⟨g, 0, none⟩) [⟨m, v⟩] := fun j s hj => by
  cases j with
  | zero =>
    obtain rfl : (⟨m, v⟩ : Bq) = s := by simpa using hj
    refine ⟨g, 0, rfl, ?_, ?_⟩ <;> simp [World.cell?, h]
  | succ j => simp at hj
theorem drop_consM {α : Type} {X : List α} {k : Nat} {s : α} (h : X[k]? = some s) : X.drop k = s :: X.drop (k + 1) := by
  obtain ⟨h1, rfl⟩ := List.getElem?_eq_some_iff.1 h
  exact List.drop_eq_getElem_cons h1
/-- A row of bits of the call's own, and what was there is as it was. -/
structure Bn (w : World) (X : List Bq) (v : Value) (W : World) : Prop where
  own : W.ownsRow w.heap.size 47 2 v X.length (clb X)
  bel : Below w.heap.size w W
theorem Bn.start (w : World) : Bn w [] (.slice none 0 0) w := ⟨World.ownsRow_nil _ _ _ _, Below.refl _ _⟩
theorem Bn.alloc {w : World} {X : List Bq} {v : Value} {W : World} (h : Bn w X v W) (o : Obj) : Bn w X v (W.alloc o) := ⟨h.own.alloc o, bel_alloc h.bel o⟩
theorem Bn.below {w : World} {X : List Bq} {v : Value} {W W' : World} (h : Bn w X v W) (b : Below W.heap.size W W') : Bn w X v W' := ⟨row_below h.own b, bel_trans h.bel b⟩
theorem Bn.next {w : World} {X : List Bq} {x : List Bq} {n : Nat} {v v' : Value} {W W' : World} (h : Bn w X v W) (hn : x.length = n) (ho : W'.ownsRow w.heap.size 47 2 v' (X.length + n) (clb (X ++ x))) (hg : W.grownBy W' v.ownBlock) : Bn w (X ++ x) v' W' :=
  ⟨by rw [List.length_append, hn]; exact ho, h.bel.grown hg h.bel.size (fun k hk => (h.own.lt k hk).1)⟩
/-- 'append(l, x)', l a row of bits of the call's own. -/
theorem app_bn {w0 w : World} {ops : Array Oper} {rest : List Oper} {o : Oper} {a : Act} {Q : Exit → Act → World → Prop} (hgd : o.guard = none) (s x : Operand)
    (ho : o.op = .call { callee := .builtin .append, args := #[s, x], argTypes := #[26, 26] })
    (v : Value) (X : List Bq) (i : Bq) (hs : a.eval s = v) (hown : Bn w0 X v w) {ad : Addr} {c : Nat} (hx : a.eval x = .slice (some ad) 1 c) (htr : Br w (some ad) [i]) (hb : X.length + 1 ≤ 1000000)
    (h : ∀ v' w', Bn w0 (X ++ [i]) v' w' → wpList Tryz.prog ops Q rest (a.put o.dst v') w') : wpList Tryz.prog ops Q (o :: rest) a w :=
  app_bits hgd s x ho w0.heap.size v X.length X hs hown.own (A := some ad) (m := 1) (c := c) (bs := [i]) hx htr rfl (fun e => by cases e) hb hown.bel.size fun v' w' h1 h2 => h v' w' (hown.next rfl h1 h2)
theorem own_slB {w : World} {base e sz k : Nat} {v : Value} {xs : List Value} (h : w.ownsRow base e sz v k xs) : ∃ A n c, v = .slice A n c ∧ n ≤ c := by
  rcases h.2 with ⟨rfl, _⟩ | ⟨g, cap, cur, rfl, _, _, hc, _⟩
  · exact ⟨_, _, _, rfl, Nat.le_refl _⟩
  · exact ⟨_, _, _, rfl, hc⟩
end Go.Proofs.YtpcijjdlppoblaaGreatDoor

/- Rows of texts. -/
namespace Go.Proofs.YtpcijjdlppoblaaGreatDoor
open Go.RowKit
set_option linter.unusedVariables false

theorem infoXr : (Tryz.prog.info? 9).map (fun i => (i.zero, i.size, i.bytes)) = some (some (.string ⟨#[]⟩), 1, 16) := by kernel_rfl
def tv (x : ByteArray) : Value := .string x
/-- A row of texts from A on. -/
def Xr (w : World) (A : Option Addr) (l : List ByteArray) : Prop := ∀ j x, l[j]? = some x → ∃ b o : Nat, A = some ⟨b, o, none⟩ ∧ w.cell? ⟨b, o + j, none⟩ = some (.string x)
theorem Xr.nil (w : World) (A : Option Addr) : Xr w A [] := fun j t h => by simp at h
theorem Xr.below {w w' : World} {A : Option Addr} {l : List ByteArray} (h : Xr w A l) (hb : Below w.heap.size w w') : Xr w' A l := fun j t ht => by
  obtain ⟨b, o, h0, h1⟩ := h j t ht
  exact ⟨b, o, h0, bel_cell hb h1⟩
theorem xr_row {w : World} {base n c : Nat} {A : Option Addr} {l : List ByteArray} (h : w.ownsRow base 9 1 (.slice A n c) l.length (l.map tv)) : n = l.length ∧ Xr w A l ∧ (A = none → n = 0 ∧ c = 0) := by
  obtain ⟨hl, ⟨h1, h2⟩ | ⟨g, cap, cur, h1, h3, h4, h5, h6, h7, h8⟩⟩ := h
  · injection h1 with h1 h1' h1''
    have hy : l = [] := List.length_eq_zero_iff.1 h2
    subst hy
    exact ⟨by rw [h1', List.length_nil], Xr.nil _ _, fun _ => ⟨h1', h1''⟩⟩
  · injection h1 with h1 h1' h1''
    refine ⟨h1', fun j x hx => ⟨g, 0, h1, ?_⟩, fun e => by rw [h1] at e; cases e⟩
    have hj : j < l.length := (List.getElem?_eq_some_iff.1 hx).1
    have hv : (l.map tv)[j]? = some (tv x) := by simp [hx]
    rw [← h8, List.getElem?_take_of_lt (by omega)] at hv
    rw [Nat.zero_add]
    simp [World.cell?, h4]
    simpa [tv] using hv
theorem xr_news {w : World} {ad : Addr} {l : List ByteArray} (h : Xr w (some ad) l) : ∀ j u, (l.map tv)[j]? = some u → w.cell? (ad.add j) = some u := fun j u hj => by
  rw [List.getElem?_map, Option.map_eq_some_iff] at hj
  obtain ⟨x, hx, rfl⟩ := hj
  obtain ⟨b, o, e, c0⟩ := h j x hx
  obtain rfl : ad = ⟨b, o, none⟩ := Option.some.inj e
  rw [Addr.add_lit]; exact c0
theorem tv_one (l : List ByteArray) : ∀ u ∈ l.map tv, u.oneCell' = true := by
  intro u hu
  obtain ⟨x, _, rfl⟩ := List.mem_map.1 hu
  rfl
/-- 'append(l, ts...)', l the call's own, ts texts. -/
theorem app_txts {w : World} {ops : Array Oper} {rest : List Oper} {o : Oper} {a : Act} {Q : Exit → Act → World → Prop} (hgd : o.guard = none) (s x : Operand)
    (ho : o.op = .call { callee := .builtin .append, args := #[s, x], argTypes := #[35, 35] })
    (base : Nat) (v : Value) (n : Nat) (qs : List ByteArray) (hs : a.eval s = v) (hown : w.ownsRow base 9 1 v n (qs.map tv))
    {A : Option Addr} {m c : Nat} {ts : List ByteArray} (hx : a.eval x = .slice A m c) (htr : Xr w A ts) (hm : ts.length = m) (hA : A = none → m = 0 ∧ c = 0)
    (hb : n + m ≤ 1000000) (hbase : base ≤ w.heap.size)
    (h : ∀ v' w', w'.ownsRow base 9 1 v' (n + m) ((qs ++ ts).map tv) → w.grownBy w' v.ownBlock → wpList Tryz.prog ops Q rest (a.put o.dst v') w') : wpList Tryz.prog ops Q (o :: rest) a w := by
  obtain ⟨i0, hi, hz0, hz1, hz2⟩ := info_parts infoXr
  cases A with
  | none =>
    obtain ⟨rfl, rfl⟩ := hA rfl
    have hts : ts = [] := List.length_eq_zero_iff.1 hm
    subst hts
    refine wpList_append_own_none hgd s x 35 ho base 9 i0 1 Tryz.underlying35 hi v n (qs.map tv) hs hown hx ?_
    exact h v w (by rw [List.append_nil]; exact hown) (grown_refl w _)
  | some ad =>
    refine wpList_append_own _ hgd s x 35 ho base 9 i0 (.string ⟨#[]⟩) 1 16 Tryz.underlying35 hi hz0 hz1 hz2 rfl (by decide) v n (qs.map tv) hs hown ad m c (ts.map tv) hx (by rw [List.length_map, hm, Nat.mul_one]) (xr_news htr) (tv_one ts) (by unfold maxLen; omega) (by omega) hbase ?_
    intro v' w' h1 h2 _
    exact h v' w' (by rw [List.map_append]; exact h1) h2
/-- A row of texts of the call's own, and what was there is as it was. -/
structure Xn (w : World) (X : List ByteArray) (v : Value) (W : World) : Prop where
  own : W.ownsRow w.heap.size 9 1 v X.length (X.map tv)
  bel : Below w.heap.size w W
theorem Xn.start (w : World) : Xn w [] (.slice none 0 0) w := ⟨World.ownsRow_nil _ _ _ _, Below.refl _ _⟩
theorem Xn.alloc {w : World} {X : List ByteArray} {v : Value} {W : World} (h : Xn w X v W) (o : Obj) : Xn w X v (W.alloc o) := ⟨h.own.alloc o, bel_alloc h.bel o⟩
theorem Xn.next {w : World} {X : List ByteArray} {x : ByteArray} {v v' : Value} {W W' : World} (h : Xn w X v W) (ho : W'.ownsRow w.heap.size 9 1 v' (X.length + 1) ((X ++ [x]).map tv)) (hg : W.grownBy W' v.ownBlock) : Xn w (X ++ [x]) v' W' :=
  ⟨by rw [List.length_append]; exact ho, h.bel.grown hg h.bel.size (fun k hk => (h.own.lt k hk).1)⟩
/-- 'append(l, x)', l a row of texts of the call's own. -/
theorem app_xn {w0 w : World} {ops : Array Oper} {rest : List Oper} {o : Oper} {a : Act} {Q : Exit → Act → World → Prop} (hgd : o.guard = none) (s x : Operand)
    (ho : o.op = .call { callee := .builtin .append, args := #[s, x], argTypes := #[35, 35] })
    (v : Value) (X : List ByteArray) (i : ByteArray) (hs : a.eval s = v) (hown : Xn w0 X v w) {ad : Addr} {c : Nat} (hx : a.eval x = .slice (some ad) 1 c) (htr : Xr w (some ad) [i]) (hb : X.length + 1 ≤ 1000000)
    (h : ∀ v' w', Xn w0 (X ++ [i]) v' w' → wpList Tryz.prog ops Q rest (a.put o.dst v') w') : wpList Tryz.prog ops Q (o :: rest) a w :=
  app_txts hgd s x ho w0.heap.size v X.length X hs hown.own (A := some ad) (m := 1) (c := c) (ts := [i]) hx htr rfl (fun e => by cases e) hb hown.bel.size fun v' w' h1 h2 => h v' w' (hown.next h1 h2)
/-- A block of one text, as a row. -/
theorem xr_one {w : World} {g : Nat} {v : ByteArray} {t : TypeId} {fr : Nat × Nat} (h : w.heap[g]? = some (.cells #[.string v] t fr)) : Xr w (some ⟨g, 0, none⟩) [v] := fun j s hj => by
  cases j with
  | zero =>
    obtain rfl : v = s := by simpa using hj
    refine ⟨g, 0, rfl, ?_⟩; simp [World.cell?, h]
  | succ j => simp at hj
end Go.Proofs.YtpcijjdlppoblaaGreatDoor
