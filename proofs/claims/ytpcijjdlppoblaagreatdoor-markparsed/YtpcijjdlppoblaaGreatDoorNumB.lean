/- Plain mathematics of layer 5: numbers as tokens. No walk. -/
import Derived.Test.YtpcijjdlppoblaaGreatDoorScanC
import Derived.Lib.Bytealg
import Derived.Laws.Externs
import Derived.OwnWalk
import Derived.ScopeJumps
import Derived.WalkMore
import Derived.RegionTactic
import Derived.Deep.DeepCutAuto
namespace Go.Proofs.YtpcijjdlppoblaaGreatDoor.Sc
set_option linter.unusedVariables false

/-- Is it one of some bytes? -/
def inS (S : List UInt8) (x : Int) : Bool := S.any (fun c => (c.toNat : Int) == x)
def dotB : List UInt8 := [46]
def minusB : List UInt8 := [45]
def zeroB : List UInt8 := [48]
def eB : List UInt8 := [101, 69]
def signB : List UInt8 := [43, 45]
def moreB : List UInt8 := [48, 49, 50, 51, 52, 53, 54, 55, 56, 57, 46]
/-- May it not stand behind a number? -/
def moreI (x : Int) : Bool := inS moreB x || bgI x
theorem dot_iff (x : Int) : inS dotB x = true ↔ x = 46 := by simp [inS, dotB]; omega
theorem minus_iff (x : Int) : inS minusB x = true ↔ x = 45 := by simp [inS, minusB]; omega
theorem zero_iff (x : Int) : inS zeroB x = true ↔ x = 48 := by simp [inS, zeroB]; omega
theorem e_iff (x : Int) : inS eB x = true ↔ x = 101 ∨ x = 69 := by simp [inS, eB]; omega
theorem sign_iff (x : Int) : inS signB x = true ↔ x = 43 ∨ x = 45 := by simp [inS, signB]; omega
theorem moreB_iff (x : Int) : inS moreB x = true ↔ (48 ≤ x ∧ x ≤ 57) ∨ x = 46 := by simp [inS, moreB]; omega
theorem dg_iff (x : Int) : dgI x = true ↔ 48 ≤ x ∧ x ≤ 57 := by simp [dgI]
theorem bg_iff (x : Int) : bgI x = true ↔ (97 ≤ x ∧ x ≤ 122) ∨ (65 ≤ x ∧ x ≤ 90) ∨ x = 95 := by simp [bgI]
theorem more_iff (x : Int) : moreI x = true ↔ ((48 ≤ x ∧ x ≤ 57) ∨ x = 46) ∨ (97 ≤ x ∧ x ≤ 122) ∨ (65 ≤ x ∧ x ≤ 90) ∨ x = 95 := by
  unfold moreI; rw [Bool.or_eq_true, moreB_iff, bg_iff]

theorem sd_true {p : Int → Bool} {l : List UInt8} {j : Int} : sd p l j = true ↔ 0 ≤ j ∧ j < l.length ∧ p ((l.getD j.toNat 0).toNat : Int) = true := by
  unfold sd; rw [Bool.and_eq_true, decide_eq_true_iff]; constructor
  · intro h; exact ⟨h.1.1, h.1.2, h.2⟩
  · intro h; exact ⟨⟨h.1, h.2.1⟩, h.2.2⟩
theorem sd_out {p : Int → Bool} {l : List UInt8} {j : Int} (h : j < 0 ∨ (l.length : Int) ≤ j) : sd p l j = false := by
  cases e : sd p l j
  · rfl
  · have := sd_true.1 e; omega
/-- What one kind of byte says of another. -/
theorem sd_imp {p q : Int → Bool} {l : List UInt8} {j : Int} (hpq : ∀ x, p x = true → q x = true) (h : sd p l j = true) : sd q l j = true := by
  have := sd_true.1 h; exact sd_true.2 ⟨this.1, this.2.1, hpq _ this.2.2⟩
theorem sd_not {p q : Int → Bool} {l : List UInt8} {j : Int} (hpq : ∀ x, p x = true → ¬ q x = true) (h : sd p l j = true) : sd q l j = false := by
  cases e : sd q l j
  · rfl
  · exact absurd (sd_true.1 e).2.2 (hpq _ (sd_true.1 h).2.2)
theorem sd_less {p q : Int → Bool} {l : List UInt8} {j : Int} (hpq : ∀ x, p x = true → q x = true) (h : sd q l j = false) : sd p l j = false := by
  cases e : sd p l j
  · rfl
  · rw [sd_imp hpq e] at h; cases h
theorem sd_or (p q : Int → Bool) (l : List UInt8) (j : Int) : sd (fun x => p x || q x) l j = (sd p l j || sd q l j) := by
  unfold sd; cases decide (0 ≤ j ∧ j < (l.length : Int)) <;> simp

/-- Where digits from j on end. -/
def dgE (l : List UInt8) (j : Int) : Int := atE (rn dgI) l j
theorem dgE_ge (l : List UInt8) (j : Int) : j ≤ dgE l j := atE_ge _ _ _
theorem dgE_go {l : List UInt8} {i j : Int} (h1 : i ≤ j) (h2 : j < dgE l i) : sd dgI l j = true := (sd_go h1 h2).1
theorem dgE_stop (l : List UInt8) (j : Int) : sd dgI l (dgE l j) = false := sd_stop _ _ _
theorem dgE_uniq {l : List UInt8} {j N : Int} (h1 : j ≤ N) (h2 : ∀ k, j ≤ k → k < N → sd dgI l k = true) (h3 : sd dgI l N = false) : dgE l j = N := by
  have a := dgE_ge l j
  rcases Int.lt_trichotomy (dgE l j) N with h | h | h
  · have := h2 _ a h; rw [dgE_stop] at this; cases this
  · exact h
  · have := dgE_go h1 h; rw [this] at h3; cases h3
theorem dgE_lt {l : List UInt8} {j : Int} : (j < dgE l j) ↔ sd dgI l j = true := by
  constructor
  · intro h; exact dgE_go (Int.le_refl _) h
  · intro h
    rcases Int.lt_or_le j (dgE l j) with k | k
    · exact k
    · have e : dgE l j = j := Int.le_antisymm k (dgE_ge l j)
      have := dgE_stop l j; rw [e, h] at this; cases this
theorem dgE_dec (l : List UInt8) (j : Int) : decide (j < dgE l j) = sd dgI l j := by
  rw [Bool.eq_iff_iff, decide_eq_true_iff]; exact dgE_lt
theorem dgE_le {l : List UInt8} {j : Int} (h : j ≤ l.length) : dgE l j ≤ l.length := by
  rcases Int.lt_or_le (l.length : Int) (dgE l j) with k | k
  · have := sd_true.1 (dgE_go (l := l) (i := j) (j := l.length) h k); omega
  · exact k
theorem dgE_no {l : List UInt8} {j : Int} (h : sd dgI l j = false) : dgE l j = j := dgE_uniq (Int.le_refl _) (fun k h1 h2 => by omega) h

/-- One byte more, if it is there. -/
def adv (b : Bool) (j : Int) : Int := if b = true then j + 1 else j
theorem adv_ge (b : Bool) (j : Int) : j ≤ adv b j ∧ adv b j ≤ j + 1 := by unfold adv; split <;> omega
theorem adv_t (j : Int) : adv true j = j + 1 := rfl
theorem adv_f (j : Int) : adv false j = j := rfl

/-! ### A number: kind, where, is it one -/
structure Nm where
  k : Int
  e : Int
  b : Bool
def finA (k : Int) (l : List UInt8) (j : Int) : Nm := if sd moreI l j = true then ⟨0, j, false⟩ else ⟨k, j, true⟩
def signA (l : List UInt8) (j : Int) : Int := adv (sd (inS signB) l j) j
def expA (k : Int) (l : List UInt8) (j : Int) : Nm :=
  if sd (inS eB) l j = true then (if sd dgI l (signA l (j + 1)) = true then finA 4 l (dgE l (signA l (j + 1))) else ⟨0, signA l (j + 1), false⟩) else finA k l j
def fracA (l : List UInt8) (j : Int) : Nm :=
  if sd (inS dotB) l j = true then (if sd dgI l (j + 1) = true then expA 4 l (dgE l (j + 1)) else ⟨0, j + 1, false⟩) else expA 3 l j
def bodyA (l : List UInt8) (j : Int) : Nm :=
  if sd (inS zeroB) l j = true then fracA l (j + 1) else if sd dgI l j = true then fracA l (dgE l j) else ⟨0, j, false⟩
def minusA (l : List UInt8) (i : Int) : Int := adv (sd (inS minusB) l i) i
def numA (l : List UInt8) (i : Int) : Nm := bodyA l (minusA l i)

theorem finA_t {k : Int} {l : List UInt8} {j : Int} (h : sd moreI l j = true) : finA k l j = ⟨0, j, false⟩ := by unfold finA; rw [if_pos h]
theorem finA_f {k : Int} {l : List UInt8} {j : Int} (h : sd moreI l j = false) : finA k l j = ⟨k, j, true⟩ := by unfold finA; rw [if_neg (by rw [h]; decide)]
theorem expA_n {k : Int} {l : List UInt8} {j : Int} (h : sd (inS eB) l j = false) : expA k l j = finA k l j := by unfold expA; rw [if_neg (by rw [h]; decide)]
theorem expA_y {k : Int} {l : List UInt8} {j : Int} (h : sd (inS eB) l j = true) (h2 : sd dgI l (signA l (j + 1)) = true) : expA k l j = finA 4 l (dgE l (signA l (j + 1))) := by
  unfold expA; rw [if_pos h, if_pos h2]
theorem expA_w {k : Int} {l : List UInt8} {j : Int} (h : sd (inS eB) l j = true) (h2 : sd dgI l (signA l (j + 1)) = false) : expA k l j = ⟨0, signA l (j + 1), false⟩ := by
  unfold expA; rw [if_pos h, if_neg (by rw [h2]; decide)]
theorem fracA_n {l : List UInt8} {j : Int} (h : sd (inS dotB) l j = false) : fracA l j = expA 3 l j := by unfold fracA; rw [if_neg (by rw [h]; decide)]
theorem fracA_y {l : List UInt8} {j : Int} (h : sd (inS dotB) l j = true) (h2 : sd dgI l (j + 1) = true) : fracA l j = expA 4 l (dgE l (j + 1)) := by
  unfold fracA; rw [if_pos h, if_pos h2]
theorem fracA_w {l : List UInt8} {j : Int} (h : sd (inS dotB) l j = true) (h2 : sd dgI l (j + 1) = false) : fracA l j = ⟨0, j + 1, false⟩ := by
  unfold fracA; rw [if_pos h, if_neg (by rw [h2]; decide)]
theorem bodyA_z {l : List UInt8} {j : Int} (h : sd (inS zeroB) l j = true) : bodyA l j = fracA l (j + 1) := by unfold bodyA; rw [if_pos h]
theorem bodyA_y {l : List UInt8} {j : Int} (h : sd (inS zeroB) l j = false) (h2 : sd dgI l j = true) : bodyA l j = fracA l (dgE l j) := by
  unfold bodyA; rw [if_neg (by rw [h]; decide), if_pos h2]
theorem bodyA_w {l : List UInt8} {j : Int} (h : sd (inS zeroB) l j = false) (h2 : sd dgI l j = false) : bodyA l j = ⟨0, j, false⟩ := by
  unfold bodyA; rw [if_neg (by rw [h]; decide), if_neg (by rw [h2]; decide)]

/-! ### Where it ends -/
/-- What is no number tells 0; what is one, 3 or 4; where it is lies between. -/
structure In (l : List UInt8) (j : Int) (r : Nm) : Prop where
  lo : j ≤ r.e
  hi : r.e ≤ l.length
  no : r.b = false → r.k = 0
  yes : r.b = true → r.k = 3 ∨ r.k = 4
theorem fin_in {k : Int} {l : List UInt8} {j : Int} (hk : k = 3 ∨ k = 4) (h : j ≤ l.length) : In l j (finA k l j) := by
  cases e : sd moreI l j
  · rw [finA_f e]; exact ⟨Int.le_refl _, h, (fun e => by cases e), fun _ => hk⟩
  · rw [finA_t e]; exact ⟨Int.le_refl _, h, fun _ => rfl, fun e => by cases e⟩
theorem sign_ge (l : List UInt8) (j : Int) : j ≤ signA l j ∧ signA l j ≤ j + 1 := adv_ge _ _
theorem sign_le {l : List UInt8} {j : Int} (h : j ≤ l.length) : signA l j ≤ l.length := by
  unfold signA
  cases e : sd (inS signB) l j
  · exact h
  · have := (sd_true.1 e).2.1; rw [adv_t]; omega
theorem exp_in {k : Int} {l : List UInt8} {j : Int} (hk : k = 3 ∨ k = 4) (h : j ≤ l.length) : In l j (expA k l j) := by
  cases e : sd (inS eB) l j
  · rw [expA_n e]; exact fin_in hk h
  · have h1 := (sd_true.1 e).2.1
    have h2 := sign_ge l (j + 1)
    have h3 := sign_le (l := l) (j := j + 1) (by omega)
    cases d : sd dgI l (signA l (j + 1))
    · rw [expA_w e d]; exact ⟨by show j ≤ signA l (j + 1); omega, h3, fun _ => rfl, fun e => by cases e⟩
    · have h4 := dgE_ge l (signA l (j + 1))
      have h5 := dgE_le h3
      rw [expA_y e d]
      obtain ⟨a, b, c, f⟩ := fin_in (k := 4) (.inr rfl) h5
      exact ⟨by omega, b, c, f⟩
theorem frac_in {l : List UInt8} {j : Int} (h : j ≤ l.length) : In l j (fracA l j) := by
  cases e : sd (inS dotB) l j
  · rw [fracA_n e]; exact exp_in (.inl rfl) h
  · have h1 := (sd_true.1 e).2.1
    cases d : sd dgI l (j + 1)
    · rw [fracA_w e d]; exact ⟨by show j ≤ j + 1; omega, by show j + 1 ≤ _; omega, fun _ => rfl, fun e => by cases e⟩
    · have h4 := dgE_ge l (j + 1)
      have h5 := dgE_le (l := l) (j := j + 1) (by omega)
      rw [fracA_y e d]
      obtain ⟨a, b, c, f⟩ := exp_in (k := 4) (.inr rfl) h5
      exact ⟨by omega, b, c, f⟩
theorem body_in {l : List UInt8} {j : Int} (h : j ≤ l.length) : In l j (bodyA l j) ∧ ((bodyA l j).b = true → j < (bodyA l j).e) := by
  cases e : sd (inS zeroB) l j
  · cases d : sd dgI l j
    · rw [bodyA_w e d]; exact ⟨⟨Int.le_refl _, h, fun _ => rfl, fun e => by cases e⟩, fun e => by cases e⟩
    · have h4 := dgE_lt.2 d
      have h5 := dgE_le h
      rw [bodyA_y e d]
      obtain ⟨a, b, c, f⟩ := frac_in h5
      exact ⟨⟨by omega, b, c, f⟩, fun _ => by omega⟩
  · have h1 := (sd_true.1 e).2.1
    rw [bodyA_z e]
    obtain ⟨a, b, c, f⟩ := frac_in (l := l) (j := j + 1) (by omega)
    exact ⟨⟨by omega, b, c, f⟩, fun _ => by omega⟩
theorem num_out {l : List UInt8} {i : Int} (h : i < 0 ∨ (l.length : Int) ≤ i) : numA l i = ⟨0, i, false⟩ := by
  have e : minusA l i = i := by unfold minusA; rw [sd_out h]; rfl
  unfold numA; rw [e]; exact bodyA_w (sd_out h) (sd_out h)
theorem minus_le {l : List UInt8} {i : Int} (h : i ≤ l.length) : i ≤ minusA l i ∧ minusA l i ≤ l.length := by
  unfold minusA
  cases e : sd (inS minusB) l i
  · exact ⟨Int.le_refl _, h⟩
  · have := (sd_true.1 e).2.1; rw [adv_t]; omega
theorem num_in {l : List UInt8} {i : Int} (h0 : 0 ≤ i) (h : i ≤ l.length) : In l i (numA l i) ∧ ((numA l i).b = true → i < (numA l i).e) := by
  have h1 := minus_le h
  obtain ⟨⟨a, b, c, f⟩, g⟩ := body_in h1.2
  unfold numA
  exact ⟨⟨by omega, b, c, f⟩, fun e => by have := g e; omega⟩
/-- The answers of any place. -/
theorem num_no {l : List UInt8} {i : Int} (h : (numA l i).b = false) : (numA l i).k = 0 ∧ ((numA l i).e = i ∨ i < (numA l i).e ∧ (numA l i).e ≤ l.length) := by
  by_cases hi : 0 ≤ i ∧ i ≤ l.length
  · obtain ⟨a, g⟩ := num_in hi.1 hi.2
    have := a.lo; have := a.hi
    exact ⟨a.no h, by omega⟩
  · rw [num_out (by omega)]; exact ⟨rfl, .inl rfl⟩
theorem num_yes {l : List UInt8} {i : Int} (h : (numA l i).b = true) : 0 ≤ i ∧ i < (numA l i).e ∧ (numA l i).e ≤ l.length ∧ ((numA l i).k = 3 ∨ (numA l i).k = 4) := by
  by_cases hi : 0 ≤ i ∧ i ≤ l.length
  · obtain ⟨a, g⟩ := num_in hi.1 hi.2
    exact ⟨hi.1, g h, a.hi, a.yes h⟩
  · rw [num_out (by omega)] at h; cases h
theorem num_lo (l : List UInt8) (i : Int) : i ≤ (numA l i).e ∧ ((numA l i).e ≤ l.length ∨ (numA l i).e = i) := by
  cases h : (numA l i).b
  · have := num_no h; omega
  · have := num_yes h; omega

/-! ### Texts that agree from a place on -/
def shift (d : Int) (r : Nm) : Nm := ⟨r.k, r.e + d, r.b⟩
def Sh (l m : List UInt8) (d i : Int) : Prop := ∀ p j, i ≤ j → sd p m (j + d) = sd p l j
theorem dgE_sh {l m : List UInt8} {d i : Int} (h : Sh l m d i) {j : Int} (hj : i ≤ j) : dgE m (j + d) = dgE l j + d := by
  have a := dgE_ge l j
  refine dgE_uniq (by omega) (fun k h1 h2 => ?_) ?_
  · have := h dgI (k - d) (by omega); rw [show k - d + d = k by omega] at this; rw [this]
    exact dgE_go (i := j) (by omega) (by omega)
  · rw [h dgI _ (by omega)]; exact dgE_stop _ _
theorem sign_sh {l m : List UInt8} {d i : Int} (h : Sh l m d i) {j : Int} (hj : i ≤ j) : signA m (j + d) = signA l j + d := by
  unfold signA; rw [h _ _ hj]; unfold adv; split <;> omega
theorem fin_sh {l m : List UInt8} {d i : Int} (h : Sh l m d i) {k j : Int} (hj : i ≤ j) : finA k m (j + d) = shift d (finA k l j) := by
  unfold finA; rw [h _ _ hj]; split <;> rfl
theorem exp_sh {l m : List UInt8} {d i : Int} (h : Sh l m d i) {k j : Int} (hj : i ≤ j) : expA k m (j + d) = shift d (expA k l j) := by
  unfold expA
  have e : j + d + 1 = j + 1 + d := by omega
  have s := sign_ge l (j + 1)
  rw [h _ _ hj, e, sign_sh h (by omega), h _ _ (by omega), dgE_sh h (by omega), fin_sh h hj, fin_sh h (by have := dgE_ge l (signA l (j + 1)); omega)]
  split
  · split <;> rfl
  · rfl
theorem frac_sh {l m : List UInt8} {d i : Int} (h : Sh l m d i) {j : Int} (hj : i ≤ j) : fracA m (j + d) = shift d (fracA l j) := by
  unfold fracA
  have e : j + d + 1 = j + 1 + d := by omega
  have s := dgE_ge l (j + 1)
  rw [h _ _ hj, e, h _ _ (by omega), dgE_sh h (by omega), exp_sh h hj, exp_sh h (by omega)]
  split
  · split
    · rfl
    · rfl
  · rfl
theorem body_sh {l m : List UInt8} {d i : Int} (h : Sh l m d i) {j : Int} (hj : i ≤ j) : bodyA m (j + d) = shift d (bodyA l j) := by
  unfold bodyA
  have e : j + d + 1 = j + 1 + d := by omega
  have s := dgE_ge l j
  rw [h _ _ hj, e, h _ _ hj, dgE_sh h hj, frac_sh h (by omega), frac_sh h (by omega)]
  split
  · rfl
  · split <;> rfl
theorem minus_sh {l m : List UInt8} {d i : Int} (h : Sh l m d i) {j : Int} (hj : i ≤ j) : minusA m (j + d) = minusA l j + d := by
  unfold minusA; rw [h _ _ hj]; unfold adv; split <;> omega
theorem num_sh {l m : List UInt8} {d i : Int} (h : Sh l m d i) {j : Int} (hj : i ≤ j) : numA m (j + d) = shift d (numA l j) := by
  unfold numA
  have s : j ≤ minusA l j := (adv_ge _ _).1
  rw [minus_sh h hj, body_sh h (by omega)]
theorem sh_app (a s : List UInt8) : Sh s (a ++ s) a.length 0 := fun p j hj => by
  obtain ⟨k, rfl⟩ := Int.eq_ofNat_of_zero_le hj
  unfold sd
  rw [show ((k : Int) + (a.length : Int)).toNat = a.length + k by omega, Int.toNat_natCast, List.length_append]
  rw [List.getD_eq_getElem?_getD, List.getD_eq_getElem?_getD, List.getElem?_append_right (by omega), show a.length + k - a.length = k by omega]
  congr 1
  exact decide_eq_decide.2 (by omega)
theorem sh_drop (l : List UInt8) (i : Nat) (h : i ≤ l.length) : Sh (l.drop i) l i 0 := by
  have := sh_app (l.take i) (l.drop i)
  rw [List.take_append_drop, List.length_take, Nat.min_eq_left h] at this
  exact this

/-! ### A number that ends, with something else behind it -/
/-- l and m agree from 0 up to n; at n, m has what is no digit and no e, and behind a dot there no digit. -/
structure Ag (l m : List UInt8) (n : Int) : Prop where
  eq : ∀ p j, 0 ≤ j → j < n → sd p m j = sd p l j
  dg : sd dgI m n = false
  ex : sd (inS eB) m n = false
  dt : sd (inS dotB) m n = true → sd dgI m (n + 1) = false
theorem ag_dg {l m : List UInt8} {n : Int} (h : Ag l m n) {j : Int} (h0 : 0 ≤ j) (h1 : dgE l j ≤ n) : dgE m j = dgE l j := by
  have a := dgE_ge l j
  refine dgE_uniq a (fun k h2 h3 => ?_) ?_
  · rw [h.eq _ _ (by omega) (by omega)]; exact dgE_go h2 h3
  · by_cases e : dgE l j = n
    · rw [e]; exact h.dg
    · rw [h.eq _ _ (by omega) (by omega)]; exact dgE_stop _ _
theorem ag_fin {l m : List UInt8} {n k j : Int} (hr : (finA k l j).b = true) (hn : (finA k l j).e = n) : j = n ∧ (finA k l j).k = k := by
  cases e : sd moreI l j
  · rw [finA_f e] at hn ⊢; exact ⟨hn, rfl⟩
  · rw [finA_t e] at hr; cases hr
theorem ag_exp {l m : List UInt8} {n k j : Int} (h : Ag l m n) (h0 : 0 ≤ j) (hl : j ≤ l.length) (hk : k = 3 ∨ k = 4) (hr : (expA k l j).b = true) (hn : (expA k l j).e = n) : expA k m j = finA (expA k l j).k m n := by
  have hlo := (exp_in hk hl).lo
  cases e : sd (inS eB) l j
  · rw [expA_n e] at hr hn ⊢
    obtain ⟨a, b⟩ := ag_fin (m := m) hr hn
    subst a
    rw [b, expA_n h.ex]
  · have h1 := (sd_true.1 e).2.1
    have s := sign_ge l (j + 1)
    cases d : sd dgI l (signA l (j + 1))
    · rw [expA_w e d] at hr; cases hr
    · have hd := dgE_lt.2 d
      rw [expA_y e d] at hr hn ⊢
      obtain ⟨a, b⟩ := ag_fin (m := m) hr hn
      have e2 : sd (inS eB) m j = true := by rw [h.eq _ _ h0 (by omega)]; exact e
      have s2 : signA m (j + 1) = signA l (j + 1) := by unfold signA; rw [h.eq _ _ (by omega) (by omega)]
      have d2 : sd dgI m (signA m (j + 1)) = true := by rw [s2, h.eq _ _ (by omega) (by omega)]; exact d
      rw [expA_y e2 d2, s2, ag_dg h (by omega) (by omega), b, a]
/-- What stands for the number's own end. -/
def Ends (m : List UInt8) (n k : Int) (r : Nm) : Prop := r = finA k m n ∨ (sd (inS dotB) m n = true ∧ r.b = false)
theorem ag_frac {l m : List UInt8} {n j : Int} (h : Ag l m n) (h0 : 0 ≤ j) (hl : j ≤ l.length) (hr : (fracA l j).b = true) (hn : (fracA l j).e = n) : Ends m n (fracA l j).k (fracA m j) := by
  have hlo := (frac_in hl).lo
  cases e : sd (inS dotB) l j
  · rw [fracA_n e] at hr hn hlo ⊢
    by_cases hj : j = n
    · cases e2 : sd (inS dotB) m j
      · rw [fracA_n e2]; exact .inl (ag_exp h h0 hl (.inl rfl) hr hn)
      · rw [fracA_w e2 (by rw [hj]; exact h.dt (by rw [← hj]; exact e2))]; exact .inr ⟨by rw [← hj]; exact e2, rfl⟩
    · rw [fracA_n (by rw [h.eq _ _ h0 (by omega)]; exact e)]; exact .inl (ag_exp h h0 hl (.inl rfl) hr hn)
  · have h1 := (sd_true.1 e).2.1
    cases d : sd dgI l (j + 1)
    · rw [fracA_w e d] at hr; cases hr
    · have hd := dgE_lt.2 d
      have hd2 := dgE_le (l := l) (j := j + 1) (by omega)
      rw [fracA_y e d] at hr hn ⊢
      have lo2 := (exp_in (k := 4) (.inr rfl) hd2).lo
      rw [fracA_y (by rw [h.eq _ _ h0 (by omega)]; exact e) (by rw [h.eq _ _ (by omega) (by omega)]; exact d), ag_dg h (by omega) (by omega)]
      exact .inl (ag_exp h (by omega) hd2 (.inr rfl) hr hn)
theorem ag_body {l m : List UInt8} {n j : Int} (h : Ag l m n) (h0 : 0 ≤ j) (hl : j ≤ l.length) (hr : (bodyA l j).b = true) (hn : (bodyA l j).e = n) : Ends m n (bodyA l j).k (bodyA m j) := by
  have hlt := (body_in hl).2 hr
  cases e : sd (inS zeroB) l j
  · cases d : sd dgI l j
    · rw [bodyA_w e d] at hr; cases hr
    · have h4 := dgE_lt.2 d
      have h5 := dgE_le hl
      have h6 := (frac_in h5).lo
      rw [bodyA_y e d] at hr hn hlt ⊢
      rw [bodyA_y (by rw [h.eq _ _ h0 (by omega)]; exact e) (by rw [h.eq _ _ h0 (by omega)]; exact d), ag_dg h h0 (by omega)]
      exact ag_frac h (by omega) h5 hr hn
  · have h1 := (sd_true.1 e).2.1
    have h6 := (frac_in (l := l) (j := j + 1) (by omega)).lo
    rw [bodyA_z e] at hr hn hlt ⊢
    rw [bodyA_z (by rw [h.eq _ _ h0 (by omega)]; exact e)]
    exact ag_frac h (by omega) (by omega) hr hn
theorem ag_num {l m : List UInt8} {n : Int} (h : Ag l m n) (hr : (numA l 0).b = true) (hn : (numA l 0).e = n) : Ends m n (numA l 0).k (numA m 0) := by
  have hy := num_yes hr
  have hm := minus_le (l := l) (i := 0) (by omega)
  have e : minusA m 0 = minusA l 0 := by unfold minusA; rw [h.eq _ _ (by omega) (by omega)]
  unfold numA at hr hn ⊢
  rw [e]
  exact ag_body h hm.1 hm.2 hr hn
end Go.Proofs.YtpcijjdlppoblaaGreatDoor.Sc

/- Contracts of package num's functions: stands, goesOn, and the two closures of Number. -/
namespace Go.Proofs.YtpcijjdlppoblaaGreatDoor.Sc
open Go.RowKit
set_option linter.unusedVariables false

/-- A scope that is left by a jump forward to one label. -/
theorem wp_scope_forward {P : Program} {a : Act} {w : World} {Q : Exit → Act → World → Prop} {c rest : Code} (l : Nat) (hf : findLabel c l = some rest)
    (first : ∀ J : Act → World → Prop, (∀ a w, rest.wp P (Exit.noGoto Q) a w → J a w) → c.wp P (Exit.jump l J Q) a w) : (Code.scope c).wp P Q a w := by
  refine wp_scope_jumps l (fun a w => rest.wp P (Exit.noGoto Q) a w) (fun _ _ => 0) hf (first _ (fun _ _ h => h)) (fun a w h => ?_)
  refine Code.wp_mono ?_ h
  intro e a w hq
  cases e with
  | goto l => exact hq.elim
  | _ => exact hq
theorem jump_ret {l : Nat} {J : Act → World → Prop} {Q : Exit → Act → World → Prop} {a : Act} {w : World} : Exit.jump l J Q .ret a w = Q .ret a w := rfl

theorem bel_trans2 {n : Nat} {a b c : World} (h : Below n a b) (hn : n ≤ b.heap.size) (k : Below b.heap.size b c) : Below n a c := h.trans (k.mono hn)

theorem idx_nonneg (l : List UInt8) (c : UInt8) : (0 ≤ Lib.indexByte l c) ↔ l.contains c = true := by
  induction l with
  | nil => simp [Lib.indexByte]
  | cons b l ih =>
    have hg := Lib.indexByte_ge l c
    unfold Lib.indexByte
    by_cases hb : b = c
    · subst hb; simp
    · have hb' : (b == c) = false := by simpa using hb
      have hc : ((b :: l).contains c) = l.contains c := by
        have : (c == b) = false := beq_false_of_ne (fun e => hb e.symm)
        rw [List.contains_cons, this, Bool.false_or]
      rw [hb', hc, ← ih]
      simp only [Bool.false_eq_true, if_false]
      split
      · rename_i h; have : Lib.indexByte l c = -1 := by simpa using h
        omega
      · rename_i h; have : ¬ Lib.indexByte l c = -1 := by simpa using h
        omega
theorem inS_contains (S : List UInt8) (c : UInt8) : inS S c.toNat = S.contains c := by
  induction S with
  | nil => rfl
  | cons b S ih =>
    have e : inS (b :: S) c.toNat = (((b.toNat : Int) == (c.toNat : Int)) || inS S c.toNat) := rfl
    rw [e, ih, List.contains_cons]
    congr 1
    rw [Bool.eq_iff_iff, beq_iff_eq, beq_iff_eq]
    exact ⟨fun h => (UInt8.toNat_inj.1 (by omega)), fun h => by rw [h]⟩
theorem idx_inS (S : List UInt8) (c : UInt8) : decide (0 ≤ Lib.indexByte S c) = inS S c.toNat := by
  rw [inS_contains, Bool.eq_iff_iff, decide_eq_true_iff]; exact idx_nonneg S c

theorem indexByteString_run (s : ByteArray) (c : Int) (w : World) : (callFunc 117 #[.string s, .int .u8 c]).run Tryz.prog w = .ok (.value (.int .i64 (Lib.indexByte s.data.toList c.toNat.toUInt8))) w := by
  rw [run_callFunc_extern (e := Extern.BytealgIndexByte.indexByte) Tryz.func117 (by kernel_rfl) (by kernel_rfl) (by kernel_rfl) (by kernel_rfl) _ w, Lib.run_indexByteString]
  rfl
set_option maxHeartbeats 400000 in
theorem index0_any (s : ByteArray) (c : UInt8) (w : World) :
    Calls Tryz.prog 107 #[.string s, .int .u8 c.toNat] w fun e w' => e = .returned (.int .i64 (Lib.indexByte s.data.toList c)) ∧ w = w' := by
  have h := indexByteString_run s c.toNat
  simp only [Int.toNat_natCast, UInt8.ofNat_toNat, Nat.toUInt8_eq] at h
  go_enter Tryz.func107, Tryz.ntmps107
  go_wp2
  go_ret
  exact ⟨rfl, rfl⟩
set_option maxHeartbeats 400000 in
theorem index_any (s : ByteArray) (c : UInt8) (w : World) :
    Calls Tryz.prog 87 #[.string s, .int .u8 c.toNat] w fun e w' => e = .returned (.int .i64 (Lib.indexByte s.data.toList c)) ∧ w = w' := by
  go_enter Tryz.func87, Tryz.ntmps87
  go_wp2_with (go_at_call 107; refine (index0_any _ _ _).mono ?_; rintro e w' ⟨rfl, rfl⟩)
  go_ret
  exact ⟨rfl, rfl⟩

theorem sd_in {p : Int → Bool} {s : ByteArray} {k : Nat} (h : k < s.size) : sd p s.data.toList k = p ((s[k]).toNat : Int) := by
  have hsz : s.data.toList.length = s.size := (Lib.size_eq s).symm
  unfold sd
  rw [decide_eq_true (by omega), Bool.true_and, Int.toNat_natCast, List.getD_eq_getElem?_getD, List.getElem?_eq_getElem (by omega)]
  rfl

set_option maxHeartbeats 400000 in
theorem stands_any (s set : ByteArray) (i : Int) (w : World) :
    Calls Tryz.prog 120 #[.string s, .int .i64 i, .string set] w fun e w' => e = .returned (.bool (sd (inS set.data.toList) s.data.toList i)) ∧ w = w' := by
  have hsz : s.data.toList.length = s.size := (Lib.size_eq s).symm
  by_cases h0 : 0 ≤ i
  · obtain ⟨k, rfl⟩ := Int.eq_ofNat_of_zero_le h0
    by_cases h1 : k < s.size
    · rw [sd_in h1, ← idx_inS]
      clear hsz
      have d0 : decide ((0 : Int) ≤ (k : Int)) = true := by simp
      have d1 : decide ((k : Int) < (s.size : Int)) = true := by simp [h1]
      go_enter Tryz.func120, Tryz.ntmps120
      go_wp2_with fail
      (with_reducible refine (index_any _ _ _).mono ?_)
      rintro e w' ⟨rfl, rfl⟩
      go_wp2
      go_ret
      exact ⟨rfl, rfl⟩
    · rw [sd_out (.inr (by omega))]
      clear hsz
      have d0 : decide ((0 : Int) ≤ (k : Int)) = true := by simp
      have d1 : decide ((k : Int) < (s.size : Int)) = false := by simp; omega
      go_enter Tryz.func120, Tryz.ntmps120
      go_wp2
      go_ret
      exact ⟨rfl, rfl⟩
  · rw [sd_out (.inl (by omega))]
    clear hsz
    have d0 : decide ((0 : Int) ≤ i) = false := by simp; omega
    go_enter Tryz.func120, Tryz.ntmps120
    go_wp2
    go_ret
    exact ⟨rfl, rfl⟩

set_option maxHeartbeats 400000 in
theorem goesOn_any (s : ByteArray) (i : Int) (w : World) (h0 : 0 ≤ i) :
    Calls Tryz.prog 123 #[.string s, .int .i64 i] w fun e w' => e = .returned (.bool (sd moreI s.data.toList i)) ∧ w = w' := by
  have hsz : s.data.toList.length = s.size := (Lib.size_eq s).symm
  obtain ⟨k, rfl⟩ := Int.eq_ofNat_of_zero_le h0
  by_cases h1 : k < s.size
  · have e : sd moreI s.data.toList k = (sd (inS moreB) s.data.toList k || bgI ((s[k]).toNat : Int)) := by
      rw [← sd_in (p := bgI) h1, ← sd_or]; rfl
    rw [e]; clear e hsz
    have d1 : decide ((k : Int) < (s.size : Int)) = true := by simp [h1]
    have hst := fun w => stands_any s ⟨#[48, 49, 50, 51, 52, 53, 54, 55, 56, 57, 46]⟩ k w
    have eb : (⟨#[48, 49, 50, 51, 52, 53, 54, 55, 56, 57, 46]⟩ : ByteArray).data.toList = moreB := rfl
    rw [eb] at hst
    have hbg := begins_any ((s[k]).toNat : Int)
    clear eb
    generalize bgI ((s[k]).toNat : Int) = q at hbg ⊢
    cases hv : sd (inS moreB) s.data.toList k
    all_goals
      rw [hv] at hst
      clear hv
      go_enter Tryz.func123, Tryz.ntmps123
      go_wp2_with (first | (go_at_call 120; (with_reducible refine (hst _).mono ?_); rintro e w' ⟨rfl, rfl⟩) | (go_at_call 89; (with_reducible refine (hbg _).mono ?_); rintro e w' ⟨rfl, rfl⟩))
      go_ret
      exact ⟨by simp, rfl⟩
  · rw [sd_out (.inr (by omega))]
    clear hsz
    have d1 : decide ((k : Int) < (s.size : Int)) = false := by simp; omega
    go_enter Tryz.func123, Tryz.ntmps123
    go_wp2
    go_ret
    exact ⟨rfl, rfl⟩

/-- What stands while a number is read: the text, and where it is. -/
structure Nv (w0 : World) (s : ByteArray) (b1 b2 : Nat) (j : Int) (w : World) : Prop where
  c1 : w.cell? ⟨b1, 0, none⟩ = some (.string s)
  c2 : w.cell? ⟨b2, 0, none⟩ = some (.int .i64 j)
  f2 : w.frozen? ⟨b2, 0, none⟩ = false
  o2 : w0.heap.size ≤ b2
  l1 : b1 < w.heap.size
  l2 : b2 < w.heap.size
  n12 : b1 ≠ b2
  bel : Below w0.heap.size w0 w
theorem Nv.put {w0 : World} {s : ByteArray} {b1 b2 : Nat} {j : Int} {w : World} (h : Nv w0 s b1 b2 j w) (k : Int) : Nv w0 s b1 b2 k (w.setCell ⟨b2, 0, none⟩ (.int .i64 k)) := by
  obtain ⟨c1, c2, f2, o2, l1, l2, n12, bel⟩ := h
  refine ⟨?_, ?_, ?_, o2, ?_, ?_, n12, bel.setCell o2 _⟩ <;> simp [go_sem, *]
theorem Nv.below {w0 : World} {s : ByteArray} {b1 b2 : Nat} {j : Int} {w w' : World} (h : Nv w0 s b1 b2 j w) (k : Below w.heap.size w w') : Nv w0 s b1 b2 j w' := by
  obtain ⟨c1, c2, f2, o2, l1, l2, n12, bel⟩ := h
  have hz := k.size
  refine ⟨?_, ?_, ?_, o2, by omega, by omega, n12, bel_trans2 bel bel.size k⟩
  · rw [k.cell (p := ⟨b1, 0, none⟩) l1]; exact c1
  · rw [k.cell (p := ⟨b2, 0, none⟩) l2]; exact c2
  · rw [k.frozen (p := ⟨b2, 0, none⟩) l2]; exact f2

set_option maxHeartbeats 400000 in
theorem take_any (w0 : World) (s set : ByteArray) (b1 b2 : Nat) (j : Int) (w : World) (h : Nv w0 s b1 b2 j w) (hs : s.size ≤ 9223372036854775807) (hj : j ≤ 9223372036854775807) (hj0 : -9223372036854775808 ≤ j) :
    Calls Tryz.prog 119 #[.string set, .pointer (some ⟨b1, 0, none⟩), .pointer (some ⟨b2, 0, none⟩)] w fun e w' =>
      e = .returned (.bool (sd (inS set.data.toList) s.data.toList j)) ∧ Nv w0 s b1 b2 (adv (sd (inS set.data.toList) s.data.toList j) j) w' := by
  have hsz : s.data.toList.length = s.size := (Lib.size_eq s).symm
  have H := Lib.hid h
  obtain ⟨c1, c2, f2, o2, l1, l2, n12, bel⟩ := h
  have hst := stands_any s set j
  cases hv : sd (inS set.data.toList) s.data.toList j
  · rw [hv] at hst
    clear hv hsz
    go_enter Tryz.func119, Tryz.ntmps119
    go_wp2_with fail
    (with_reducible refine (hst _).mono ?_)
    rintro e w' ⟨rfl, rfl⟩
    go_wp2
    go_ret
    exact ⟨rfl, H.out⟩
  · have hin := sd_true.1 hv
    have g1 : 0 ≤ j := hin.1
    have g2 : j + 1 ≤ 9223372036854775807 := by have := hin.2.1; omega
    rw [hv] at hst
    clear hv hsz hin
    go_enter Tryz.func119, Tryz.ntmps119
    go_wp2_with fail
    (with_reducible refine (hst _).mono ?_)
    rintro e w' ⟨rfl, rfl⟩
    go_wp2
    go_ret
    exact ⟨rfl, H.out.put _⟩

set_option maxHeartbeats 400000 in
theorem digs_any (w0 : World) (s : ByteArray) (b1 b2 : Nat) (j : Int) (w : World) (h : Nv w0 s b1 b2 j w) (hs : s.size ≤ 9223372036854775807) :
    Calls Tryz.prog 121 #[.pointer (some ⟨b2, 0, none⟩), .pointer (some ⟨b1, 0, none⟩)] w fun e w' =>
      e = .returned (.bool (sd dgI s.data.toList j)) ∧ Nv w0 s b1 b2 (dgE s.data.toList j) w' := by
  have H := Lib.hid h
  obtain ⟨c1, c2, f2, o2, l1, l2, n12, bel⟩ := h
  rw [← dgE_dec]
  have hd := fun w => digits_any s j w hs
  have ed : atE (rn dgI) s.data.toList j = dgE s.data.toList j := rfl
  rw [ed] at hd
  clear ed
  generalize dgE s.data.toList j = D at hd ⊢
  go_enter Tryz.func121, Tryz.ntmps121
  go_wp2_with fail
  (with_reducible refine (hd _).mono ?_)
  rintro e w1 ⟨rfl, hb⟩
  have H1 := Lib.hid (H.out.below hb)
  have k1 := H1.out.c1
  have k2 := H1.out.c2
  have k3 := H1.out.f2
  have k4 := H1.out.l2
  go_wp2
  go_ret
  exact ⟨rfl, H1.out.put _⟩
end Go.Proofs.YtpcijjdlppoblaaGreatDoor.Sc

/- A number's three answers as an ending. -/
namespace Go.Proofs.YtpcijjdlppoblaaGreatDoor.Sc
def Nm.end (r : Nm) : Ending := .returned (.tuple #[.int .i64 r.k, .int .i64 r.e, .bool r.b])
end Go.Proofs.YtpcijjdlppoblaaGreatDoor.Sc

/- The contract of Number: ways that meet again are cut. -/
namespace Go.Proofs.YtpcijjdlppoblaaGreatDoor.Sc
open Go.RowKit
set_option linter.unusedVariables false

theorem take_b {w0 : World} {s : ByteArray} {b1 b2 : Nat} {j j' : Int} {w : World} {set : ByteArray} {v : Bool} (h : Nv w0 s b1 b2 j w) (hs : s.size ≤ 9223372036854775807) (hj : j ≤ 9223372036854775807) (hj0 : -9223372036854775808 ≤ j)
    (hv : sd (inS set.data.toList) s.data.toList j = v) (hj' : adv v j = j') :
    Calls Tryz.prog 119 #[.string set, .pointer (some ⟨b1, 0, none⟩), .pointer (some ⟨b2, 0, none⟩)] w fun e w' =>
      e = .returned (.bool v) ∧ Nv w0 s b1 b2 j' w' := by
  subst hv hj'; exact take_any w0 s set b1 b2 j w h hs hj hj0
theorem digs_b {w0 : World} {s : ByteArray} {b1 b2 : Nat} {j j' : Int} {w : World} {v : Bool} (h : Nv w0 s b1 b2 j w) (hs : s.size ≤ 9223372036854775807)
    (hv : sd dgI s.data.toList j = v) (hj' : dgE s.data.toList j = j') :
    Calls Tryz.prog 121 #[.pointer (some ⟨b2, 0, none⟩), .pointer (some ⟨b1, 0, none⟩)] w fun e w' =>
      e = .returned (.bool v) ∧ Nv w0 s b1 b2 j' w' := by
  subst hv hj'; exact digs_any w0 s b1 b2 j w h hs
theorem nv_start (s : ByteArray) (i : Int) (w : World) : Nv w s w.heap.size (w.heap.size + 1) i ((w.alloc (.cells #[.string s] 9)).alloc (.cells #[.int .i64 i] 3)) := by
  refine ⟨?_, ?_, ?_, by omega, ?_, ?_, by omega, bel_alloc (bel_alloc (Below.refl _ _) _) _⟩ <;> simp [go_sem]
theorem minus_bd {l : List UInt8} {i : Int} (h : (l.length : Int) ≤ 9223372036854775807) (hi : i ≤ 9223372036854775807) : i ≤ minusA l i ∧ minusA l i ≤ 9223372036854775807 := by
  unfold minusA
  cases e : sd (inS minusB) l i
  · exact ⟨Int.le_refl _, hi⟩
  · have := (sd_true.1 e).2.1; rw [adv_t]; omega

/-- What is known where ways meet: a place, a kind, and the closures' variables. -/
def Met (l : List UInt8) (i : Int) (F : Int → Int → Nm) (w : World) (s : ByteArray) (s7 : Value) (wx : World) : Prop :=
  ∃ j k : Int, s7 = .int .i64 k ∧ 0 ≤ j ∧ j ≤ l.length ∧ numA l i = F k j ∧ Nv w s w.heap.size (w.heap.size + 1) j wx
theorem met_mk {l : List UInt8} {i : Int} {F : Int → Int → Nm} {w : World} {s : ByteArray} {j k : Int} {wx : World} (h0 : 0 ≤ j) (h1 : j ≤ l.length) (hn : numA l i = F k j) (hb : Nv w s w.heap.size (w.heap.size + 1) j wx) :
    Met l i F w s (.int .i64 k) wx := ⟨j, k, rfl, h0, h1, hn, hb⟩
/-- Behind the whole part: wrong, or going on. -/
def Went (l : List UInt8) (i : Int) (w : World) (s : ByteArray) (s23 : Value) (wx : World) : Prop :=
  (∃ j : Int, s23 = .bool true ∧ numA l i = ⟨0, j, false⟩ ∧ Nv w s w.heap.size (w.heap.size + 1) j wx) ∨
  (∃ j : Int, s23 = .bool false ∧ 0 ≤ j ∧ j ≤ l.length ∧ numA l i = fracA l j ∧ Nv w s w.heap.size (w.heap.size + 1) j wx)

set_option maxHeartbeats 1000000 in
set_option maxRecDepth 100000 in
theorem number_any (s : ByteArray) (i : Int) (w : World) (hs : s.size ≤ 9223372036854775807) (hi : i ≤ 9223372036854775807) (hi0 : -9223372036854775808 ≤ i) :
    Calls Tryz.prog 109 #[.string s, .int .i64 i] w fun e w' => e = (numA s.data.toList i).end ∧ Below w.heap.size w w' := by
  have hsz0 : s.data.toList.length = s.size := (Lib.size_eq s).symm
  have hsz1 : (s.data.toList.length : Int) ≤ 9223372036854775807 := by omega
  clear hsz0
  have hmf : ∀ (fn : Fn) (first cap : Array Value) (w : World), (Instr.makeFunc fn first cap).run Tryz.prog w = .ok (.func fn first cap) w := fun _ _ _ _ => rfl
  obtain ⟨j1, e1⟩ : ∃ j, minusA s.data.toList i = j := ⟨_, rfl⟩
  have hb1 := minus_bd hsz1 hi
  have hn : numA s.data.toList i = bodyA s.data.toList j1 := by unfold numA; rw [e1]
  rw [e1] at hb1
  have HE1 := Lib.hid e1
  have HN := Lib.hid hn
  clear e1 hn
  have H := Lib.hid (nv_start s i w)
  have tk := fun (j j' : Int) (v : Bool) (set : ByteArray) (w' : World) => take_b (w0 := w) (s := s) (b1 := w.heap.size) (b2 := w.heap.size + 1) (j := j) (j' := j') (v := v) (w := w') (set := set)
  have dk := fun (j j' : Int) (v : Bool) (w' : World) => digs_b (w0 := w) (s := s) (b1 := w.heap.size) (b2 := w.heap.size + 1) (j := j) (j' := j') (v := v) (w := w')
  have c0 := fun w' h => tk i j1 _ ⟨#[45]⟩ w' h hs hi hi0 rfl HE1.out
  go_enter Tryz.func109, Tryz.ntmps109
  go_wp2_with fail
  refine wp_scope_forward 0 rfl ?_
  intro J hJ
  have HJ := Lib.hid hJ
  clear hJ
  go_upto_region 5 with ((with_reducible refine (c0 _ H.out).mono ?_); rintro e w1 ⟨rfl, h1⟩)
  clear H c0 hmf
  have H := Lib.hid h1
  clear h1
  go_cut [23] (fun s23 wx => Went s.data.toList i w s s23 wx)
  case first =>
    cases hz : sd (inS zeroB) s.data.toList j1
    · have c1 := fun w' h => tk j1 j1 false ⟨#[48]⟩ w' h hs (by omega) (by omega) hz (adv_f j1)
      cases hd : sd dgI s.data.toList j1
      · have c2 := fun w' h => dk j1 j1 false w' h hs hd (dgE_no hd)
        have HN2 := Lib.hid (HN.out.trans (bodyA_w hz hd))
        clear hz hd tk dk
        go_wp2_with fail
        (with_reducible refine (c1 _ H.out).mono ?_)
        rintro e w2 ⟨rfl, h2⟩
        go_wp2_with fail
        (with_reducible refine (c2 _ h2).mono ?_)
        rintro e w3 ⟨rfl, h3⟩
        go_wp2_with fail
        go_meet
        exact .inl ⟨j1, rfl, HN2.out, h3⟩
      · have g0 := (sd_true.1 hd).1
        have g3 := (sd_true.1 hd).2.1
        have g1 := dgE_lt.2 hd
        have g2 := dgE_le (l := s.data.toList) (j := j1) (by omega)
        have c2 := fun w' h => dk j1 _ true w' h hs hd rfl
        have HN2 := Lib.hid (HN.out.trans (bodyA_y hz hd))
        clear hz hd tk dk
        generalize dgE s.data.toList j1 = j2 at c2 g1 g2 HN2
        go_wp2_with fail
        (with_reducible refine (c1 _ H.out).mono ?_)
        rintro e w2 ⟨rfl, h2⟩
        go_wp2_with fail
        (with_reducible refine (c2 _ h2).mono ?_)
        rintro e w3 ⟨rfl, h3⟩
        go_wp2_with fail
        go_meet
        exact .inr ⟨j2, rfl, by omega, g2, HN2.out, h3⟩
    · have g0 := (sd_true.1 hz).1
      have g3 := (sd_true.1 hz).2.1
      have c1 := fun w' h => tk j1 (j1 + 1) true ⟨#[48]⟩ w' h hs (by omega) (by omega) hz (adv_t j1)
      have HN2 := Lib.hid (HN.out.trans (bodyA_z hz))
      clear hz tk dk
      go_wp2_with fail
      (with_reducible refine (c1 _ H.out).mono ?_)
      rintro e w2 ⟨rfl, h2⟩
      go_wp2_with fail
      go_meet
      exact .inr ⟨j1 + 1, rfl, by omega, by omega, HN2.out, h2⟩
  case rest =>
    clear H HN HE1 hb1
    rcases hcut with ⟨j2, rfl, hn2, h2⟩ | ⟨j2, rfl, p1, p2, hn2, h2⟩
    · have HN := Lib.hid hn2
      have H := Lib.hid h2
      have k2 := h2.c2
      clear hn2 h2 tk dk
      go_wp2_with fail
      go_step3
      refine ⟨rfl, HJ.out _ _ ?_⟩
      go_wp2_with fail
      go_quiet (fail)
      go_wp2_with fail
      rw [Exit.noGoto_ret]
      go_ret3
      exact ⟨by rw [HN.out]; rfl, below_drewN H.out.bel _⟩
    obtain ⟨v2, hv2⟩ : ∃ v, sd (inS dotB) s.data.toList j2 = v := ⟨_, rfl⟩
    have ct := fun w' h => tk j2 _ v2 ⟨#[46]⟩ w' h hs (by omega) (by omega) hv2 rfl
    have HN := Lib.hid hn2
    have HV := Lib.hid hv2
    have H := Lib.hid h2
    clear hn2 hv2 h2
    go_upto_if 25 with ((with_reducible refine (ct _ H.out).mono ?_); rintro e w3 ⟨rfl, h3⟩)
    clear H ct
    have H := Lib.hid h3
    clear h3
    go_cut [7] (fun s7 wx => Met s.data.toList i (fun k j => expA k s.data.toList j) w s s7 wx)
    case first =>
      cases v2
      · clear tk dk
        go_wp2_with fail
        go_meet
        exact met_mk p1 p2 (by rw [HN.out, fracA_n HV.out]) H.out
      · have h9 := H.out
        rw [adv_t] at h9
        clear H
        have H := Lib.hid h9
        clear h9
        have hx := (sd_true.1 HV.out).2.1
        cases hd : sd dgI s.data.toList (j2 + 1)
        · have c2 := fun w' h => dk (j2 + 1) (j2 + 1) false w' h hs hd (dgE_no hd)
          have HN2 := Lib.hid (HN.out.trans (fracA_w HV.out hd))
          clear hd tk dk
          go_wp2_with fail
          (with_reducible refine (c2 _ H.out).mono ?_)
          rintro e w4 ⟨rfl, h4⟩
          have H4 := Lib.hid h4
          have k2 := h4.c2
          clear h4
          go_wp2_with fail
          go_step3
          refine ⟨rfl, HJ.out _ _ ?_⟩
          go_wp2_with fail
          go_quiet (fail)
          go_wp2_with fail
          rw [Exit.noGoto_ret]
          go_ret3
          exact ⟨by rw [HN2.out]; rfl, below_drewN H4.out.bel _⟩
        · have g1 := dgE_lt.2 hd
          have g2 := dgE_le (l := s.data.toList) (j := j2 + 1) (by omega)
          have c2 := fun w' h => dk (j2 + 1) _ true w' h hs hd rfl
          have HN2 := Lib.hid (HN.out.trans (fracA_y HV.out hd))
          clear hd tk dk
          generalize dgE s.data.toList (j2 + 1) = j3 at c2 g1 g2 HN2
          go_wp2_with fail
          (with_reducible refine (c2 _ H.out).mono ?_)
          rintro e w4 ⟨rfl, h4⟩
          go_wp2_with fail
          go_meet
          exact met_mk (by omega) g2 HN2.out h4
    case rest =>
      obtain ⟨j3, k3, rfl, p3, p4, hn3, h3⟩ := hcut
      clear H HN HV p1 p2
      obtain ⟨v3, hv3⟩ : ∃ v, sd (inS eB) s.data.toList j3 = v := ⟨_, rfl⟩
      have ct := fun w' h => tk j3 _ v3 ⟨#[101, 69]⟩ w' h hs (by omega) (by omega) hv3 rfl
      have HN := Lib.hid hn3
      have HV := Lib.hid hv3
      have H := Lib.hid h3
      clear hn3 hv3 h3
      go_upto_if 30 with ((with_reducible refine (ct _ H.out).mono ?_); rintro e w4 ⟨rfl, h4⟩)
      clear H ct
      have H := Lib.hid h4
      clear h4
      go_cut [7] (fun s7 wx => Met s.data.toList i (fun k j => finA k s.data.toList j) w s s7 wx)
      case first =>
        cases v3
        · clear tk dk
          go_wp2_with fail
          go_meet
          exact met_mk p3 p4 (by rw [HN.out, expA_n HV.out]) H.out
        · have h9 := H.out
          rw [adv_t] at h9
          clear H
          have H := Lib.hid h9
          clear h9
          have hx := (sd_true.1 HV.out).2.1
          have hsl := sign_le (l := s.data.toList) (j := j3 + 1) (by omega)
          have hsg := sign_ge s.data.toList (j3 + 1)
          obtain ⟨j4, ej4⟩ : ∃ j, signA s.data.toList (j3 + 1) = j := ⟨_, rfl⟩
          have ct := fun w' h => tk (j3 + 1) j4 _ ⟨#[43, 45]⟩ w' h hs (by omega) (by omega) rfl ej4
          rw [ej4] at hsl hsg
          cases hd : sd dgI s.data.toList j4
          · have c2 := fun w' h => dk j4 j4 false w' h hs hd (dgE_no hd)
            have HN2 := Lib.hid (HN.out.trans ((expA_w HV.out (by rw [ej4]; exact hd)).trans (by rw [ej4])))
            clear hd ej4 tk dk
            go_wp2_with fail
            (with_reducible refine (ct _ H.out).mono ?_)
            rintro e w5 ⟨rfl, h5⟩
            go_wp2_with fail
            (with_reducible refine (c2 _ h5).mono ?_)
            rintro e w6 ⟨rfl, h6⟩
            have H6 := Lib.hid h6
            have k2 := h6.c2
            clear h6 h5
            go_wp2_with fail
            go_step3
            refine ⟨rfl, HJ.out _ _ ?_⟩
            go_wp2_with fail
            go_quiet (fail)
            go_wp2_with fail
            rw [Exit.noGoto_ret]
            go_ret3
            exact ⟨by rw [HN2.out]; rfl, below_drewN H6.out.bel _⟩
          · have g1 := dgE_lt.2 hd
            have g2 := dgE_le hsl
            have c2 := fun w' h => dk j4 _ true w' h hs hd rfl
            have HN2 := Lib.hid (HN.out.trans ((expA_y HV.out (by rw [ej4]; exact hd)).trans (by rw [ej4])))
            clear hd ej4 tk dk
            generalize dgE s.data.toList j4 = j5 at c2 g1 g2 HN2
            go_wp2_with fail
            (with_reducible refine (ct _ H.out).mono ?_)
            rintro e w5 ⟨rfl, h5⟩
            go_wp2_with fail
            (with_reducible refine (c2 _ h5).mono ?_)
            rintro e w6 ⟨rfl, h6⟩
            go_wp2_with fail
            go_meet
            exact met_mk (by omega) g2 HN2.out h6
      case rest =>
        obtain ⟨j6, k6, rfl, p5, p6, hn6, h6⟩ := hcut
        clear H HN HV p3 p4 tk dk
        have cg := fun w => goesOn_any s j6 w p5
        cases hm : sd moreI s.data.toList j6
        · rw [hm] at cg
          have HN := Lib.hid (hn6.trans (finA_f hm))
          have H := Lib.hid h6
          have k1 := h6.c1
          have k2 := h6.c2
          clear hm hn6 h6
          go_wp2_with fail
          (with_reducible refine (cg _).mono ?_)
          rintro e w' ⟨rfl, rfl⟩
          go_wp2_with fail
          go_quiet (fail)
          go_wp2_with fail
          rw [jump_ret]
          go_ret3
          exact ⟨by rw [HN.out]; rfl, below_drewN H.out.bel _⟩
        · rw [hm] at cg
          have HN := Lib.hid (hn6.trans (finA_t hm))
          have H := Lib.hid h6
          have k1 := h6.c1
          have k2 := h6.c2
          clear hm hn6 h6
          go_wp2_with fail
          (with_reducible refine (cg _).mono ?_)
          rintro e w' ⟨rfl, rfl⟩
          go_wp2_with fail
          go_step3
          refine ⟨rfl, HJ.out _ _ ?_⟩
          go_wp2_with fail
          go_quiet (fail)
          go_wp2_with fail
          rw [Exit.noGoto_ret]
          go_ret3
          exact ⟨by rw [HN.out]; rfl, below_drewN H.out.bel _⟩
end Go.Proofs.YtpcijjdlppoblaaGreatDoor.Sc
