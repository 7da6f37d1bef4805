/- Plain mathematics of layer 5: numbers as tokens. No walk. -/
import Derived.Test.YtjfhcgolgabkkaaDoorScanB
namespace Go.Proofs.YtjfhcgolgabkkaaDoor.Sc
set_option linter.unusedVariables false

/-- Is it one of some bytes? -/
def inS (S : List UInt8) (x : Int) : Bool := S.any (fun c => (c.toNat : Int) == x)
def dotB : List UInt8 := [46]
def minusB : List UInt8 := [45]
def zeroB : List UInt8 := [48]
def eB : List UInt8 := [101, 69]
def signB : List UInt8 := [43, 45]
def moreB : List UInt8 := [48, 49, 50, 51, 52, 53, 54, 55, 56, 57, 46]
/-- May it not stand behind a number? -/
def moreI (x : Int) : Bool := inS moreB x || bgI x
theorem dot_iff (x : Int) : inS dotB x = true ↔ x = 46 := by simp [inS, dotB]; omega
theorem minus_iff (x : Int) : inS minusB x = true ↔ x = 45 := by simp [inS, minusB]; omega
theorem zero_iff (x : Int) : inS zeroB x = true ↔ x = 48 := by simp [inS, zeroB]; omega
theorem e_iff (x : Int) : inS eB x = true ↔ x = 101 ∨ x = 69 := by simp [inS, eB]; omega
theorem sign_iff (x : Int) : inS signB x = true ↔ x = 43 ∨ x = 45 := by simp [inS, signB]; omega
theorem moreB_iff (x : Int) : inS moreB x = true ↔ (48 ≤ x ∧ x ≤ 57) ∨ x = 46 := by simp [inS, moreB]; omega
theorem dg_iff (x : Int) : dgI x = true ↔ 48 ≤ x ∧ x ≤ 57 := by simp [dgI]
theorem bg_iff (x : Int) : bgI x = true ↔ (97 ≤ x ∧ x ≤ 122) ∨ (65 ≤ x ∧ x ≤ 90) ∨ x = 95 := by simp [bgI]
theorem more_iff (x : Int) : moreI x = true ↔ ((48 ≤ x ∧ x ≤ 57) ∨ x = 46) ∨ (97 ≤ x ∧ x ≤ 122) ∨ (65 ≤ x ∧ x ≤ 90) ∨ x = 95 := by
  unfold moreI; rw [Bool.or_eq_true, moreB_iff, bg_iff]

theorem sd_true {p : Int → Bool} {l : List UInt8} {j : Int} : sd p l j = true ↔ 0 ≤ j ∧ j < l.length ∧ p ((l.getD j.toNat 0).toNat : Int) = true := by
  unfold sd; rw [Bool.and_eq_true, decide_eq_true_iff]; constructor
  · intro h; exact ⟨h.1.1, h.1.2, h.2⟩
  · intro h; exact ⟨⟨h.1, h.2.1⟩, h.2.2⟩
theorem sd_out {p : Int → Bool} {l : List UInt8} {j : Int} (h : j < 0 ∨ (l.length : Int) ≤ j) : sd p l j = false := by
  cases e : sd p l j
  · rfl
  · have := sd_true.1 e; omega
/-- What one kind of byte says of another. -/
theorem sd_imp {p q : Int → Bool} {l : List UInt8} {j : Int} (hpq : ∀ x, p x = true → q x = true) (h : sd p l j = true) : sd q l j = true := by
  have := sd_true.1 h; exact sd_true.2 ⟨this.1, this.2.1, hpq _ this.2.2⟩
theorem sd_not {p q : Int → Bool} {l : List UInt8} {j : Int} (hpq : ∀ x, p x = true → ¬ q x = true) (h : sd p l j = true) : sd q l j = false := by
  cases e : sd q l j
  · rfl
  · exact absurd (sd_true.1 e).2.2 (hpq _ (sd_true.1 h).2.2)
theorem sd_less {p q : Int → Bool} {l : List UInt8} {j : Int} (hpq : ∀ x, p x = true → q x = true) (h : sd q l j = false) : sd p l j = false := by
  cases e : sd p l j
  · rfl
  · rw [sd_imp hpq e] at h; cases h
theorem sd_or (p q : Int → Bool) (l : List UInt8) (j : Int) : sd (fun x => p x || q x) l j = (sd p l j || sd q l j) := by
  unfold sd; cases decide (0 ≤ j ∧ j < (l.length : Int)) <;> simp

/-- Where digits from j on end. -/
def dgE (l : List UInt8) (j : Int) : Int := atE (rn dgI) l j
theorem dgE_ge (l : List UInt8) (j : Int) : j ≤ dgE l j := atE_ge _ _ _
theorem dgE_go {l : List UInt8} {i j : Int} (h1 : i ≤ j) (h2 : j < dgE l i) : sd dgI l j = true := (sd_go h1 h2).1
theorem dgE_stop (l : List UInt8) (j : Int) : sd dgI l (dgE l j) = false := sd_stop _ _ _
theorem dgE_uniq {l : List UInt8} {j N : Int} (h1 : j ≤ N) (h2 : ∀ k, j ≤ k → k < N → sd dgI l k = true) (h3 : sd dgI l N = false) : dgE l j = N := by
  have a := dgE_ge l j
  rcases Int.lt_trichotomy (dgE l j) N with h | h | h
  · have := h2 _ a h; rw [dgE_stop] at this; cases this
  · exact h
  · have := dgE_go h1 h; rw [this] at h3; cases h3
theorem dgE_lt {l : List UInt8} {j : Int} : (j < dgE l j) ↔ sd dgI l j = true := by
  constructor
  · intro h; exact dgE_go (Int.le_refl _) h
  · intro h
    rcases Int.lt_or_le j (dgE l j) with k | k
    · exact k
    · have e : dgE l j = j := Int.le_antisymm k (dgE_ge l j)
      have := dgE_stop l j; rw [e, h] at this; cases this
theorem dgE_dec (l : List UInt8) (j : Int) : decide (j < dgE l j) = sd dgI l j := by
  rw [Bool.eq_iff_iff, decide_eq_true_iff]; exact dgE_lt
theorem dgE_le {l : List UInt8} {j : Int} (h : j ≤ l.length) : dgE l j ≤ l.length := by
  rcases Int.lt_or_le (l.length : Int) (dgE l j) with k | k
  · have := sd_true.1 (dgE_go (l := l) (i := j) (j := l.length) h k); omega
  · exact k
theorem dgE_no {l : List UInt8} {j : Int} (h : sd dgI l j = false) : dgE l j = j := dgE_uniq (Int.le_refl _) (fun k h1 h2 => by omega) h

/-- One byte more, if it is there. -/
def adv (b : Bool) (j : Int) : Int := if b = true then j + 1 else j
theorem adv_ge (b : Bool) (j : Int) : j ≤ adv b j ∧ adv b j ≤ j + 1 := by unfold adv; split <;> omega
theorem adv_t (j : Int) : adv true j = j + 1 := rfl
theorem adv_f (j : Int) : adv false j = j := rfl

/-! ### A number: kind, where, is it one -/
structure Nm where
  k : Int
  e : Int
  b : Bool
def finA (k : Int) (l : List UInt8) (j : Int) : Nm := if sd moreI l j = true then ⟨0, j, false⟩ else ⟨k, j, true⟩
def signA (l : List UInt8) (j : Int) : Int := adv (sd (inS signB) l j) j
def expA (k : Int) (l : List UInt8) (j : Int) : Nm :=
  if sd (inS eB) l j = true then (if sd dgI l (signA l (j + 1)) = true then finA 4 l (dgE l (signA l (j + 1))) else ⟨0, signA l (j + 1), false⟩) else finA k l j
def fracA (l : List UInt8) (j : Int) : Nm :=
  if sd (inS dotB) l j = true then (if sd dgI l (j + 1) = true then expA 4 l (dgE l (j + 1)) else ⟨0, j + 1, false⟩) else expA 3 l j
def bodyA (l : List UInt8) (j : Int) : Nm :=
  if sd (inS zeroB) l j = true then fracA l (j + 1) else if sd dgI l j = true then fracA l (dgE l j) else ⟨0, j, false⟩
def minusA (l : List UInt8) (i : Int) : Int := adv (sd (inS minusB) l i) i
def numA (l : List UInt8) (i : Int) : Nm := bodyA l (minusA l i)

theorem finA_t {k : Int} {l : List UInt8} {j : Int} (h : sd moreI l j = true) : finA k l j = ⟨0, j, false⟩ := by unfold finA; rw [if_pos h]
theorem finA_f {k : Int} {l : List UInt8} {j : Int} (h : sd moreI l j = false) : finA k l j = ⟨k, j, true⟩ := by unfold finA; rw [if_neg (by rw [h]; decide)]
theorem expA_n {k : Int} {l : List UInt8} {j : Int} (h : sd (inS eB) l j = false) : expA k l j = finA k l j := by unfold expA; rw [if_neg (by rw [h]; decide)]
theorem expA_y {k : Int} {l : List UInt8} {j : Int} (h : sd (inS eB) l j = true) (h2 : sd dgI l (signA l (j + 1)) = true) : expA k l j = finA 4 l (dgE l (signA l (j + 1))) := by
  unfold expA; rw [if_pos h, if_pos h2]
theorem expA_w {k : Int} {l : List UInt8} {j : Int} (h : sd (inS eB) l j = true) (h2 : sd dgI l (signA l (j + 1)) = false) : expA k l j = ⟨0, signA l (j + 1), false⟩ := by
  unfold expA; rw [if_pos h, if_neg (by rw [h2]; decide)]
theorem fracA_n {l : List UInt8} {j : Int} (h : sd (inS dotB) l j = false) : fracA l j = expA 3 l j := by unfold fracA; rw [if_neg (by rw [h]; decide)]
theorem fracA_y {l : List UInt8} {j : Int} (h : sd (inS dotB) l j = true) (h2 : sd dgI l (j + 1) = true) : fracA l j = expA 4 l (dgE l (j + 1)) := by
  unfold fracA; rw [if_pos h, if_pos h2]
theorem fracA_w {l : List UInt8} {j : Int} (h : sd (inS dotB) l j = true) (h2 : sd dgI l (j + 1) = false) : fracA l j = ⟨0, j + 1, false⟩ := by
  unfold fracA; rw [if_pos h, if_neg (by rw [h2]; decide)]
theorem bodyA_z {l : List UInt8} {j : Int} (h : sd (inS zeroB) l j = true) : bodyA l j = fracA l (j + 1) := by unfold bodyA; rw [if_pos h]
theorem bodyA_y {l : List UInt8} {j : Int} (h : sd (inS zeroB) l j = false) (h2 : sd dgI l j = true) : bodyA l j = fracA l (dgE l j) := by
  unfold bodyA; rw [if_neg (by rw [h]; decide), if_pos h2]
theorem bodyA_w {l : List UInt8} {j : Int} (h : sd (inS zeroB) l j = false) (h2 : sd dgI l j = false) : bodyA l j = ⟨0, j, false⟩ := by
  unfold bodyA; rw [if_neg (by rw [h]; decide), if_neg (by rw [h2]; decide)]

/-! ### Where it ends -/
/-- What is no number tells 0; what is one, 3 or 4; where it is lies between. -/
structure In (l : List UInt8) (j : Int) (r : Nm) : Prop where
  lo : j ≤ r.e
  hi : r.e ≤ l.length
  no : r.b = false → r.k = 0
  yes : r.b = true → r.k = 3 ∨ r.k = 4
theorem fin_in {k : Int} {l : List UInt8} {j : Int} (hk : k = 3 ∨ k = 4) (h : j ≤ l.length) : In l j (finA k l j) := by
  cases e : sd moreI l j
  · rw [finA_f e]; exact ⟨Int.le_refl _, h, (fun e => by cases e), fun _ => hk⟩
  · rw [finA_t e]; exact ⟨Int.le_refl _, h, fun _ => rfl, fun e => by cases e⟩
theorem sign_ge (l : List UInt8) (j : Int) : j ≤ signA l j ∧ signA l j ≤ j + 1 := adv_ge _ _
theorem sign_le {l : List UInt8} {j : Int} (h : j ≤ l.length) : signA l j ≤ l.length := by
  unfold signA
  cases e : sd (inS signB) l j
  · exact h
  · have := (sd_true.1 e).2.1; rw [adv_t]; omega
theorem exp_in {k : Int} {l : List UInt8} {j : Int} (hk : k = 3 ∨ k = 4) (h : j ≤ l.length) : In l j (expA k l j) := by
  cases e : sd (inS eB) l j
  · rw [expA_n e]; exact fin_in hk h
  · have h1 := (sd_true.1 e).2.1
    have h2 := sign_ge l (j + 1)
    have h3 := sign_le (l := l) (j := j + 1) (by omega)
    cases d : sd dgI l (signA l (j + 1))
    · rw [expA_w e d]; exact ⟨by show j ≤ signA l (j + 1); omega, h3, fun _ => rfl, fun e => by cases e⟩
    · have h4 := dgE_ge l (signA l (j + 1))
      have h5 := dgE_le h3
      rw [expA_y e d]
      obtain ⟨a, b, c, f⟩ := fin_in (k := 4) (.inr rfl) h5
      exact ⟨by omega, b, c, f⟩
theorem frac_in {l : List UInt8} {j : Int} (h : j ≤ l.length) : In l j (fracA l j) := by
  cases e : sd (inS dotB) l j
  · rw [fracA_n e]; exact exp_in (.inl rfl) h
  · have h1 := (sd_true.1 e).2.1
    cases d : sd dgI l (j + 1)
    · rw [fracA_w e d]; exact ⟨by show j ≤ j + 1; omega, by show j + 1 ≤ _; omega, fun _ => rfl, fun e => by cases e⟩
    · have h4 := dgE_ge l (j + 1)
      have h5 := dgE_le (l := l) (j := j + 1) (by omega)
      rw [fracA_y e d]
      obtain ⟨a, b, c, f⟩ := exp_in (k := 4) (.inr rfl) h5
      exact ⟨by omega, b, c, f⟩
theorem body_in {l : List UInt8} {j : Int} (h : j ≤ l.length) : In l j (bodyA l j) ∧ ((bodyA l j).b = true → j < (bodyA l j).e) := by
  cases e : sd (inS zeroB) l j
  · cases d : sd dgI l j
    · rw [bodyA_w e d]; exact ⟨⟨Int.le_refl _, h, fun _ => rfl, fun e => by cases e⟩, fun e => by cases e⟩
    · have h4 := dgE_lt.2 d
      have h5 := dgE_le h
      rw [bodyA_y e d]
      obtain ⟨a, b, c, f⟩ := frac_in h5
      exact ⟨⟨by omega, b, c, f⟩, fun _ => by omega⟩
  · have h1 := (sd_true.1 e).2.1
    rw [bodyA_z e]
    obtain ⟨a, b, c, f⟩ := frac_in (l := l) (j := j + 1) (by omega)
    exact ⟨⟨by omega, b, c, f⟩, fun _ => by omega⟩
theorem num_out {l : List UInt8} {i : Int} (h : i < 0 ∨ (l.length : Int) ≤ i) : numA l i = ⟨0, i, false⟩ := by
  have e : minusA l i = i := by unfold minusA; rw [sd_out h]; rfl
  unfold numA; rw [e]; exact bodyA_w (sd_out h) (sd_out h)
theorem minus_le {l : List UInt8} {i : Int} (h : i ≤ l.length) : i ≤ minusA l i ∧ minusA l i ≤ l.length := by
  unfold minusA
  cases e : sd (inS minusB) l i
  · exact ⟨Int.le_refl _, h⟩
  · have := (sd_true.1 e).2.1; rw [adv_t]; omega
theorem num_in {l : List UInt8} {i : Int} (h0 : 0 ≤ i) (h : i ≤ l.length) : In l i (numA l i) ∧ ((numA l i).b = true → i < (numA l i).e) := by
  have h1 := minus_le h
  obtain ⟨⟨a, b, c, f⟩, g⟩ := body_in h1.2
  unfold numA
  exact ⟨⟨by omega, b, c, f⟩, fun e => by have := g e; omega⟩
/-- The answers of any place. -/
theorem num_no {l : List UInt8} {i : Int} (h : (numA l i).b = false) : (numA l i).k = 0 ∧ ((numA l i).e = i ∨ i < (numA l i).e ∧ (numA l i).e ≤ l.length) := by
  by_cases hi : 0 ≤ i ∧ i ≤ l.length
  · obtain ⟨a, g⟩ := num_in hi.1 hi.2
    have := a.lo; have := a.hi
    exact ⟨a.no h, by omega⟩
  · rw [num_out (by omega)]; exact ⟨rfl, .inl rfl⟩
theorem num_yes {l : List UInt8} {i : Int} (h : (numA l i).b = true) : 0 ≤ i ∧ i < (numA l i).e ∧ (numA l i).e ≤ l.length ∧ ((numA l i).k = 3 ∨ (numA l i).k = 4) := by
  by_cases hi : 0 ≤ i ∧ i ≤ l.length
  · obtain ⟨a, g⟩ := num_in hi.1 hi.2
    exact ⟨hi.1, g h, a.hi, a.yes h⟩
  · rw [num_out (by omega)] at h; cases h
theorem num_lo (l : List UInt8) (i : Int) : i ≤ (numA l i).e ∧ ((numA l i).e ≤ l.length ∨ (numA l i).e = i) := by
  cases h : (numA l i).b
  · have := num_no h; omega
  · have := num_yes h; omega

/-! ### Texts that agree from a place on -/
def shift (d : Int) (r : Nm) : Nm := ⟨r.k, r.e + d, r.b⟩
def Sh (l m : List UInt8) (d i : Int) : Prop := ∀ p j, i ≤ j → sd p m (j + d) = sd p l j
theorem dgE_sh {l m : List UInt8} {d i : Int} (h : Sh l m d i) {j : Int} (hj : i ≤ j) : dgE m (j + d) = dgE l j + d := by
  have a := dgE_ge l j
  refine dgE_uniq (by omega) (fun k h1 h2 => ?_) ?_
  · have := h dgI (k - d) (by omega); rw [show k - d + d = k by omega] at this; rw [this]
    exact dgE_go (i := j) (by omega) (by omega)
  · rw [h dgI _ (by omega)]; exact dgE_stop _ _
theorem sign_sh {l m : List UInt8} {d i : Int} (h : Sh l m d i) {j : Int} (hj : i ≤ j) : signA m (j + d) = signA l j + d := by
  unfold signA; rw [h _ _ hj]; unfold adv; split <;> omega
theorem fin_sh {l m : List UInt8} {d i : Int} (h : Sh l m d i) {k j : Int} (hj : i ≤ j) : finA k m (j + d) = shift d (finA k l j) := by
  unfold finA; rw [h _ _ hj]; split <;> rfl
theorem exp_sh {l m : List UInt8} {d i : Int} (h : Sh l m d i) {k j : Int} (hj : i ≤ j) : expA k m (j + d) = shift d (expA k l j) := by
  unfold expA
  have e : j + d + 1 = j + 1 + d := by omega
  have s := sign_ge l (j + 1)
  rw [h _ _ hj, e, sign_sh h (by omega), h _ _ (by omega), dgE_sh h (by omega), fin_sh h hj, fin_sh h (by have := dgE_ge l (signA l (j + 1)); omega)]
  split
  · split <;> rfl
  · rfl
theorem frac_sh {l m : List UInt8} {d i : Int} (h : Sh l m d i) {j : Int} (hj : i ≤ j) : fracA m (j + d) = shift d (fracA l j) := by
  unfold fracA
  have e : j + d + 1 = j + 1 + d := by omega
  have s := dgE_ge l (j + 1)
  rw [h _ _ hj, e, h _ _ (by omega), dgE_sh h (by omega), exp_sh h hj, exp_sh h (by omega)]
  split
  · split
    · rfl
    · rfl
  · rfl
theorem body_sh {l m : List UInt8} {d i : Int} (h : Sh l m d i) {j : Int} (hj : i ≤ j) : bodyA m (j + d) = shift d (bodyA l j) := by
  unfold bodyA
  have e : j + d + 1 = j + 1 + d := by omega
  have s := dgE_ge l j
  rw [h _ _ hj, e, h _ _ hj, dgE_sh h hj, frac_sh h (by omega), frac_sh h (by omega)]
  split
  · rfl
  · split <;> rfl
theorem minus_sh {l m : List UInt8} {d i : Int} (h : Sh l m d i) {j : Int} (hj : i ≤ j) : minusA m (j + d) = minusA l j + d := by
  unfold minusA; rw [h _ _ hj]; unfold adv; split <;> omega
theorem num_sh {l m : List UInt8} {d i : Int} (h : Sh l m d i) {j : Int} (hj : i ≤ j) : numA m (j + d) = shift d (numA l j) := by
  unfold numA
  have s : j ≤ minusA l j := (adv_ge _ _).1
  rw [minus_sh h hj, body_sh h (by omega)]
theorem sh_app (a s : List UInt8) : Sh s (a ++ s) a.length 0 := fun p j hj => by
  obtain ⟨k, rfl⟩ := Int.eq_ofNat_of_zero_le hj
  unfold sd
  rw [show ((k : Int) + (a.length : Int)).toNat = a.length + k by omega, Int.toNat_natCast, List.length_append]
  rw [List.getD_eq_getElem?_getD, List.getD_eq_getElem?_getD, List.getElem?_append_right (by omega), show a.length + k - a.length = k by omega]
  congr 1
  exact decide_eq_decide.2 (by omega)
theorem sh_drop (l : List UInt8) (i : Nat) (h : i ≤ l.length) : Sh (l.drop i) l i 0 := by
  have := sh_app (l.take i) (l.drop i)
  rw [List.take_append_drop, List.length_take, Nat.min_eq_left h] at this
  exact this

/-! ### A number that ends, with something else behind it -/
/-- l and m agree from 0 up to n; at n, m has what is no digit and no e, and behind a dot there no digit. -/
structure Ag (l m : List UInt8) (n : Int) : Prop where
  eq : ∀ p j, 0 ≤ j → j < n → sd p m j = sd p l j
  dg : sd dgI m n = false
  ex : sd (inS eB) m n = false
  dt : sd (inS dotB) m n = true → sd dgI m (n + 1) = false
theorem ag_dg {l m : List UInt8} {n : Int} (h : Ag l m n) {j : Int} (h0 : 0 ≤ j) (h1 : dgE l j ≤ n) : dgE m j = dgE l j := by
  have a := dgE_ge l j
  refine dgE_uniq a (fun k h2 h3 => ?_) ?_
  · rw [h.eq _ _ (by omega) (by omega)]; exact dgE_go h2 h3
  · by_cases e : dgE l j = n
    · rw [e]; exact h.dg
    · rw [h.eq _ _ (by omega) (by omega)]; exact dgE_stop _ _
theorem ag_fin {l m : List UInt8} {n k j : Int} (hr : (finA k l j).b = true) (hn : (finA k l j).e = n) : j = n ∧ (finA k l j).k = k := by
  cases e : sd moreI l j
  · rw [finA_f e] at hn ⊢; exact ⟨hn, rfl⟩
  · rw [finA_t e] at hr; cases hr
theorem ag_exp {l m : List UInt8} {n k j : Int} (h : Ag l m n) (h0 : 0 ≤ j) (hl : j ≤ l.length) (hk : k = 3 ∨ k = 4) (hr : (expA k l j).b = true) (hn : (expA k l j).e = n) : expA k m j = finA (expA k l j).k m n := by
  have hlo := (exp_in hk hl).lo
  cases e : sd (inS eB) l j
  · rw [expA_n e] at hr hn ⊢
    obtain ⟨a, b⟩ := ag_fin (m := m) hr hn
    subst a
    rw [b, expA_n h.ex]
  · have h1 := (sd_true.1 e).2.1
    have s := sign_ge l (j + 1)
    cases d : sd dgI l (signA l (j + 1))
    · rw [expA_w e d] at hr; cases hr
    · have hd := dgE_lt.2 d
      rw [expA_y e d] at hr hn ⊢
      obtain ⟨a, b⟩ := ag_fin (m := m) hr hn
      have e2 : sd (inS eB) m j = true := by rw [h.eq _ _ h0 (by omega)]; exact e
      have s2 : signA m (j + 1) = signA l (j + 1) := by unfold signA; rw [h.eq _ _ (by omega) (by omega)]
      have d2 : sd dgI m (signA m (j + 1)) = true := by rw [s2, h.eq _ _ (by omega) (by omega)]; exact d
      rw [expA_y e2 d2, s2, ag_dg h (by omega) (by omega), b, a]
/-- What stands for the number's own end. -/
def Ends (m : List UInt8) (n k : Int) (r : Nm) : Prop := r = finA k m n ∨ (sd (inS dotB) m n = true ∧ r.b = false)
theorem ag_frac {l m : List UInt8} {n j : Int} (h : Ag l m n) (h0 : 0 ≤ j) (hl : j ≤ l.length) (hr : (fracA l j).b = true) (hn : (fracA l j).e = n) : Ends m n (fracA l j).k (fracA m j) := by
  have hlo := (frac_in hl).lo
  cases e : sd (inS dotB) l j
  · rw [fracA_n e] at hr hn hlo ⊢
    by_cases hj : j = n
    · cases e2 : sd (inS dotB) m j
      · rw [fracA_n e2]; exact .inl (ag_exp h h0 hl (.inl rfl) hr hn)
      · rw [fracA_w e2 (by rw [hj]; exact h.dt (by rw [← hj]; exact e2))]; exact .inr ⟨by rw [← hj]; exact e2, rfl⟩
    · rw [fracA_n (by rw [h.eq _ _ h0 (by omega)]; exact e)]; exact .inl (ag_exp h h0 hl (.inl rfl) hr hn)
  · have h1 := (sd_true.1 e).2.1
    cases d : sd dgI l (j + 1)
    · rw [fracA_w e d] at hr; cases hr
    · have hd := dgE_lt.2 d
      have hd2 := dgE_le (l := l) (j := j + 1) (by omega)
      rw [fracA_y e d] at hr hn ⊢
      have lo2 := (exp_in (k := 4) (.inr rfl) hd2).lo
      rw [fracA_y (by rw [h.eq _ _ h0 (by omega)]; exact e) (by rw [h.eq _ _ (by omega) (by omega)]; exact d), ag_dg h (by omega) (by omega)]
      exact .inl (ag_exp h (by omega) hd2 (.inr rfl) hr hn)
theorem ag_body {l m : List UInt8} {n j : Int} (h : Ag l m n) (h0 : 0 ≤ j) (hl : j ≤ l.length) (hr : (bodyA l j).b = true) (hn : (bodyA l j).e = n) : Ends m n (bodyA l j).k (bodyA m j) := by
  have hlt := (body_in hl).2 hr
  cases e : sd (inS zeroB) l j
  · cases d : sd dgI l j
    · rw [bodyA_w e d] at hr; cases hr
    · have h4 := dgE_lt.2 d
      have h5 := dgE_le hl
      have h6 := (frac_in h5).lo
      rw [bodyA_y e d] at hr hn hlt ⊢
      rw [bodyA_y (by rw [h.eq _ _ h0 (by omega)]; exact e) (by rw [h.eq _ _ h0 (by omega)]; exact d), ag_dg h h0 (by omega)]
      exact ag_frac h (by omega) h5 hr hn
  · have h1 := (sd_true.1 e).2.1
    have h6 := (frac_in (l := l) (j := j + 1) (by omega)).lo
    rw [bodyA_z e] at hr hn hlt ⊢
    rw [bodyA_z (by rw [h.eq _ _ h0 (by omega)]; exact e)]
    exact ag_frac h (by omega) (by omega) hr hn
theorem ag_num {l m : List UInt8} {n : Int} (h : Ag l m n) (hr : (numA l 0).b = true) (hn : (numA l 0).e = n) : Ends m n (numA l 0).k (numA m 0) := by
  have hy := num_yes hr
  have hm := minus_le (l := l) (i := 0) (by omega)
  have e : minusA m 0 = minusA l 0 := by unfold minusA; rw [h.eq _ _ (by omega) (by omega)]
  unfold numA at hr hn ⊢
  rw [e]
  exact ag_body h hm.1 hm.2 hr hn
end Go.Proofs.YtjfhcgolgabkkaaDoor.Sc
