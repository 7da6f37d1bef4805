/- Plain mathematics of float64 words for layer 3: whole numbers below 2 to the 53 are exact, their sums, products and exact quotients too; how words stand to 0, to themselves, to their double. -/
import Derived.Laws.FloatArith
import Derived.KernelRfl
namespace Go.Proofs.YtocgknhpecobfaaDoor
open Ieee

theorem d_least : double.leastPlace = -1074 := by decide
theorem d_binade : double.binade = 4503599627370496 := by decide
theorem d_inf : double.infRung = 9218868437227405312 := by decide
theorem d_sign : double.signWeight = 9223372036854775808 := by decide
theorem d_frac : double.fractionBits = 52 := rfl

theorem p52 : (2:Nat)^52 = 4503599627370496 := by decide
theorem p53 : (2:Nat)^53 = 9007199254740992 := by decide

theorem log2_shift (N j : Nat) (h : N ≠ 0) : (N * 2^j).log2 = N.log2 + j := by
  have h2 : N * 2^j ≠ 0 := Nat.mul_ne_zero h (Nat.pos_iff_ne_zero.1 (Nat.two_pow_pos j))
  rw [Nat.log2_eq_iff h2]
  constructor
  · rw [Nat.pow_add]; exact Nat.mul_le_mul_right _ (Nat.log2_self_le h)
  · have : N < 2^(N.log2+1) := Nat.lt_log2_self
    rw [show N.log2 + j + 1 = (N.log2 + 1) + j by omega, Nat.pow_add]
    exact Nat.mul_lt_mul_of_pos_right this (Nat.two_pow_pos j)

theorem cut_exact (neg : Bool) (K d : Nat) (h : K ≠ 0) : Toward.even.cut neg (K * 2^d) d = K := by
  have h2 : K * 2^d ≠ 0 := Nat.mul_ne_zero h (Nat.pos_iff_ne_zero.1 (Nat.two_pow_pos d))
  have e : min d ((K * 2^d).log2 + 2) = d := by rw [log2_shift K d h]; omega
  unfold Toward.cut
  simp only [e, Nat.shiftLeft_eq, Nat.one_mul]
  have hp := Nat.two_pow_pos d
  rw [Nat.mul_mod_left, Nat.mul_div_cancel _ hp]
  have : (2^d == 2 * 0) = false := by
    apply beq_false_of_ne; omega
  simp [this]

/-- The rung of a whole number. -/
def rungW (N : Nat) : Nat := if N = 0 then 0 else (1022 + N.log2) * 4503599627370496 + N * 2^(52 - N.log2)

theorem log2_le52 {N : Nat} (h : N < 9007199254740992) (h0 : N ≠ 0) : N.log2 ≤ 52 := by
  have : N.log2 < 53 := (Nat.log2_lt h0).2 (by rw [p53]; exact h)
  omega

theorem norm_lo {N : Nat} (h : N < 9007199254740992) (h0 : N ≠ 0) : 4503599627370496 ≤ N * 2^(52 - N.log2) ∧ N * 2^(52 - N.log2) < 9007199254740992 := by
  have h1 := log2_le52 h h0
  have a := Nat.log2_self_le h0
  have b : N < 2^(N.log2+1) := Nat.lt_log2_self
  constructor
  · have : 2^N.log2 * 2^(52 - N.log2) ≤ N * 2^(52 - N.log2) := Nat.mul_le_mul_right _ a
    rw [← Nat.pow_add, show N.log2 + (52 - N.log2) = 52 by omega, p52] at this
    exact this
  · have : N * 2^(52 - N.log2) < 2^(N.log2+1) * 2^(52 - N.log2) := Nat.mul_lt_mul_of_pos_right b (Nat.two_pow_pos _)
    rw [← Nat.pow_add, show N.log2 + 1 + (52 - N.log2) = 53 by omega, p53] at this
    exact this

theorem rungW_lt {N : Nat} (h : N < 9007199254740992) : rungW N < 9218868437227405312 := by
  unfold rungW
  split
  · omega
  · rename_i h0
    have := norm_lo h h0
    have := log2_le52 h h0
    omega

theorem nearest_whole (neg : Bool) (N j : Nat) (h : N < 9007199254740992) : double.nearest neg (N * 2^j) (-(j : Int)) = double.word neg (rungW N) := by
  by_cases h0 : N = 0
  · subst h0
    simp [Format.nearest, rungW]
  · have hm : N * 2^j ≠ 0 := Nat.mul_ne_zero h0 (Nat.pos_iff_ne_zero.1 (Nat.two_pow_pos j))
    have hl := log2_le52 h h0
    have hn := norm_lo h h0
    have hmax : max (-(j:Int) + ((N * 2^j).log2 : Nat) - (double.fractionBits : Nat)) double.leastPlace = (N.log2 : Int) - 52 := by
      rw [log2_shift N j h0, d_least, d_frac]; omega
    unfold Format.nearest
    rw [if_neg hm]
    simp only [hmax]
    simp only [d_binade, d_inf, d_least]
    have e3 : ((N.log2 : Int) - 52 - -1074).toNat = 1022 + N.log2 := by omega
    rw [e3]
    have kept : Toward.even.cut neg ((N * 2^j) <<< (-(j:Int) - ((N.log2 : Int) - 52)).toNat) ((N.log2 : Int) - 52 - -(j:Int)).toNat = N * 2^(52 - N.log2) := by
      have hK : N * 2^(52 - N.log2) ≠ 0 := by omega
      by_cases hj : j ≤ 52 - N.log2
      · have e1 : (-(j:Int) - ((N.log2 : Int) - 52)).toNat = 52 - N.log2 - j := by omega
        have e2 : ((N.log2 : Int) - 52 - -(j:Int)).toNat = 0 := by omega
        rw [e1, e2, Nat.shiftLeft_eq, Nat.mul_assoc, ← Nat.pow_add, show j + (52 - N.log2 - j) = 52 - N.log2 by omega]
        have := cut_exact neg (N * 2^(52 - N.log2)) 0 hK
        simpa using this
      · have e1 : (-(j:Int) - ((N.log2 : Int) - 52)).toNat = 0 := by omega
        have e2 : ((N.log2 : Int) - 52 - -(j:Int)).toNat = j - (52 - N.log2) := by omega
        rw [e1, e2, Nat.shiftLeft_zero]
        have := cut_exact neg (N * 2^(52 - N.log2)) (j - (52 - N.log2)) hK
        rw [Nat.mul_assoc, ← Nat.pow_add, show 52 - N.log2 + (j - (52 - N.log2)) = j by omega] at this
        exact this
    rw [kept]
    unfold rungW
    rw [if_neg h0]
    congr 1
    omega

theorem write_whole (neg : Bool) (N j : Nat) (h : N < 9007199254740992) : double.write (.number neg (N * 2^j) (-(j : Int))) = double.word neg (rungW N) := nearest_whole neg N j h

/-- The word of a whole number. -/
def W (N : Nat) : Nat := rungW N

theorem floatOfInt_W (n : Nat) (h : n < 9007199254740992) : floatOfInt .f64 (n : Int) = W n := by
  have e : floatOfInt .f64 (n : Int) = double.write (.number (decide ((n:Int) < 0)) (n:Int).natAbs 0) := rfl
  have hd : decide ((n:Int) < 0) = false := by simp
  have := write_whole false n 0 h
  simp only [Nat.pow_zero, Nat.mul_one] at this
  rw [e, hd, Int.natAbs_natCast]
  exact this

theorem word_false (r : Nat) : double.word false r = r := rfl

/-- The place of a whole number's word. -/
def plW (N : Nat) : Nat := if N = 0 then 1074 else 52 - N.log2

theorem read_W (N : Nat) (h : N < 9007199254740992) : double.read (W N) = .number false (N * 2^(plW N)) (-(plW N : Int)) := by
  unfold W rungW plW
  by_cases h0 : N = 0
  · subst h0
    simp only [if_pos, Nat.zero_mul]
    decide
  · simp only [if_neg h0]
    have hn := norm_lo h h0
    have hl := log2_le52 h h0
    unfold Format.read
    simp only [d_sign, d_binade, d_inf, d_least]
    have e1 : (((1022 + N.log2) * 4503599627370496 + N * 2^(52 - N.log2)) / 9223372036854775808 % 2 == 1) = false := by
      apply beq_false_of_ne; omega
    have e2 : ((1022 + N.log2) * 4503599627370496 + N * 2^(52 - N.log2)) % 9223372036854775808 = (1022 + N.log2) * 4503599627370496 + N * 2^(52 - N.log2) := by omega
    rw [e1, e2, if_neg (by omega), if_pos (by omega)]
    congr 1
    · omega
    · omega

theorem mul_W (a b : Nat) (ha : a < 9007199254740992) (hb : b < 9007199254740992) (h : a * b < 9007199254740992) : double.mul (W a) (W b) = some (W (a * b)) := by
  unfold Format.mul
  rw [read_W a ha, read_W b hb]
  simp only [Datum.product, Option.map_some, Bool.xor_self]
  have e : a * 2^plW a * (b * 2^plW b) = (a * b) * 2^(plW a + plW b) := by
    rw [Nat.pow_add]; simp only [Nat.mul_assoc, Nat.mul_left_comm]
  have e2 : -(plW a : Int) + -(plW b : Int) = -((plW a + plW b : Nat) : Int) := by omega
  rw [e, e2, write_whole _ _ _ h]
  rfl

theorem signed_false (m u : Nat) : signed false m u = ((m * 2^u : Nat) : Int) := by
  simp [signed, Nat.shiftLeft_eq]

theorem add_W (a b : Nat) (ha : a < 9007199254740992) (hb : b < 9007199254740992) (h : a + b < 9007199254740992) : double.add (W a) (W b) = some (W (a + b)) := by
  unfold Format.add
  rw [read_W a ha, read_W b hb]
  simp only [Datum.sum, Option.map_some, Bool.and_self, signed_false]
  obtain ⟨J, hJ1, hJ2, hJ⟩ : ∃ J, plW a ≤ J ∧ plW b ≤ J ∧ min (-(plW a : Int)) (-(plW b : Int)) = -(J : Int) := ⟨max (plW a) (plW b), by omega, by omega, by omega⟩
  rw [hJ]
  have e1 : (-(plW a : Int) - -(J:Int)).toNat = J - plW a := by omega
  have e2 : (-(plW b : Int) - -(J:Int)).toNat = J - plW b := by omega
  rw [e1, e2, Nat.mul_assoc, ← Nat.pow_add, Nat.mul_assoc, ← Nat.pow_add, show plW a + (J - plW a) = J by omega, show plW b + (J - plW b) = J by omega]
  have e3 : ((a * 2^J : Nat) : Int) + ((b * 2^J : Nat) : Int) = (((a + b) * 2^J : Nat) : Int) := by rw [Nat.add_mul]; rfl
  rw [e3, Int.natAbs_natCast]
  have hd : (if (((a + b) * 2^J : Nat) : Int) = 0 then false else decide ((((a + b) * 2^J : Nat) : Int) < 0)) = false := by
    split
    · rfl
    · simp only [decide_eq_false_iff_not]; omega
  rw [hd, write_whole _ _ _ h]
  rfl

theorem log2_norm {N : Nat} (h : N < 9007199254740992) (h0 : N ≠ 0) : (N * 2^(plW N)).log2 = 52 := by
  unfold plW
  rw [if_neg h0, log2_shift _ _ h0]
  have := log2_le52 h h0
  omega

theorem div_W (a b : Nat) (hb0 : b ≠ 0) (ha0 : a ≠ 0) (hb : b < 9007199254740992) (h : a * b < 9007199254740992) : double.div (W (a * b)) (W b) = some (W a) := by
  have hab0 : a * b ≠ 0 := Nat.mul_ne_zero ha0 hb0
  have ha : a < 9007199254740992 := Nat.lt_of_le_of_lt (Nat.le_mul_of_pos_right a (Nat.pos_of_ne_zero hb0)) h
  unfold Format.div
  rw [read_W _ h, read_W b hb]
  have hn0 : b * 2^plW b ≠ 0 := Nat.mul_ne_zero hb0 (Nat.pos_iff_ne_zero.1 (Nat.two_pow_pos _))
  simp only [Datum.quotient, if_neg hn0, Option.map_some, Bool.xor_self, log2_norm h hab0, log2_norm hb hb0, d_frac]
  have hpl : plW b ≤ plW (a * b) + 54 := by
    unfold plW
    rw [if_neg hb0, if_neg hab0]
    have := log2_le52 h hab0
    omega
  have e : ((a * b) * 2^plW (a * b)) <<< (52 + 2 + 52 - 52) = (a * 2^(plW (a*b) + 54 - plW b)) * (b * 2^plW b) := by
    rw [Nat.shiftLeft_eq, Nat.mul_assoc, ← Nat.pow_add]
    rw [show a * 2^(plW (a*b) + 54 - plW b) * (b * 2^plW b) = (a * b) * (2^(plW (a*b) + 54 - plW b) * 2^plW b) by simp only [Nat.mul_assoc, Nat.mul_left_comm, Nat.mul_comm]]
    rw [← Nat.pow_add, show plW (a*b) + 54 - plW b + plW b = plW (a * b) + (52 + 2 + 52 - 52) by omega]
  rw [e, Nat.mul_div_cancel _ (Nat.pos_of_ne_zero hn0), Nat.mul_mod_left]
  have e3 : 2 * (a * 2^(plW (a*b) + 54 - plW b)) + (0 != 0 : Bool).toNat = a * 2^(plW (a*b) + 54 - plW b + 1) := by
    rw [Nat.pow_succ]
    simp only [bne_self_eq_false, Bool.toNat_false, Nat.add_zero]
    simp only [Nat.mul_comm, Nat.mul_left_comm]
  have e4 : -(plW (a*b) : Int) - -(plW b : Int) - ((52 + 2 + 52 - 52 : Nat) : Int) - 1 = -((plW (a*b) + 54 - plW b + 1 : Nat) : Int) := by omega
  rw [e3, e4, write_whole _ _ _ ha]
  rfl

/-- The double of a word: its sign, its rung. -/
def rg (b : Nat) : Nat := b % 9223372036854775808
def sg (b : Nat) : Bool := decide (9223372036854775808 ≤ b)
/-- A NaN's word. -/
def isN (b : Nat) : Prop := 9218868437227405312 < rg b
instance (b : Nat) : Decidable (isN b) := by unfold isN; infer_instance

theorem sg_read {b : Nat} (h : b < 18446744073709551616) : (b / double.signWeight % 2 == 1) = sg b := by
  rw [d_sign]; unfold sg
  by_cases h1 : 9223372036854775808 ≤ b
  · have : b / 9223372036854775808 = 1 := by omega
    simp [this, h1]
  · have : b / 9223372036854775808 = 0 := by omega
    simp [this, h1]

theorem read_nan {b : Nat} (h : b < 18446744073709551616) (hn : isN b) : double.read b = .nan (sg b) (rg b - 9218868437227405312) := by
  unfold Format.read
  simp only [sg_read h]
  unfold isN rg at hn
  simp only [d_sign, d_binade, d_inf, d_least]
  rw [if_neg (by omega), if_neg (by omega), if_neg (by omega)]
  rfl
theorem read_inf {b : Nat} (h : b < 18446744073709551616) (hn : rg b = 9218868437227405312) : double.read b = .infinity (sg b) := by
  unfold Format.read
  simp only [sg_read h]
  unfold rg at hn
  simp only [d_sign, d_binade, d_inf, d_least]
  rw [if_neg (by omega), if_neg (by omega), if_pos (by omega)]
theorem read_low {b : Nat} (h : b < 18446744073709551616) (hn : rg b < 4503599627370496) : double.read b = .number (sg b) (rg b) (-1074) := by
  unfold Format.read
  simp only [sg_read h]
  unfold rg at hn
  simp only [d_sign, d_binade, d_inf, d_least]
  rw [if_pos (by omega)]
  rfl
theorem read_mid {b : Nat} (h : b < 18446744073709551616) (hn : 4503599627370496 ≤ rg b) (hi : rg b < 9218868437227405312) :
    double.read b = .number (sg b) (4503599627370496 + rg b % 4503599627370496) (-1074 + (rg b / 4503599627370496 - 1 : Nat)) := by
  unfold Format.read
  simp only [sg_read h]
  unfold rg at hn hi
  simp only [d_sign, d_binade, d_inf, d_least]
  rw [if_neg (by omega), if_pos (by omega)]
  rfl

/-- A word that is neither NaN nor infinite is a number, 0 just if its rung is. -/
theorem read_fin {b : Nat} (h : b < 18446744073709551616) (hi : rg b < 9218868437227405312) : ∃ m p, double.read b = .number (sg b) m p ∧ (m = 0 ↔ rg b = 0) ∧ m < 9007199254740992 ∧ p ≤ 971 := by
  by_cases hl : rg b < 4503599627370496
  · exact ⟨_, _, read_low h hl, Iff.rfl, by omega, by omega⟩
  · refine ⟨_, _, read_mid h (by omega) hi, ?_, ?_, ?_⟩ <;> omega

theorem signed_eq (s : Bool) (m u : Nat) : signed s m u = if s then -((m * 2^u : Nat) : Int) else ((m * 2^u : Nat) : Int) := by
  simp [signed, Nat.shiftLeft_eq]

theorem icmp_self (x : Int) : compare x x = .eq := by simp
theorem icmp_lt {x y : Int} (h : x < y) : compare x y = .lt := by simpa [Int.compare_eq_lt] using h
theorem icmp_gt {x y : Int} (h : y < x) : compare x y = .gt := by simpa [Int.compare_eq_gt] using h
theorem icmp_eq_iff {x y : Int} : compare x y = .eq ↔ x = y := by simp

theorem order_nan_l {a b : Nat} (h : a < 18446744073709551616) (hn : isN a) : double.order a b = none := by
  unfold Format.order; rw [read_nan h hn]; rfl
theorem order_nan_r {a b : Nat} (h : b < 18446744073709551616) (hn : isN b) : double.order a b = none := by
  unfold Format.order; rw [read_nan h hn]; cases double.read a <;> rfl

theorem order_self {a : Nat} (h : a < 18446744073709551616) (hn : ¬ isN a) : double.order a a = some .eq := by
  unfold Format.order
  by_cases hi : rg a = 9218868437227405312
  · rw [read_inf h hi]; cases sg a <;> rfl
  · obtain ⟨m, p, e, _⟩ := read_fin h (by unfold isN at hn; omega)
    rw [e]
    simp [Datum.order]

theorem order_zero {a : Nat} (h : a < 18446744073709551616) (hn : ¬ isN a) : double.order a 0 = some (if rg a = 0 then .eq else if sg a then .lt else .gt) := by
  unfold Format.order
  have z : double.read 0 = .number false 0 (-1074) := by decide
  rw [z]
  by_cases hi : rg a = 9218868437227405312
  · rw [read_inf h hi, hi]; cases sg a <;> rfl
  · obtain ⟨m, p, e, hz, _⟩ := read_fin h (by unfold isN at hn; omega)
    rw [e]
    simp only [Datum.order, signed_eq, Nat.zero_mul]
    by_cases h0 : rg a = 0
    · rw [if_pos h0, hz.2 h0]; cases sg a <;> simp
    · have hm : m ≠ 0 := fun k => h0 (hz.1 k)
      rw [if_neg h0]
      have hp : 0 < m * 2^(p - min p (-1074)).toNat := Nat.mul_pos (Nat.pos_of_ne_zero hm) (Nat.two_pow_pos _)
      generalize m * 2^(p - min p (-1074)).toNat = q at hp ⊢
      cases sg a
      · simp only [Bool.false_eq_true, if_false]
        rw [icmp_gt (by omega)]
      · simp only [if_true, Bool.false_eq_true, if_false]
        rw [icmp_lt (by omega)]

theorem order_symm_eq (a b : Nat) : (double.order a b = some .eq) ↔ (double.order b a = some .eq) := by
  unfold Format.order
  cases double.read a <;> cases double.read b
  case number.number s m i t n j =>
    simp only [Datum.order, Option.some.injEq, icmp_eq_iff, Int.min_comm i j]
    exact eq_comm
  case infinity.infinity s t => cases s <;> cases t <;> simp [Datum.order]
  case number.infinity s m i t => cases t <;> simp [Datum.order]
  case infinity.number t s m i => cases t <;> simp [Datum.order]
  all_goals simp [Datum.order]

/-- The greatest finite word. -/
theorem order_max {a : Nat} (h : a < 9223372036854775808) (hn : ¬ isN a) : (double.order a 9218868437227405311 = some .gt) ↔ rg a = 9218868437227405312 := by
  have z : double.read 9218868437227405311 = .number false 9007199254740991 971 := by decide
  have hs : sg a = false := by unfold sg; simp; omega
  unfold Format.order
  rw [z]
  by_cases hi : rg a = 9218868437227405312
  · rw [read_inf (by omega) hi, hs]; simp [Datum.order, hi]
  · obtain ⟨m, p, e, _, hm, hp⟩ := read_fin (b := a) (by omega) (by unfold isN at hn; omega)
    rw [e, hs]
    simp only [Datum.order, signed_false, Option.some.injEq]
    have hq : (p - min p 971).toNat = 0 := by omega
    rw [hq, Nat.pow_zero, Nat.mul_one]
    have : m ≤ 9007199254740991 * 2^(971 - min p 971).toNat := Nat.le_trans (by omega) (Nat.le_mul_of_pos_right _ (Nat.two_pow_pos _))
    constructor
    · intro k
      rw [Int.compare_eq_gt] at k
      omega
    · intro k; exact absurd k hi

/-- Twice an infinite word is it. -/
theorem twice_inf {a : Nat} (h : a < 18446744073709551616) (hi : rg a = 9218868437227405312) : double.add a a = some a := by
  unfold Format.add
  rw [read_inf h hi]
  simp only [Datum.sum, if_true, Option.map_some, Format.write, d_inf, Format.word, d_sign]
  unfold sg
  unfold rg at hi
  by_cases h1 : 9223372036854775808 ≤ a
  · simp only [h1, decide_true, if_true, Option.some.injEq]; omega
  · simp only [h1, decide_false, Bool.false_eq_true, if_false, Option.some.injEq]; omega

theorem nearest_twice_lo (s : Bool) (r : Nat) (h0 : r ≠ 0) (h : r < 4503599627370496) : double.nearest s (2 * r) (-1074) = double.word s (2 * r) := by
  have hl : (2 * r).log2 ≤ 52 := log2_le52 (by omega) (by omega)
  have hmax : max (-1074 + ((2 * r).log2 : Int) - (double.fractionBits : Nat)) double.leastPlace = -1074 := by rw [d_frac, d_least]; omega
  unfold Format.nearest
  rw [if_neg (by omega)]
  simp only [hmax]
  simp only [d_binade, d_inf, d_least]
  have e1 : ((-1074 : Int) - -1074).toNat = 0 := by decide
  rw [e1, Nat.shiftLeft_zero]
  have := cut_exact s (2 * r) 0 (by omega)
  simp only [Nat.pow_zero, Nat.mul_one] at this
  rw [this]
  congr 1
  omega

theorem nearest_twice_hi (s : Bool) (K q : Nat) (h0 : 4503599627370496 ≤ K) (h : K < 9007199254740992) : double.nearest s (2 * K) (-1074 + (q : Int)) = double.word s (min ((q + 1) * 4503599627370496 + K) 9218868437227405312) := by
  have hl : (2 * K).log2 = 53 := by
    rw [Nat.log2_eq_iff (by omega)]
    have p54 : (2:Nat)^(53+1) = 18014398509481984 := by decide
    rw [p53, p54]; omega
  have hmax : max (-1074 + (q : Int) + ((2 * K).log2 : Nat) - (double.fractionBits : Nat)) double.leastPlace = -1074 + (q : Int) + 1 := by rw [d_frac, d_least, hl]; omega
  unfold Format.nearest
  rw [if_neg (by omega)]
  simp only [hmax]
  simp only [d_binade, d_inf, d_least]
  have e1 : (-1074 + (q:Int) - (-1074 + (q : Int) + 1)).toNat = 0 := by omega
  have e2 : (-1074 + (q:Int) + 1 - (-1074 + (q : Int))).toNat = 1 := by omega
  have e3 : (-1074 + (q:Int) + 1 - -1074).toNat = q + 1 := by omega
  rw [e1, e2, e3, Nat.shiftLeft_zero]
  have := cut_exact s K 1 (by omega)
  rw [Nat.pow_one, Nat.mul_comm] at this
  rw [this]

theorem sum_twice (s : Bool) (m : Nat) (p : Int) (h : m ≠ 0) : (Datum.number s m p).sum (.number s m p) = some (.number s (2 * m) p) := by
  simp only [Datum.sum, Int.min_self, Int.sub_self, Int.toNat_zero, signed_eq, Nat.pow_zero, Nat.mul_one, Option.some.injEq, Datum.number.injEq, and_true]
  cases s
  · simp only [Bool.false_eq_true, if_false]
    constructor
    · rw [if_neg (by omega)]; simp; omega
    · omega
  · simp only [if_true]
    constructor
    · rw [if_neg (by omega)]; simp; omega
    · omega

theorem sg_word {s : Bool} {r : Nat} (h : r < 9223372036854775808) : sg (double.word s r) = s ∧ rg (double.word s r) = r ∧ double.word s r < 18446744073709551616 := by
  unfold sg rg Format.word
  rw [d_sign]
  cases s <;> simp <;> omega

/-- Twice a number that is not 0 is another one. -/
theorem twice_fin {a : Nat} (h : a < 18446744073709551616) (hi : rg a < 9218868437227405312) (h0 : rg a ≠ 0) : ∃ r, double.add a a = some r ∧ double.order a r ≠ some .eq := by
  unfold Format.add Format.order
  by_cases hl : rg a < 4503599627370496
  · rw [read_low h hl, sum_twice _ _ _ h0]
    refine ⟨_, rfl, ?_⟩
    show Datum.order _ (double.read (double.nearest _ _ _)) ≠ _
    rw [nearest_twice_lo _ _ h0 hl]
    obtain ⟨w1, w2, w3⟩ := sg_word (s := sg a) (r := 2 * rg a) (by omega)
    have e : double.read (double.word (sg a) (2 * rg a)) = .number (sg a) (2 * rg a) (-1074) := by
      by_cases h2 : 2 * rg a < 4503599627370496
      · rw [read_low w3 (by omega), w1, w2]
      · rw [read_mid w3 (by omega) (by omega), w1, w2]
        congr 1 <;> omega
    rw [e]
    simp only [Datum.order, signed_eq, ne_eq, Option.some.injEq, icmp_eq_iff, Int.min_self, Int.sub_self, Int.toNat_zero, Nat.pow_zero, Nat.mul_one]
    cases sg a <;> simp <;> omega
  · rw [read_mid h (by omega) hi, sum_twice _ _ _ (by omega)]
    refine ⟨_, rfl, ?_⟩
    show Datum.order _ (double.read (double.nearest _ _ _)) ≠ _
    rw [nearest_twice_hi _ _ _ (by omega) (by omega)]
    generalize hK : 4503599627370496 + rg a % 4503599627370496 = K
    generalize hq : rg a / 4503599627370496 - 1 = q
    obtain ⟨w1, w2, w3⟩ := sg_word (s := sg a) (r := min ((q + 1) * 4503599627370496 + K) 9218868437227405312) (by omega)
    by_cases ho : (q + 1) * 4503599627370496 + K < 9218868437227405312
    · rw [read_mid w3 (by omega) (by omega), w1, w2]
      have e1 : 4503599627370496 + min ((q + 1) * 4503599627370496 + K) 9218868437227405312 % 4503599627370496 = K := by omega
      have e2 : min ((q + 1) * 4503599627370496 + K) 9218868437227405312 / 4503599627370496 - 1 = q + 1 := by omega
      rw [e1, e2]
      simp only [Datum.order, signed_eq, ne_eq, Option.some.injEq, icmp_eq_iff]
      have e3 : (-1074 + (q:Int) - min (-1074 + (q:Int)) (-1074 + ((q + 1 : Nat) : Int))).toNat = 0 := by omega
      have e4 : (-1074 + ((q + 1 : Nat) : Int) - min (-1074 + (q:Int)) (-1074 + ((q + 1 : Nat) : Int))).toNat = 1 := by omega
      rw [e3, e4]
      cases sg a <;> simp <;> omega
    · rw [read_inf w3 (by omega), w1]
      cases sg a <;> simp [Datum.order]

/-- 1 by a 0: infinite, of its sign. -/
theorem one_by_zero {a : Nat} (h : a < 18446744073709551616) (h0 : rg a = 0) : double.div 4607182418800017408 a = some (double.word (sg a) 9218868437227405312) := by
  have z : double.read 4607182418800017408 = .number false 4503599627370496 (-52) := by decide
  unfold Format.div
  rw [z, read_low h (by omega), h0]
  simp [Datum.quotient, Format.write, d_inf]

/-- Numbers' products and quotients are there. -/
theorem mul_some {a b : Nat} (ha : a < 18446744073709551616) (hb : b < 18446744073709551616) (h1 : rg a < 9218868437227405312) (h2 : rg b < 9218868437227405312) : ∃ r, double.mul a b = some r := by
  obtain ⟨m, p, e, _⟩ := read_fin ha h1
  obtain ⟨n, q, f, _⟩ := read_fin hb h2
  unfold Format.mul
  rw [e, f]
  exact ⟨_, rfl⟩
theorem div_some {a b : Nat} (ha : a < 18446744073709551616) (hb : b < 18446744073709551616) (h1 : rg a < 9218868437227405312) (h2 : rg b < 9218868437227405312) (h3 : rg b ≠ 0) : ∃ r, double.div a b = some r := by
  obtain ⟨m, p, e, _⟩ := read_fin ha h1
  obtain ⟨n, q, f, hz, _⟩ := read_fin hb h2
  have hn : n ≠ 0 := fun k => h3 (hz.1 k)
  unfold Format.div
  rw [e, f]
  simp only [Datum.quotient, if_neg hn]
  exact ⟨_, rfl⟩
theorem mul_comm' (a b : Nat) : double.mul a b = double.mul b a := by
  unfold Format.mul
  cases double.read a <;> cases double.read b <;> simp [Datum.product, Nat.mul_comm, Int.add_comm, Bool.xor_comm]
end Go.Proofs.YtocgknhpecobfaaDoor
