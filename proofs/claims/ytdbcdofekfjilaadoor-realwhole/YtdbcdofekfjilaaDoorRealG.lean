/- The walk of RealSorts. -/
import Derived.Test.YtdbcdofekfjilaaDoorRealF
namespace Go.Proofs.YtdbcdofekfjilaaDoor
open Go.RowKit

theorem xor_high {a : Nat} (h : a < 9223372036854775808) : a ^^^ 9223372036854775808 = a + 9223372036854775808 := by
  rw [← or_high h]
  apply Nat.eq_of_testBit_eq
  intro i
  rw [Nat.testBit_xor, Nat.testBit_or, show (9223372036854775808 : Nat) = 2^63 by decide, Nat.testBit_two_pow]
  by_cases hi : 63 = i
  · subst hi
    have : a.testBit 63 = false := Nat.testBit_lt_two_pow (by simpa using h)
    simp [this]
  · simp [hi]
theorem neg_eq {a : Nat} (h : a < 18446744073709551616) : Op.negFloat .f64 a = negB a := by
  have e : Op.negFloat .f64 a = a ^^^ 9223372036854775808 := rfl
  rw [e]
  unfold negB sg
  by_cases h1 : 9223372036854775808 ≤ a
  · obtain ⟨b, rfl⟩ : ∃ b, a = b + 9223372036854775808 := ⟨a - 9223372036854775808, by omega⟩
    rw [← xor_high (a := b) (by omega), Nat.xor_assoc, Nat.xor_self, Nat.xor_zero]
    rw [xor_high (a := b) (by omega)]
    simp
  · rw [xor_high (by omega)]
    simp [h1]
theorem negB_facts {a : Nat} (h : a < 18446744073709551616) : negB a < 18446744073709551616 ∧ rg (negB a) = rg a ∧ sg (negB a) = !sg a := by
  unfold negB sg rg
  by_cases h1 : 9223372036854775808 ≤ a
  · simp only [h1, decide_true, if_true, Bool.not_true, decide_eq_false_iff_not]; omega
  · simp only [h1, decide_false, Bool.false_eq_true, if_false, Bool.not_false, decide_eq_true_eq]; omega
theorem negB_nan {a : Nat} (h : a < 18446744073709551616) : nanB (negB a) = nanB a := by
  unfold nanB
  exact decide_eq_decide.2 (by unfold isN; rw [(negB_facts h).2.1])
theorem negv_negB {a : Nat} (h : a < 18446744073709551616) (hn : nanB a = false) : negv (negB a) = !negv a := by
  unfold negv; rw [negB_nan h, hn, (negB_facts h).2.2]; simp
theorem same_self {a : Nat} (h : a < 18446744073709551616) : samev a a = true := by
  unfold samev
  cases hn : nanB a
  · rw [order_self h (by simpa [nanB] using hn)]; simp
  · simp
theorem same_symm {a b : Nat} (ha : a < 18446744073709551616) (hb : b < 18446744073709551616) : samev a b = samev b a := by
  unfold samev
  cases hn : nanB a <;> cases hm : nanB b
  · simp only [Bool.false_eq_true, if_false]
    have e : (Ieee.double.order a b == some .eq) = (Ieee.double.order b a == some .eq) := by
      have := order_symm_eq a b
      rw [Bool.eq_iff_iff, beq_iff_eq, beq_iff_eq]; exact this
    rw [e, Bool.beq_comm (a := negv a)]
  · simp only [Bool.false_eq_true, if_false, if_true]
    rw [order_nan_r hb (by simpa [nanB] using hm)]; simp
  · simp only [Bool.false_eq_true, if_false, if_true]
    rw [order_nan_r ha (by simpa [nanB] using hn)]; simp
  · simp
theorem same_nan {a b : Nat} (hn : nanB a = true) : samev a b = nanB b := by simp [samev, hn]

set_option maxHeartbeats 2000000 in
set_option maxRecDepth 100000 in
theorem sorts_inf (a b : Nat) (w : World) (ha : a < 18446744073709551616) (hb : b < 18446744073709551616) (hn : nanB a = false) (hi : rg a = 9218868437227405312) :
    Calls Tryd.prog 6 #[.float .f64 a, .float .f64 b] w fun e w' => e = .returned (.bool true) ∧ Below w.heap.size w w' := by
  have HSE := Lib.hid (show (FloatKind.f64.format.order a a != some .eq) = false by rw [ord_self_bool ha, hn])
  have HS := Lib.hid (same_symm ha hb)
  have HSA := Lib.hid (same_self ha)
  have HNN := Lib.hid (negv_negB ha hn)
  have hna := (negB_facts ha).1
  have HE := Lib.hid (show ∀ w, (Op.unary .neg (.float .f64 a)).run Tryd.prog w = .ok (.float .f64 (negB a)) w from fun w => by rw [← neg_eq ha]; rfl)
  have hN : ¬ isN a := by simpa [nanB] using hn
  have hs : sortv a = 1 := by simp [sortv, hn, hi]
  have HA := Lib.hid (show ∀ (t : TypeId) (w : World), (binOp .add t (.float .f64 a) (.float .f64 a)).run Tryd.prog w = .ok (.float .f64 a) w from fun t w => run_float_arith w _ _ _ _ _ _ (twice_inf ha hi))
  have H2 := Lib.hid (show (FloatKind.f64.format.order a 0 != some .eq) = true by rw [ord0 ha hN, hi]; cases sg a <;> rfl)
  have H3 := Lib.hid (show (FloatKind.f64.format.order a a == some .eq) = true by have := HSE.out; simpa using this)
  clear hi hn hN
  go_enter Tryd.func6, Tryd.ntmps6
  simp only [List.append_eq, List.cons_append, List.nil_append]
  go_wp2_with fail
  refine (awake_any _).mono ?_; rintro e w1 ⟨rfl, hb1⟩
  go_wp2_with fail
  refine (sort_any _ _ ha).mono ?_; rintro e w2 ⟨rfl, rfl⟩
  rw [hs]
  have o1 := HSE.out
  go_wp2_with fail
  refine (same_any _ _ _ ha ha).mono ?_; rintro e w2 ⟨rfl, rfl⟩
  rw [HSA.out]
  go_wp2_with fail
  refine (same_any _ _ _ ha hb).mono ?_; rintro e w2 ⟨rfl, rfl⟩
  rw [HS.out]
  go_wp2_with fail
  refine (same_any _ _ _ hb ha).mono ?_; rintro e w2 ⟨rfl, rfl⟩
  have o2 := H2.out
  have o3 := H3.out
  have hadd := HA.out
  have hneg := HE.out
  go_wp2_with fail
  with_reducible refine (negative_any _ _ hna).mono ?_
  rintro e w2 ⟨rfl, rfl⟩
  go_wp2_with fail
  with_reducible refine (negative_any _ _ ha).mono ?_
  rintro e w2 ⟨rfl, rfl⟩
  rw [HNN.out]
  go_wp2
  go_ret
  exact ⟨by simp, hb1⟩

set_option maxHeartbeats 2000000 in
set_option maxRecDepth 100000 in
theorem sorts_zero (a b : Nat) (w : World) (ha : a < 18446744073709551616) (hb : b < 18446744073709551616) (hn : nanB a = false) (h0 : rg a = 0) :
    Calls Tryd.prog 6 #[.float .f64 a, .float .f64 b] w fun e w' => e = .returned (.bool true) ∧ Below w.heap.size w w' := by
  have HSE := Lib.hid (show (FloatKind.f64.format.order a a != some .eq) = false by rw [ord_self_bool ha, hn])
  have HS := Lib.hid (same_symm ha hb)
  have HSA := Lib.hid (same_self ha)
  have HNN := Lib.hid (negv_negB ha hn)
  have hna := (negB_facts ha).1
  have HE := Lib.hid (show ∀ w, (Op.unary .neg (.float .f64 a)).run Tryd.prog w = .ok (.float .f64 (negB a)) w from fun w => by rw [← neg_eq ha]; rfl)
  have hN : ¬ isN a := by simpa [nanB] using hn
  have hs : sortv a = 2 := by simp [sortv, hn, h0]
  have H2 := Lib.hid (show FloatKind.f64.format.order a 0 = some .eq by rw [ord0 ha hN, if_pos h0])
  clear h0 hn hN
  go_enter Tryd.func6, Tryd.ntmps6
  simp only [List.append_eq, List.cons_append, List.nil_append]
  go_wp2_with fail
  refine (awake_any _).mono ?_; rintro e w1 ⟨rfl, hb1⟩
  go_wp2_with fail
  refine (sort_any _ _ ha).mono ?_; rintro e w2 ⟨rfl, rfl⟩
  rw [hs]
  have o1 := HSE.out
  go_wp2_with fail
  refine (same_any _ _ _ ha ha).mono ?_; rintro e w2 ⟨rfl, rfl⟩
  rw [HSA.out]
  go_wp2_with fail
  refine (same_any _ _ _ ha hb).mono ?_; rintro e w2 ⟨rfl, rfl⟩
  rw [HS.out]
  go_wp2_with fail
  refine (same_any _ _ _ hb ha).mono ?_; rintro e w2 ⟨rfl, rfl⟩
  have o2 := H2.out
  have hneg := HE.out
  go_wp2_with fail
  with_reducible refine (negative_any _ _ hna).mono ?_
  rintro e w2 ⟨rfl, rfl⟩
  go_wp2_with fail
  with_reducible refine (negative_any _ _ ha).mono ?_
  rintro e w2 ⟨rfl, rfl⟩
  rw [HNN.out]
  go_wp2
  go_ret
  exact ⟨by simp, hb1⟩

set_option maxHeartbeats 2000000 in
set_option maxRecDepth 100000 in
theorem sorts_else (a b : Nat) (w : World) (ha : a < 18446744073709551616) (hb : b < 18446744073709551616) (hn : nanB a = false) (hi : ¬ rg a = 9218868437227405312) (h0 : ¬ rg a = 0) :
    Calls Tryd.prog 6 #[.float .f64 a, .float .f64 b] w fun e w' => e = .returned (.bool true) ∧ Below w.heap.size w w' := by
  have HSE := Lib.hid (show (FloatKind.f64.format.order a a != some .eq) = false by rw [ord_self_bool ha, hn])
  have HS := Lib.hid (same_symm ha hb)
  have HSA := Lib.hid (same_self ha)
  have HNN := Lib.hid (negv_negB ha hn)
  have hna := (negB_facts ha).1
  have HE := Lib.hid (show ∀ w, (Op.unary .neg (.float .f64 a)).run Tryd.prog w = .ok (.float .f64 (negB a)) w from fun w => by rw [← neg_eq ha]; rfl)
  have hN : ¬ isN a := by simpa [nanB] using hn
  have hs : sortv a = 3 := by simp [sortv, hn, hi, h0]
  clear hi h0 hn hN
  go_enter Tryd.func6, Tryd.ntmps6
  simp only [List.append_eq, List.cons_append, List.nil_append]
  go_wp2_with fail
  refine (awake_any _).mono ?_; rintro e w1 ⟨rfl, hb1⟩
  go_wp2_with fail
  refine (sort_any _ _ ha).mono ?_; rintro e w2 ⟨rfl, rfl⟩
  rw [hs]
  have o1 := HSE.out
  go_wp2_with fail
  refine (same_any _ _ _ ha ha).mono ?_; rintro e w2 ⟨rfl, rfl⟩
  rw [HSA.out]
  go_wp2_with fail
  refine (same_any _ _ _ ha hb).mono ?_; rintro e w2 ⟨rfl, rfl⟩
  rw [HS.out]
  go_wp2_with fail
  refine (same_any _ _ _ hb ha).mono ?_; rintro e w2 ⟨rfl, rfl⟩
  have hneg := HE.out
  go_wp2_with fail
  with_reducible refine (negative_any _ _ hna).mono ?_
  rintro e w2 ⟨rfl, rfl⟩
  go_wp2_with fail
  with_reducible refine (negative_any _ _ ha).mono ?_
  rintro e w2 ⟨rfl, rfl⟩
  rw [HNN.out]
  go_wp2
  go_ret
  exact ⟨by simp, hb1⟩

set_option maxHeartbeats 2000000 in
set_option maxRecDepth 100000 in
theorem sorts_nan (a b : Nat) (w : World) (ha : a < 18446744073709551616) (hb : b < 18446744073709551616) (hn : nanB a = true) :
    Calls Tryd.prog 6 #[.float .f64 a, .float .f64 b] w fun e w' => e = .returned (.bool true) ∧ Below w.heap.size w w' := by
  have HSE := Lib.hid (show (FloatKind.f64.format.order a a != some .eq) = true by rw [ord_self_bool ha, hn])
  have HS := Lib.hid (same_symm ha hb)
  have HSA := Lib.hid (same_self ha)
  have HSB := Lib.hid (ord_self_bool hb)
  have HSN := Lib.hid (same_nan (b := b) hn)
  have hs : sortv a = 0 := by simp [sortv, hn]
  clear hn
  go_enter Tryd.func6, Tryd.ntmps6
  simp only [List.append_eq, List.cons_append, List.nil_append]
  go_wp2_with fail
  refine (awake_any _).mono ?_; rintro e w1 ⟨rfl, hb1⟩
  go_wp2_with fail
  refine (sort_any _ _ ha).mono ?_; rintro e w2 ⟨rfl, rfl⟩
  rw [hs]
  have o1 := HSE.out
  go_wp2_with fail
  refine (same_any _ _ _ ha ha).mono ?_; rintro e w2 ⟨rfl, rfl⟩
  rw [HSA.out]
  go_wp2_with fail
  refine (same_any _ _ _ ha hb).mono ?_; rintro e w2 ⟨rfl, rfl⟩
  rw [HS.out]
  go_wp2_with fail
  refine (same_any _ _ _ hb ha).mono ?_; rintro e w2 ⟨rfl, rfl⟩
  go_wp2_with fail
  with_reducible refine (same_any _ _ _ ha hb).mono ?_
  rintro e w2 ⟨rfl, rfl⟩
  rw [HSN.out]
  have o4 := HSB.out
  go_wp2
  go_ret
  exact ⟨by simp, hb1⟩

theorem sorts_any (a b : Nat) (w : World) (ha : a < 18446744073709551616) (hb : b < 18446744073709551616) :
    Calls Tryd.prog 6 #[.float .f64 a, .float .f64 b] w fun e w' => e = .returned (.bool true) ∧ Below w.heap.size w w' := by
  cases hn : nanB a
  · by_cases hi : rg a = 9218868437227405312
    · exact sorts_inf a b w ha hb hn hi
    · by_cases h0 : rg a = 0
      · exact sorts_zero a b w ha hb hn h0
      · exact sorts_else a b w ha hb hn hi h0
  · exact sorts_nan a b w ha hb hn
end Go.Proofs.YtdbcdofekfjilaaDoor
