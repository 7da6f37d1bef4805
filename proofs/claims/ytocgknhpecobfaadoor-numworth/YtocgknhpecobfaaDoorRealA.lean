/- Contracts of the small functions of layer 3: math's, Negative, Same, Sort, and the document's. -/
import Derived.Test.YtocgknhpecobfaaDoorRows
import Derived.Test.YtocgknhpecobfaaDoorRealM
import Derived.WalkKit
import Derived.WalkSpells
import Derived.StillTactics
import Derived.Laws.Pointers
import Derived.Laws.Externs
import Derived.Laws.Cover2
import Derived.Laws.FloatArith
import Derived.Laws.BitsAll
import Derived.Laws.NewFold
import Derived.Deep.RegionHeld3
import Derived.Deep.QuietTactic
import Derived.BigQuiet
import Derived.Below
import Derived.Lib.Hide
import Derived.Lib.Strings
import Derived.Lib.Bytealg
import Derived.Lib.TrimByte
import Derived.WalkSmall
import Derived.LoopN
import Derived.Handy
namespace Go.Proofs.YtocgknhpecobfaaDoor
open Go.RowKit

theorem frombits_run (n : Int) (w : World) : (callFunc 30 #[.int .u64 n]).run Tryd.prog w = .ok (.value (.float .f64 n.toNat)) w :=
  run_callFunc_extern (e := Extern.MathFloatBits.float64frombits) Tryd.func30 (by kernel_rfl) (by kernel_rfl) (by kernel_rfl) (by kernel_rfl) _ w
theorem bits_run (b : Nat) (w : World) : (callFunc 34 #[.float .f64 b]).run Tryd.prog w = .ok (.value (.int .u64 b)) w :=
  run_callFunc_extern (e := Extern.MathFloatBits.float64bits) Tryd.func34 (by kernel_rfl) (by kernel_rfl) (by kernel_rfl) (by kernel_rfl) _ w
theorem indexByteString_run (s : ByteArray) (c : Int) (w : World) : (callFunc 42 #[.string s, .int .u8 c]).run Tryd.prog w = .ok (.value (.int .i64 (Lib.indexByte s.data.toList c.toNat.toUInt8))) w := by
  rw [run_callFunc_extern (e := Extern.BytealgIndexByte.indexByte) Tryd.func42 (by kernel_rfl) (by kernel_rfl) (by kernel_rfl) (by kernel_rfl) _ w, Lib.run_indexByteString]
  rfl

theorem and_low (a : Nat) : a &&& 9223372036854775807 = a % 9223372036854775808 := Nat.and_two_pow_sub_one_eq_mod a 63
theorem or_high {a : Nat} (h : a < 9223372036854775808) : a ||| 9223372036854775808 = a + 9223372036854775808 := by
  have := Nat.two_pow_add_eq_or_of_lt (i := 63) (b := a) h 1
  have e : (2^63 * 1 : Nat) = 9223372036854775808 := by decide
  rw [e] at this
  rw [Nat.or_comm]
  omega

/-- What the program's functions answer, of words. -/
def nanB (b : Nat) : Bool := decide (isN b)
def negv (b : Nat) : Bool := !nanB b && sg b
def sortv (b : Nat) : Int := if nanB b then 0 else if rg b = 9218868437227405312 then 1 else if rg b = 0 then 2 else 3
def samev (a b : Nat) : Bool := if nanB a then nanB b else (Ieee.double.order a b == some .eq) && (negv a == negv b)
def negB (b : Nat) : Nat := if sg b then b - 9223372036854775808 else b + 9223372036854775808

theorem ord_self_bool {a : Nat} (h : a < 18446744073709551616) : (FloatKind.f64.format.order a a != some .eq) = nanB a := by
  show (Ieee.double.order a a != some .eq) = nanB a
  by_cases hn : isN a
  · rw [order_nan_l h hn]; simp [nanB, hn]
  · rw [order_self h hn]; simp [nanB, hn]

set_option maxHeartbeats 400000 in
theorem isnan_any (a : Nat) (w : World) (h : a < 18446744073709551616) :
    Calls Tryd.prog 21 #[.float .f64 a] w fun e w' => e = .returned (.bool (nanB a)) ∧ w = w' := by
  rw [← ord_self_bool h]
  clear h
  go_enter Tryd.func21, Tryd.ntmps21
  go_wp2
  go_ret
  exact ⟨rfl, rfl⟩

theorem andNot_high {a : Nat} (h : a < 18446744073709551616) : bits .andNot .u64 (a : Int) 9223372036854775808 = ((rg a : Nat) : Int) := by
  rw [u64_andNot _ _ (by omega) (by omega) (by omega) (by omega)]
  simp only [Int.toNat_natCast, Int.reduceToNat]
  rw [show (18446744073709551615 - 9223372036854775808 : Nat) = 9223372036854775807 by rfl, and_low]
  rfl

set_option maxHeartbeats 400000 in
theorem abs_any (a : Nat) (w : World) (h : a < 18446744073709551616) :
    Calls Tryd.prog 35 #[.float .f64 a] w fun e w' => e = .returned (.float .f64 (rg a)) ∧ w = w' := by
  have hb := bits_run a
  have hf := frombits_run
  have hn := andNot_high h
  clear h
  go_enter Tryd.func35, Tryd.ntmps35
  go_wp2
  go_ret
  exact ⟨by simp, rfl⟩

set_option maxHeartbeats 400000 in
theorem copy_any (a : Nat) (w : World) (h : a < 18446744073709551616) :
    Calls Tryd.prog 22 #[.float .f64 a, .float .f64 13830554455654793216] w fun e w' => e = .returned (.float .f64 (rg a + 9223372036854775808)) ∧ w = w' := by
  have hb := bits_run
  have hf := frombits_run
  have hn := andNot_high h
  have hr : rg a < 9223372036854775808 := by unfold rg; omega
  have hand : bits .and .u64 13830554455654793216 9223372036854775808 = 9223372036854775808 := by
    rw [u64_and _ _ (by omega) (by omega) (by omega) (by omega)]; rfl
  have hor : bits .or .u64 ((rg a : Nat) : Int) 9223372036854775808 = ((rg a + 9223372036854775808 : Nat) : Int) := by
    rw [u64_or _ _ (by omega) (by omega) (by omega) (by omega)]
    simp only [Int.toNat_natCast, Int.reduceToNat]
    rw [or_high hr]
  clear h hr
  go_enter Tryd.func22, Tryd.ntmps22
  go_wp2
  go_ret
  refine ⟨?_, rfl⟩
  show Ending.returned (Value.float .f64 _) = _
  simp

set_option maxHeartbeats 400000 in
theorem isinf_any (a : Nat) (w : World) (h : a < 18446744073709551616) (hn : ¬ isN a) :
    Calls Tryd.prog 23 #[.float .f64 a, .int .i64 0] w fun e w' => e = .returned (.bool (decide (rg a = 9218868437227405312))) ∧ w = w' := by
  have hr : rg a < 9223372036854775808 := by unfold rg; omega
  have hrr : rg (rg a) = rg a := by unfold rg; omega
  have e : (FloatKind.f64.format.order (rg a) 9218868437227405311 == some .gt) = decide (rg a = 9218868437227405312) := by
    have := order_max hr (by unfold isN at hn ⊢; rw [hrr]; exact hn)
    rw [hrr] at this
    by_cases hi : rg a = 9218868437227405312
    · have e1 := this.2 hi
      show (Ieee.double.order (rg a) 9218868437227405311 == some .gt) = _
      rw [e1]; simp [hi]
    · have e1 : ¬ Ieee.double.order (rg a) 9218868437227405311 = some .gt := fun k => hi (this.1 k)
      show (Ieee.double.order (rg a) 9218868437227405311 == some .gt) = _
      simp [hi]
      exact e1
  rw [← e]
  clear e hrr hr hn
  go_enter Tryd.func23, Tryd.ntmps23
  go_wp2_with (go_at_call 35; refine (abs_any _ _ h).mono ?_; rintro e w' ⟨rfl, rfl⟩)
  go_ret
  exact ⟨rfl, rfl⟩

set_option maxHeartbeats 400000 in
theorem nan_any (w : World) :
    Calls Tryd.prog 19 #[] w fun e w' => e = .returned (.float .f64 9221120237041090561) ∧ w = w' := by
  have hf := frombits_run
  go_enter Tryd.func19, Tryd.ntmps19
  go_wp2
  go_ret
  exact ⟨rfl, rfl⟩

set_option maxHeartbeats 400000 in
theorem inf_any (w : World) :
    Calls Tryd.prog 31 #[.int .i64 1] w fun e w' => e = .returned (.float .f64 9218868437227405312) ∧ w = w' := by
  have hf := frombits_run
  go_enter Tryd.func31, Tryd.ntmps31
  go_wp2
  go_ret
  exact ⟨rfl, rfl⟩

theorem quo_zero {a : Nat} (h : a < 18446744073709551616) (h0 : rg a = 0) (t : TypeId) (w : World) :
    (binOp .quo t (.float .f64 4607182418800017408) (.float .f64 a)).run Tryd.prog w = .ok (.float .f64 (Ieee.double.word (sg a) 9218868437227405312)) w :=
  run_float_arith w _ _ _ _ _ _ (one_by_zero h h0)
theorem inf_ord (s : Bool) : FloatKind.f64.format.order (Ieee.double.word s 9218868437227405312) 0 = some (if s then .lt else .gt) := by
  cases s <;> decide

/-- How a word stands to 0. -/
theorem ord0 {a : Nat} (h : a < 18446744073709551616) (hn : ¬ isN a) : FloatKind.f64.format.order a 0 = some (if rg a = 0 then .eq else if sg a then .lt else .gt) := order_zero h hn
theorem ord0n {a : Nat} (h : a < 18446744073709551616) (hn : isN a) : FloatKind.f64.format.order a 0 = none := order_nan_l h hn

set_option maxHeartbeats 800000 in
theorem negative_any (a : Nat) (w : World) (h : a < 18446744073709551616) :
    Calls Tryd.prog 10 #[.float .f64 a] w fun e w' => e = .returned (.bool (negv a)) ∧ w = w' := by
  by_cases hn : isN a
  · have e1 : negv a = false := by simp [negv, nanB, hn]
    rw [e1]
    have o := ord0n h hn
    clear e1 hn h
    go_enter Tryd.func10, Tryd.ntmps10
    go_wp2
    go_ret
    exact ⟨rfl, rfl⟩
  have e1 : negv a = sg a := by simp [negv, nanB, hn]
  rw [e1]
  by_cases h0 : rg a = 0
  · have o := ord0 h hn
    rw [if_pos h0] at o
    have q := quo_zero h h0
    have i := inf_ord (sg a)
    clear e1 hn h h0
    cases hs : sg a
    all_goals
      rw [hs] at q i
      simp only [if_true, if_false, Bool.false_eq_true] at i
      clear hs
      go_enter Tryd.func10, Tryd.ntmps10
      go_wp2
      go_ret
      exact ⟨rfl, rfl⟩
  · have o := ord0 h hn
    rw [if_neg h0] at o
    clear e1 hn h h0
    cases hs : sg a
    all_goals
      rw [hs] at o
      simp only [if_true, if_false, Bool.false_eq_true] at o
      clear hs
      go_enter Tryd.func10, Tryd.ntmps10
      go_wp2
      go_ret
      exact ⟨rfl, rfl⟩

set_option maxHeartbeats 800000 in
theorem sort_any (a : Nat) (w : World) (h : a < 18446744073709551616) :
    Calls Tryd.prog 9 #[.float .f64 a] w fun e w' => e = .returned (.int .i64 (sortv a)) ∧ w = w' := by
  cases hb : nanB a
  · have hn : ¬ isN a := by simpa [nanB] using hb
    by_cases hi : rg a = 9218868437227405312
    · have e1 : sortv a = 1 := by simp [sortv, hb, hi]
      have ed : decide (rg a = 9218868437227405312) = true := by simp [hi]
      rw [e1]; clear e1 hi
      go_enter Tryd.func9, Tryd.ntmps9
      go_wp2_with fail
      refine (isnan_any _ _ h).mono ?_
      rintro e w1 ⟨rfl, rfl⟩
      rw [hb]
      go_wp2_with fail
      refine (isinf_any _ _ h hn).mono ?_
      rintro e w1 ⟨rfl, rfl⟩
      rw [ed]
      go_wp2
      go_ret
      exact ⟨rfl, rfl⟩
    · have ed : decide (rg a = 9218868437227405312) = false := by simp [hi]
      have o := ord0 h hn
      have e1 : sortv a = if rg a = 0 then 2 else 3 := by simp [sortv, hb, hi]
      rw [e1]; clear e1 hi
      by_cases h0 : rg a = 0
      · rw [if_pos h0] at o ⊢
        have H := Lib.hid o; clear o
        go_enter Tryd.func9, Tryd.ntmps9
        go_wp2_with fail
        refine (isnan_any _ _ h).mono ?_
        rintro e w1 ⟨rfl, rfl⟩
        rw [hb]
        go_wp2_with fail
        refine (isinf_any _ _ h hn).mono ?_
        rintro e w1 ⟨rfl, rfl⟩
        rw [ed]
        have o := H.out
        go_wp2
        go_ret
        exact ⟨rfl, rfl⟩
      · rw [if_neg h0] at o ⊢
        have o2 : (FloatKind.f64.format.order a 0 == some .eq) = false := by rw [o]; cases sg a <;> rfl
        have H := Lib.hid o2; clear o o2
        go_enter Tryd.func9, Tryd.ntmps9
        go_wp2_with fail
        refine (isnan_any _ _ h).mono ?_
        rintro e w1 ⟨rfl, rfl⟩
        rw [hb]
        go_wp2_with fail
        refine (isinf_any _ _ h hn).mono ?_
        rintro e w1 ⟨rfl, rfl⟩
        rw [ed]
        have o := H.out
        go_wp2
        go_ret
        exact ⟨rfl, rfl⟩
  · have e1 : sortv a = 0 := by simp [sortv, hb]
    rw [e1]; clear e1
    go_enter Tryd.func9, Tryd.ntmps9
    go_wp2_with fail
    refine (isnan_any _ _ h).mono ?_
    rintro e w1 ⟨rfl, rfl⟩
    rw [hb]
    go_wp2
    go_ret
    exact ⟨rfl, rfl⟩

end Go.Proofs.YtocgknhpecobfaaDoor
