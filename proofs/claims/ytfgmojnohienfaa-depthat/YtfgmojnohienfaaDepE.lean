/- The law DepthAt: its walk. -/
import Derived.Test.YtfgmojnohienfaaDepC
namespace Go.Proofs.Ytfgmojnohienfaa
open Go.RowKit
set_option linter.unusedVariables false
set_option maxRecDepth 100000

set_option maxHeartbeats 4000000 in
theorem at_law {w : World} {A : Option Addr} {n c : Nat} (d : Int) {ts : List Int} (hl : ts.length = n) (hA : Ri w A ts) (hc : n ≤ c) (hno : A = none → n = 0 ∧ c = 0) (hwf : wfL ts) :
    Calls Try.prog 4 #[.slice A n c, .int .i64 d] w fun e w' => e = .returned (.bool true) ∧ Below w.heap.size w w' := by
  by_cases h300 : 300 < n
  · have q1 : (300 : Int) < (n : Int) := by omega
    clear hl hA hc hno hwf h300
    go_enter Try.func4, Try.ntmps4
    go_wp2_with fail
    ((with_reducible refine (awake_any _).mono ?_))
    rintro e w1 ⟨rfl, hb1⟩
    have HB1 := Lib.hid hb1
    clear hb1
    go_wp2_with fail
    go_ret
    exact ⟨rfl, HB1.out⟩
  have q1 : ¬ (300 : Int) < (n : Int) := by omega
  by_cases h0 : d < 0
  · have q2 : decide (d < 0) = true := decide_eq_true h0
    clear hl hA hc hno hwf h300
    go_enter Try.func4, Try.ntmps4
    go_wp2_with fail
    ((with_reducible refine (awake_any _).mono ?_))
    rintro e w1 ⟨rfl, hb1⟩
    have HB1 := Lib.hid hb1
    clear hb1
    go_wp2_with fail
    go_ret
    exact ⟨rfl, HB1.out⟩
  have q2 : decide (d < 0) = false := decide_eq_false h0
  by_cases h1000 : 1000 < d
  · have q3 : decide (1000 < d) = true := decide_eq_true h1000
    clear hl hA hc hno hwf h300
    go_enter Try.func4, Try.ntmps4
    go_wp2_with fail
    ((with_reducible refine (awake_any _).mono ?_))
    rintro e w1 ⟨rfl, hb1⟩
    have HB1 := Lib.hid hb1
    clear hb1
    go_wp2_with fail
    go_ret
    exact ⟨rfl, HB1.out⟩
  have q3 : decide (1000 < d) = false := decide_eq_false h1000
  have hN : n ≤ 1000000 := by omega
  have r1 := fun w (h : Ri w A ts) => at_any (w := w) (A := A) (c := c) (d := d) hl hN h hwf
  have r2 := fun w (h : Ri w A ts) => at_any (w := w) (A := A) (c := c) (d := d + 1) hl hN h hwf
  have r3 := fun w (h : Ri w A ts) => depth_any (w := w) (A := A) (c := c) hl hN h hwf
  have m := at_math (show 0 ≤ d by omega) (atD_s d ts) (atD_s (d + 1) ts)
  generalize atD d ts = z at r1 m
  generalize atD (d + 1) ts = y at r2 m
  generalize hD : depD ts = D at r3 m
  have HA := Lib.hid hA
  rcases m with ⟨rfl, m1, rfl⟩ | ⟨k, rfl, m1, m2, m3, m4, m5, m6⟩
  · have x1 : decide (d < D) = false := decide_eq_false (by omega)
    clear hl hA hc hno hwf h300 hN hD
    go_enter Try.func4, Try.ntmps4
    go_wp2_with fail
    ((with_reducible refine (awake_any _).mono ?_))
    rintro e w1 ⟨rfl, hb1⟩
    have HB1 := Lib.hid hb1
    clear hb1
    go_wp2_with fail
    ((with_reducible refine (r1 _ (HA.out.below HB1.out)).mono ?_))
    rintro e w2 ⟨rfl, hb2⟩
    have HB2 := Lib.hid (bel_trans HB1.out hb2)
    clear hb2
    go_wp2_with fail
    ((with_reducible refine (r2 _ (HA.out.below HB2.out)).mono ?_))
    rintro e w3 ⟨rfl, hb3⟩
    have HB3 := Lib.hid (bel_trans HB2.out hb3)
    clear hb3
    go_wp2_with fail
    ((with_reducible refine (r3 _ (HA.out.below HB3.out)).mono ?_))
    rintro e w4 ⟨rfl, hb4⟩
    have HB4 := Lib.hid (bel_trans HB3.out hb4)
    clear hb4
    go_wp2_with fail
    go_ret
    exact ⟨by simp, HB4.out⟩
  · rw [hl] at m1
    have r4 := fun w (h : Ri w A ts) => depth_any (w := w) (A := A) (c := c) (n := k) (ts := ts.take k) (by rw [List.length_take]; omega) (by omega) (ri_tk h k) (wf_tk hwf k)
    have r5 := fun w (h : Ri w A ts) => ends_any (w := w) (A := A) (c := c) (n := k + 1) (ts := ts.take (k + 1)) (by rw [List.length_take]; omega) (by omega) (ri_tk h (k + 1)) (wf_tk hwf (k + 1))
    have r6 := fun w (h : Ri w A ts) => depth_any (w := w) (A := A) (c := c) (n := k + 1) (ts := ts.take (k + 1)) (by rw [List.length_take]; omega) (by omega) (ri_tk h (k + 1)) (wf_tk hwf (k + 1))
    rw [m4] at r5
    rw [m5] at r6
    generalize depD (ts.take k) = D4 at r4 m3
    obtain ⟨ad, rfl⟩ : ∃ ad, A = some ad := by cases A with | none => exact absurd (hno rfl).1 (by omega) | some ad => exact ⟨ad, rfl⟩
    have x1 : decide (d < D) = true := decide_eq_true m2
    have x2 : decide (D4 ≤ d) = true := decide_eq_true m3
    have x3 : k ≤ c := by omega
    have x4 : k + 1 ≤ c := by omega
    have x5 : decide (n ≤ k) = false := decide_eq_false (by omega)
    have x6 : decide ((0 : Int) ≤ (k : Int)) = true := decide_eq_true (by omega)
    have x7 : ((k : Int) == -1) = false := beq_eq_false_iff_ne.2 (by omega)
    have x10 : decide ((k : Int) < -1) = false := decide_eq_false (by omega)
    clear hl hA hc hno hwf h300 hN hD m2 m3 m4 m5
    rcases m6 with rfl | m6
    · go_enter Try.func4, Try.ntmps4
      go_wp2_with fail
      ((with_reducible refine (awake_any _).mono ?_))
      rintro e w1 ⟨rfl, hb1⟩
      have HB1 := Lib.hid hb1
      clear hb1
      go_wp2_with fail
      ((with_reducible refine (r1 _ (HA.out.below HB1.out)).mono ?_))
      rintro e w2 ⟨rfl, hb2⟩
      have HB2 := Lib.hid (bel_trans HB1.out hb2)
      clear hb2
      go_wp2_with fail
      ((with_reducible refine (r2 _ (HA.out.below HB2.out)).mono ?_))
      rintro e w3 ⟨rfl, hb3⟩
      have HB3 := Lib.hid (bel_trans HB2.out hb3)
      clear hb3
      go_wp2_with fail
      ((with_reducible refine (r3 _ (HA.out.below HB3.out)).mono ?_))
      rintro e w4 ⟨rfl, hb4⟩
      have HB4 := Lib.hid (bel_trans HB3.out hb4)
      clear hb4
      go_wp2_with fail
      ((with_reducible refine (r4 _ (HA.out.below HB4.out)).mono ?_))
      rintro e w5 ⟨rfl, hb5⟩
      have HB5 := Lib.hid (bel_trans HB4.out hb5)
      clear hb5
      go_wp2_with fail
      ((with_reducible refine (r5 _ (HA.out.below HB5.out)).mono ?_))
      rintro e w6 ⟨rfl, hb6⟩
      have HB6 := Lib.hid (bel_trans HB5.out hb6)
      clear hb6
      go_wp2_with fail
      ((with_reducible refine (r6 _ (HA.out.below HB6.out)).mono ?_))
      rintro e w7 ⟨rfl, hb7⟩
      have HB7 := Lib.hid (bel_trans HB6.out hb7)
      clear hb7
      go_wp2_with fail
      go_ret
      exact ⟨by simp, HB7.out⟩
    · have x8 : decide ((k : Int) < y) = true := decide_eq_true m6
      have x9 : (y == -1) = false := beq_eq_false_iff_ne.2 (by omega)
      clear m6
      go_enter Try.func4, Try.ntmps4
      go_wp2_with fail
      ((with_reducible refine (awake_any _).mono ?_))
      rintro e w1 ⟨rfl, hb1⟩
      have HB1 := Lib.hid hb1
      clear hb1
      go_wp2_with fail
      ((with_reducible refine (r1 _ (HA.out.below HB1.out)).mono ?_))
      rintro e w2 ⟨rfl, hb2⟩
      have HB2 := Lib.hid (bel_trans HB1.out hb2)
      clear hb2
      go_wp2_with fail
      ((with_reducible refine (r2 _ (HA.out.below HB2.out)).mono ?_))
      rintro e w3 ⟨rfl, hb3⟩
      have HB3 := Lib.hid (bel_trans HB2.out hb3)
      clear hb3
      go_wp2_with fail
      ((with_reducible refine (r3 _ (HA.out.below HB3.out)).mono ?_))
      rintro e w4 ⟨rfl, hb4⟩
      have HB4 := Lib.hid (bel_trans HB3.out hb4)
      clear hb4
      go_wp2_with fail
      ((with_reducible refine (r4 _ (HA.out.below HB4.out)).mono ?_))
      rintro e w5 ⟨rfl, hb5⟩
      have HB5 := Lib.hid (bel_trans HB4.out hb5)
      clear hb5
      go_wp2_with fail
      ((with_reducible refine (r5 _ (HA.out.below HB5.out)).mono ?_))
      rintro e w6 ⟨rfl, hb6⟩
      have HB6 := Lib.hid (bel_trans HB5.out hb6)
      clear hb6
      go_wp2_with fail
      ((with_reducible refine (r6 _ (HA.out.below HB6.out)).mono ?_))
      rintro e w7 ⟨rfl, hb7⟩
      have HB7 := Lib.hid (bel_trans HB6.out hb7)
      clear hb7
      go_wp2_with fail
      go_ret
      exact ⟨by simp, HB7.out⟩
end Go.Proofs.Ytfgmojnohienfaa
