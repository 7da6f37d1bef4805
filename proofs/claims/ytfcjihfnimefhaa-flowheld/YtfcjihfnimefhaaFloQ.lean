/- The laws FlowNone, FlowMore: their walks. -/
import Derived.Test.YtfcjihfnimefhaaFloL
import Derived.Test.YtfcjihfnimefhaaWidE
namespace Go.Proofs.Ytfcjihfnimefhaa
open Go.RowKit
set_option linter.unusedVariables false
set_option maxRecDepth 100000

theorem stF_zero (l : List Bq) (w : Int) : stF l w 0 = 0 := by have := (stF_spec l w 0).le; omega
theorem flow_zero (l : List Bq) (w : Int) : mkb (flwF l w 0) = ⟨#[]⟩ ∧ hldN l w 0 = 0 ∧ mostN l w 0 = 0 := by
  refine ⟨?_, ?_, rfl⟩
  · unfold flwF; rw [stF_zero]; rfl
  · unfold hldN; rw [stF_zero]
theorem yes_rm {l : List Bq} {w : Int} (k : Int) (h : rmF l w = false) : yesF l w k = false := by rw [yesF, h, Bool.and_false]
theorem yes_out {l : List Bq} {w k : Int} (h : ¬ (0 ≤ k ∧ k ≤ l.length)) : yesF l w k = false := by
  cases e : yesF l w k
  · rfl
  · exact absurd ⟨(yes_is.1 e).1, (yes_is.1 e).2.1⟩ h
set_option maxHeartbeats 4000000 in
theorem none_law {w : World} {A : Option Addr} {n c : Nat} {l : List Bq} {W k : Int} (hA : Br w A l) (hn : l.length = n) (h0 : A = none → n = 0 ∧ c = 0) (hc : n ≤ c) (hv : vS l ≤ 1048576) :
    Calls Try.prog 7 #[.slice A n c, .int .i64 W, .int .i64 k] w fun e w' => e = .returned (.bool true) ∧ Below w.heap.size w w' := by
  have r1 := fun w => awake_any w
  have HA := Lib.hid hA
  have HL := Lib.hid hn
  have H0 := Lib.hid h0
  have HV := Lib.hid (Nat.le_trans hv (by decide) : vS l ≤ 100000000)
  clear hA hn h0 hv
  go_enter Try.func7, Try.ntmps7
  go_wp2_with fail
  ((with_reducible refine (r1 _).mono ?_))
  rintro e w1 ⟨rfl, hb1⟩
  have HB1 := Lib.hid hb1
  clear hb1 r1
  by_cases h3 : 60 < n
  · have q3 : (60 : Int) < (n : Int) := by omega
    go_wp2
    go_ret
    exact ⟨rfl, HB1.out⟩
  have q3 : ¬ (60 : Int) < (n : Int) := by omega
  obtain ⟨r, hr⟩ : ∃ r, rmF l W = r := ⟨_, rfl⟩
  have r5 := fun w h => wroom_any (w := w) (A := A) (n := n) (c := c) hr h HL.out (by omega)
  cases r with
  | false =>
    have r2 := fun w h => flow_no (w := w) (A := A) (n := n) (c := c) (k := 0) (W := W) (by exact yes_rm _ hr) h HL.out (by omega)
    have r3 := fun w h => flow_no (w := w) (A := A) (n := n) (c := c) (k := k) (W := W) (by exact yes_rm _ hr) h HL.out (by omega)
    have r4 := fun w h => held_no (w := w) (A := A) (n := n) (c := c) (k := k) (W := W) (by exact yes_rm _ hr) h HL.out (by omega)
    clear hr h3
    go_wp2_with fail
    ((with_reducible refine (r2 _ (HA.out.below HB1.out)).mono ?_))
    rintro e w2 ⟨rfl, hb2⟩
    have HB2 := Lib.hid (bel_trans HB1.out hb2)
    clear hb2 r2
    go_wp2_with fail
    ((with_reducible refine (r3 _ (HA.out.below HB2.out)).mono ?_))
    rintro e w3 ⟨rfl, hb3⟩
    have HB3 := Lib.hid (bel_trans HB2.out hb3)
    clear hb3 r3
    go_wp2_with fail
    ((with_reducible refine (r5 _ (HA.out.below HB3.out)).mono ?_))
    rintro e w4 ⟨rfl, hb4⟩
    have HB4 := Lib.hid (bel_trans HB3.out hb4)
    clear hb4 r5
    go_wp2_with fail
    ((with_reducible refine (r4 _ (HA.out.below HB4.out)).mono ?_))
    rintro e w5 ⟨rfl, hb5⟩
    have HB5 := Lib.hid (bel_trans HB4.out hb5)
    clear hb5 r4
    go_wp2_with fail
    go_ret
    exact ⟨rfl, HB5.out⟩
  | true =>
    have r2 := fun w h => flow_yes (w := w) (A := A) (n := n) (c := c) (k := 0) hr h HL.out H0.out hc (by omega) HV.out (by omega)
    obtain ⟨z1, z2, z3⟩ := flow_zero l W
    rw [z1, z2] at r2
    have e0 : ((0 : Nat) : Int) = 0 := rfl
    simp only [e0] at r2
    by_cases hk : 0 ≤ k ∧ k ≤ n
    · obtain ⟨K, rfl⟩ : ∃ K : Nat, k = K := ⟨k.toNat, by omega⟩
      have hK : K ≤ n := by omega
      have r3 := fun w h => flow_yes (w := w) (A := A) (n := n) (c := c) (k := K) hr h HL.out H0.out hc (by omega) HV.out (by omega)
      have r4 := fun w h => held_yes (w := w) (A := A) (n := n) (c := c) (k := 0) hr h HL.out H0.out hc (by omega) HV.out (by omega)
      rw [z3] at r4
      simp only [e0] at r4
      have qa : ¬ (K : Int) < 0 := by omega
      have qb : ¬ (n : Int) < (K : Int) := by omega
      clear hr h3 z1 z2 z3 e0 hk
      go_wp2_with fail
      ((with_reducible refine (r2 _ (HA.out.below HB1.out)).mono ?_))
      rintro e w2 ⟨rfl, hb2⟩
      have HB2 := Lib.hid (bel_trans HB1.out hb2)
      clear hb2 r2
      go_wp2_with fail
      ((with_reducible refine (r3 _ (HA.out.below HB2.out)).mono ?_))
      rintro e w3 ⟨rfl, hb3⟩
      have HB3 := Lib.hid (bel_trans HB2.out hb3)
      clear hb3 r3
      go_wp2_with fail
      ((with_reducible refine (r5 _ (HA.out.below HB3.out)).mono ?_))
      rintro e w4 ⟨rfl, hb4⟩
      have HB4 := Lib.hid (bel_trans HB3.out hb4)
      clear hb4 r5
      go_wp2_with fail
      ((with_reducible refine (r4 _ (HA.out.below HB4.out)).mono ?_))
      rintro e w5 ⟨rfl, hb5⟩
      have HB5 := Lib.hid (bel_trans HB4.out hb5)
      clear hb5 r4
      go_wp2_with fail
      go_ret
      exact ⟨rfl, HB5.out⟩
    · have hk2 : ¬ (0 ≤ k ∧ k ≤ (l.length : Int)) := by rw [HL.out]; exact hk
      have r3 := fun w h => flow_no (w := w) (A := A) (n := n) (c := c) (k := k) (W := W) (by exact yes_out hk2) h HL.out (by omega)
      have r4 := fun w h => held_no (w := w) (A := A) (n := n) (c := c) (k := k) (W := W) (by exact yes_out hk2) h HL.out (by omega)
      clear hr h3 z1 z2 z3 e0 hk2
      by_cases ha : k < 0
      · clear hk
        go_wp2_with fail
        ((with_reducible refine (r2 _ (HA.out.below HB1.out)).mono ?_))
        rintro e w2 ⟨rfl, hb2⟩
        have HB2 := Lib.hid (bel_trans HB1.out hb2)
        clear hb2 r2
        go_wp2_with fail
        ((with_reducible refine (r3 _ (HA.out.below HB2.out)).mono ?_))
        rintro e w3 ⟨rfl, hb3⟩
        have HB3 := Lib.hid (bel_trans HB2.out hb3)
        clear hb3 r3
        go_wp2_with fail
        ((with_reducible refine (r5 _ (HA.out.below HB3.out)).mono ?_))
        rintro e w4 ⟨rfl, hb4⟩
        have HB4 := Lib.hid (bel_trans HB3.out hb4)
        clear hb4 r5
        go_wp2_with fail
        ((with_reducible refine (r4 _ (HA.out.below HB4.out)).mono ?_))
        rintro e w5 ⟨rfl, hb5⟩
        have HB5 := Lib.hid (bel_trans HB4.out hb5)
        clear hb5 r4
        go_wp2_with fail
        go_ret
        exact ⟨rfl, HB5.out⟩
      · have qb : (n : Int) < k := by omega
        clear hk
        go_wp2_with fail
        ((with_reducible refine (r2 _ (HA.out.below HB1.out)).mono ?_))
        rintro e w2 ⟨rfl, hb2⟩
        have HB2 := Lib.hid (bel_trans HB1.out hb2)
        clear hb2 r2
        go_wp2_with fail
        ((with_reducible refine (r3 _ (HA.out.below HB2.out)).mono ?_))
        rintro e w3 ⟨rfl, hb3⟩
        have HB3 := Lib.hid (bel_trans HB2.out hb3)
        clear hb3 r3
        go_wp2_with fail
        ((with_reducible refine (r5 _ (HA.out.below HB3.out)).mono ?_))
        rintro e w4 ⟨rfl, hb4⟩
        have HB4 := Lib.hid (bel_trans HB3.out hb4)
        clear hb4 r5
        go_wp2_with fail
        ((with_reducible refine (r4 _ (HA.out.below HB4.out)).mono ?_))
        rintro e w5 ⟨rfl, hb5⟩
        have HB5 := Lib.hid (bel_trans HB4.out hb5)
        clear hb5 r4
        go_wp2_with fail
        go_ret
        exact ⟨rfl, HB5.out⟩
theorem mostN_up (l : List Bq) (w : Int) (k : Nat) : mostN l w k ≤ mostN l w (k + 1) := Nat.le_max_left _ _
set_option maxHeartbeats 4000000 in
theorem more_law {w : World} {A : Option Addr} {n c : Nat} {l : List Bq} {W k : Int} (hA : Br w A l) (hn : l.length = n) (h0 : A = none → n = 0 ∧ c = 0) (hc : n ≤ c) (hv : vS l ≤ 1048576) :
    Calls Try.prog 8 #[.slice A n c, .int .i64 W, .int .i64 k] w fun e w' => e = .returned (.bool true) ∧ Below w.heap.size w w' := by
  have r1 := fun w => awake_any w
  have HA := Lib.hid hA
  have HL := Lib.hid hn
  have H0 := Lib.hid h0
  have HV := Lib.hid (Nat.le_trans hv (by decide) : vS l ≤ 100000000)
  clear hA hn h0 hv
  go_enter Try.func8, Try.ntmps8
  go_wp2_with fail
  ((with_reducible refine (r1 _).mono ?_))
  rintro e w1 ⟨rfl, hb1⟩
  have HB1 := Lib.hid hb1
  clear hb1 r1
  by_cases h3 : 60 < n
  · have q3 : (60 : Int) < (n : Int) := by omega
    go_wp2
    go_ret
    exact ⟨rfl, HB1.out⟩
  have q3 : ¬ (60 : Int) < (n : Int) := by omega
  obtain ⟨r, hr⟩ : ∃ r, rmF l W = r := ⟨_, rfl⟩
  have r5 := fun w h => wroom_any (w := w) (A := A) (n := n) (c := c) hr h HL.out (by omega)
  go_wp2_with fail
  ((with_reducible refine (r5 _ (HA.out.below HB1.out)).mono ?_))
  rintro e w2 ⟨rfl, hb2⟩
  have HB2 := Lib.hid (bel_trans HB1.out hb2)
  clear hb2 r5
  cases r with
  | false =>
    go_wp2
    go_ret
    exact ⟨rfl, HB2.out⟩
  | true =>
  by_cases ha : k < 0
  · go_wp2
    go_ret
    exact ⟨rfl, HB2.out⟩
  obtain ⟨K, rfl⟩ : ∃ K : Nat, k = K := ⟨k.toNat, by omega⟩
  by_cases hb : n ≤ K
  · have qb : (n : Int) ≤ (K : Int) := by omega
    go_wp2
    go_ret
    exact ⟨rfl, HB2.out⟩
  have qb : ¬ (n : Int) ≤ (K : Int) := by omega
  have r2 := fun w h => flow_yes (w := w) (A := A) (n := n) (c := c) (k := K) hr h HL.out H0.out hc (by omega) HV.out (by omega)
  have r3 := fun w h => flow_yes (w := w) (A := A) (n := n) (c := c) (k := K + 1) hr h HL.out H0.out hc (by omega) HV.out (by omega)
  have r4 := fun w h => held_yes (w := w) (A := A) (n := n) (c := c) (k := K) hr h HL.out H0.out hc (by omega) HV.out (by omega)
  have r6 := fun w h => held_yes (w := w) (A := A) (n := n) (c := c) (k := K + 1) hr h HL.out H0.out hc (by omega) HV.out (by omega)
  have e1 : ((K + 1 : Nat) : Int) = (K : Int) + 1 := by omega
  simp only [e1] at r3 r6
  have m1 := held_next (w := W) (k := K) (rm_may hr) (by rw [HL.out]; omega)
  have m2 := hldN_most l W K
  have m3 := mostN_up l W K
  have m4 := hldN_most l W (K + 1)
  have m5 := mostN_le l W (K + 1)
  obtain ⟨x1, hx1⟩ : ∃ x, hldN l W K = x := ⟨_, rfl⟩
  obtain ⟨x2, hx2⟩ : ∃ x, hldN l W (K + 1) = x := ⟨_, rfl⟩
  obtain ⟨y1, hy1⟩ : ∃ x, mostN l W K = x := ⟨_, rfl⟩
  obtain ⟨y2, hy2⟩ : ∃ x, mostN l W (K + 1) = x := ⟨_, rfl⟩
  rw [hx1] at r2 m1 m2
  rw [hx2] at r3 m1 m4
  rw [hy1] at r4 m2 m3
  rw [hy2] at r6 m3 m4 m5
  have q4 : IntKind.i64.wrap ((K : Int) + 1) = (K : Int) + 1 := IntWalk.i64_in _ (by omega)
  have q5 : IntKind.i64.wrap ((x1 : Int) + 1) = (x1 : Int) + 1 := IntWalk.i64_in _ (by omega)
  have p1 : (x2 : Int) ≤ (x1 : Int) + 1 := by omega
  have p2 : (x1 : Int) ≤ (y1 : Int) := by omega
  have p3 : (y1 : Int) ≤ (y2 : Int) := by omega
  have p4 : (x2 : Int) ≤ (y2 : Int) := by omega
  have p5 : (y2 : Int) ≤ (K : Int) + 1 := by omega
  clear hr h3 hx1 hx2 hy1 hy2 e1 m1 m2 m3 m4 m5 hb ha
  go_wp2_with fail
  ((with_reducible refine (r2 _ (HA.out.below HB2.out)).mono ?_))
  rintro e w3 ⟨rfl, hb3⟩
  have HB3 := Lib.hid (bel_trans HB2.out hb3)
  clear hb3 r2
  go_wp2_with fail
  ((with_reducible refine (r3 _ (HA.out.below HB3.out)).mono ?_))
  rintro e w4 ⟨rfl, hb4⟩
  have HB4 := Lib.hid (bel_trans HB3.out hb4)
  clear hb4 r3
  go_wp2_with fail
  ((with_reducible refine (r4 _ (HA.out.below HB4.out)).mono ?_))
  rintro e w5 ⟨rfl, hb5⟩
  have HB5 := Lib.hid (bel_trans HB4.out hb5)
  clear hb5 r4
  go_wp2_with fail
  ((with_reducible refine (r6 _ (HA.out.below HB5.out)).mono ?_))
  rintro e w6 ⟨rfl, hb6⟩
  have HB6 := Lib.hid (bel_trans HB5.out hb6)
  clear hb6 r6
  go_wp2_with fail
  go_ret
  exact ⟨rfl, HB6.out⟩
end Go.Proofs.Ytfcjihfnimefhaa
