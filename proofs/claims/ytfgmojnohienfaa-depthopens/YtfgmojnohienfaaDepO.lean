/- The law DepthOpens: its walk. -/
import Derived.Test.YtfgmojnohienfaaDepC
import Derived.Test.YtfgmojnohienfaaIntN
namespace Go.Proofs.Ytfgmojnohienfaa
open Go.RowKit
set_option linter.unusedVariables false
set_option maxRecDepth 100000

theorem rep_end (k : Nat) : List.replicate k (12 : Int) ++ [12] = List.replicate (k + 1) 12 := by rw [List.replicate_succ']
theorem wf_rep (k : Nat) : wfL (List.replicate k (12 : Int)) := fun t ht => by
  rw [(List.mem_replicate.1 ht).2]; decide
set_option maxHeartbeats 8000000 in
theorem opens_law (n0 d0 : Int) {w : World} :
    Calls Try.prog 7 #[.int .i64 n0, .int .i64 d0] w fun e w' => e = .returned (.bool true) ∧ Below w.heap.size w w' := by
  by_cases h1 : n0 < 0
  · have q1 : decide (n0 < 0) = true := decide_eq_true h1
    clear h1
    go_enter Try.func7, Try.ntmps7
    go_wp2_with fail
    ((with_reducible refine (awake_any _).mono ?_))
    rintro e w1 ⟨rfl, hb1⟩
    have HB1 := Lib.hid hb1
    clear hb1
    go_wp2_with fail
    go_ret
    exact ⟨rfl, HB1.out⟩
  have q1 : decide (n0 < 0) = false := decide_eq_false h1
  by_cases h2 : 300 < n0
  · have q2 : decide (300 < n0) = true := decide_eq_true h2
    clear h1 h2
    go_enter Try.func7, Try.ntmps7
    go_wp2_with fail
    ((with_reducible refine (awake_any _).mono ?_))
    rintro e w1 ⟨rfl, hb1⟩
    have HB1 := Lib.hid hb1
    clear hb1
    go_wp2_with fail
    go_ret
    exact ⟨rfl, HB1.out⟩
  have q2 : decide (300 < n0) = false := decide_eq_false h2
  by_cases h3 : d0 < 0
  · have q3 : decide (d0 < 0) = true := decide_eq_true h3
    clear h1 h2 h3
    go_enter Try.func7, Try.ntmps7
    go_wp2_with fail
    ((with_reducible refine (awake_any _).mono ?_))
    rintro e w1 ⟨rfl, hb1⟩
    have HB1 := Lib.hid hb1
    clear hb1
    go_wp2_with fail
    go_ret
    exact ⟨rfl, HB1.out⟩
  have q3 : decide (d0 < 0) = false := decide_eq_false h3
  by_cases h4 : 400 < d0
  · have q4 : decide (400 < d0) = true := decide_eq_true h4
    clear h1 h2 h3 h4
    go_enter Try.func7, Try.ntmps7
    go_wp2_with fail
    ((with_reducible refine (awake_any _).mono ?_))
    rintro e w1 ⟨rfl, hb1⟩
    have HB1 := Lib.hid hb1
    clear hb1
    go_wp2_with fail
    go_ret
    exact ⟨rfl, HB1.out⟩
  have q4 : decide (400 < d0) = false := decide_eq_false h4
  obtain ⟨n, rfl⟩ := Int.eq_ofNat_of_zero_le (show 0 ≤ n0 by omega)
  obtain ⟨d, rfl⟩ := Int.eq_ofNat_of_zero_le (show 0 ≤ d0 by omega)
  have hn : n ≤ 300 := by omega
  have r1 := fun w A c (h : Ri w A (List.replicate n 12)) => at_any (w := w) (A := A) (c := c) (n := n) (d := (d : Int)) (ts := List.replicate n 12) (by simp) (by omega) h (wf_rep n)
  have r2 := fun w A c (h : Ri w A (List.replicate n 12)) => depth_any (w := w) (A := A) (c := c) (n := n) (ts := List.replicate n 12) (by simp) (by omega) h (wf_rep n)
  have r3 := fun w A c (h : Ri w A (List.replicate n 12)) => ends_any (w := w) (A := A) (c := c) (n := n) (ts := List.replicate n 12) (by simp) (by omega) h (wf_rep n)
  rw [opens_dep] at r2
  rw [opens_end] at r3
  rw [opens_at] at r1
  clear h1 h2 h3 h4
  go_enter Try.func7, Try.ntmps7
  go_wp2_with fail
  ((with_reducible refine (awake_any _).mono ?_))
  rintro e w1 ⟨rfl, hb1⟩
  have HB1 := Lib.hid hb1
  clear hb1
  go_wp2_with fail
  go_loopw [6, 7] (fun q i wr => ∃ j : Nat, i = .int .i64 j ∧ j ≤ n ∧ Hid (Rn w1 (List.replicate j 12) q wr)) (fun _ i _ => n - (intOf i).toNat)
  case atStart => exact ⟨0, rfl, Nat.zero_le _, Lib.hid (Rn.start w1)⟩
  case round =>
    obtain ⟨j, rfl, hj, hR⟩ := hrel
    by_cases hlt : j < n
    · have hlen : (List.replicate j (12 : Int)).length = j := by simp
      have hrs := rep_end j
      obtain ⟨Y, hY⟩ : ∃ Y, List.replicate j (12 : Int) = Y := ⟨_, rfl⟩
      rw [hY] at hlen hrs hR
      have HS := Lib.hid hrs
      have HA := Lib.hid (hR.out.alloc (.cells #[.int .i64 12] 3))
      clear hR hY hrs
      go_wp2_with (at_builtin; refine app_rn rfl _ _ rfl _ Y 12 rfl HA.out (ad := ⟨wr.heap.size, 0, none⟩) (c := 1) (by simp [go_sem]) (ri_blk [12] (heap_alloc_new wr _)) (by omega) ?_)
      intro v' w3 hR3
      have HR3 := Lib.hid hR3
      clear hR3
      go_wp2_with fail
      go_roundw
      case rel => exact ⟨j + 1, by go_num, by omega, Lib.hid (by rw [← HS.out]; exact HR3.out)⟩
      case measure => simp [intOf]; omega
    · obtain rfl : j = n := by omega
      obtain ⟨B, m, c, rfl⟩ := own_sl hR.out.own
      obtain ⟨hm, hri, -⟩ := ri_row hR.out.own
      rw [List.length_replicate] at hm
      subst hm
      have HR := Lib.hid hri
      have HB2 := Lib.hid (bel_trans HB1.out hR.out.bel)
      clear hR hri hlt
      by_cases hd : d < m
      · rw [if_pos hd] at r1
        have x1 : decide ((d : Int) < (m : Int)) = true := decide_eq_true (by omega)
        go_wp2_with fail
        ((with_reducible refine (r1 _ _ _ HR.out).mono ?_))
        rintro e w3 ⟨rfl, hb3⟩
        have HB3 := Lib.hid (bel_trans HB2.out hb3)
        have HR3 := Lib.hid (HR.out.below hb3)
        clear hb3
        go_wp2_with fail
        ((with_reducible refine (r2 _ _ _ HR3.out).mono ?_))
        rintro e w4 ⟨rfl, hb4⟩
        have HB4 := Lib.hid (bel_trans HB3.out hb4)
        have HR4 := Lib.hid (HR3.out.below hb4)
        clear hb4
        go_wp2_with fail
        ((with_reducible refine (r3 _ _ _ HR4.out).mono ?_))
        rintro e w5 ⟨rfl, hb5⟩
        have HB5 := Lib.hid (bel_trans HB4.out hb5)
        clear hb5
        go_wp2_with fail
        go_ret
        exact ⟨by simp, HB5.out⟩
      · rw [if_neg hd] at r1
        have x1 : decide ((d : Int) < (m : Int)) = false := decide_eq_false (by omega)
        have x2 : decide ((m : Int) ≤ (d : Int)) = true := decide_eq_true (by omega)
        go_wp2_with fail
        ((with_reducible refine (r1 _ _ _ HR.out).mono ?_))
        rintro e w3 ⟨rfl, hb3⟩
        have HB3 := Lib.hid (bel_trans HB2.out hb3)
        have HR3 := Lib.hid (HR.out.below hb3)
        clear hb3
        go_wp2_with fail
        ((with_reducible refine (r2 _ _ _ HR3.out).mono ?_))
        rintro e w4 ⟨rfl, hb4⟩
        have HB4 := Lib.hid (bel_trans HB3.out hb4)
        have HR4 := Lib.hid (HR3.out.below hb4)
        clear hb4
        go_wp2_with fail
        ((with_reducible refine (r3 _ _ _ HR4.out).mono ?_))
        rintro e w5 ⟨rfl, hb5⟩
        have HB5 := Lib.hid (bel_trans HB4.out hb5)
        clear hb5
        go_wp2_with fail
        go_ret
        exact ⟨by simp, HB5.out⟩
end Go.Proofs.Ytfgmojnohienfaa
