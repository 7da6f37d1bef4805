/- The law DepthParsed: its walk. -/
import Derived.Test.YtfgmojnohienfaaDoorDepC
import Derived.Test.YtfgmojnohienfaaDoorDepP
import Derived.Test.YtfgmojnohienfaaDoorParC
namespace Go.Proofs.YtfgmojnohienfaaDoor
open Go.RowKit
set_option linter.unusedVariables false
set_option maxRecDepth 100000

set_option maxHeartbeats 4000000 in
theorem parsed_law {w : World} {A : Option Addr} {n c : Nat} (k : Int) {L : List Int} (hl : L.length = n) (hA : Ri w A L) (hc : n ≤ c) (hno : A = none → n = 0 ∧ c = 0) (hwf : wfL L) (ht : TabR w) :
    Calls Tryd.prog 3 #[.slice A n c, .int .i64 k] w fun e w' => e = .returned (.bool true) ∧ Below w.heap.size w w' := by
  by_cases h300 : 300 < n
  · have q1 : (300 : Int) < (n : Int) := by omega
    clear hl hA hc hno hwf ht h300
    go_enter Tryd.func3, Tryd.ntmps3
    go_wp2_with fail
    ((with_reducible refine (awake_any _).mono ?_))
    rintro e w1 ⟨rfl, hb1⟩
    have HB1 := Lib.hid hb1
    clear hb1
    go_wp2_with fail
    go_ret
    exact ⟨rfl, HB1.out⟩
  have q1 : ¬ (300 : Int) < (n : Int) := by omega
  have HT := Lib.hid ht
  have HA := Lib.hid hA
  obtain ⟨R, z, f, hp⟩ := par_ex L
  obtain ⟨R', hR'⟩ : ∃ R', outR L R z f = R' := ⟨_, rfl⟩
  obtain ⟨m, hm⟩ : ∃ m, R'.length = m := ⟨_, rfl⟩
  obtain ⟨p, hpz⟩ : ∃ p, outZ L z f = p := ⟨_, rfl⟩
  have r1 := fun w h h' => parse_any (w := w) (A := A) (c := c) hp hR' hm hpz hl (by omega) h h'
  by_cases e1 : p = -1
  · subst e1
    obtain ⟨b1, b2, b3⟩ := par_bal hp hpz
    have hn0 : 0 < n := by
      by_cases e : 0 < n
      · exact e
      · obtain rfl : L = [] := List.length_eq_zero_iff.1 (by omega)
        have := (none_nil hp).2
        omega
    obtain ⟨ad, rfl⟩ : ∃ ad, A = some ad := by cases A with | none => exact absurd (hno rfl).1 (by omega) | some ad => exact ⟨ad, rfl⟩
    have r2 := fun w (h : Ri w (some ad) L) => ends_any (w := w) (A := some ad) (c := c) hl (by omega) h hwf
    have r3 := fun w (h : Ri w (some ad) L) => depth_any (w := w) (A := some ad) (c := c) hl (by omega) h hwf
    rw [b1] at r2
    have b4 := depD_ge L
    rw [hl] at b2 b3
    generalize depD L = D at r3 b2 b4
    have x1 : decide (2 * D ≤ (n : Int)) = true := decide_eq_true b2
    by_cases hk : 0 ≤ k ∧ k ≤ n
    · obtain ⟨j, rfl⟩ := Int.eq_ofNat_of_zero_le hk.1
      have hj : j ≤ n := by omega
      have b5 := b3 j hj
      have r4 := fun w (h : Ri w (some ad) L) => ends_any (w := w) (A := some ad) (c := c) (n := j) (ts := L.take j) (by rw [List.length_take]; omega) (by omega) (ri_tk h j) (wf_tk hwf j)
      generalize endD (L.take j) = E at r4 b5
      have x2 : decide ((j : Int) < 0) = false := decide_eq_false (by omega)
      have x3 : decide ((n : Int) < (j : Int)) = false := decide_eq_false (by omega)
      have x4 : decide (0 ≤ E) = true := decide_eq_true b5
      have x5 : j ≤ c := by omega
      clear hl hA hc hno hwf ht h300 hp hR' hm hpz hk b1 b3 b5
      go_enter Tryd.func3, Tryd.ntmps3
      go_wp2_with fail
      ((with_reducible refine (awake_any _).mono ?_))
      rintro e w1 ⟨rfl, hb1⟩
      have HB1 := Lib.hid hb1
      clear hb1
      go_wp2_with fail
      ((with_reducible refine (r1 _ (HA.out.below HB1.out) (HT.out.below HB1.out)).mono ?_))
      rintro e w2 ⟨B2, d2, rfl, hb2, -, -⟩
      have HB2 := Lib.hid (bel_trans HB1.out hb2)
      clear hb2
      go_wp2_with fail
      ((with_reducible refine (r2 _ (HA.out.below HB2.out)).mono ?_))
      rintro e w3 ⟨rfl, hb3⟩
      have HB3 := Lib.hid (bel_trans HB2.out hb3)
      clear hb3
      go_wp2_with fail
      ((with_reducible refine (r3 _ (HA.out.below HB3.out)).mono ?_))
      rintro e w4 ⟨rfl, hb4⟩
      have HB4 := Lib.hid (bel_trans HB3.out hb4)
      clear hb4
      go_wp2_with fail
      ((with_reducible refine (r4 _ (HA.out.below HB4.out)).mono ?_))
      rintro e w5 ⟨rfl, hb5⟩
      have HB5 := Lib.hid (bel_trans HB4.out hb5)
      clear hb5
      go_wp2_with fail
      go_ret
      exact ⟨by simp, HB5.out⟩
    · by_cases hk0 : k < 0
      · have x2 : decide (k < 0) = true := decide_eq_true hk0
        clear hl hA hc hno hwf ht h300 hp hR' hm hpz hk b1 b3
        go_enter Tryd.func3, Tryd.ntmps3
        go_wp2_with fail
        ((with_reducible refine (awake_any _).mono ?_))
        rintro e w1 ⟨rfl, hb1⟩
        have HB1 := Lib.hid hb1
        clear hb1
        go_wp2_with fail
        ((with_reducible refine (r1 _ (HA.out.below HB1.out) (HT.out.below HB1.out)).mono ?_))
        rintro e w2 ⟨B2, d2, rfl, hb2, -, -⟩
        have HB2 := Lib.hid (bel_trans HB1.out hb2)
        clear hb2
        go_wp2_with fail
        ((with_reducible refine (r2 _ (HA.out.below HB2.out)).mono ?_))
        rintro e w3 ⟨rfl, hb3⟩
        have HB3 := Lib.hid (bel_trans HB2.out hb3)
        clear hb3
        go_wp2_with fail
        ((with_reducible refine (r3 _ (HA.out.below HB3.out)).mono ?_))
        rintro e w4 ⟨rfl, hb4⟩
        have HB4 := Lib.hid (bel_trans HB3.out hb4)
        clear hb4
        go_wp2_with fail
        go_ret
        exact ⟨by simp, HB4.out⟩
      · have x2 : decide (k < 0) = false := decide_eq_false hk0
        have x3 : decide ((n : Int) < k) = true := decide_eq_true (by omega)
        clear hl hA hc hno hwf ht h300 hp hR' hm hpz hk b1 b3
        go_enter Tryd.func3, Tryd.ntmps3
        go_wp2_with fail
        ((with_reducible refine (awake_any _).mono ?_))
        rintro e w1 ⟨rfl, hb1⟩
        have HB1 := Lib.hid hb1
        clear hb1
        go_wp2_with fail
        ((with_reducible refine (r1 _ (HA.out.below HB1.out) (HT.out.below HB1.out)).mono ?_))
        rintro e w2 ⟨B2, d2, rfl, hb2, -, -⟩
        have HB2 := Lib.hid (bel_trans HB1.out hb2)
        clear hb2
        go_wp2_with fail
        ((with_reducible refine (r2 _ (HA.out.below HB2.out)).mono ?_))
        rintro e w3 ⟨rfl, hb3⟩
        have HB3 := Lib.hid (bel_trans HB2.out hb3)
        clear hb3
        go_wp2_with fail
        ((with_reducible refine (r3 _ (HA.out.below HB3.out)).mono ?_))
        rintro e w4 ⟨rfl, hb4⟩
        have HB4 := Lib.hid (bel_trans HB3.out hb4)
        clear hb4
        go_wp2_with fail
        go_ret
        exact ⟨by simp, HB4.out⟩
  · have x1 : (p != -1) = true := by simpa using e1
    clear hl hA hc hno hwf ht h300 hp hR' hm hpz e1
    go_enter Tryd.func3, Tryd.ntmps3
    go_wp2_with fail
    ((with_reducible refine (awake_any _).mono ?_))
    rintro e w1 ⟨rfl, hb1⟩
    have HB1 := Lib.hid hb1
    clear hb1
    go_wp2_with fail
    ((with_reducible refine (r1 _ (HA.out.below HB1.out) (HT.out.below HB1.out)).mono ?_))
    rintro e w2 ⟨B2, d2, rfl, hb2, -, -⟩
    have HB2 := Lib.hid (bel_trans HB1.out hb2)
    clear hb2
    go_wp2_with fail
    go_ret
    exact ⟨by simp, HB2.out⟩
end Go.Proofs.YtfgmojnohienfaaDoor
