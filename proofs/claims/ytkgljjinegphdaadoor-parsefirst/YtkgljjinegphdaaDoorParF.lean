/- The law ParseFirst: its walk. -/
import Derived.Test.YtkgljjinegphdaaDoorParC
namespace Go.Proofs.YtkgljjinegphdaaDoor
open Go.RowKit
set_option linter.unusedVariables false
set_option maxRecDepth 100000

set_option maxHeartbeats 4000000 in
theorem first_law {w : World} {A : Option Addr} {n c : Nat} {L : List Int} {k : Int} (hl : L.length = n) (hA : Ri w A L) (hc : n ≤ c) (hno : A = none → n = 0 ∧ c = 0) (ht : TabR w) :
    Calls Tryd.prog 4 #[.slice A n c, .int .i64 k] w fun e w' => e = .returned (.bool true) ∧ Below w.heap.size w w' := by
  have HT := Lib.hid ht
  by_cases hg : 300 < n ∨ k < 0 ∨ (n : Int) < k
  · by_cases h300 : 300 < n
    · have q1 : (300 : Int) < (n : Int) := by omega
      clear hl hA ht h300 hg hc hno
      go_enter Tryd.func4, Tryd.ntmps4
      go_wp2_with fail
      ((with_reducible refine (awake_any _ HT.out).mono ?_))
      rintro e w1 ⟨rfl, hb1⟩
      have HB1 := Lib.hid hb1
      clear hb1
      go_wp2_with fail
      go_ret
      exact ⟨rfl, HB1.out⟩
    · have q1 : ¬ (300 : Int) < (n : Int) := by omega
      by_cases h0 : k < 0
      · have q2 : decide (k < 0) = true := decide_eq_true h0
        clear hl hA ht h300 hg hc hno
        go_enter Tryd.func4, Tryd.ntmps4
        go_wp2_with fail
        ((with_reducible refine (awake_any _ HT.out).mono ?_))
        rintro e w1 ⟨rfl, hb1⟩
        have HB1 := Lib.hid hb1
        clear hb1
        go_wp2_with fail
        go_ret
        exact ⟨rfl, HB1.out⟩
      · have q2 : decide (k < 0) = false := decide_eq_false h0
        have q3 : (n : Int) < k := by omega
        have q4 : decide ((n : Int) < k) = true := decide_eq_true q3
        clear hl hA ht h300 hg hc hno
        go_enter Tryd.func4, Tryd.ntmps4
        go_wp2_with fail
        ((with_reducible refine (awake_any _ HT.out).mono ?_))
        rintro e w1 ⟨rfl, hb1⟩
        have HB1 := Lib.hid hb1
        clear hb1
        go_wp2_with fail
        go_ret
        exact ⟨rfl, HB1.out⟩
  · cases A with
    | none =>
      obtain ⟨rfl, rfl⟩ := hno rfl
      obtain rfl : k = 0 := by omega
      clear hl hA hc hno hg
      go_enter Tryd.func4, Tryd.ntmps4
      go_wp2_with fail
      ((with_reducible refine (awake_any _ HT.out).mono ?_))
      rintro e w1 ⟨rfl, hb1⟩
      have HB1 := Lib.hid hb1
      clear hb1
      go_wp2_with fail
      ((with_reducible refine (parse_nil (HT.out.below HB1.out)).mono ?_))
      rintro e w2 ⟨B, d, rfl, hb2, -, -⟩
      have HB2 := Lib.hid (bel_trans HB1.out hb2)
      clear hb2
      go_wp2_with fail
      ((with_reducible refine (parse_nil (HT.out.below HB2.out)).mono ?_))
      rintro e w3 ⟨B', d', rfl, hb3, -, -⟩
      have HB3 := Lib.hid (bel_trans HB2.out hb3)
      clear hb3
      go_wp2_with fail
      go_ret
      exact ⟨by simp, HB3.out⟩
    | some ad =>
    clear hno
    obtain ⟨j, rfl⟩ := Int.eq_ofNat_of_zero_le (show 0 ≤ k by omega)
    obtain ⟨R, z, f, hp⟩ := par_ex L
    obtain ⟨R2, z2, f2, hp2⟩ := par_ex (L.take j)
    obtain ⟨R', hR'⟩ : ∃ R', outR L R z f = R' := ⟨_, rfl⟩
    obtain ⟨m, hm⟩ : ∃ m, R'.length = m := ⟨_, rfl⟩
    obtain ⟨p, hpz⟩ : ∃ p, outZ L z f = p := ⟨_, rfl⟩
    obtain ⟨R2', hR2'⟩ : ∃ R', outR (L.take j) R2 z2 f2 = R' := ⟨_, rfl⟩
    obtain ⟨m2, hm2⟩ : ∃ m, R2'.length = m := ⟨_, rfl⟩
    obtain ⟨p2, hpz2⟩ : ∃ p, outZ (L.take j) z2 f2 = p := ⟨_, rfl⟩
    have hn : n ≤ 1000 := by omega
    have hj : j ≤ n := by omega
    have hl2 : (L.take j).length = j := by rw [List.length_take]; omega
    obtain ⟨m1, m2', m3, m4, m5, m6⟩ := first_math hp hp2 (by omega) hpz hpz2
    rw [hl] at m2'
    have r1 := fun w h h' => parse_any (w := w) (A := some ad) (c := c) hp hR' hm hpz hl hn h h'
    have r2 := fun w h h' => parse_any (w := w) (A := some ad) (c := c) hp2 hR2' hm2 hpz2 hl2 (by omega) h h'
    have q1 : ¬ (300 : Int) < (n : Int) := by omega
    have q2 : ¬ (n : Int) < (j : Int) := by omega
    have q3 : ¬ n < j := by omega
    have q4 : j ≤ c := by omega
    have q5 : ¬ (j : Int) < 0 := by omega
    have e1 : decide (p < -1) = false := decide_eq_false (by omega)
    have e2 : decide ((n : Int) < p) = false := decide_eq_false (by omega)
    have e3 : decide (p2 < -1) = false := decide_eq_false (by omega)
    have e4 : decide ((j : Int) < p2) = false := decide_eq_false (by omega)
    have HA := Lib.hid hA
    have HW : ((0 ≤ p ∧ p < (j : Int)) ∧ p2 = p) ∨ (p < 0 ∧ p2 = -1) ∨ (p < 0 ∧ p2 = (j : Int)) ∨ (0 ≤ p ∧ ¬ p < (j : Int) ∧ p2 = -1) ∨ (0 ≤ p ∧ ¬ p < (j : Int) ∧ p2 = (j : Int)) := by
      by_cases h : 0 ≤ p ∧ p < (j : Int)
      · exact .inl ⟨h, m5 h⟩
      · have := m6 h
        omega
    clear hl hA ht hg hc hp hp2 hR' hm hpz hR2' hm2 hpz2 hl2 m5 m6
    rcases HW with ⟨⟨a, b⟩, e⟩ | ⟨a, e⟩ | ⟨a, e⟩ | ⟨a, b, e⟩ | ⟨a, b, e⟩
    · have d1 : decide (0 ≤ p) = true := decide_eq_true a
      have d2 : decide (p < (j : Int)) = true := decide_eq_true b
      have d3 : (p2 == p) = true := by simpa using e
      have d4 := d3
      clear a b e
      clear m1 m2' m3 m4
      go_enter Tryd.func4, Tryd.ntmps4
      go_wp2_with fail
      ((with_reducible refine (awake_any _ HT.out).mono ?_))
      rintro e w1 ⟨rfl, hb1⟩
      have HB1 := Lib.hid hb1
      clear hb1
      go_wp2_with fail
      ((with_reducible refine (r1 _ (HA.out.below HB1.out) (HT.out.below HB1.out)).mono ?_))
      rintro e w2 ⟨B, d, rfl, hb2, -, -⟩
      have HB2 := Lib.hid (bel_trans HB1.out hb2)
      clear hb2
      go_wp2_with fail
      ((with_reducible refine (r2 _ ((HA.out.below HB2.out).take _) (HT.out.below HB2.out)).mono ?_))
      rintro e w3 ⟨B', d', rfl, hb3, -, -⟩
      have HB3 := Lib.hid (bel_trans HB2.out hb3)
      clear hb3
      go_wp2_with fail
      go_ret
      exact ⟨by first | (simp; done) | (simp [d3]; done) | (simp [d4]; done), HB3.out⟩
    · have d1 : decide (0 ≤ p) = false := decide_eq_false (by omega)
      have d3 : (p2 == -1) = true := by simpa using e
      have d4 := d3
      clear a e
      clear m1 m2' m3 m4
      go_enter Tryd.func4, Tryd.ntmps4
      go_wp2_with fail
      ((with_reducible refine (awake_any _ HT.out).mono ?_))
      rintro e w1 ⟨rfl, hb1⟩
      have HB1 := Lib.hid hb1
      clear hb1
      go_wp2_with fail
      ((with_reducible refine (r1 _ (HA.out.below HB1.out) (HT.out.below HB1.out)).mono ?_))
      rintro e w2 ⟨B, d, rfl, hb2, -, -⟩
      have HB2 := Lib.hid (bel_trans HB1.out hb2)
      clear hb2
      go_wp2_with fail
      ((with_reducible refine (r2 _ ((HA.out.below HB2.out).take _) (HT.out.below HB2.out)).mono ?_))
      rintro e w3 ⟨B', d', rfl, hb3, -, -⟩
      have HB3 := Lib.hid (bel_trans HB2.out hb3)
      clear hb3
      go_wp2_with fail
      go_ret
      exact ⟨by first | (simp; done) | (simp [d3]; done) | (simp [d4]; done), HB3.out⟩
    · have d1 : decide (0 ≤ p) = false := decide_eq_false (by omega)
      have d3 : (p2 == -1) = false := beq_eq_false_iff_ne.2 (by omega)
      have d4 : (p2 == (j : Int)) = true := by simpa using e
      clear a e
      clear m1 m2' m3 m4
      go_enter Tryd.func4, Tryd.ntmps4
      go_wp2_with fail
      ((with_reducible refine (awake_any _ HT.out).mono ?_))
      rintro e w1 ⟨rfl, hb1⟩
      have HB1 := Lib.hid hb1
      clear hb1
      go_wp2_with fail
      ((with_reducible refine (r1 _ (HA.out.below HB1.out) (HT.out.below HB1.out)).mono ?_))
      rintro e w2 ⟨B, d, rfl, hb2, -, -⟩
      have HB2 := Lib.hid (bel_trans HB1.out hb2)
      clear hb2
      go_wp2_with fail
      ((with_reducible refine (r2 _ ((HA.out.below HB2.out).take _) (HT.out.below HB2.out)).mono ?_))
      rintro e w3 ⟨B', d', rfl, hb3, -, -⟩
      have HB3 := Lib.hid (bel_trans HB2.out hb3)
      clear hb3
      go_wp2_with fail
      go_ret
      exact ⟨by first | (simp; done) | (simp [d3]; done) | (simp [d4]; done), HB3.out⟩
    · have d1 : decide (0 ≤ p) = true := decide_eq_true a
      have d2 : decide (p < (j : Int)) = false := decide_eq_false b
      have d3 : (p2 == -1) = true := by simpa using e
      have d4 := d3
      clear a b e
      clear m1 m2' m3 m4
      go_enter Tryd.func4, Tryd.ntmps4
      go_wp2_with fail
      ((with_reducible refine (awake_any _ HT.out).mono ?_))
      rintro e w1 ⟨rfl, hb1⟩
      have HB1 := Lib.hid hb1
      clear hb1
      go_wp2_with fail
      ((with_reducible refine (r1 _ (HA.out.below HB1.out) (HT.out.below HB1.out)).mono ?_))
      rintro e w2 ⟨B, d, rfl, hb2, -, -⟩
      have HB2 := Lib.hid (bel_trans HB1.out hb2)
      clear hb2
      go_wp2_with fail
      ((with_reducible refine (r2 _ ((HA.out.below HB2.out).take _) (HT.out.below HB2.out)).mono ?_))
      rintro e w3 ⟨B', d', rfl, hb3, -, -⟩
      have HB3 := Lib.hid (bel_trans HB2.out hb3)
      clear hb3
      go_wp2_with fail
      go_ret
      exact ⟨by first | (simp; done) | (simp [d3]; done) | (simp [d4]; done), HB3.out⟩
    · have d1 : decide (0 ≤ p) = true := decide_eq_true a
      have d2 : decide (p < (j : Int)) = false := decide_eq_false b
      have d3 : (p2 == -1) = false := beq_eq_false_iff_ne.2 (by omega)
      have d4 : (p2 == (j : Int)) = true := by simpa using e
      clear a b e
      clear m1 m2' m3 m4
      go_enter Tryd.func4, Tryd.ntmps4
      go_wp2_with fail
      ((with_reducible refine (awake_any _ HT.out).mono ?_))
      rintro e w1 ⟨rfl, hb1⟩
      have HB1 := Lib.hid hb1
      clear hb1
      go_wp2_with fail
      ((with_reducible refine (r1 _ (HA.out.below HB1.out) (HT.out.below HB1.out)).mono ?_))
      rintro e w2 ⟨B, d, rfl, hb2, -, -⟩
      have HB2 := Lib.hid (bel_trans HB1.out hb2)
      clear hb2
      go_wp2_with fail
      ((with_reducible refine (r2 _ ((HA.out.below HB2.out).take _) (HT.out.below HB2.out)).mono ?_))
      rintro e w3 ⟨B', d', rfl, hb3, -, -⟩
      have HB3 := Lib.hid (bel_trans HB2.out hb3)
      clear hb3
      go_wp2_with fail
      go_ret
      exact ⟨by first | (simp; done) | (simp [d3]; done) | (simp [d4]; done), HB3.out⟩
end Go.Proofs.YtkgljjinegphdaaDoor
