/- The laws YieldBack, YieldOnly, YieldFails: their walks. -/
import Derived.Test.YtcipfipfamecmaaDoorYieG
import Derived.Test.YtcipfipfamecmaaDoorIntF
namespace Go.Proofs.YtcipfipfamecmaaDoor
open Go.RowKit
set_option linter.unusedVariables false
set_option maxRecDepth 100000

set_option maxHeartbeats 2000000 in
theorem back_law {w : World} {A : Option Addr} {n c : Nat} {L : List Int} (hl : L.length = n) (hA : Ri w A L) (ht : TabR w) :
    Calls Tryd.prog 4 #[.slice A n c] w fun e w' => e = .returned (.bool true) ∧ Below w.heap.size w w' := by
  have HT := Lib.hid ht
  by_cases h300 : 300 < n
  · have q1 : (300 : Int) < (n : Int) := by omega
    clear h300 hl hA ht
    go_enter Tryd.func4, Tryd.ntmps4
    go_wp2_with fail
    ((with_reducible refine (awake_any _ HT.out).mono ?_))
    rintro e w1 ⟨rfl, hb1⟩
    have HB1 := Lib.hid hb1
    clear hb1
    go_wp2_with fail
    go_ret
    exact ⟨rfl, HB1.out⟩
  have q1 : ¬ (300 : Int) < (n : Int) := by omega
  obtain ⟨R, z, f, hp⟩ := par_ex L
  obtain ⟨R', hR'⟩ : ∃ R', outR L R z f = R' := ⟨_, rfl⟩
  obtain ⟨m, hm⟩ : ∃ m, R'.length = m := ⟨_, rfl⟩
  obtain ⟨p, hpz⟩ : ∃ p, outZ L z f = p := ⟨_, rfl⟩
  have r1 := fun w h h' => parse_any (w := w) (A := A) (c := c) hp hR' hm hpz hl (by omega) h h'
  have HA := Lib.hid hA
  rcases outZ_or L z f with e1 | e1
  · obtain rfl : p = -1 := by rw [← hpz, e1]
    obtain ⟨rfl, hz⟩ := outZ_yes e1
    rw [outR_ok hz] at hR'
    subst hR'
    obtain ⟨X, hX, hd⟩ := par_ful hp hz
    have hm2 : m ≤ 2000 := by have h1 := hp.steps; have h2 := hp.within; rw [hm] at h1; omega
    have r2 := fun {w B d} h0 h h' h'' => derives_any (w := w) (A := B) (A2 := A) (c := d) (c2 := c) hX hd hm h0 hm2 h hl (by omega) h' h''
    clear h300 hl hA ht hp hm hpz e1 hz hX hd
    go_enter Tryd.func4, Tryd.ntmps4
    go_wp2_with fail
    ((with_reducible refine (awake_any _ HT.out).mono ?_))
    rintro e w1 ⟨rfl, hb1⟩
    have HB1 := Lib.hid hb1
    clear hb1
    go_wp2_with fail
    ((with_reducible refine (r1 _ (HA.out.below HB1.out) (HT.out.below HB1.out)).mono ?_))
    rintro e w2 ⟨B2, d2, rfl, hb2, hs2, -, hc2⟩
    have HB2 := Lib.hid (bel_trans HB1.out hb2)
    have HS2 := Lib.hid hs2
    have HC2 := Lib.hid hc2
    clear hb2 hs2 hc2
    go_wp2_with fail
    ((with_reducible refine (r2 HC2.out HS2.out (HA.out.below HB2.out) (HT.out.below HB2.out)).mono ?_))
    rintro e w3 ⟨rfl, hb3⟩
    have HB3 := Lib.hid (bel_trans HB2.out hb3)
    clear hb3
    go_wp2_with fail
    go_ret
    exact ⟨by simp, HB3.out⟩
  · obtain ⟨zz, hzz⟩ : ∃ zz : Nat, p = (zz : Int) := ⟨z, hpz.symm.trans e1⟩
    subst hzz
    have hm0 : m = 0 := by
      have hy : yesB L z f = false := by
        cases hy : yesB L z f
        · rfl
        · rw [outZ, hy, if_pos rfl] at e1; omega
      rw [outR, hy, if_neg (by simp)] at hR'
      rw [← hm, ← hR']; rfl
    subst hm0
    have q2 : ((zz : Int) == -1) = false := by simp
    have q3 : (0 : Int) ≤ (zz : Int) := by omega
    clear h300 hl hA ht hp hR' hm hpz e1
    go_enter Tryd.func4, Tryd.ntmps4
    go_wp2_with fail
    ((with_reducible refine (awake_any _ HT.out).mono ?_))
    rintro e w1 ⟨rfl, hb1⟩
    have HB1 := Lib.hid hb1
    clear hb1
    go_wp2_with fail
    ((with_reducible refine (r1 _ (HA.out.below HB1.out) (HT.out.below HB1.out)).mono ?_))
    rintro e w2 ⟨B2, d2, rfl, hb2, -, -, -⟩
    have HB2 := Lib.hid (bel_trans HB1.out hb2)
    clear hb2
    go_wp2_with fail
    go_ret
    exact ⟨by simp, HB2.out⟩
set_option maxHeartbeats 2000000 in
theorem only_law {w : World} {A A2 : Option Addr} {n c n2 c2 : Nat} {R L : List Int} (hl : R.length = n) (hc : n ≤ c) (hA : Ri w A R) (hl2 : L.length = n2) (hA2 : Ri w A2 L) (ht : TabR w) :
    Calls Tryd.prog 5 #[.slice A n c, .slice A2 n2 c2] w fun e w' => e = .returned (.bool true) ∧ Below w.heap.size w w' := by
  have HT := Lib.hid ht
  by_cases h600 : 600 < n
  · have q1 : (600 : Int) < (n : Int) := by omega
    clear h600 hl hA hl2 hA2 ht
    go_enter Tryd.func5, Tryd.ntmps5
    go_wp2_with fail
    ((with_reducible refine (awake_any _ HT.out).mono ?_))
    rintro e w1 ⟨rfl, hb1⟩
    have HB1 := Lib.hid hb1
    clear hb1
    go_wp2_with fail
    go_ret
    exact ⟨rfl, HB1.out⟩
  have q1 : ¬ (600 : Int) < (n : Int) := by omega
  by_cases h300 : 300 < n2
  · have q2 : (300 : Int) < (n2 : Int) := by omega
    clear h600 h300 hl hA hl2 hA2 ht
    go_enter Tryd.func5, Tryd.ntmps5
    go_wp2_with fail
    ((with_reducible refine (awake_any _ HT.out).mono ?_))
    rintro e w1 ⟨rfl, hb1⟩
    have HB1 := Lib.hid hb1
    clear hb1
    go_wp2_with fail
    go_ret
    exact ⟨rfl, HB1.out⟩
  have q2 : ¬ (300 : Int) < (n2 : Int) := by omega
  obtain ⟨X, is, hf⟩ := ful_ex R
  obtain ⟨r, hr⟩ : ∃ r, derB is X L = r := ⟨_, rfl⟩
  have r8 := fun w h h' h'' => derives_any (w := w) (A := A) (A2 := A2) (c := c) (c2 := c2) hf hr hl hc (by omega) h hl2 (by omega) h' h''
  have HA := Lib.hid hA
  have HA2 := Lib.hid hA2
  cases r
  · clear hl hA hl2 hA2 ht h600 h300 hf hr
    go_enter Tryd.func5, Tryd.ntmps5
    go_wp2_with fail
    ((with_reducible refine (awake_any _ HT.out).mono ?_))
    rintro e w1 ⟨rfl, hb1⟩
    have HB1 := Lib.hid hb1
    clear hb1
    go_wp2_with fail
    ((with_reducible refine (r8 _ (HA.out.below HB1.out) (HA2.out.below HB1.out) (HT.out.below HB1.out)).mono ?_))
    rintro e w2 ⟨rfl, hb2⟩
    have HB2 := Lib.hid (bel_trans HB1.out hb2)
    clear hb2
    go_wp2_with fail
    go_ret
    exact ⟨by simp, HB2.out⟩
  · have hp := ful_par hf hr
    have r1 := fun w h h' => parse_any (w := w) (A := A2) (c := c2) hp (outR_ok rfl) hl (outZ_ok rfl) hl2 (by omega) h h'
    have r2 := fun {w : World} {B B2 : Option Addr} {d d2 : Nat} (h1 : Ri w B R) (h2 : Ri w B2 R) => ints_any (c := d) (d := d2) (n := n) h1 h2 hl (by omega)
    clear hl hA hl2 hA2 ht h600 h300 hf hr hp
    go_enter Tryd.func5, Tryd.ntmps5
    go_wp2_with fail
    ((with_reducible refine (awake_any _ HT.out).mono ?_))
    rintro e w1 ⟨rfl, hb1⟩
    have HB1 := Lib.hid hb1
    clear hb1
    go_wp2_with fail
    ((with_reducible refine (r8 _ (HA.out.below HB1.out) (HA2.out.below HB1.out) (HT.out.below HB1.out)).mono ?_))
    rintro e w2 ⟨rfl, hb2⟩
    have HB2 := Lib.hid (bel_trans HB1.out hb2)
    clear hb2
    go_wp2_with fail
    ((with_reducible refine (r1 _ (HA2.out.below HB2.out) (HT.out.below HB2.out)).mono ?_))
    rintro e w3 ⟨B3, d3, rfl, hb3, hs3, -, -⟩
    have HB3 := Lib.hid (bel_trans HB2.out hb3)
    have HS3 := Lib.hid hs3
    clear hb3 hs3
    go_wp2_with fail
    ((with_reducible refine (r2 HS3.out (HA.out.below HB3.out)).mono ?_))
    rintro e w4 ⟨rfl, hb4⟩
    have HB4 := Lib.hid (bel_trans HB3.out hb4)
    clear hb4
    go_wp2_with fail
    go_ret
    exact ⟨by simp, HB4.out⟩
set_option maxHeartbeats 2000000 in
theorem fails_law {w : World} {A A2 : Option Addr} {n c n2 c2 : Nat} {R L : List Int} (hl : R.length = n) (hc : n ≤ c) (hA : Ri w A R) (hl2 : L.length = n2) (hA2 : Ri w A2 L) (ht : TabR w) :
    Calls Tryd.prog 6 #[.slice A n c, .slice A2 n2 c2] w fun e w' => e = .returned (.bool true) ∧ Below w.heap.size w w' := by
  have HT := Lib.hid ht
  by_cases h600 : 600 < n
  · have q1 : (600 : Int) < (n : Int) := by omega
    clear h600 hl hA hl2 hA2 ht
    go_enter Tryd.func6, Tryd.ntmps6
    go_wp2_with fail
    ((with_reducible refine (awake_any _ HT.out).mono ?_))
    rintro e w1 ⟨rfl, hb1⟩
    have HB1 := Lib.hid hb1
    clear hb1
    go_wp2_with fail
    go_ret
    exact ⟨rfl, HB1.out⟩
  have q1 : ¬ (600 : Int) < (n : Int) := by omega
  by_cases h300 : 300 < n2
  · have q2 : (300 : Int) < (n2 : Int) := by omega
    clear h600 h300 hl hA hl2 hA2 ht
    go_enter Tryd.func6, Tryd.ntmps6
    go_wp2_with fail
    ((with_reducible refine (awake_any _ HT.out).mono ?_))
    rintro e w1 ⟨rfl, hb1⟩
    have HB1 := Lib.hid hb1
    clear hb1
    go_wp2_with fail
    go_ret
    exact ⟨rfl, HB1.out⟩
  have q2 : ¬ (300 : Int) < (n2 : Int) := by omega
  obtain ⟨X, is, hf⟩ := ful_ex R
  obtain ⟨r, hr⟩ : ∃ r, derB is X L = r := ⟨_, rfl⟩
  have r8 := fun w h h' h'' => derives_any (w := w) (A := A) (A2 := A2) (c := c) (c2 := c2) hf hr hl hc (by omega) h hl2 (by omega) h' h''
  have HA := Lib.hid hA
  have HA2 := Lib.hid hA2
  obtain ⟨R2, z, f, hp⟩ := par_ex L
  obtain ⟨R', hR'⟩ : ∃ R', outR L R2 z f = R' := ⟨_, rfl⟩
  obtain ⟨m, hm⟩ : ∃ m, R'.length = m := ⟨_, rfl⟩
  obtain ⟨p, hpz⟩ : ∃ p, outZ L z f = p := ⟨_, rfl⟩
  have r1 := fun w h h' => parse_any (w := w) (A := A2) (c := c2) hp hR' hm hpz hl2 (by omega) h h'
  by_cases e1 : p = -1
  · subst e1
    clear hl hA hl2 hA2 ht h600 h300 hf hr hp hR' hm hpz
    go_enter Tryd.func6, Tryd.ntmps6
    go_wp2_with fail
    ((with_reducible refine (awake_any _ HT.out).mono ?_))
    rintro e w1 ⟨rfl, hb1⟩
    have HB1 := Lib.hid hb1
    clear hb1
    go_wp2_with fail
    ((with_reducible refine (r1 _ (HA2.out.below HB1.out) (HT.out.below HB1.out)).mono ?_))
    rintro e w2 ⟨B2, d2, rfl, hb2, -, -, -⟩
    have HB2 := Lib.hid (bel_trans HB1.out hb2)
    clear hb2
    go_wp2_with fail
    go_ret
    exact ⟨by simp, HB2.out⟩
  · have hr0 : r = false := by
      cases r
      · rfl
      · obtain ⟨-, h2, h3⟩ := (ful_par hf hr).det hp
        subst h2 h3
        exact absurd (hpz.symm.trans (outZ_ok rfl)) e1
    subst hr0
    have q3 : (p == -1) = false := by simpa using e1
    clear hl hA hl2 hA2 ht h600 h300 hf hr hp hR' hm hpz e1
    go_enter Tryd.func6, Tryd.ntmps6
    go_wp2_with fail
    ((with_reducible refine (awake_any _ HT.out).mono ?_))
    rintro e w1 ⟨rfl, hb1⟩
    have HB1 := Lib.hid hb1
    clear hb1
    go_wp2_with fail
    ((with_reducible refine (r1 _ (HA2.out.below HB1.out) (HT.out.below HB1.out)).mono ?_))
    rintro e w2 ⟨B2, d2, rfl, hb2, -, -, -⟩
    have HB2 := Lib.hid (bel_trans HB1.out hb2)
    clear hb2
    go_wp2_with fail
    ((with_reducible refine (r8 _ (HA.out.below HB2.out) (HA2.out.below HB2.out) (HT.out.below HB2.out)).mono ?_))
    rintro e w3 ⟨rfl, hb3⟩
    have HB3 := Lib.hid (bel_trans HB2.out hb3)
    clear hb3
    go_wp2_with fail
    go_ret
    exact ⟨by simp, HB3.out⟩
end Go.Proofs.YtcipfipfamecmaaDoor
