/- The law YieldTells: its walk. -/
import Derived.Test.YtcipfipfamecmaaDoorYieG
import Derived.Test.YtcipfipfamecmaaDoorYieS
import Derived.Test.YtcipfipfamecmaaDoorSymF
namespace Go.Proofs.YtcipfipfamecmaaDoor
open Go.RowKit
set_option linter.unusedVariables false
set_option maxRecDepth 100000

set_option maxHeartbeats 4000000 in
theorem tells_law {w : World} {A A2 : Option Addr} {n c n2 c2 : Nat} {R L : List Int} (hl : R.length = n) (hc : n ≤ c) (hA : Ri w A R) (hl2 : L.length = n2) (hA2 : Ri w A2 L) (ht : TabR w) :
    Calls Tryd.prog 3 #[.slice A n c, .slice A2 n2 c2] w fun e w' => e = .returned (.bool true) ∧ Below w.heap.size w w' := by
  have HT := Lib.hid ht
  by_cases h600 : 600 < n
  · have q1 : (600 : Int) < (n : Int) := by omega
    clear h600 hl hA hl2 hA2 ht
    go_enter Tryd.func3, Tryd.ntmps3
    go_wp2_with fail
    ((with_reducible refine (awake_any _ HT.out).mono ?_))
    rintro e w1 ⟨rfl, hb1⟩
    have HB1 := Lib.hid hb1
    clear hb1
    go_wp2_with fail
    go_ret
    exact ⟨rfl, HB1.out⟩
  have q1 : ¬ (600 : Int) < (n : Int) := by omega
  by_cases h300 : 300 < n2
  · have q2 : (300 : Int) < (n2 : Int) := by omega
    clear h600 h300 hl hA hl2 hA2 ht
    go_enter Tryd.func3, Tryd.ntmps3
    go_wp2_with fail
    ((with_reducible refine (awake_any _ HT.out).mono ?_))
    rintro e w1 ⟨rfl, hb1⟩
    have HB1 := Lib.hid hb1
    clear hb1
    go_wp2_with fail
    go_ret
    exact ⟨rfl, HB1.out⟩
  have q2 : ¬ (300 : Int) < (n2 : Int) := by omega
  obtain ⟨X, is, hf⟩ := ful_ex R
  obtain ⟨m, hm⟩ : ∃ m, X.length = m := ⟨_, rfl⟩
  obtain ⟨Y, hY⟩ : ∃ Y, plS X = Y := ⟨_, rfl⟩
  obtain ⟨k, hk⟩ : ∃ k, Y.length = k := ⟨_, rfl⟩
  obtain ⟨r, hr⟩ : ∃ r, derB is X L = r := ⟨_, rfl⟩
  have hm2 : m ≤ 10001 := by have := ful_len hf; omega
  have hk2 : k ≤ 10001 := by have h2 := plS_le X; rw [hY] at h2; omega
  have r1 := fun w h h' => full_any (w := w) (A := A) (c := c) hf hm hl hc (by omega) h h'
  have r2 := fun w h => rfull_any (w := w) (A := A) (c := c) hf hm hl (by omega) h
  have r3 := fun w h h' => yield_any (w := w) (A := A) (c := c) hf hY hk hl hc (by omega) h h'
  have r4 := fun w h => ryield_any (w := w) (A := A) (c := c) hf hY hk hl (by omega) h
  have r5 := fun {w A B c d} h h' => syms_any (w := w) (A := A) (B := B) (c := c) (d := d) (sameS_refl X) h h' hm hm (by omega)
  have r6 := fun {w A B c d} h h' => syms_any (w := w) (A := A) (B := B) (c := c) (d := d) (sameS_refl Y) h h' hk hk (by omega)
  have r7 := fun w h h' => rderives_any (w := w) (A := A) (A2 := A2) (c := c) (c2 := c2) hf hr hl (by omega) h hl2 (by omega) h'
  have r8 := fun w h h' h'' => derives_any (w := w) (A := A) (A2 := A2) (c := c) (c2 := c2) hf hr hl hc (by omega) h hl2 (by omega) h' h''
  have HA := Lib.hid hA
  have HA2 := Lib.hid hA2
  have q3 : (is == is) = true := by simp
  have q4 : (r == r) = true := by simp
  clear hl hA hl2 hA2 ht h600 h300 hf hm hY hk hr hm2 hk2
  go_enter Tryd.func3, Tryd.ntmps3
  go_wp2_with fail
  ((with_reducible refine (awake_any _ HT.out).mono ?_))
  rintro e w1 ⟨rfl, hb1⟩
  have HB1 := Lib.hid hb1
  clear hb1
  go_wp2_with fail
  ((with_reducible refine (r1 _ (HA.out.below HB1.out) (HT.out.below HB1.out)).mono ?_))
  rintro e w2 ⟨B2, d2, rfl, hb2, hs2, -⟩
  have HB2 := Lib.hid (bel_trans HB1.out hb2)
  have HS2 := Lib.hid hs2
  clear hb2 hs2
  go_wp2_with fail
  ((with_reducible refine (r2 _ (HA.out.below HB2.out)).mono ?_))
  rintro e w3 ⟨B3, d3, rfl, hb3, hs3, -⟩
  have HB3 := Lib.hid (bel_trans HB2.out hb3)
  have HS23 := Lib.hid (HS2.out.below hb3)
  have HS3 := Lib.hid hs3
  clear hb3 hs3
  go_wp2_with fail
  ((with_reducible refine (r3 _ (HA.out.below HB3.out) (HT.out.below HB3.out)).mono ?_))
  rintro e w4 ⟨B4, d4, rfl, hb4, hs4, -⟩
  have HB4 := Lib.hid (bel_trans HB3.out hb4)
  have HS24 := Lib.hid (HS23.out.below hb4)
  have HS34 := Lib.hid (HS3.out.below hb4)
  have HS4 := Lib.hid hs4
  clear hb4 hs4
  go_wp2_with fail
  ((with_reducible refine (r4 _ (HA.out.below HB4.out)).mono ?_))
  rintro e w5 ⟨B5, d5, rfl, hb5, hs5, -⟩
  have HB5 := Lib.hid (bel_trans HB4.out hb5)
  have HS25 := Lib.hid (HS24.out.below hb5)
  have HS35 := Lib.hid (HS34.out.below hb5)
  have HS45 := Lib.hid (HS4.out.below hb5)
  have HS5 := Lib.hid hs5
  clear hb5 hs5
  go_wp2_with fail
  ((with_reducible refine (r5 HS25.out HS35.out).mono ?_))
  rintro e w6 ⟨rfl, hb6⟩
  have HB6 := Lib.hid (bel_trans HB5.out hb6)
  have HS46 := Lib.hid (HS45.out.below hb6)
  have HS56 := Lib.hid (HS5.out.below hb6)
  clear hb6
  go_wp2_with fail
  ((with_reducible refine (r6 HS46.out HS56.out).mono ?_))
  rintro e w7 ⟨rfl, hb7⟩
  have HB7 := Lib.hid (bel_trans HB6.out hb7)
  clear hb7
  go_wp2_with fail
  ((with_reducible refine (r7 _ (HA.out.below HB7.out) (HA2.out.below HB7.out)).mono ?_))
  rintro e w8 ⟨rfl, hb8⟩
  have HB8 := Lib.hid (bel_trans HB7.out hb8)
  clear hb8
  go_wp2_with fail
  ((with_reducible refine (r8 _ (HA.out.below HB8.out) (HA2.out.below HB8.out) (HT.out.below HB8.out)).mono ?_))
  rintro e w9 ⟨rfl, hb9⟩
  have HB9 := Lib.hid (bel_trans HB8.out hb9)
  clear hb9
  go_wp2_with fail
  go_ret
  exact ⟨by simp, HB9.out⟩
end Go.Proofs.YtcipfipfamecmaaDoor
