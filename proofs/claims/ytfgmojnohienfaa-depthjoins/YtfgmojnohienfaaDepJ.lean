/- The law DepthJoins: its walk. -/
import Derived.Test.YtfgmojnohienfaaDepC
namespace Go.Proofs.Ytfgmojnohienfaa
open Go.RowKit
set_option linter.unusedVariables false
set_option maxRecDepth 100000

theorem wf_app {a b : List Int} (ha : wfL a) (hb : wfL b) : wfL (a ++ b) := fun t ht => (List.mem_append.1 ht).elim (ha t) (hb t)
set_option maxHeartbeats 8000000 in
theorem joins_law {w : World} {A A2 : Option Addr} {n c n2 c2 : Nat} {L M : List Int} (hl : L.length = n) (hA : Ri w A L) (hno : A = none → n = 0 ∧ c = 0) (hwf : wfL L) (hl2 : M.length = n2) (hA2 : Ri w A2 M) (hno2 : A2 = none → n2 = 0 ∧ c2 = 0) (hwf2 : wfL M) :
    Calls Try.prog 5 #[.slice A n c, .slice A2 n2 c2] w fun e w' => e = .returned (.bool true) ∧ Below w.heap.size w w' := by
  by_cases h300 : 300 < n
  · have q1 : (300 : Int) < (n : Int) := by omega
    clear hl hA hno hwf h300 hl2 hA2 hno2 hwf2
    go_enter Try.func5, Try.ntmps5
    go_wp2_with fail
    ((with_reducible refine (awake_any _).mono ?_))
    rintro e w1 ⟨rfl, hb1⟩
    have HB1 := Lib.hid hb1
    clear hb1
    go_wp2_with fail
    go_ret
    exact ⟨rfl, HB1.out⟩
  have q1 : ¬ (300 : Int) < (n : Int) := by omega
  by_cases h300' : 300 < n2
  · have q2 : (300 : Int) < (n2 : Int) := by omega
    clear hl hA hno hwf h300 hl2 hA2 hno2 hwf2 h300'
    go_enter Try.func5, Try.ntmps5
    go_wp2_with fail
    ((with_reducible refine (awake_any _).mono ?_))
    rintro e w1 ⟨rfl, hb1⟩
    have HB1 := Lib.hid hb1
    clear hb1
    go_wp2_with fail
    go_ret
    exact ⟨rfl, HB1.out⟩
  have q2 : ¬ (300 : Int) < (n2 : Int) := by omega
  have hlm : (L ++ M).length = n + n2 := by rw [List.length_append, hl, hl2]
  have r1 := fun w (h : Ri w A L) => ends_any (w := w) (A := A) (c := c) hl (by omega) h hwf
  have r2 := fun w (h : Ri w A L) => depth_any (w := w) (A := A) (c := c) hl (by omega) h hwf
  have r3 := fun w (h : Ri w A2 M) => depth_any (w := w) (A := A2) (c := c2) hl2 (by omega) h hwf2
  have r4 := fun w (h : Ri w A2 M) => ends_any (w := w) (A := A2) (c := c2) hl2 (by omega) h hwf2
  have r5 := fun w B d (h : Ri w B (L ++ M)) => ends_any (w := w) (A := B) (c := d) hlm (by omega) h (wf_app hwf hwf2)
  have r6 := fun w B d (h : Ri w B (L ++ M)) => depth_any (w := w) (A := B) (c := d) hlm (by omega) h (wf_app hwf hwf2)
  have b1 := endD_range L
  have b2 := endD_range M
  have b3 := depD_le L
  have b4 := depD_le M
  have b5 := depD_ge L
  have b6 := depD_ge M
  have b7 := endD_le L
  rw [endD_app] at r5
  rw [depD_app] at r6
  rw [hl] at b1 b3
  rw [hl2] at b2 b4
  generalize endD L = E at r1 r5 r6 b1 b7
  generalize depD L = D at r2 r6 b3 b5 b7
  generalize depD M = D2 at r3 r6 b4 b6
  generalize endD M = E2 at r4 r5 b2
  have HA := Lib.hid hA
  have HA2 := Lib.hid hA2
  have HL := Lib.hid hl
  have HM := Lib.hid hl2
  have HLM := Lib.hid hlm
  have HN := Lib.hid hno
  have HN2 := Lib.hid hno2
  have x1 : decide ((0 : Int) ≤ D) = true := decide_eq_true b5
  have x2 : decide (E ≤ D) = true := decide_eq_true b7
  clear hl hA hno hwf h300 hl2 hA2 hno2 hwf2 h300' hlm
  by_cases hm : D < E + D2
  · rw [show max D (E + D2) = E + D2 from by omega] at r6
    go_enter Try.func5, Try.ntmps5
    go_wp2_with fail
    ((with_reducible refine (awake_any _).mono ?_))
    rintro e w1 ⟨rfl, hb1⟩
    have HB1 := Lib.hid hb1
    clear hb1
    go_wp2_with (at_builtin; refine app_ints rfl _ _ rfl w1.heap.size _ _ [] rfl (World.ownsRow_nil _ _ _ _) (A := A) (m := n) (c := c) (ts := L) rfl (HA.out.below HB1.out) HL.out HN.out (by omega) (Nat.le_refl _) ?_)
    intro v4 w4 ho4 hg4
    have ho4' : w4.ownsRow w1.heap.size 3 1 v4 n (L.map iv) := by simpa using ho4
    have hB4 : Below w1.heap.size w1 w4 := (Below.refl _ w1).grown hg4 (Nat.le_refl _) (fun k hk => by cases hk)
    have HB4 := Lib.hid (bel_trans HB1.out hB4)
    have HO4 := Lib.hid ho4'
    have HBB4 := Lib.hid hB4
    have hz4 := hB4.size
    clear ho4 ho4' hg4 hB4
    go_wp2_with (at_builtin; refine app_ints rfl _ _ rfl w1.heap.size _ _ L rfl HO4.out (A := A2) (m := n2) (c := c2) (ts := M) rfl (HA2.out.below HB4.out) HM.out HN2.out (by omega) hz4 ?_)
    intro v5 w5 ho5 hg5
    have hB5 : Below w1.heap.size w1 w5 := HBB4.out.grown hg5 hz4 (fun k hk => (HO4.out.lt k hk).1)
    have ho5' : w5.ownsRow w1.heap.size 3 1 v5 (L ++ M).length ((L ++ M).map iv) := by rw [HLM.out, List.map_append]; exact ho5
    obtain ⟨B5, m5, d5, rfl⟩ := own_sl ho5'
    obtain ⟨hm5, hri, -⟩ := ri_row ho5'
    rw [HLM.out] at hm5
    subst hm5
    have HR5 := Lib.hid hri
    have HB5 := Lib.hid (bel_trans HB1.out hB5)
    clear ho5 ho5' hg5 hB5 hri hz4
    go_wp2_with fail
    ((with_reducible refine (r1 _ (HA.out.below HB5.out)).mono ?_))
    rintro e w6 ⟨rfl, hb6⟩
    have HB6 := Lib.hid (bel_trans HB5.out hb6)
    have HR6 := Lib.hid (HR5.out.below hb6)
    clear hb6
    go_wp2_with fail
    ((with_reducible refine (r2 _ (HA.out.below HB6.out)).mono ?_))
    rintro e w7 ⟨rfl, hb7⟩
    have HB7 := Lib.hid (bel_trans HB6.out hb7)
    have HR7 := Lib.hid (HR6.out.below hb7)
    clear hb7
    go_wp2_with fail
    ((with_reducible refine (r3 _ (HA2.out.below HB7.out)).mono ?_))
    rintro e w8 ⟨rfl, hb8⟩
    have HB8 := Lib.hid (bel_trans HB7.out hb8)
    have HR8 := Lib.hid (HR7.out.below hb8)
    clear hb8
    go_wp2_with fail
    ((with_reducible refine (r3 _ (HA2.out.below HB8.out)).mono ?_))
    rintro e w9 ⟨rfl, hb9⟩
    have HB9 := Lib.hid (bel_trans HB8.out hb9)
    have HR9 := Lib.hid (HR8.out.below hb9)
    clear hb9
    go_wp2_with fail
    ((with_reducible refine (r5 _ _ _ HR9.out).mono ?_))
    rintro e w10 ⟨rfl, hb10⟩
    have HB10 := Lib.hid (bel_trans HB9.out hb10)
    have HR10 := Lib.hid (HR9.out.below hb10)
    clear hb10
    go_wp2_with fail
    ((with_reducible refine (r4 _ (HA2.out.below HB10.out)).mono ?_))
    rintro e w11 ⟨rfl, hb11⟩
    have HB11 := Lib.hid (bel_trans HB10.out hb11)
    have HR11 := Lib.hid (HR10.out.below hb11)
    clear hb11
    go_wp2_with fail
    ((with_reducible refine (r6 _ _ _ HR11.out).mono ?_))
    rintro e w12 ⟨rfl, hb12⟩
    have HB12 := Lib.hid (bel_trans HB11.out hb12)
    clear hb12
    go_wp2_with fail
    ((with_reducible refine (r2 _ (HA.out.below HB12.out)).mono ?_))
    rintro e w13 ⟨rfl, hb13⟩
    have HB13 := Lib.hid (bel_trans HB12.out hb13)
    clear hb13
    go_wp2_with fail
    ((with_reducible refine (r2 _ (HA.out.below HB13.out)).mono ?_))
    rintro e w14 ⟨rfl, hb14⟩
    have HB14 := Lib.hid (bel_trans HB13.out hb14)
    clear hb14
    go_wp2_with fail
    go_ret
    exact ⟨by simp, HB14.out⟩
  · rw [show max D (E + D2) = D from by omega] at r6
    go_enter Try.func5, Try.ntmps5
    go_wp2_with fail
    ((with_reducible refine (awake_any _).mono ?_))
    rintro e w1 ⟨rfl, hb1⟩
    have HB1 := Lib.hid hb1
    clear hb1
    go_wp2_with (at_builtin; refine app_ints rfl _ _ rfl w1.heap.size _ _ [] rfl (World.ownsRow_nil _ _ _ _) (A := A) (m := n) (c := c) (ts := L) rfl (HA.out.below HB1.out) HL.out HN.out (by omega) (Nat.le_refl _) ?_)
    intro v4 w4 ho4 hg4
    have ho4' : w4.ownsRow w1.heap.size 3 1 v4 n (L.map iv) := by simpa using ho4
    have hB4 : Below w1.heap.size w1 w4 := (Below.refl _ w1).grown hg4 (Nat.le_refl _) (fun k hk => by cases hk)
    have HB4 := Lib.hid (bel_trans HB1.out hB4)
    have HO4 := Lib.hid ho4'
    have HBB4 := Lib.hid hB4
    have hz4 := hB4.size
    clear ho4 ho4' hg4 hB4
    go_wp2_with (at_builtin; refine app_ints rfl _ _ rfl w1.heap.size _ _ L rfl HO4.out (A := A2) (m := n2) (c := c2) (ts := M) rfl (HA2.out.below HB4.out) HM.out HN2.out (by omega) hz4 ?_)
    intro v5 w5 ho5 hg5
    have hB5 : Below w1.heap.size w1 w5 := HBB4.out.grown hg5 hz4 (fun k hk => (HO4.out.lt k hk).1)
    have ho5' : w5.ownsRow w1.heap.size 3 1 v5 (L ++ M).length ((L ++ M).map iv) := by rw [HLM.out, List.map_append]; exact ho5
    obtain ⟨B5, m5, d5, rfl⟩ := own_sl ho5'
    obtain ⟨hm5, hri, -⟩ := ri_row ho5'
    rw [HLM.out] at hm5
    subst hm5
    have HR5 := Lib.hid hri
    have HB5 := Lib.hid (bel_trans HB1.out hB5)
    clear ho5 ho5' hg5 hB5 hri hz4
    go_wp2_with fail
    ((with_reducible refine (r1 _ (HA.out.below HB5.out)).mono ?_))
    rintro e w6 ⟨rfl, hb6⟩
    have HB6 := Lib.hid (bel_trans HB5.out hb6)
    have HR6 := Lib.hid (HR5.out.below hb6)
    clear hb6
    go_wp2_with fail
    ((with_reducible refine (r2 _ (HA.out.below HB6.out)).mono ?_))
    rintro e w7 ⟨rfl, hb7⟩
    have HB7 := Lib.hid (bel_trans HB6.out hb7)
    have HR7 := Lib.hid (HR6.out.below hb7)
    clear hb7
    go_wp2_with fail
    ((with_reducible refine (r3 _ (HA2.out.below HB7.out)).mono ?_))
    rintro e w8 ⟨rfl, hb8⟩
    have HB8 := Lib.hid (bel_trans HB7.out hb8)
    have HR8 := Lib.hid (HR7.out.below hb8)
    clear hb8
    go_wp2_with fail
    ((with_reducible refine (r5 _ _ _ HR8.out).mono ?_))
    rintro e w10 ⟨rfl, hb10⟩
    have HB10 := Lib.hid (bel_trans HB8.out hb10)
    have HR10 := Lib.hid (HR8.out.below hb10)
    clear hb10
    go_wp2_with fail
    ((with_reducible refine (r4 _ (HA2.out.below HB10.out)).mono ?_))
    rintro e w11 ⟨rfl, hb11⟩
    have HB11 := Lib.hid (bel_trans HB10.out hb11)
    have HR11 := Lib.hid (HR10.out.below hb11)
    clear hb11
    go_wp2_with fail
    ((with_reducible refine (r6 _ _ _ HR11.out).mono ?_))
    rintro e w12 ⟨rfl, hb12⟩
    have HB12 := Lib.hid (bel_trans HB11.out hb12)
    clear hb12
    go_wp2_with fail
    ((with_reducible refine (r2 _ (HA.out.below HB12.out)).mono ?_))
    rintro e w13 ⟨rfl, hb13⟩
    have HB13 := Lib.hid (bel_trans HB12.out hb13)
    clear hb13
    go_wp2_with fail
    ((with_reducible refine (r2 _ (HA.out.below HB13.out)).mono ?_))
    rintro e w14 ⟨rfl, hb14⟩
    have HB14 := Lib.hid (bel_trans HB13.out hb14)
    clear hb14
    go_wp2_with fail
    go_ret
    exact ⟨by simp, HB14.out⟩
end Go.Proofs.Ytfgmojnohienfaa
