/- The law DepthWrap: its walk. -/
import Derived.Test.YtfgmojnohienfaaDepC
import Derived.Test.YtfgmojnohienfaaIntW
namespace Go.Proofs.Ytfgmojnohienfaa
open Go.RowKit
set_option linter.unusedVariables false
set_option maxRecDepth 100000

set_option maxHeartbeats 8000000 in
theorem wrap_law {w : World} {A : Option Addr} {n c : Nat} (t : Int) {L : List Int} (hl : L.length = n) (hA : Ri w A L) (hno : A = none → n = 0 ∧ c = 0) (hwf : wfL L) (hwt : (Lit.int .i64 t).wf = true) :
    Calls Try.prog 6 #[.slice A n c, .int .i64 t] w fun e w' => e = .returned (.bool true) ∧ Below w.heap.size w w' := by
  by_cases h300 : 300 < n
  · have q1 : (300 : Int) < (n : Int) := by omega
    clear hl hA hno hwf h300 hwt
    go_enter Try.func6, Try.ntmps6
    go_wp2_with fail
    ((with_reducible refine (awake_any _).mono ?_))
    rintro e w1 ⟨rfl, hb1⟩
    have HB1 := Lib.hid hb1
    clear hb1
    go_wp2_with fail
    go_ret
    exact ⟨rfl, HB1.out⟩
  have q1 : ¬ (300 : Int) < (n : Int) := by omega
  have hlw : ([4] ++ L ++ [5]).length = 1 + n + 1 := by simp [hl]; omega
  have hlm : ([t] ++ L).length = 1 + n := by simp [hl]; omega
  have w4 : (Lit.int .i64 4).wf = true := by decide
  have w5 : (Lit.int .i64 5).wf = true := by decide
  have hw1 : wfL ([4] ++ L ++ [5]) := fun x hx => by
    simp only [List.mem_append, List.mem_singleton] at hx
    rcases hx with (rfl | hx) | rfl
    · exact w4
    · exact hwf x hx
    · exact w5
  have hw2 : wfL ([t] ++ L) := fun x hx => by
    simp only [List.mem_append, List.mem_singleton] at hx
    rcases hx with rfl | hx
    · exact hwt
    · exact hwf x hx
  obtain ⟨m1, m2⟩ := wrap_math L
  have m3 := depD_le L
  have m4 := depD_ge L
  rw [hl] at m3
  have r1 := fun w (h : Ri w A L) => depth_any (w := w) (A := A) (c := c) hl (by omega) h hwf
  have r2 := fun w (h : Ri w A L) => ends_any (w := w) (A := A) (c := c) hl (by omega) h hwf
  have r3 := fun w B d (h : Ri w B ([4] ++ L ++ [5])) => depth_any (w := w) (A := B) (c := d) hlw (by omega) h hw1
  have r4 := fun w B d (h : Ri w B ([4] ++ L ++ [5])) => ends_any (w := w) (A := B) (c := d) hlw (by omega) h hw1
  have r5 := fun w B d (h : Ri w B ([t] ++ L)) => depth_any (w := w) (A := B) (c := d) hlm (by omega) h hw2
  have r6 := fun w B d (h : Ri w B ([t] ++ L)) => ends_any (w := w) (A := B) (c := d) hlm (by omega) h hw2
  rw [show depD ([4] ++ L ++ [5]) = depD L + 1 from m1] at r3
  rw [show endD ([4] ++ L ++ [5]) = endD L from m2] at r4
  have m5 : (opD t || clD t) = false → depD ([t] ++ L) = depD L ∧ endD ([t] ++ L) = endD L := fun h => by
    rw [Bool.or_eq_false_iff] at h
    exact more_math L h.1 h.2
  have HM5 := Lib.hid m5
  generalize depD L = D at r1 r3 m3 m4 HM5
  generalize endD L = E at r2 r4 HM5
  have HLW := Lib.hid hlw
  have HLM := Lib.hid hlm
  have HA := Lib.hid hA
  have HL := Lib.hid hl
  have HN := Lib.hid hno
  clear hl hA hno hwf h300 hlw hlm w4 w5 hw1 hw2 m1 m2 m5
  go_enter Try.func6, Try.ntmps6
  go_wp2_with fail
  ((with_reducible refine (awake_any _).mono ?_))
  rintro e w1 ⟨rfl, hb1⟩
  have HB1 := Lib.hid hb1
  clear hb1
  have ho1 : (w1.alloc (.cells #[.int .i64 4] 3)).ownsRow w1.heap.size 3 1 (.slice (some ⟨w1.heap.size, 0, none⟩) 1 1) 1 ([4].map iv) := own_blk w1 [4] (by decide)
  have hB2 : Below w1.heap.size w1 (w1.alloc (.cells #[.int .i64 4] 3)) := bel_alloc (Below.refl _ w1) _
  have HO1 := Lib.hid ho1
  have HB2 := Lib.hid hB2
  clear ho1 hB2
  go_wp2_with (at_builtin; refine app_ints rfl _ _ rfl w1.heap.size _ _ [4] rfl HO1.out (A := A) (m := n) (c := c) (ts := L) rfl (HA.out.below (bel_trans HB1.out HB2.out)) HL.out HN.out (by omega) HB2.out.size ?_)
  intro v3 w3 ho3 hg3
  have hB3 : Below w1.heap.size w1 w3 := HB2.out.grown hg3 HB2.out.size (fun k hk => (HO1.out.lt k hk).1)
  have ho3' : w3.ownsRow w1.heap.size 3 1 v3 (1 + n) (([4] ++ L).map iv) := ho3
  have HO3 := Lib.hid (ho3'.alloc (.cells #[.int .i64 5] 3))
  have HB3 := Lib.hid hB3
  have HB3' := Lib.hid (bel_alloc hB3 (.cells #[.int .i64 5] 3))
  have hri : Ri (w3.alloc (.cells #[.int .i64 5] 3)) (some ⟨w3.heap.size, 0, none⟩) [5] := ri_blk [5] (heap_alloc_new w3 _)
  have HR5 := Lib.hid hri
  clear ho3 ho3' hg3 hB3 hri
  go_wp2_with (at_builtin; refine app_ints rfl _ _ rfl w1.heap.size _ _ ([4] ++ L) rfl HO3.out (A := some ⟨w3.heap.size, 0, none⟩) (m := 1) (c := 1) (ts := [5]) rfl HR5.out rfl (fun e => by cases e) (by omega) HB3'.out.size ?_)
  intro v4 w4 ho4 hg4
  have hB4 : Below w1.heap.size w1 w4 := HB3'.out.grown hg4 HB3'.out.size (fun k hk => (HO3.out.lt k hk).1)
  have ho4' : w4.ownsRow w1.heap.size 3 1 v4 ([4] ++ L ++ [5]).length (([4] ++ L ++ [5]).map iv) := by rw [HLW.out]; simpa using ho4
  obtain ⟨B4, m4', d4, rfl⟩ := own_sl ho4'
  obtain ⟨hm4, hri4, -⟩ := ri_row ho4'
  rw [HLW.out] at hm4
  subst hm4
  have HR4 := Lib.hid hri4
  have HB4 := Lib.hid (bel_trans HB1.out hB4)
  clear ho4 ho4' hg4 hB4 hri4
  have ho5 : (w4.alloc (.cells #[.int .i64 t] 3)).ownsRow w4.heap.size 3 1 (.slice (some ⟨w4.heap.size, 0, none⟩) 1 1) 1 ([t].map iv) := own_blk w4 [t] (by simp)
  have hB5 : Below w4.heap.size w4 (w4.alloc (.cells #[.int .i64 t] 3)) := bel_alloc (Below.refl _ w4) _
  have HO5 := Lib.hid ho5
  have HB5 := Lib.hid hB5
  clear ho5 hB5
  go_wp2_with (at_builtin; refine app_ints rfl _ _ rfl w4.heap.size _ _ [t] rfl HO5.out (A := A) (m := n) (c := c) (ts := L) rfl (HA.out.below (bel_trans HB4.out HB5.out)) HL.out HN.out (by omega) HB5.out.size ?_)
  intro v6 w6 ho6 hg6
  have hB6 : Below w4.heap.size w4 w6 := HB5.out.grown hg6 HB5.out.size (fun k hk => (HO5.out.lt k hk).1)
  have ho6' : w6.ownsRow w4.heap.size 3 1 v6 ([t] ++ L).length (([t] ++ L).map iv) := by rw [HLM.out]; simpa using ho6
  obtain ⟨B6, m6', d6, rfl⟩ := own_sl ho6'
  obtain ⟨hm6, hri6, -⟩ := ri_row ho6'
  rw [HLM.out] at hm6
  subst hm6
  have HR6 := Lib.hid (HR4.out.below hB6)
  have HQ6 := Lib.hid hri6
  have HB6 := Lib.hid (bel_trans HB4.out hB6)
  clear ho6 ho6' hg6 hB6 hri6
  go_wp2_with fail
  all_goals
    ((with_reducible refine (r3 _ _ _ HR6.out).mono ?_))
    rintro e w7 ⟨rfl, hb7⟩
    have HB7 := Lib.hid (bel_trans HB6.out hb7)
    have HR7 := Lib.hid (HR6.out.below hb7)
    have HQ7 := Lib.hid (HQ6.out.below hb7)
    clear hb7
    go_wp2_with fail
    ((with_reducible refine (r1 _ (HA.out.below HB7.out)).mono ?_))
    rintro e w8 ⟨rfl, hb8⟩
    have HB8 := Lib.hid (bel_trans HB7.out hb8)
    have HR8 := Lib.hid (HR7.out.below hb8)
    have HQ8 := Lib.hid (HQ7.out.below hb8)
    clear hb8
    go_wp2_with fail
    ((with_reducible refine (r4 _ _ _ HR8.out).mono ?_))
    rintro e w9 ⟨rfl, hb9⟩
    have HB9 := Lib.hid (bel_trans HB8.out hb9)
    have HQ9 := Lib.hid (HQ8.out.below hb9)
    clear hb9
    go_wp2_with fail
    ((with_reducible refine (r2 _ (HA.out.below HB9.out)).mono ?_))
    rintro e w10 ⟨rfl, hb10⟩
    have HB10 := Lib.hid (bel_trans HB9.out hb10)
    have HQ10 := Lib.hid (HQ9.out.below hb10)
    clear hb10
    go_wp2_with fail
    all_goals first
      | (go_ret
         exact ⟨by simp, HB10.out⟩)
      | (obtain ⟨f1, f2⟩ := HM5.out (by simp [opD, clD, *])
         rw [f1] at r5
         rw [f2] at r6
         clear f1 f2
         ((with_reducible refine (r5 _ _ _ HQ10.out).mono ?_))
         rintro e w11 ⟨rfl, hb11⟩
         have HB11 := Lib.hid (bel_trans HB10.out hb11)
         have HQ11 := Lib.hid (HQ10.out.below hb11)
         clear hb11
         go_wp2_with fail
         ((with_reducible refine (r1 _ (HA.out.below HB11.out)).mono ?_))
         rintro e w12 ⟨rfl, hb12⟩
         have HB12 := Lib.hid (bel_trans HB11.out hb12)
         have HQ12 := Lib.hid (HQ11.out.below hb12)
         clear hb12
         go_wp2_with fail
         ((with_reducible refine (r6 _ _ _ HQ12.out).mono ?_))
         rintro e w13 ⟨rfl, hb13⟩
         have HB13 := Lib.hid (bel_trans HB12.out hb13)
         clear hb13
         go_wp2_with fail
         ((with_reducible refine (r2 _ (HA.out.below HB13.out)).mono ?_))
         rintro e w14 ⟨rfl, hb14⟩
         have HB14 := Lib.hid (bel_trans HB13.out hb14)
         clear hb14
         go_wp2_with fail
         go_ret
         exact ⟨by simp, HB14.out⟩)
end Go.Proofs.Ytfgmojnohienfaa
