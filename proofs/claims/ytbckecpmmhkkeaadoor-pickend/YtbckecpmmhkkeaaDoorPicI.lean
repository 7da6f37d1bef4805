/- The law PickEnd: its walk. -/
import Derived.Test.YtbckecpmmhkkeaaDoorPicD
import Derived.Test.YtbckecpmmhkkeaaDoorPicO
namespace Go.Proofs.YtbckecpmmhkkeaaDoor
open Go.RowKit
set_option linter.unusedVariables false
set_option maxRecDepth 100000

set_option maxHeartbeats 4000000 in
theorem end_law (v te : Int) {w : World} (ht : TabR w) : Calls Tryd.prog 5 #[.int .i64 v, .int .i64 te] w fun e w' => e = .returned (.bool true) ∧ Below w.heap.size w w' := by
  have HT := Lib.hid ht
  clear ht
  by_cases hv : 0 ≤ v ∧ v < 43
  · have hsm := some_all hv
    obtain ⟨hv0, hv1⟩ := hv
    have p0 : ¬ v < 0 := by omega
    have p1 : ¬ (43 : Int) ≤ v := by omega
    have p2 : decide (v < 0) = false := decide_eq_false p0
    have p3 : decide ((43 : Int) ≤ v) = false := decide_eq_false p1
    have r1 := fun w => vars_any w
    have r2 := fun {w} h => pfirst_any (v := v) (te := 0) (fstK_out (by omega) v) (w := w) h
    obtain ⟨f, hf⟩ : ∃ f, fstK te v = f := ⟨_, rfl⟩
    have r3 := fun {w} h => pfirst_any (w := w) hf h
    have hout : te ≤ 0 ∨ 31 ≤ te → f = false := fun h => by rw [← hf]; exact fstK_out h v
    have HSM := Lib.hid hsm
    have HOUT := Lib.hid hout
    clear hsm hf hout
    go_enter Tryd.func5, Tryd.ntmps5
    go_wp2_with fail
    ((with_reducible refine (awake_any _ HT.out).mono ?_))
    rintro e w1 ⟨rfl, hb1⟩
    have HB1 := Lib.hid hb1
    clear hb1
    go_wp2_with fail
    ((with_reducible refine (r1 _).mono ?_))
    rintro e w' ⟨rfl, rfl⟩
    go_wp2_with fail
    go_loopw [6, 7] (fun s i wr => ∃ k : Nat, ∃ x : Bool, i = .int .i64 k ∧ k ≤ 31 ∧ s = .bool x ∧ Hid (smB v k = x) ∧ Below w1.heap.size w1 wr) (fun _ i _ => 31 - (intOf i).toNat)
    case atStart => exact ⟨0, false, rfl, Nat.zero_le _, rfl, Lib.hid rfl, Below.refl _ _⟩
    case round =>
      obtain ⟨k, x, rfl, hk, rfl, hsx, hB⟩ := hrel
      by_cases hlt : k < 31
      · have q1 : (k : Int) < 31 := by omega
        have hs := smB_succ v k
        rw [hsx.out] at hs
        obtain ⟨g, hg⟩ : ∃ g, fstK (k : Nat) v = g := ⟨_, rfl⟩
        have r4 := fun {w} h => pfirst_any (w := w) hg h
        rw [hg] at hs
        have HS := Lib.hid hs
        have HBB := Lib.hid hB
        have HTr := Lib.hid (HT.out.below (bel_trans HB1.out hB))
        clear hs hg hsx hB
        cases x
        · go_wp2_with fail
          ((with_reducible refine (r4 HTr.out).mono ?_))
          rintro e w3 ⟨rfl, hb3⟩
          have HB3 := Lib.hid (bel_trans HBB.out hb3)
          clear hb3
          go_wp2_with fail
          go_roundw
          case rel => exact ⟨k + 1, g, by go_num, by omega, rfl, Lib.hid (by rw [HS.out]; rfl), HB3.out⟩
          case measure => simp [intOf]; omega
        · go_wp2_with fail
          go_roundw
          case rel => exact ⟨k + 1, true, by go_num, by omega, rfl, Lib.hid (by rw [HS.out]; rfl), HBB.out⟩
          case measure => simp [intOf]; omega
      · obtain rfl : k = 31 := by omega
        obtain rfl : x = true := by rw [← hsx.out]; exact HSM.out
        have HBr := Lib.hid (bel_trans HB1.out hB)
        have HTr := Lib.hid (HT.out.below HBr.out)
        clear hsx hB
        by_cases t0 : te ≤ 0
        · obtain rfl : f = false := HOUT.out (.inl t0)
          have t1 : decide (te ≤ 0) = true := decide_eq_true t0
          go_wp2_with fail
          ((with_reducible refine (r2 HTr.out).mono ?_))
          rintro e w3 ⟨rfl, hb3⟩
          have HB3 := Lib.hid (bel_trans HBr.out hb3)
          clear hb3
          go_wp2_with fail
          ((with_reducible refine (r3 (HT.out.below HB3.out)).mono ?_))
          rintro e w4 ⟨rfl, hb4⟩
          have HB4 := Lib.hid (bel_trans HB3.out hb4)
          clear hb4
          go_wp2_with fail
          go_ret
          exact ⟨by simp, HB4.out⟩
        · by_cases t2 : 31 ≤ te
          · obtain rfl : f = false := HOUT.out (.inr t2)
            have t1 : decide (te ≤ 0) = false := decide_eq_false t0
            have t3 : decide ((31 : Int) ≤ te) = true := decide_eq_true t2
            go_wp2_with fail
            ((with_reducible refine (r2 HTr.out).mono ?_))
            rintro e w3 ⟨rfl, hb3⟩
            have HB3 := Lib.hid (bel_trans HBr.out hb3)
            clear hb3
            go_wp2_with fail
            ((with_reducible refine (r3 (HT.out.below HB3.out)).mono ?_))
            rintro e w4 ⟨rfl, hb4⟩
            have HB4 := Lib.hid (bel_trans HB3.out hb4)
            clear hb4
            go_wp2_with fail
            go_ret
            exact ⟨by simp, HB4.out⟩
          · have t1 : decide (te ≤ 0) = false := decide_eq_false t0
            have t3 : decide ((31 : Int) ≤ te) = false := decide_eq_false t2
            go_wp2_with fail
            ((with_reducible refine (r2 HTr.out).mono ?_))
            rintro e w3 ⟨rfl, hb3⟩
            have HB3 := Lib.hid (bel_trans HBr.out hb3)
            clear hb3
            go_wp2_with fail
            go_ret
            exact ⟨by simp, HB3.out⟩
  · have r1 := fun w => vars_any w
    have r2 := fun {w} h => pfirst_any (v := v) (te := te) (fstK_over te (by omega)) (w := w) h
    have r3 := fun {w} h => ppick_any (v := v) (te := te) (pickK_over te (by omega)) (w := w) h
    have r4 := fun {w} h => empty_any (v := v) (empR_over (by omega)) (w := w) h
    by_cases v0 : v < 0
    · have p2 : decide (v < 0) = true := decide_eq_true v0
      clear hv
      go_enter Tryd.func5, Tryd.ntmps5
      go_wp2_with fail
      ((with_reducible refine (awake_any _ HT.out).mono ?_))
      rintro e w1 ⟨rfl, hb1⟩
      have HB1 := Lib.hid hb1
      clear hb1
      go_wp2_with fail
      ((with_reducible refine (r2 (HT.out.below HB1.out)).mono ?_))
      rintro e w3 ⟨rfl, hb3⟩
      have HB3 := Lib.hid (bel_trans HB1.out hb3)
      clear hb3
      go_wp2_with fail
      ((with_reducible refine (r3 (HT.out.below HB3.out)).mono ?_))
      rintro e w4 ⟨rfl, hb4⟩
      have HB4 := Lib.hid (bel_trans HB3.out hb4)
      clear hb4
      go_wp2_with fail
      ((with_reducible refine (r4 (HT.out.below HB4.out)).mono ?_))
      rintro e w5 ⟨rfl, hb5⟩
      have HB5 := Lib.hid (bel_trans HB4.out hb5)
      clear hb5
      go_wp2_with fail
      go_ret
      exact ⟨by simp, HB5.out⟩
    · have v1 : (43 : Int) ≤ v := by omega
      have p2 : decide (v < 0) = false := decide_eq_false v0
      have p3 : decide ((43 : Int) ≤ v) = true := decide_eq_true v1
      clear hv
      go_enter Tryd.func5, Tryd.ntmps5
      go_wp2_with fail
      ((with_reducible refine (awake_any _ HT.out).mono ?_))
      rintro e w1 ⟨rfl, hb1⟩
      have HB1 := Lib.hid hb1
      clear hb1
      go_wp2_with fail
      ((with_reducible refine (r1 _).mono ?_))
      rintro e w' ⟨rfl, rfl⟩
      go_wp2_with fail
      ((with_reducible refine (r2 (HT.out.below HB1.out)).mono ?_))
      rintro e w3 ⟨rfl, hb3⟩
      have HB3 := Lib.hid (bel_trans HB1.out hb3)
      clear hb3
      go_wp2_with fail
      ((with_reducible refine (r3 (HT.out.below HB3.out)).mono ?_))
      rintro e w4 ⟨rfl, hb4⟩
      have HB4 := Lib.hid (bel_trans HB3.out hb4)
      clear hb4
      go_wp2_with fail
      ((with_reducible refine (r4 (HT.out.below HB4.out)).mono ?_))
      rintro e w5 ⟨rfl, hb5⟩
      have HB5 := Lib.hid (bel_trans HB4.out hb5)
      clear hb5
      go_wp2_with fail
      go_ret
      exact ⟨by simp, HB5.out⟩
end Go.Proofs.YtbckecpmmhkkeaaDoor
