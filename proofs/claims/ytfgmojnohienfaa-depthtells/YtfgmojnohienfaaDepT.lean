/- The law DepthTells: its walk. -/
import Derived.Test.YtfgmojnohienfaaDepR
namespace Go.Proofs.Ytfgmojnohienfaa
open Go.RowKit
set_option linter.unusedVariables false
set_option maxRecDepth 100000

set_option maxHeartbeats 2000000 in
theorem tells_law {w : World} {A : Option Addr} {n c : Nat} {d : Int} {ts : List Int} (hl : ts.length = n) (hA : Ri w A ts) (hc : n ≤ c) (hno : A = none → n = 0 ∧ c = 0) (hwf : wfL ts) :
    Calls Try.prog 3 #[.slice A n c, .int .i64 d] w fun e w' => e = .returned (.bool true) ∧ Below w.heap.size w w' := by
  by_cases h300 : 300 < n
  · have q1 : (300 : Int) < (n : Int) := by omega
    clear hl hA hc hno hwf h300
    go_enter Try.func3, Try.ntmps3
    go_wp2_with fail
    ((with_reducible refine (awake_any _).mono ?_))
    rintro e w1 ⟨rfl, hb1⟩
    have HB1 := Lib.hid hb1
    clear hb1
    go_wp2_with fail
    go_ret
    exact ⟨rfl, HB1.out⟩
  have q1 : ¬ (300 : Int) < (n : Int) := by omega
  have hN : n ≤ 1000000 := by omega
  have r1 := fun w (h : Ri w A ts) => depth_any (w := w) (A := A) (c := c) hl hN h hwf
  have r2 := fun w (h : Ri w A ts) => rdepth_any (w := w) (A := A) (c := c) hl hN h hc hno
  have r3 := fun w (h : Ri w A ts) => at_any (w := w) (A := A) (c := c) (d := d) hl hN h hwf
  have r4 := fun w (h : Ri w A ts) => rat_any (w := w) (A := A) (c := c) (d := d) hl hN h hc
  have r5 := fun w (h : Ri w A ts) => ends_any (w := w) (A := A) (c := c) hl hN h hwf
  have r6 := fun w (h : Ri w A ts) => rends_any (w := w) (A := A) (c := c) hl hN h
  generalize depD ts = D at r1 r2
  generalize atD d ts = Z at r3 r4
  generalize endD ts = E at r5 r6
  have HA := Lib.hid hA
  clear hl hA hc hno hwf h300 hN
  go_enter Try.func3, Try.ntmps3
  go_wp2_with fail
  ((with_reducible refine (awake_any _).mono ?_))
  rintro e w1 ⟨rfl, hb1⟩
  have HB1 := Lib.hid hb1
  clear hb1
  go_wp2_with fail
  ((with_reducible refine (r1 _ (HA.out.below HB1.out)).mono ?_))
  rintro e w2 ⟨rfl, hb2⟩
  have HB2 := Lib.hid (bel_trans HB1.out hb2)
  clear hb2
  go_wp2_with fail
  ((with_reducible refine (r2 _ (HA.out.below HB2.out)).mono ?_))
  rintro e w2' ⟨rfl, rfl⟩
  go_wp2_with fail
  ((with_reducible refine (r3 _ (HA.out.below HB2.out)).mono ?_))
  rintro e w3 ⟨rfl, hb3⟩
  have HB3 := Lib.hid (bel_trans HB2.out hb3)
  clear hb3
  go_wp2_with fail
  ((with_reducible refine (r4 _ (HA.out.below HB3.out)).mono ?_))
  rintro e w3' ⟨rfl, rfl⟩
  go_wp2_with fail
  ((with_reducible refine (r5 _ (HA.out.below HB3.out)).mono ?_))
  rintro e w4 ⟨rfl, hb4⟩
  have HB4 := Lib.hid (bel_trans HB3.out hb4)
  clear hb4
  go_wp2_with fail
  ((with_reducible refine (r6 _ (HA.out.below HB4.out)).mono ?_))
  rintro e w4' ⟨rfl, rfl⟩
  go_wp2_with fail
  go_ret
  exact ⟨by simp, HB4.out⟩
end Go.Proofs.Ytfgmojnohienfaa
