/- The law ParseSteps: its walk. -/
import Derived.Test.YtkgljjinegphdaaDoorParC
namespace Go.Proofs.YtkgljjinegphdaaDoor
open Go.RowKit
set_option linter.unusedVariables false
set_option maxRecDepth 100000

set_option maxHeartbeats 2000000 in
theorem steps_law {w : World} {A : Option Addr} {n c : Nat} {L : List Int} (hl : L.length = n) (hA : Ri w A L) (ht : TabR w) :
    Calls Tryd.prog 5 #[.slice A n c] w fun e w' => e = .returned (.bool true) ∧ Below w.heap.size w w' := by
  have HT := Lib.hid ht
  by_cases h300 : 300 < n
  · have q1 : (300 : Int) < (n : Int) := by omega
    clear hl hA ht h300
    go_enter Tryd.func5, Tryd.ntmps5
    go_wp2_with fail
    ((with_reducible refine (awake_any _ HT.out).mono ?_))
    rintro e w1 ⟨rfl, hb1⟩
    have HB1 := Lib.hid hb1
    clear hb1
    go_wp2_with fail
    go_ret
    exact ⟨rfl, HB1.out⟩
  · obtain ⟨R, z, f, hp⟩ := par_ex L
    obtain ⟨k, hk⟩ : ∃ k, R.length = k := ⟨_, rfl⟩
    have hn : n ≤ 1000 := by omega
    have hz : z ≤ n := by rw [← hl]; exact hp.within
    have hk2 : k ≤ 6 * z + 3 := by have := hp.steps; omega
    have q1 : ¬ (300 : Int) < (n : Int) := by omega
    have q2 : (k : Int) + (z : Int) ≤ 12 * (z : Int) + 12 := by omega
    have q3 : (z : Int) ≤ (k : Int) + (z : Int) := by omega
    have q4 : (0 : Int) ≤ (z : Int) := by omega
    have q5 : (z : Int) ≤ (n : Int) := by omega
    have r3 := fun w h h' => viable_any (w := w) (A := A) (c := c) hp hl hn h h'
    have r5 := fun w h h' => steps_any (w := w) (A := A) (c := c) hp hk hl hn h h'
    have HA := Lib.hid hA
    clear hl hA ht h300 hp hk
    go_enter Tryd.func5, Tryd.ntmps5
    go_wp2_with fail
    ((with_reducible refine (awake_any _ HT.out).mono ?_))
    rintro e w1 ⟨rfl, hb1⟩
    have HB1 := Lib.hid hb1
    clear hb1
    go_wp2_with fail
    ((with_reducible refine (r5 _ (HA.out.below HB1.out) (HT.out.below HB1.out)).mono ?_))
    rintro e w2 ⟨rfl, hb2⟩
    have HB2 := Lib.hid (bel_trans HB1.out hb2)
    clear hb2
    go_wp2_with fail
    ((with_reducible refine (r3 _ (HA.out.below HB2.out) (HT.out.below HB2.out)).mono ?_))
    rintro e w3 ⟨rfl, hb3⟩
    have HB3 := Lib.hid (bel_trans HB2.out hb3)
    clear hb3
    go_wp2_with fail
    go_ret
    exact ⟨by simp, HB3.out⟩
end Go.Proofs.YtkgljjinegphdaaDoor
