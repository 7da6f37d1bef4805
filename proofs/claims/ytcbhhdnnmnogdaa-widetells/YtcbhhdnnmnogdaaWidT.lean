/- The law WideTells: its walk. -/
import Derived.Test.YtcbhhdnnmnogdaaWidU
namespace Go.Proofs.Ytcbhhdnnmnogdaa
open Go.RowKit
set_option linter.unusedVariables false
set_option maxRecDepth 100000

set_option maxHeartbeats 4000000 in
theorem tells_law {w : World} {A : Option Addr} {n c : Nat} {l : List Bq} {W k : Int} (hA : Br w A l) (hn : l.length = n) (h0 : A = none → n = 0 ∧ c = 0) (hc : n ≤ c) (hv : vS l ≤ 1048576) :
    Calls Try.prog 3 #[.slice A n c, .int .i64 W, .int .i64 k] w fun e w' => e = .returned (.bool true) ∧ Below w.heap.size w w' := by
  have r1 := fun w => awake_any w
  have HA := Lib.hid hA
  have HL := Lib.hid hn
  have H0 := Lib.hid h0
  have HV := Lib.hid (Nat.le_trans hv (by decide) : vS l ≤ 100000000)
  clear hA hn h0 hv
  go_enter Try.func3, Try.ntmps3
  go_wp2_with fail
  ((with_reducible refine (r1 _).mono ?_))
  rintro e w1 ⟨rfl, hb1⟩
  have HB1 := Lib.hid hb1
  clear hb1 r1
  by_cases h3 : 300 < n
  · have q3 : (300 : Int) < (n : Int) := by omega
    go_wp2
    go_ret
    exact ⟨rfl, HB1.out⟩
  have q3 : ¬ (300 : Int) < (n : Int) := by omega
  obtain ⟨r, hr⟩ : ∃ r, rmF l W = r := ⟨_, rfl⟩
  obtain ⟨S, hS⟩ : ∃ S, mkb (layF l W) = S := ⟨_, rfl⟩
  obtain ⟨C, hC⟩ : ∃ C, colF l W k = C := ⟨_, rfl⟩
  have r2 := fun w h => wlay_any (w := w) (A := A) (n := n) (c := c) hr hS h HL.out H0.out hc (by omega) HV.out
  have r3 := fun w h => rlay_any (w := w) (A := A) (n := n) (c := c) hr hS h HL.out (by omega) HV.out
  have r4 := fun w h => rroom_any (w := w) (A := A) (n := n) (c := c) hr h HL.out (by omega)
  have r5 := fun w h => wroom_any (w := w) (A := A) (n := n) (c := c) hr h HL.out (by omega)
  have r6 := fun w h => wcol_any (w := w) (A := A) (n := n) (c := c) hC h HL.out H0.out hc (by omega) HV.out
  have r7 := fun w h => rcol_any (w := w) (A := A) (n := n) (c := c) hC h HL.out (by omega) HV.out
  clear hr hS hC h3
  go_wp2_with fail
  ((with_reducible refine (r2 _ (HA.out.below HB1.out)).mono ?_))
  rintro e w2 ⟨rfl, hb2⟩
  have HB2 := Lib.hid (bel_trans HB1.out hb2)
  clear hb2 r2
  go_wp2_with fail
  ((with_reducible refine (r3 _ (HA.out.below HB2.out)).mono ?_))
  rintro e w3 ⟨rfl, hb3⟩
  have HB3 := Lib.hid (bel_trans HB2.out hb3)
  clear hb3 r3
  go_wp2_with fail
  ((with_reducible refine (r4 _ (HA.out.below HB3.out)).mono ?_))
  rintro e w4 ⟨rfl, rfl⟩
  clear r4
  have hrr : (r == r) = true := by cases r <;> rfl
  go_wp2_with fail
  ((with_reducible refine (r5 _ (HA.out.below HB3.out)).mono ?_))
  rintro e w5 ⟨rfl, hb5⟩
  have HB5 := Lib.hid (bel_trans HB3.out hb5)
  clear hb5 r5
  go_wp2_with fail
  ((with_reducible refine (r6 _ (HA.out.below HB5.out)).mono ?_))
  rintro e w6 ⟨rfl, hb6⟩
  have HB6 := Lib.hid (bel_trans HB5.out hb6)
  clear hb6 r6
  go_wp2_with fail
  ((with_reducible refine (r7 _ (HA.out.below HB6.out)).mono ?_))
  rintro e w7 ⟨rfl, hb7⟩
  have HB7 := Lib.hid (bel_trans HB6.out hb7)
  clear hb7 r7
  go_wp2
  go_ret
  exact ⟨rfl, HB7.out⟩
end Go.Proofs.Ytcbhhdnnmnogdaa
