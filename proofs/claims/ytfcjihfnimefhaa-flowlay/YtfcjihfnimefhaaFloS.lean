/- The law FlowLay: its walk. -/
import Derived.Test.YtfcjihfnimefhaaFloQ
import Derived.Test.YtfcjihfnimefhaaWidV
namespace Go.Proofs.Ytfcjihfnimefhaa
open Go.RowKit
set_option linter.unusedVariables false
set_option maxRecDepth 100000

theorem mkb_head (x y : List UInt8) : (mkb (x ++ y)).extract 0 x.length = mkb x := by
  apply ByteArray.ext
  apply Array.ext'
  rw [ByteArray.data_extract, Array.toList_extract, List.extract_eq_take_drop, List.drop_zero, Nat.sub_zero]
  exact List.take_left' rfl
set_option maxHeartbeats 4000000 in
theorem lay_law {w : World} {A : Option Addr} {n c : Nat} {l : List Bq} {W k j : Int} (hA : Br w A l) (hn : l.length = n) (h0 : A = none → n = 0 ∧ c = 0) (hc : n ≤ c) (hv : vS l ≤ 1048576) :
    Calls Try.prog 4 #[.slice A n c, .int .i64 W, .int .i64 k, .int .i64 j] w fun e w' => e = .returned (.bool true) ∧ Below w.heap.size w w' := by
  have r1 := fun w => awake_any w
  have HA := Lib.hid hA
  have HL := Lib.hid hn
  have H0 := Lib.hid h0
  have HV := Lib.hid (Nat.le_trans hv (by decide) : vS l ≤ 100000000)
  clear hA hn h0 hv
  go_enter Try.func4, Try.ntmps4
  go_wp2_with fail
  ((with_reducible refine (r1 _).mono ?_))
  rintro e w1 ⟨rfl, hb1⟩
  have HB1 := Lib.hid hb1
  clear hb1 r1
  by_cases h3 : 60 < n
  · have q3 : (60 : Int) < (n : Int) := by omega
    go_wp2
    go_ret
    exact ⟨rfl, HB1.out⟩
  have q3 : ¬ (60 : Int) < (n : Int) := by omega
  obtain ⟨r, hr⟩ : ∃ r, rmF l W = r := ⟨_, rfl⟩
  have r5 := fun w h => wroom_any (w := w) (A := A) (n := n) (c := c) hr h HL.out (by omega)
  go_wp2_with fail
  ((with_reducible refine (r5 _ (HA.out.below HB1.out)).mono ?_))
  rintro e w2 ⟨rfl, hb2⟩
  have HB2 := Lib.hid (bel_trans HB1.out hb2)
  clear hb2 r5
  cases r with
  | false =>
    go_wp2
    go_ret
    exact ⟨rfl, HB2.out⟩
  | true =>
  by_cases ha : k < 0
  · go_wp2
    go_ret
    exact ⟨rfl, HB2.out⟩
  obtain ⟨K, rfl⟩ : ∃ K : Nat, k = K := ⟨k.toNat, by omega⟩
  by_cases hb : j < (K : Int)
  · go_wp2
    go_ret
    exact ⟨rfl, HB2.out⟩
  obtain ⟨J, rfl⟩ : ∃ J : Nat, j = J := ⟨j.toNat, by omega⟩
  by_cases hd : n < J
  · have qb : (n : Int) < (J : Int) := by omega
    go_wp2
    go_ret
    exact ⟨rfl, HB2.out⟩
  have qb : ¬ (n : Int) < (J : Int) := by omega
  have r2 := fun w h => flow_yes (w := w) (A := A) (n := n) (c := c) (k := K) hr h HL.out H0.out hc (by omega) HV.out (by omega)
  have r3 := fun w h => flow_yes (w := w) (A := A) (n := n) (c := c) (k := J) hr h HL.out H0.out hc (by omega) HV.out (by omega)
  obtain ⟨T, hT⟩ : ∃ S, mkb (layF l W) = S := ⟨_, rfl⟩
  have r4 := fun w h => wlay_any (w := w) (A := A) (n := n) (c := c) hr hT h HL.out H0.out hc (by omega) HV.out
  have r6 := fun w h => all_yes (w := w) (A := A) (n := n) (c := c) hr h HL.out H0.out (by omega) HV.out
  rw [hT] at r6
  obtain ⟨⟨x, hx⟩, y, hy⟩ := flw_prefix (w := W) (rm_may hr) (show K ≤ J by omega) (by rw [HL.out]; omega)
  have hlay : layF l W = (pgs l W l.length).out := if_pos hr
  have hob := (pgs_inv W (rm_may hr) (by rw [HL.out]; omega) l.length (Nat.le_refl _)).outk
  have hvl := vS_le l l.length
  have hv2 := HV.out
  rw [hlay, hy] at hT
  rw [hy, HL.out, List.length_append] at hob
  have i1 := mkb_head (flwF l W J) y
  rw [hT] at i1
  have i2 := mkb_head (flwF l W K) x
  rw [← hx] at i2
  have s3 : T.size = (flwF l W J).length + y.length := by rw [← hT, mkb_size, List.length_append]
  have s2 : (mkb (flwF l W J)).size = (flwF l W J).length := mkb_size _
  have s1 : (mkb (flwF l W K)).size = (flwF l W K).length := mkb_size _
  have hle : (flwF l W K).length ≤ (flwF l W J).length := by rw [hx, List.length_append]; omega
  generalize (flwF l W J).length = b at *
  generalize (flwF l W K).length = a at *
  generalize mkb (flwF l W J) = R at *
  generalize mkb (flwF l W K) = S at *
  generalize y.length = d at *
  have p1 : (a : Int) ≤ (b : Int) := by omega
  have p2 : (b : Int) ≤ ((b + d : Nat) : Int) := by omega
  obtain ⟨e, he⟩ : ∃ e, b + d = e := ⟨_, rfl⟩
  rw [he] at s3 p2
  have hKJ : K ≤ J := by omega
  have hKJ2 : ¬ J < K := by omega
  clear hr h3 hT hx hy hlay hob hvl hv2 he hle hb hd ha
  go_wp2_with fail
  ((with_reducible refine (r2 _ (HA.out.below HB2.out)).mono ?_))
  rintro e w3 ⟨rfl, hb3⟩
  have HB3 := Lib.hid (bel_trans HB2.out hb3)
  clear hb3 r2
  go_wp2_with fail
  ((with_reducible refine (r3 _ (HA.out.below HB3.out)).mono ?_))
  rintro e w4 ⟨rfl, hb4⟩
  have HB4 := Lib.hid (bel_trans HB3.out hb4)
  clear hb4 r3
  go_wp2_with fail
  ((with_reducible refine (r4 _ (HA.out.below HB4.out)).mono ?_))
  rintro e w5 ⟨rfl, hb5⟩
  have HB5 := Lib.hid (bel_trans HB4.out hb5)
  clear hb5 r4
  go_wp2_with fail
  ((with_reducible refine (r6 _ (HA.out.below HB5.out)).mono ?_))
  rintro e w6 ⟨rfl, hb6⟩
  have HB6 := Lib.hid (bel_trans HB5.out hb6)
  clear hb6 r6
  go_wp2_with fail
  go_ret
  exact ⟨rfl, HB6.out⟩
end Go.Proofs.Ytfcjihfnimefhaa
