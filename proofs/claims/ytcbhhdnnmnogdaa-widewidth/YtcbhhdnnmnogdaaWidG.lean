/- The law WideWidth: its walk. -/
import Derived.Test.YtcbhhdnnmnogdaaWidE
import Derived.Test.YtcbhhdnnmnogdaaWidN
namespace Go.Proofs.Ytcbhhdnnmnogdaa
open Go.RowKit
set_option linter.unusedVariables false
set_option maxRecDepth 100000

set_option maxHeartbeats 4000000 in
theorem width_law {w : World} {A : Option Addr} {n c : Nat} {l : List Bq} {W V : Int} (hA : Br w A l) (hn : l.length = n) (h0 : A = none → n = 0 ∧ c = 0) (hc : n ≤ c) (hv : vS l ≤ 1048576) :
    Calls Try.prog 5 #[.slice A n c, .int .i64 W, .int .i64 V] w fun e w' => e = .returned (.bool true) ∧ Below w.heap.size w w' := by
  have r1 := fun w => awake_any w
  have HA := Lib.hid hA
  have HL := Lib.hid hn
  have H0 := Lib.hid h0
  have HV := Lib.hid (Nat.le_trans hv (by decide) : vS l ≤ 100000000)
  clear hA hn h0 hv
  go_enter Try.func5, Try.ntmps5
  go_wp2_with fail
  ((with_reducible refine (r1 _).mono ?_))
  rintro e w1 ⟨rfl, hb1⟩
  have HB1 := Lib.hid hb1
  clear hb1 r1
  by_cases h3 : 300 < n
  · have q3 : (300 : Int) < (n : Int) := by omega
    go_wp2
    go_ret
    exact ⟨rfl, HB1.out⟩
  have q3 : ¬ (300 : Int) < (n : Int) := by omega
  by_cases hVW : V < W
  · go_wp2
    go_ret
    exact ⟨rfl, HB1.out⟩
  obtain ⟨r, hr⟩ : ∃ r, rmF l W = r := ⟨_, rfl⟩
  have r5 := fun w h => wroom_any (w := w) (A := A) (n := n) (c := c) hr h HL.out (by omega)
  have HR := Lib.hid hr
  clear hr
  go_wp2_with fail
  ((with_reducible refine (r5 _ (HA.out.below HB1.out)).mono ?_))
  rintro e w2 ⟨rfl, hb2⟩
  have HB2 := Lib.hid (bel_trans HB1.out hb2)
  clear hb2 r5
  cases r with
  | false =>
    go_wp2
    go_ret
    exact ⟨rfl, HB2.out⟩
  | true =>
  obtain ⟨r, hr⟩ : ∃ r, rmF l V = r := ⟨_, rfl⟩
  have r5 := fun w h => wroom_any (w := w) (A := A) (n := n) (c := c) hr h HL.out (by omega)
  have HR2 := Lib.hid hr
  clear hr
  go_wp2_with fail
  ((with_reducible refine (r5 _ (HA.out.below HB2.out)).mono ?_))
  rintro e w3 ⟨rfl, hb3⟩
  have HB3 := Lib.hid (bel_trans HB2.out hb3)
  clear hb3 r5
  cases r with
  | false =>
    go_wp2
    go_ret
    exact ⟨rfl, HB3.out⟩
  | true =>
  obtain ⟨S, hS⟩ : ∃ S, mkb (layF l W) = S := ⟨_, rfl⟩
  obtain ⟨U, hU⟩ : ∃ U, mkb (layF l V) = U := ⟨_, rfl⟩
  have r2 := fun w h => wlay_any (w := w) (A := A) (n := n) (c := c) HR.out hS h HL.out H0.out hc (by omega) HV.out
  have r3 := fun w h => wlay_any (w := w) (A := A) (n := n) (c := c) HR2.out hU h HL.out H0.out hc (by omega) HV.out
  have HM := Lib.hid (mayL_yes (rm_yes HR.out).2.2)
  have hlW : layF l W = (pgs l W l.length).out := by rw [layF, if_pos HR.out]
  have hlV : layF l V = (pgs l V l.length).out := by rw [layF, if_pos HR2.out]
  have hSz : S.size ≤ 200000000 := by
    have := (pgs_inv W HM.out (by rw [HL.out]; omega) l.length (Nat.le_refl _)).outk
    rw [List.take_length, ← hlW] at this
    have hv := HV.out
    have hl := HL.out
    rw [← hS, mkb_size]; omega
  have hmath : (10 : UInt8) ∉ S.data.toList → U = S := fun h => by
    rw [← hS, ← hU, hlW, hlV]
    rw [← hS, mkb_data, hlW] at h
    rw [width_math HM.out (by rw [HL.out]; omega) (by omega) h]
  have HMT := Lib.hid hmath
  clear hS hU hlW hlV hmath h3
  go_wp2_with fail
  ((with_reducible refine (r2 _ (HA.out.below HB3.out)).mono ?_))
  rintro e w4 ⟨rfl, hb4⟩
  have HB4 := Lib.hid (bel_trans HB3.out hb4)
  clear hb4 r2
  go_wp2_with fail
  ((with_reducible refine (r3 _ (HA.out.below HB4.out)).mono ?_))
  rintro e w5 ⟨rfl, hb5⟩
  have HB5 := Lib.hid (bel_trans HB4.out hb5)
  clear hb5 r3
  go_wp2_with fail
  go_loop [12] (fun i => ∃ j : Nat, i = .int .i64 j ∧ j ≤ S.size ∧ Hid ((10 : UInt8) ∉ S.data.toList.take j)) (fun i => S.size - (intOf i).toNat)
  case atStart => exact ⟨0, rfl, Nat.zero_le _, Lib.hid (by simp)⟩
  case round =>
    obtain ⟨j, rfl, hj, hno⟩ := hrel
    by_cases hlt : j < S.size
    · have q : (j : Int) < (S.size : Int) := by omega
      have hat := at_str hlt
      obtain ⟨x, hx⟩ : ∃ x, S[j] = x := ⟨_, rfl⟩
      rw [hx] at hat
      have HAT := Lib.hid hat
      have q1 : ((x.toNat : Int) == 10) = (x == UInt8.ofNat 10) := byt_is (x := x) (n := 10) (by omega)
      clear hat
      cases hc : (x == UInt8.ofNat 10)
      · rw [hc] at q1
        have hx10 : (10 : UInt8) ≠ x := fun e => by rw [← e] at hc; exact absurd hc (by decide)
        have HN := Lib.hid (show (10 : UInt8) ∉ S.data.toList.take (j + 1) from fun h => by
          rw [List.take_add_one, HAT.out, Option.toList_some] at h
          rcases List.mem_append.1 h with h | h
          · exact hno.out h
          · exact hx10 (List.mem_singleton.1 h))
        clear hc hx10
        go_wp2
        go_round
        case rel => exact ⟨j + 1, by go_num, by omega, HN⟩
        case measure => simp [intOf]; omega
      · rw [hc] at q1
        clear hc
        go_wp2
        go_ret
        exact ⟨rfl, HB5.out⟩
    · obtain rfl : j = S.size := by omega
      have h := hno.out
      rw [List.take_of_length_le (by rw [← size_list]; exact Nat.le_refl _)] at h
      obtain rfl := HMT.out h
      clear hno h
      go_wp2
      go_ret
      exact ⟨rfl, HB5.out⟩
end Go.Proofs.Ytcbhhdnnmnogdaa
