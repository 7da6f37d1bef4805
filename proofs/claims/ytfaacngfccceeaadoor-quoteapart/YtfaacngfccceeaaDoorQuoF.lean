/- The law QuotePlain: its walk. -/
import Derived.Test.YtfaacngfccceeaaDoorQuoD
import Derived.Test.YtfaacngfccceeaaDoorQuoE
import Derived.Test.YtfaacngfccceeaaDoorUtfG
namespace Go.Proofs.YtfaacngfccceeaaDoor
open Go.RowKit
set_option linter.unusedVariables false

theorem mayB_iff' {l : List UInt8} : mayB l = true ↔ thru l = l.length := by
  constructor
  · intro h; by_cases e : thru l = l.length
    · exact e
    · rw [mayB_at e] at h; cases h
  · exact mayB_all

set_option maxHeartbeats 1000000 in
set_option maxRecDepth 100000 in
theorem plain_any (a : ByteArray) (w : World) (za : a.size ≤ 9223372036854775807) (ht : Tab w) :
    Calls Tryd.prog 7 #[.string a] w fun e w' => e = .returned (.bool true) ∧ Below w.heap.size w w' := by
  by_cases ha : 600 < a.size
  · have ga : (600 : Int) < (a.size : Int) := by omega
    clear ha
    go_enter Tryd.func7, Tryd.ntmps7
    (try simp only [List.append_eq, List.cons_append, List.nil_append])
    go_wp2_with fail
    (with_reducible refine (awake_any _ ht).mono ?_)
    rintro e w1 ⟨rfl, hb1⟩
    go_wp2_with fail
    go_ret
    exact ⟨by first | (simp; done) | (simp; omega), hb1⟩
  have ga : ¬ (600 : Int) < (a.size : Int) := by omega
  have la : a.data.toList.length = a.size := (Lib.size_eq a).symm
  have HA := Lib.hid la
  clear la
  go_enter Tryd.func7, Tryd.ntmps7
  (try simp only [List.append_eq, List.cons_append, List.nil_append])
  go_wp2_with fail
  (with_reducible refine (awake_any _ ht).mono ?_)
  rintro e w1 ⟨rfl, hb1⟩
  go_wp2_with fail
  go_loop [4] (fun i => ∃ k : Nat, k ≤ a.size ∧ i = .int .i64 k ∧ ∀ j (hj : j < a.size), j < k → plB a[j] = true) (fun i => a.size - (intOf i).toNat)
  case atStart => exact ⟨0, Nat.zero_le _, rfl, fun j hj h => absurd h (by omega)⟩
  case round =>
    obtain ⟨k, hk, rfl, hall⟩ := hrel
    have HALL := Lib.hid hall
    clear hall
    by_cases hlt : k < a.size
    · by_cases h32 : (a[k]).toNat < 32
      · have t32 : ((a[k]).toNat : Int) < 32 := by omega
        clear h32
        go_wp2_with fail
        go_ret
        exact ⟨rfl, hb1⟩
      have t32 : ¬ ((a[k]).toNat : Int) < 32 := by omega
      by_cases h34 : (a[k]).toNat = 34
      · have t34 : (((a[k]).toNat : Int) == 34) = true := by rw [h34]; rfl
        clear h34 h32
        go_wp2_with fail
        go_ret
        exact ⟨rfl, hb1⟩
      have t34 : (((a[k]).toNat : Int) == 34) = false := beq_false_of_ne (by omega)
      by_cases h92 : (a[k]).toNat = 92
      · have t92 : (((a[k]).toNat : Int) == 92) = true := by rw [h92]; rfl
        clear h34 h92 h32
        go_wp2_with fail
        go_ret
        exact ⟨rfl, hb1⟩
      have t92 : (((a[k]).toNat : Int) == 92) = false := beq_false_of_ne (by omega)
      have hok : plB a[k] = true := plB_iff.2 ⟨by omega, fun e => h34 (by rw [e]; rfl), fun e => h92 (by rw [e]; rfl)⟩
      have HOK := Lib.hid hok
      clear h34 h92 h32 hok
      go_wp2_with fail
      go_round
      case rel =>
        refine ⟨k + 1, by omega, by go_num, fun j hj h => ?_⟩
        by_cases e : j = k
        · subst e; exact HOK.out
        · exact HALL.out j hj (by omega)
      case measure => simp [intOf]; omega
    · have hpl : ∀ b ∈ a.data.toList, plB b = true := by
        intro b hb
        obtain ⟨j, hj, rfl⟩ := List.mem_iff_getElem.1 hb
        rw [HA.out] at hj
        exact HALL.out j hj (by omega)
      cases hq : qtA a.data.toList with
      | none =>
        have r1 := quote_n (A := a) (l := a.data.toList) rfl hq
        have hm : mayB a.data.toList = false := by
          cases hm : mayB a.data.toList
          · rfl
          · obtain ⟨cs, hc⟩ := qt_thru (mayB_iff'.1 hm)
            rw [qtA_iff.2 hc] at hq; cases hq
        have r2 := fun w => may_of a _ (by omega) hm w
        have r3 := qmay_n (A := a) (l := a.data.toList) rfl hq
        clear hq hm hpl
        go_wp2_with fail
        (with_reducible refine (r1 _).mono ?_)
        rintro e w2 ⟨rfl, hb2⟩
        go_wp2_with fail
        (with_reducible refine (r2 _).mono ?_)
        rintro e w3 ⟨rfl, hb3⟩
        go_wp2_with fail
        (with_reducible refine (r3 _).mono ?_)
        rintro e w4 ⟨rfl, hb4⟩
        go_wp2_with fail
        go_ret
        exact ⟨by first | (simp; done) | (simp; omega), (bel_trans (bel_trans (bel_trans hb1 hb2) hb3) hb4)⟩
      | some cs =>
        obtain ⟨R, hR, r1⟩ := quote_y (A := a) (l := a.data.toList) rfl hq (by rw [HA.out]; omega)
        have hc := (qtA_iff.1 hq).plain hpl
        have r2 := fun w => may_of a _ (by omega) (mayB_all hc.2) w
        have r3 := qmay_y (A := a) (l := a.data.toList) rfl hq
        obtain ⟨S1, hS1, s1⟩ := sadd' (A := ⟨#[34]⟩) (B := a) (a := [34]) (b := a.data.toList) rfl rfl (by rw [HA.out]; simp; omega)
        obtain ⟨S2, hS2, s2⟩ := sadd' (A := S1) (B := ⟨#[34]⟩) (b := [34]) hS1 rfl (by simp [HA.out]; omega)
        obtain rfl : S2 = R := by rw [hS2, hR, quo, hc.1]; rfl
        have t1 : (S2.toList == S2.toList) = true := by simp
        clear hq hc hpl hS1 hS2 hR
        go_wp2_with fail
        (with_reducible refine (r1 _ (ht.below hb1)).mono ?_)
        rintro e w2 ⟨rfl, hb2⟩
        go_wp2_with fail
        (with_reducible refine (r2 _).mono ?_)
        rintro e w3 ⟨rfl, hb3⟩
        go_wp2_with fail
        (with_reducible refine (r3 _).mono ?_)
        rintro e w4 ⟨rfl, hb4⟩
        go_wp2_with fail
        go_ret
        exact ⟨by first | (simp; done) | (simp; omega), (bel_trans (bel_trans (bel_trans hb1 hb2) hb3) hb4)⟩
end Go.Proofs.YtfaacngfccceeaaDoor
