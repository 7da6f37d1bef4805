/- The law QuoteBack: its walk. -/
import Derived.Test.YtfaacngfccceeaaDoorQuoF
import Derived.Test.YtfaacngfccceeaaDoorTextE
namespace Go.Proofs.YtfaacngfccceeaaDoor
open Go.RowKit
set_option linter.unusedVariables false

theorem string_at {A V : ByteArray} {l v : List UInt8} {n : Nat} {b : Bool} {e : Int} (hA : A = mkb l) (hv : strA l 0 = ⟨v, n, b⟩) (hV : V = mkb v) (he : e = (n : Int)) (hl : l.length ≤ 1000000) (w : World) :
    Calls Tryd.prog 16 #[.string A, .int .i64 0] w fun e' w' => e' = .returned (.tuple #[.string V, .int .i64 e, .bool b]) ∧ Below w.heap.size w w' := by
  have := string_b hA hv hl w
  rw [show (0 : Int) + (n : Int) = e by omega] at this
  subst hV; exact this

set_option maxHeartbeats 1000000 in
set_option maxRecDepth 100000 in
theorem back_any (v b : ByteArray) (w : World) (zv : v.size ≤ 9223372036854775807) (zb : b.size ≤ 9223372036854775807) (ht : Tab w) :
    Calls Tryd.prog 4 #[.string v, .string b] w fun e w' => e = .returned (.bool true) ∧ Below w.heap.size w w' := by
  by_cases ha : 300 < v.size
  · have ga : (300 : Int) < (v.size : Int) := by omega
    clear ha
    go_enter Tryd.func4, Tryd.ntmps4
    (try simp only [List.append_eq, List.cons_append, List.nil_append])
    go_wp2_with fail
    (with_reducible refine (awake_any _ ht).mono ?_)
    rintro e w1 ⟨rfl, hb1⟩
    go_wp2_with fail
    go_ret
    exact ⟨by first | (simp; done) | (simp; omega), hb1⟩
  have ga : ¬ (300 : Int) < (v.size : Int) := by omega
  by_cases hb : 300 < b.size
  · have gb : (300 : Int) < (b.size : Int) := by omega
    clear ha hb
    go_enter Tryd.func4, Tryd.ntmps4
    (try simp only [List.append_eq, List.cons_append, List.nil_append])
    go_wp2_with fail
    (with_reducible refine (awake_any _ ht).mono ?_)
    rintro e w1 ⟨rfl, hb1⟩
    go_wp2_with fail
    go_ret
    exact ⟨by first | (simp; done) | (simp; omega), hb1⟩
  have gb : ¬ (300 : Int) < (b.size : Int) := by omega
  have la : v.data.toList.length = v.size := (Lib.size_eq v).symm
  have lb : b.data.toList.length = b.size := (Lib.size_eq b).symm
  cases hq : qtA v.data.toList with
  | none =>
    have r1 := quote_n (A := v) (l := v.data.toList) rfl hq
    have r2 := qmay_n (A := v) (l := v.data.toList) rfl hq
    have r3 := qlong_n (A := v) (l := v.data.toList) rfl hq (by omega)
    clear hq la lb ha hb
    go_enter Tryd.func4, Tryd.ntmps4
    (try simp only [List.append_eq, List.cons_append, List.nil_append])
    go_wp2_with fail
    (with_reducible refine (awake_any _ ht).mono ?_)
    rintro e w1 ⟨rfl, hb1⟩
    go_wp2_with fail
    (with_reducible refine (r1 _).mono ?_)
    rintro e w2 ⟨rfl, hb2⟩
    go_wp2_with fail
    (with_reducible refine (r2 _).mono ?_)
    rintro e w3 ⟨rfl, hb3⟩
    go_wp2_with fail
    (with_reducible refine (r3 _ (ht.below (bel_trans (bel_trans hb1 hb2) hb3))).mono ?_)
    rintro e w4 ⟨rfl, hb4⟩
    go_wp2_with fail
    go_ret
    exact ⟨by first | (simp; done) | (simp; omega), (bel_trans (bel_trans (bel_trans hb1 hb2) hb3) hb4)⟩
  | some cs =>
    obtain ⟨R, hR, r1⟩ := quote_y (A := v) (l := v.data.toList) rfl hq (by omega)
    have q := qtA_iff.1 hq
    have z := q.len
    have src := q.quo
    have k : R.size = (qb cs).length + 2 := by rw [hR, mkb_size, quo_len]
    have kq : (quo cs).length = R.size := by rw [k, quo_len]
    obtain ⟨S, hS, s1⟩ := sadd' (A := R) (B := b) (b := b.data.toList) hR rfl (by omega)
    have r2 := fun w => string_at (w := w) (V := v) (e := (R.size : Int)) hS (str_quo q b.data.toList) rfl (by rw [kq]) (by rw [List.length_append]; omega)
    have hall : ∀ j (hj : j < R.size), 32 ≤ (R[j]).toNat := fun j hj => by
      subst hR
      exact src.2 _ (List.getElem_mem (l := quo cs) (n := j) (by rw [kq]; exact hj))
    have r3 := fun w => may_of R true (by omega) (by rw [hR, mkb_data]; exact mayB_all src.1) w
    have r4 := qlong_y (A := v) (l := v.data.toList) (n := (R.size : Int)) rfl hq (by rw [kq]) (by omega)
    have b1 : v.size + 2 ≤ R.size := by omega
    have b2 : R.size ≤ 6 * v.size + 2 := by omega
    have t1 : (v.toList == v.toList) = true := by simp
    have HALL := Lib.hid hall
    clear hq la lb ha hb hR q z src k kq hS hall
    go_enter Tryd.func4, Tryd.ntmps4
    (try simp only [List.append_eq, List.cons_append, List.nil_append])
    go_wp2_with fail
    (with_reducible refine (awake_any _ ht).mono ?_)
    rintro e w1 ⟨rfl, hb1⟩
    go_wp2_with fail
    (with_reducible refine (r1 _ (ht.below hb1)).mono ?_)
    rintro e w2 ⟨rfl, hb2⟩
    go_wp2_with fail
    (with_reducible refine (r2 _).mono ?_)
    rintro e w3 ⟨rfl, hb3⟩
    go_wp2_with fail
    go_loop [11] (fun i => ∃ k : Nat, k ≤ R.size ∧ i = .int .i64 k) (fun i => R.size - (intOf i).toNat)
    case atStart => exact ⟨0, Nat.zero_le _, rfl⟩
    case round =>
      obtain ⟨k, hk, rfl⟩ := hrel
      by_cases hlt : k < R.size
      · have h32 := HALL.out k hlt
        have t32 : ¬ ((R[k]).toNat : Int) < 32 := by omega
        clear h32
        go_wp2_with fail
        go_round
        case rel => exact ⟨k + 1, by omega, by go_num⟩
        case measure => simp [intOf]; omega
      · skip
        go_wp2_with fail
        (with_reducible refine (r3 _).mono ?_)
        rintro e w4 ⟨rfl, hb4⟩
        go_wp2_with fail
        (with_reducible refine (r4 _ (ht.below (bel_trans (bel_trans (bel_trans hb1 hb2) hb3) hb4))).mono ?_)
        rintro e w5 ⟨rfl, hb5⟩
        go_wp2_with fail
        go_ret
        exact ⟨by first | (simp; done) | (simp; omega), (bel_trans (bel_trans (bel_trans (bel_trans hb1 hb2) hb3) hb4) hb5)⟩
end Go.Proofs.YtfaacngfccceeaaDoor
