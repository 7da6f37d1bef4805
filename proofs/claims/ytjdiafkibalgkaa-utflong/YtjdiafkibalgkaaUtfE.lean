/- The law UtfLong: its walk. -/
import Derived.Test.YtjdiafkibalgkaaUtfD
namespace Go.Proofs.Ytjdiafkibalgkaa
open Go.RowKit

set_option maxHeartbeats 4000000 in
theorem long_any (r k : Int) (w : World) :
    Calls Try.prog 7 #[.int .i64 r, .int .i64 k] w fun e w' => e = .returned (.bool true) ∧ Below w.heap.size w w' := by
  cases ha : srcB r
  · have e1 := putA_no ha
    clear ha
    go_enter Try.func7, Try.ntmps7
    go_wp2_with (first | (go_at_call 9; refine (awake_any _).mono ?_; rintro e w1 ⟨rfl, hb1⟩) | (go_at_call 13; refine (put_any _ _).mono ?_; rintro e w' ⟨rfl, rfl⟩))
    go_ret
    exact ⟨by (try simp); (try omega), hb1⟩
  · obtain ⟨e2, e3⟩ := put_ne ha
    have hl := put_len ha
    obtain ⟨p, q⟩ := long_math ha
    have hr := (srcB_iff r).1 ha
    have hr0 : 0 ≤ r := by omega
    clear hr ha
    by_cases h1 : r < 128
    · have hs : (putA r).size = 1 := by unfold lenI at hl; rw [if_pos h1] at hl; omega
      clear hl
      have p0 : (((putA r)[0]'(by omega)).toNat : Int) = r := by have := p h1 0 (by omega); omega
      have p1 : (((putA r)[0]'(by omega)).toNat : Int) < 256 := by omega
      have h2 : r < 2048 := by omega
      have h3 : r < 65536 := by omega
      clear p q
      by_cases hk : k < 1
      · skip
        go_enter Try.func7, Try.ntmps7
        go_wp2_with (first | (go_at_call 9; refine (awake_any _).mono ?_; rintro e w1 ⟨rfl, hb1⟩) | (go_at_call 13; refine (put_any _ _).mono ?_; rintro e w' ⟨rfl, rfl⟩))
        go_ret
        exact ⟨by (try simp); (try omega), hb1⟩
      · have hk' : 1 ≤ k := by omega
        go_enter Try.func7, Try.ntmps7
        go_wp2_with (first | (go_at_call 9; refine (awake_any _).mono ?_; rintro e w1 ⟨rfl, hb1⟩) | (go_at_call 13; refine (put_any _ _).mono ?_; rintro e w' ⟨rfl, rfl⟩))
        go_ret
        exact ⟨by (try simp); (try omega), hb1⟩
    · by_cases h2 : r < 2048
      · have h3 : r < 65536 := by omega
        have hs : (putA r).size = 2 := by unfold lenI at hl; rw [if_neg h1, if_pos h2] at hl; omega
        clear hl
        have q0 := (q (by omega) 0 (by omega)).1 rfl
        by_cases hk : 1 ≤ k ∧ k < 2
        · obtain ⟨m, rfl⟩ := Int.eq_ofNat_of_zero_le (a := k) (by omega)
          have hm : m < (putA r).size := by omega
          obtain ⟨q1, q2⟩ := (q (by omega) m hm).2 (by omega)
          have hk1 : 1 ≤ m := by omega
          have hk2 : m < 2 := by omega
          clear p q hk
          go_enter Try.func7, Try.ntmps7
          go_wp2_with (first | (go_at_call 9; refine (awake_any _).mono ?_; rintro e w1 ⟨rfl, hb1⟩) | (go_at_call 13; refine (put_any _ _).mono ?_; rintro e w' ⟨rfl, rfl⟩))
          go_ret
          exact ⟨by (try simp); (try omega), hb1⟩
        · clear p q
          by_cases hk1 : k < 1
          · clear hk
            go_enter Try.func7, Try.ntmps7
            go_wp2_with (first | (go_at_call 9; refine (awake_any _).mono ?_; rintro e w1 ⟨rfl, hb1⟩) | (go_at_call 13; refine (put_any _ _).mono ?_; rintro e w' ⟨rfl, rfl⟩))
            go_ret
            exact ⟨by (try simp); (try omega), hb1⟩
          · have hk2 : 2 ≤ k := by omega
            clear hk
            go_enter Try.func7, Try.ntmps7
            go_wp2_with (first | (go_at_call 9; refine (awake_any _).mono ?_; rintro e w1 ⟨rfl, hb1⟩) | (go_at_call 13; refine (put_any _ _).mono ?_; rintro e w' ⟨rfl, rfl⟩))
            go_ret
            exact ⟨by (try simp); (try omega), hb1⟩
      · by_cases h3 : r < 65536
        · have h1' : 2048 ≤ r := by omega
          have hs : (putA r).size = 3 := by unfold lenI at hl; rw [if_neg h1, if_neg h2, if_pos h3] at hl; omega
          clear hl
          have q0 := (q (by omega) 0 (by omega)).1 rfl
          by_cases hk : 1 ≤ k ∧ k < 3
          · obtain ⟨m, rfl⟩ := Int.eq_ofNat_of_zero_le (a := k) (by omega)
            have hm : m < (putA r).size := by omega
            obtain ⟨q1, q2⟩ := (q (by omega) m hm).2 (by omega)
            have hk1 : 1 ≤ m := by omega
            have hk2 : m < 3 := by omega
            clear p q hk
            go_enter Try.func7, Try.ntmps7
            go_wp2_with (first | (go_at_call 9; refine (awake_any _).mono ?_; rintro e w1 ⟨rfl, hb1⟩) | (go_at_call 13; refine (put_any _ _).mono ?_; rintro e w' ⟨rfl, rfl⟩))
            go_ret
            exact ⟨by (try simp); (try omega), hb1⟩
          · clear p q
            by_cases hk1 : k < 1
            · clear hk
              go_enter Try.func7, Try.ntmps7
              go_wp2_with (first | (go_at_call 9; refine (awake_any _).mono ?_; rintro e w1 ⟨rfl, hb1⟩) | (go_at_call 13; refine (put_any _ _).mono ?_; rintro e w' ⟨rfl, rfl⟩))
              go_ret
              exact ⟨by (try simp); (try omega), hb1⟩
            · have hk2 : 3 ≤ k := by omega
              clear hk
              go_enter Try.func7, Try.ntmps7
              go_wp2_with (first | (go_at_call 9; refine (awake_any _).mono ?_; rintro e w1 ⟨rfl, hb1⟩) | (go_at_call 13; refine (put_any _ _).mono ?_; rintro e w' ⟨rfl, rfl⟩))
              go_ret
              exact ⟨by (try simp); (try omega), hb1⟩
        · have h1' : 65536 ≤ r := by omega
          have hs : (putA r).size = 4 := by unfold lenI at hl; rw [if_neg h1, if_neg h2, if_neg h3] at hl; omega
          clear hl
          have q0 := (q (by omega) 0 (by omega)).1 rfl
          by_cases hk : 1 ≤ k ∧ k < 4
          · obtain ⟨m, rfl⟩ := Int.eq_ofNat_of_zero_le (a := k) (by omega)
            have hm : m < (putA r).size := by omega
            obtain ⟨q1, q2⟩ := (q (by omega) m hm).2 (by omega)
            have hk1 : 1 ≤ m := by omega
            have hk2 : m < 4 := by omega
            clear p q hk
            go_enter Try.func7, Try.ntmps7
            go_wp2_with (first | (go_at_call 9; refine (awake_any _).mono ?_; rintro e w1 ⟨rfl, hb1⟩) | (go_at_call 13; refine (put_any _ _).mono ?_; rintro e w' ⟨rfl, rfl⟩))
            go_ret
            exact ⟨by (try simp); (try omega), hb1⟩
          · clear p q
            by_cases hk1 : k < 1
            · clear hk
              go_enter Try.func7, Try.ntmps7
              go_wp2_with (first | (go_at_call 9; refine (awake_any _).mono ?_; rintro e w1 ⟨rfl, hb1⟩) | (go_at_call 13; refine (put_any _ _).mono ?_; rintro e w' ⟨rfl, rfl⟩))
              go_ret
              exact ⟨by (try simp); (try omega), hb1⟩
            · have hk2 : 4 ≤ k := by omega
              clear hk
              go_enter Try.func7, Try.ntmps7
              go_wp2_with (first | (go_at_call 9; refine (awake_any _).mono ?_; rintro e w1 ⟨rfl, hb1⟩) | (go_at_call 13; refine (put_any _ _).mono ?_; rintro e w' ⟨rfl, rfl⟩))
              go_ret
              exact ⟨by (try simp); (try omega), hb1⟩

end Go.Proofs.Ytjdiafkibalgkaa
