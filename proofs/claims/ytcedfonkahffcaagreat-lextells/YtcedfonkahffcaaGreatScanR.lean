/- Contracts of the reference's functions of layer 4: Begins, Digits. -/
import Derived.Test.YtcedfonkahffcaaGreatScanB
namespace Go.Proofs.YtcedfonkahffcaaGreat.Sc
open Go.RowKit
set_option linter.unusedVariables false

set_option maxHeartbeats 400000 in
theorem rbegins_any (x : Int) (w : World) :
    Calls Tryz.prog 20 #[.int .u8 x] w fun e w' => e = .returned (.bool (bgI x)) ∧ w = w' := by
  by_cases h5 : x = 95
  · subst h5
    go_enter Tryz.func20, Tryz.ntmps20
    go_wp2
    go_ret
    exact ⟨rfl, rfl⟩
  have e5 : (x == 95) = false := by simp [h5]
  by_cases h1 : 97 ≤ x <;> by_cases h2 : x ≤ 122 <;> by_cases h3 : 65 ≤ x <;> by_cases h4 : x ≤ 90
  all_goals
    go_enter Tryz.func20, Tryz.ntmps20
    go_wp2
    go_ret
    exact ⟨by simp [bgI, h1, h2, h3, h4, h5], rfl⟩
theorem rbegins_b {x : Int} {v : Bool} (hv : bgI x = v) (w : World) :
    Calls Tryz.prog 20 #[.int .u8 x] w fun e w' => e = .returned (.bool v) ∧ w = w' := by
  rw [← hv]; exact rbegins_any x w

/-- Bytes from n on keep p up to N, and no further. -/
structure Runs (p : Int → Bool) (s : ByteArray) (n N : Nat) : Prop where
  lo : n ≤ N
  hi : N ≤ s.size
  keeps : ∀ j : Nat, n ≤ j → j < N → ∃ h : j < s.size, p (s[j]'h).toNat = true
  stops : ∀ h : N < s.size, p (s[N]'h).toNat = false
theorem runs_of (p : Int → Bool) (s : ByteArray) {n : Nat} (hn : n ≤ s.size) : Runs p s n (n + rn p (s.data.toList.drop n)) := by
  have ls : s.data.toList.length = s.size := (Lib.size_eq s).symm
  have hle := rn_le p (s.data.toList.drop n)
  rw [List.length_drop, ls] at hle
  refine ⟨by omega, by omega, ?_, ?_⟩
  · intro j h1 h2
    obtain ⟨h3, h4⟩ := rn_lt (n := j - n) (p := p) (l := s.data.toList.drop n) (by omega)
    rw [List.length_drop] at h3
    rw [List.getElem_drop] at h4
    refine ⟨by omega, ?_⟩
    have e : (s.data.toList)[n + (j - n)]'(by omega) = s[j]'(by omega) := by
      show _ = (s.data.toList)[j]'(by omega)
      congr 1; omega
    rw [← e]; exact h4
  · intro h
    have h4 := rn_stop (p := p) (l := s.data.toList.drop n) (by rw [List.length_drop]; omega)
    rw [List.getElem_drop] at h4
    exact h4

set_option maxHeartbeats 400000 in
theorem rdigits_any (s : ByteArray) (i : Int) (w : World) (hs : s.size ≤ 9223372036854775807) :
    Calls Tryz.prog 41 #[.string s, .int .i64 i] w fun e w' => e = .returned (.int .i64 (atE (rn dgI) s.data.toList i)) ∧ w = w' := by
  have ls : s.data.toList.length = s.size := (Lib.size_eq s).symm
  by_cases h0 : i < 0
  · rw [atE_out (.inl h0)]
    clear ls
    go_enter Tryz.func41, Tryz.ntmps41
    go_wp2_with fail
    go_ret
    exact ⟨rfl, rfl⟩
  obtain ⟨n, rfl⟩ := Int.eq_ofNat_of_zero_le (a := i) (by omega)
  by_cases h1 : s.size < n
  · rw [atE_out (.inr (by omega))]
    clear ls
    go_enter Tryz.func41, Tryz.ntmps41
    go_wp2_with fail
    go_loop [1] (fun v => v = .int .i64 (n : Int)) (fun _ => 0)
    case atStart => rfl
    case round =>
      subst hrel
      go_wp2_with fail
      go_ret
      exact ⟨rfl, rfl⟩
  have hR := runs_of dgI s (n := n) (by omega)
  rw [atE_in (by omega)]
  obtain ⟨N, hN⟩ : ∃ N : Nat, N = n + rn dgI (s.data.toList.drop n) := ⟨_, rfl⟩
  rw [show ((n : Int) + (rn dgI (s.data.toList.drop n) : Int)) = (N : Int) by omega]
  rw [← hN] at hR
  clear hN ls
  have hlo := hR.lo
  have hhi := hR.hi
  have HR := Lib.hid hR
  clear hR
  go_enter Tryz.func41, Tryz.ntmps41
  go_wp2_with fail
  go_loop [1] (fun v => ∃ k : Nat, n ≤ k ∧ k ≤ N ∧ v = .int .i64 (k : Int)) (fun v => N - (intOf v).toNat)
  case atStart => exact ⟨n, Nat.le_refl _, hlo, rfl⟩
  case round =>
    obtain ⟨k, k1, k2, rfl⟩ := hrel
    by_cases hlt : k < N
    · obtain ⟨hk, hd⟩ := HR.out.keeps k k1 hlt
      have hd2 : 48 ≤ ((s[k]'hk).toNat : Int) ∧ ((s[k]'hk).toNat : Int) ≤ 57 := by unfold dgI at hd; exact of_decide_eq_true hd
      obtain ⟨hd3, hd4⟩ := hd2
      clear hd
      go_wp2_with fail
      go_round
      case rel => exact ⟨k + 1, by omega, by omega, by go_num⟩
      case measure => simp [intOf]; omega
    · obtain rfl : k = N := by omega
      by_cases hk : k < s.size
      · have hd := HR.out.stops hk
        unfold dgI at hd
        have hd2 := of_decide_eq_false hd
        clear hd
        by_cases g1 : 48 ≤ ((s[k]'hk).toNat : Int)
        · have g2 : ¬ ((s[k]'hk).toNat : Int) ≤ 57 := by omega
          clear hd2
          go_wp2_with fail
          go_ret
          exact ⟨rfl, rfl⟩
        · clear hd2
          go_wp2_with fail
          go_ret
          exact ⟨rfl, rfl⟩
      · have hk2 : ¬ (k : Int) < (s.size : Int) := by omega
        go_wp2_with fail
        go_ret
        exact ⟨rfl, rfl⟩
end Go.Proofs.YtcedfonkahffcaaGreat.Sc
