/- The law UtfBack: its mathematics and its walk. -/
import Derived.Test.YtjdiafkibalgkaaUtfD
import Derived.IntWalk
namespace Go.Proofs.Ytjdiafkibalgkaa
open Go.RowKit

theorem toList_app (a b : ByteArray) : (a ++ b).data.toList = a.data.toList ++ b.data.toList := by simp

theorem back_put {r : Int} (h : srcB r = true) (a b : ByteArray) : nxtC (a ++ putA r ++ b) a.size = r ∧ nxtN (a ++ putA r ++ b) a.size = (putA r).size := by
  obtain ⟨e, s⟩ := src_nat h
  have hp := enc_pos r.toNat
  have hd : (a ++ putA r ++ b).data.toList.drop ((a.size : Nat) : Int).toNat = enc r.toNat ++ b.data.toList := by
    rw [toList_app, toList_app, Int.toNat_natCast, List.append_assoc, Lib.size_eq, List.drop_left]
    rw [show (putA r).data.toList = enc r.toNat by simp [putA, putL_yes h]]
  have hz : (0 : Int) ≤ a.size ∧ (a.size : Int) < (a ++ putA r ++ b).size := by
    rw [Lib.size_eq (a ++ putA r ++ b), toList_app, toList_app]
    simp only [List.length_append, ← Lib.size_eq, putA_size, putL_yes h]; omega
  have hn := nxt_is (is_enc s b.data.toList)
  refine ⟨?_, ?_⟩
  · unfold nxtC; rw [if_pos hz, hd, hn]; exact e
  · unfold nxtN; rw [if_pos hz, hd, hn, putA_size, putL_yes h]

/-- What Next answers: nothing, or a character that is put as it stands. -/
theorem next_cases (b : ByteArray) (i : Int) : (nxtC b i = 0 ∧ nxtN b i = 0) ∨
    (∃ k : Nat, i = k ∧ 1 ≤ nxtN b i ∧ nxtN b i ≤ 4 ∧ nxtN b i ≤ b.size - i ∧ (k : Int) < b.size ∧ putA (nxtC b i) = b.extract k (k + (nxtN b i).toNat)) := by
  by_cases h : 0 ≤ i ∧ i < b.size
  · obtain ⟨k, rfl⟩ := Int.eq_ofNat_of_zero_le h.1
    have eC : nxtC b k = (nxt (b.data.toList.drop k)).1 := by unfold nxtC; rw [if_pos h]; rfl
    have eN : nxtN b k = (nxt (b.data.toList.drop k)).2 := by unfold nxtN; rw [if_pos h]; rfl
    rw [eC, eN]
    rcases nxt_cases (b.data.toList.drop k) with ⟨c, hc, e⟩ | ⟨_, e⟩
    · right
      have hp := enc_pos c
      have hl := hc.len
      simp only [List.length_drop, ← Lib.size_eq] at hl
      rw [e]
      refine ⟨k, rfl, by dsimp only; omega, by dsimp only; omega, by dsimp only; omega, by omega, ?_⟩
      rw [Lib.extract_eq, Nat.add_sub_cancel_left]
      dsimp only
      rw [Int.toNat_natCast, putA, putL_yes hc.1, Int.toNat_natCast]
      obtain ⟨t, ht⟩ := hc.2
      rw [← ht, List.take_left]
    · left; rw [e]; exact ⟨rfl, rfl⟩
  · left; unfold nxtC nxtN; rw [if_neg h, if_neg h]; exact ⟨rfl, rfl⟩

theorem put_any' (r : Int) (w : World) : Calls Try.prog 13 #[.int .i64 r] w fun e w' => e = .returned (.string (putA r)) ∧ w' = w := (put_any r w).mono fun _ _ h => ⟨h.1, h.2.symm⟩

set_option maxHeartbeats 2000000 in
theorem back_any (a : ByteArray) (r : Int) (b : ByteArray) (i : Int) (w : World) (hi : -9223372036854775808 ≤ i ∧ i ≤ 9223372036854775807) (ha : a.size ≤ 9223372036854775807) (hb : b.size ≤ 9223372036854775807) :
    Calls Try.prog 4 #[.string a, .int .i64 r, .string b, .int .i64 i] w fun e w' => e = .returned (.bool true) ∧ Below w.heap.size w w' := by
  by_cases ha' : 600 < a.size
  · go_enter Try.func4, Try.ntmps4
    go_wp2_with (first | (go_at_call 9; refine (awake_any _).mono ?_; rintro e w1 ⟨rfl, hb1⟩))
    go_ret
    exact ⟨by simp, hb1⟩
  by_cases hb' : 600 < b.size
  · go_enter Try.func4, Try.ntmps4
    go_wp2_with (first | (go_at_call 9; refine (awake_any _).mono ?_; rintro e w1 ⟨rfl, hb1⟩))
    go_ret
    exact ⟨by simp, hb1⟩
  have ha2 : a.size ≤ 600 := by omega
  have hb2 : b.size ≤ 600 := by omega
  clear ha hb
  have hz : (putA r).size ≤ 4 := by rw [putA_size]; unfold putL; split; exact (enc_pos _).2; simp
  have hz2 : (a ++ putA r).size ≤ 604 := by simp; omega
  have hadd1 : ∀ w, (Op.stringOp .add a (putA r)).run Try.prog w = .ok (.string (a ++ putA r)) w := fun w => run_string_add_sum w _ _ (by omega)
  have hadd2 : ∀ w, (Op.stringOp .add (a ++ putA r) b).run Try.prog w = .ok (.string (a ++ putA r ++ b)) w := fun w => run_string_add_sum w _ _ (by omega)
  cases hr : srcB r
  · have e2 : (putA r).toList.isEmpty = true := by rw [putA_list, putL_no hr]; rfl
    have e3 : (putA r).toList = [] := by rw [putA_list, putL_no hr]
    clear hr
    go_enter Try.func4, Try.ntmps4
    go_wp2_with fail
    refine (awake_any _).mono ?_; rintro e w1 ⟨rfl, hb1⟩
    go_wp2_with fail
    refine (put_any _ _).mono ?_; rintro e w' ⟨rfl, rfl⟩
    go_wp2_with fail
    refine (next_any _ _ _).mono ?_; rintro e w2 ⟨rfl, hg⟩
    have hb2 := hg.below
    clear hg
    generalize nxtC (a ++ putA r ++ b) a.size = x1
    generalize nxtN (a ++ putA r ++ b) a.size = x2
    go_wp2_with fail
    refine (next_any _ _ _).mono ?_; rintro e w3 ⟨rfl, hg⟩
    have hb3 := hg.below
    clear hg
    rcases next_cases b i with ⟨c0, n0⟩ | ⟨k, rfl, n1, n4, nb, nk, ep⟩
    · rw [c0, n0]
      go_wp2_with fail
      go_quiet (fail)
      go_wp2
      go_ret
      exact ⟨by simp, below_drewN (bel_trans (bel_trans hb1 hb2) hb3) _⟩
    · generalize nxtC b k = c at *
      obtain ⟨m, hm⟩ := Int.eq_ofNat_of_zero_le (a := nxtN b k) (by omega)
      rw [hm] at n1 n4 nb ep ⊢
      rw [Int.toNat_natCast] at ep
      have hw1 : IntKind.i64.wrap ((k : Int) + m) = k + m := IntWalk.i64_in _ (by omega)
      have hw2 : IntKind.i64.wrap ((b.size : Int) - k) = b.size - k := IntWalk.i64_in _ (by omega)
      have t1 : ((m : Int) == 0) = false := by simp; omega
      have t2 : decide ((0 : Int) ≤ k) = true := by simp
      have t3 : decide ((m : Int) ≤ (b.size : Int) - k) = true := by simp; omega
      have t4 : decide ((1 : Int) ≤ m) = true := by simp; omega
      have s1 : (0 : Int) ≤ k := by omega
      have s2 : (k : Int) ≤ k + m := by omega
      have s3 : (k : Int) + m ≤ b.size := by omega
      have s4 : ((k : Int) + m).toNat = k + m := by omega
      clear hm
      go_wp2_with fail
      go_quiet ((go_at_call 13; exact Calls.quiet_of_same (put_any' _ _)))
      go_wp2
      go_ret
      exact ⟨by simp [ep], below_drewN (bel_trans (bel_trans hb1 hb2) hb3) _⟩
  · obtain ⟨e2, e3⟩ := put_ne hr
    obtain ⟨e4, e5⟩ := back_put hr a b
    have E4 := Lib.hid e4
    have E5 := Lib.hid e5
    clear e4 e5 hr
    go_enter Try.func4, Try.ntmps4
    go_wp2_with fail
    refine (awake_any _).mono ?_; rintro e w1 ⟨rfl, hb1⟩
    go_wp2_with fail
    refine (put_any _ _).mono ?_; rintro e w' ⟨rfl, rfl⟩
    go_wp2_with fail
    refine (next_any _ _ _).mono ?_; rintro e w2 ⟨rfl, hg⟩
    have hb2 := hg.below
    clear hg
    rw [E4.out, E5.out]
    go_wp2_with fail
    refine (next_any _ _ _).mono ?_; rintro e w3 ⟨rfl, hg⟩
    have hb3 := hg.below
    clear hg
    rcases next_cases b i with ⟨c0, n0⟩ | ⟨k, rfl, n1, n4, nb, nk, ep⟩
    · rw [c0, n0]
      go_wp2_with fail
      go_quiet (fail)
      go_wp2
      go_ret
      exact ⟨by simp, below_drewN (bel_trans (bel_trans hb1 hb2) hb3) _⟩
    · generalize nxtC b k = c at *
      obtain ⟨m, hm⟩ := Int.eq_ofNat_of_zero_le (a := nxtN b k) (by omega)
      rw [hm] at n1 n4 nb ep ⊢
      rw [Int.toNat_natCast] at ep
      have hw1 : IntKind.i64.wrap ((k : Int) + m) = k + m := IntWalk.i64_in _ (by omega)
      have hw2 : IntKind.i64.wrap ((b.size : Int) - k) = b.size - k := IntWalk.i64_in _ (by omega)
      have t1 : ((m : Int) == 0) = false := by simp; omega
      have t2 : decide ((0 : Int) ≤ k) = true := by simp
      have t3 : decide ((m : Int) ≤ (b.size : Int) - k) = true := by simp; omega
      have t4 : decide ((1 : Int) ≤ m) = true := by simp; omega
      have s1 : (0 : Int) ≤ k := by omega
      have s2 : (k : Int) ≤ k + m := by omega
      have s3 : (k : Int) + m ≤ b.size := by omega
      have s4 : ((k : Int) + m).toNat = k + m := by omega
      clear hm
      go_wp2_with fail
      go_quiet ((go_at_call 13; exact Calls.quiet_of_same (put_any' _ _)))
      go_wp2
      go_ret
      exact ⟨by simp [ep], below_drewN (bel_trans (bel_trans hb1 hb2) hb3) _⟩
end Go.Proofs.Ytjdiafkibalgkaa
