/- The law UtfBack: its mathematics and its walk. -/
import Derived.Test.YtjfhcgolgabkkaaDoorUtfD
import Derived.IntWalk
namespace Go.Proofs.YtjfhcgolgabkkaaDoor
open Go.RowKit

theorem toList_app (a b : ByteArray) : (a ++ b).data.toList = a.data.toList ++ b.data.toList := by simp

theorem back_put {r : Int} (h : srcB r = true) (a b : ByteArray) : nxtC (a ++ putA r ++ b) a.size = r ∧ nxtN (a ++ putA r ++ b) a.size = (putA r).size := by
  obtain ⟨e, s⟩ := src_nat h
  have hp := enc_pos r.toNat
  have hd : (a ++ putA r ++ b).data.toList.drop ((a.size : Nat) : Int).toNat = enc r.toNat ++ b.data.toList := by
    rw [toList_app, toList_app, Int.toNat_natCast, List.append_assoc, Lib.size_eq, List.drop_left]
    rw [show (putA r).data.toList = enc r.toNat by simp [putA, putL_yes h]]
  have hz : (0 : Int) ≤ a.size ∧ (a.size : Int) < (a ++ putA r ++ b).size := by
    rw [Lib.size_eq (a ++ putA r ++ b), toList_app, toList_app]
    simp only [List.length_append, ← Lib.size_eq, putA_size, putL_yes h]; omega
  have hn := nxt_is (is_enc s b.data.toList)
  refine ⟨?_, ?_⟩
  · unfold nxtC; rw [if_pos hz, hd, hn]; exact e
  · unfold nxtN; rw [if_pos hz, hd, hn, putA_size, putL_yes h]

/-- What Next answers: nothing, or a character that is put as it stands. -/
theorem next_cases (b : ByteArray) (i : Int) : (nxtC b i = 0 ∧ nxtN b i = 0) ∨
    (∃ k : Nat, i = k ∧ 1 ≤ nxtN b i ∧ nxtN b i ≤ 4 ∧ nxtN b i ≤ b.size - i ∧ (k : Int) < b.size ∧ putA (nxtC b i) = b.extract k (k + (nxtN b i).toNat)) := by
  by_cases h : 0 ≤ i ∧ i < b.size
  · obtain ⟨k, rfl⟩ := Int.eq_ofNat_of_zero_le h.1
    have eC : nxtC b k = (nxt (b.data.toList.drop k)).1 := by unfold nxtC; rw [if_pos h]; rfl
    have eN : nxtN b k = (nxt (b.data.toList.drop k)).2 := by unfold nxtN; rw [if_pos h]; rfl
    rw [eC, eN]
    rcases nxt_cases (b.data.toList.drop k) with ⟨c, hc, e⟩ | ⟨_, e⟩
    · right
      have hp := enc_pos c
      have hl := hc.len
      simp only [List.length_drop, ← Lib.size_eq] at hl
      rw [e]
      refine ⟨k, rfl, by dsimp only; omega, by dsimp only; omega, by dsimp only; omega, by omega, ?_⟩
      rw [Lib.extract_eq, Nat.add_sub_cancel_left]
      dsimp only
      rw [Int.toNat_natCast, putA, putL_yes hc.1, Int.toNat_natCast]
      obtain ⟨t, ht⟩ := hc.2
      rw [← ht, List.take_left]
    · left; rw [e]; exact ⟨rfl, rfl⟩
  · left; unfold nxtC nxtN; rw [if_neg h, if_neg h]; exact ⟨rfl, rfl⟩

theorem put_any' (r : Int) (w : World) : Calls Tryd.prog 52 #[.int .i64 r] w fun e w' => e = .returned (.string (putA r)) ∧ w' = w := (put_any r w).mono fun _ _ h => ⟨h.1, h.2.symm⟩

end Go.Proofs.YtjfhcgolgabkkaaDoor
