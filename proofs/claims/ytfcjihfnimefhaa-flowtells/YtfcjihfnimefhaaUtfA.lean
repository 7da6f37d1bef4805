/- Contracts of package utf's functions: isSource, Put, found, Next. -/
import Derived.Test.YtfcjihfnimefhaaRows
import Derived.Test.YtfcjihfnimefhaaUtfM
import Derived.WalkKit
import Derived.WalkSpells
import Derived.StillTactics
import Derived.Laws.Pointers
import Derived.Laws.Runes
import Derived.Laws.RangeAny
import Derived.Deep.RegionHeld3
import Derived.Deep.QuietTactic
import Derived.BigQuiet
import Derived.Below
import Derived.Lib.Hide
import Derived.Lib.Strings
import Derived.WalkSmall
import Derived.LoopN
import Derived.Handy
namespace Go.Proofs.Ytfcjihfnimefhaa
open Go.RowKit

set_option maxHeartbeats 400000 in
theorem src_any (r : Int) (w : World) :
    Calls Try.prog 87 #[.int .i64 r] w fun e w' => e = .returned (.bool (srcB r)) ∧ w = w' := by
  by_cases h9 : r = 9
  · subst h9
    go_enter Try.func87, Try.ntmps87
    go_wp2
    go_ret
    exact ⟨rfl, rfl⟩
  by_cases h10 : r = 10
  · subst h10
    go_enter Try.func87, Try.ntmps87
    go_wp2
    go_ret
    exact ⟨rfl, rfl⟩
  by_cases h13 : r = 13
  · subst h13
    go_enter Try.func87, Try.ntmps87
    go_wp2
    go_ret
    exact ⟨rfl, rfl⟩
  have e9 : (r == 9) = false := by simp [h9]
  have e10 : (r == 10) = false := by simp [h10]
  have e13 : (r == 13) = false := by simp [h13]
  by_cases h1 : 32 ≤ r <;> by_cases h2 : r ≤ 55295 <;> by_cases h3 : 57344 ≤ r <;> by_cases h4 : r ≤ 1114111
  all_goals
    go_enter Try.func87, Try.ntmps87
    go_wp2
    go_ret
    exact ⟨by simp [srcB, h9, h10, h13, h1, h2, h3, h4], rfl⟩

theorem putL_no {r : Int} (h : srcB r = false) : putL r = [] := by simp [putL, h]
theorem putL_yes {r : Int} (h : srcB r = true) : putL r = enc r.toNat := by simp [putL, h]

set_option maxHeartbeats 400000 in
theorem put_any (r : Int) (w : World) :
    Calls Try.prog 74 #[.int .i64 r] w fun e w' => e = .returned (.string (putA r)) ∧ w = w' := by
  cases h : srcB r
  · have e1 : putA r = ⟨#[]⟩ := by simp [putA, putL_no h]
    rw [e1]; clear e1
    go_enter Try.func74, Try.ntmps74
    go_wp2_with (go_at_call 87; refine (src_any _ _).mono ?_; rintro e w' ⟨rfl, rfl⟩)
    go_ret
    exact ⟨rfl, rfl⟩
  · have e1 : Utf8.encode r = putA r := by rw [encode_eq r h, putA, putL_yes h]
    have hr := (srcB_iff r).1 h
    have h0 : 0 ≤ r := by omega
    have h1 : r ≤ 1114111 := by omega
    have e2 : IntKind.i32.wrap r = r := by unfold IntKind.wrap; simp [IntKind.bits, IntKind.signed]; omega
    clear hr
    have E := Lib.hid e1; clear e1
    go_enter Try.func74, Try.ntmps74
    go_wp2_with (go_at_call 87; refine (src_any _ _).mono ?_; rintro e w' ⟨rfl, rfl⟩)
    go_ret
    refine ⟨?_, rfl⟩
    rw [← E.out]
    rfl

set_option maxHeartbeats 400000 in
theorem hp0_any (s p : ByteArray) (w : World) :
    Calls Try.prog 82 #[.string s, .string p] w fun e w' => e = .returned (.bool (Lib.hasPrefix s.data.toList p.data.toList)) ∧ w = w' := by
  rw [← Lib.hasPrefix_of_take, ← Lib.size_eq, ← Lib.size_eq]
  go_enter Try.func82, Try.ntmps82
  go_wp2
  · rename_i h
    go_ret
    refine ⟨?_, rfl⟩
    show Ending.returned (Value.bool ((s.extract 0 p.size).toList == p.toList)) = _
    rw [Lib.extract_toList, Lib.toList_data]
    simp [h]
  · rename_i h
    go_ret
    refine ⟨?_, rfl⟩
    show Ending.returned (Value.bool false) = _
    simp [h]
set_option maxHeartbeats 400000 in
theorem hp_any (s p : ByteArray) (w : World) :
    Calls Try.prog 67 #[.string s, .string p] w fun e w' => e = .returned (.bool (Lib.hasPrefix s.data.toList p.data.toList)) ∧ w = w' := by
  go_enter Try.func67, Try.ntmps67
  go_wp2_with (go_at_call 82; refine (hp0_any _ _ _).mono ?_; rintro e w' ⟨rfl, rfl⟩)
  go_ret
  exact ⟨rfl, rfl⟩

/-- What found answers. -/
def fndC (l : List UInt8) (c : Int) : Int := if srcB c = true ∧ (enc c.toNat).isPrefixOf l = true then c else 0
def fndN (l : List UInt8) (c : Int) : Int := if srcB c = true ∧ (enc c.toNat).isPrefixOf l = true then (enc c.toNat).length else 0

set_option maxHeartbeats 400000 in
theorem found_any (s : ByteArray) (c : Int) (w : World) (h0 : 0 ≤ c) (h1 : c ≤ 2147483647) :
    Calls Try.prog 55 #[.string s, .int .i32 c] w fun e w' => e = .returned (.tuple #[.int .i64 (fndC s.data.toList c), .int .i64 (fndN s.data.toList c)]) ∧ w = w' := by
  cases h : srcB c
  · have e1 : putA c = ⟨#[]⟩ := by simp [putA, putL_no h]
    have e2 : fndC s.data.toList c = 0 := by simp [fndC, h]
    have e3 : fndN s.data.toList c = 0 := by simp [fndN, h]
    rw [e2, e3]; clear e2 e3
    go_enter Try.func55, Try.ntmps55
    go_wp2_with (go_at_call 74; refine (put_any _ _).mono ?_; rintro e w' ⟨rfl, rfl⟩)
    go_ret2
    exact ⟨rfl, rfl⟩
  · have e1 : putA c = ⟨(enc c.toNat).toArray⟩ := by rw [putA, putL_yes h]
    have hn := enc_ne c.toNat
    cases hp : (enc c.toNat).isPrefixOf s.data.toList
    · have e2 : fndC s.data.toList c = 0 := by simp [fndC, hp]
      have e3 : fndN s.data.toList c = 0 := by simp [fndN, hp]
      rw [e2, e3]; clear e2 e3
      have e4 : (Lib.hasPrefix s.data.toList (putA c).data.toList) = false := by rw [e1]; exact hp
      have e5 : (putA c).toList.isEmpty = false := by rw [e1]; simpa [ByteArray.toList_eq] using hn
      have e6 : ¬ (putA c).toList = [] := by rw [e1]; simpa [ByteArray.toList_eq] using hn
      have E := Lib.hid e1; clear e1
      go_enter Try.func55, Try.ntmps55
      go_wp2_with (first | (go_at_call 74; refine (put_any _ _).mono ?_; rintro e w' ⟨rfl, rfl⟩) | (go_at_call 67; refine (hp_any _ _ _).mono ?_; rintro e w' ⟨rfl, rfl⟩))
      go_ret2
      exact ⟨rfl, rfl⟩
    · have e2 : fndC s.data.toList c = c := by simp [fndC, hp, h]
      have e3 : fndN s.data.toList c = ((putA c).size : Int) := by rw [e1]; simp [fndN, hp, h, lenA]
      rw [e2, e3]; clear e2 e3
      have e4 : (Lib.hasPrefix s.data.toList (putA c).data.toList) = true := by rw [e1]; exact hp
      have e5 : (putA c).toList.isEmpty = false := by rw [e1]; simpa [ByteArray.toList_eq] using hn
      have e6 : ¬ (putA c).toList = [] := by rw [e1]; simpa [ByteArray.toList_eq] using hn
      have E := Lib.hid e1; clear e1
      go_enter Try.func55, Try.ntmps55
      go_wp2_with (first | (go_at_call 74; refine (put_any _ _).mono ?_; rintro e w' ⟨rfl, rfl⟩) | (go_at_call 67; refine (hp_any _ _ _).mono ?_; rintro e w' ⟨rfl, rfl⟩))
      go_ret2
      exact ⟨rfl, rfl⟩


theorem fnd_nxt (l : List UInt8) : fndC l (Utf8.decode ⟨l.toArray⟩ 0).1 = (nxt l).1 ∧ fndN l (Utf8.decode ⟨l.toArray⟩ 0).1 = (nxt l).2 := by
  simp only [fndC, fndN, nxt, List.isPrefixOf_iff_prefix, Int.toNat_natCast]
  split <;> simp

/-- What Next does to the world: nothing, or a new block. -/
def Grew (w w' : World) : Prop := w' = w ∨ ∃ o, w' = w.alloc o
theorem Grew.below {w w' : World} (h : Grew w w') : Below w.heap.size w w' := by
  rcases h with rfl | ⟨o, rfl⟩
  · exact Below.refl _ _
  · exact (Below.refl _ _).alloc (Nat.le_refl _) _

def nxtC (s : ByteArray) (i : Int) : Int := if 0 ≤ i ∧ i < s.size then (nxt (s.data.toList.drop i.toNat)).1 else 0
def nxtN (s : ByteArray) (i : Int) : Int := if 0 ≤ i ∧ i < s.size then (nxt (s.data.toList.drop i.toNat)).2 else 0

set_option maxHeartbeats 1000000 in
theorem next_any (s : ByteArray) (i : Int) (w : World) :
    Calls Try.prog 32 #[.string s, .int .i64 i] w fun e w' => e = .returned (.tuple #[.int .i64 (nxtC s i), .int .i64 (nxtN s i)]) ∧ Grew w w' := by
  by_cases h0 : 0 ≤ i
  · by_cases h1 : i < s.size
    · obtain ⟨k, rfl⟩ := Int.eq_ofNat_of_zero_le h0
      have hk : k < s.size := by omega
      obtain ⟨t, ht⟩ : ∃ t, s.extract k s.size = t := ⟨_, rfl⟩
      have hts : t.size = s.size - k := by rw [← ht]; simp
      have hl : t.data.toList = s.data.toList.drop k := by rw [← ht, Lib.extract_data]; apply List.take_of_length_le; simp
      have e1 : nxtC s k = fndC t.data.toList (Utf8.decode t 0).1 := by
        have := (fnd_nxt t.data.toList).1
        rw [Lib.mk_data] at this
        rw [this, hl]; simp [nxtC, h1]
      have e2 : nxtN s k = fndN t.data.toList (Utf8.decode t 0).1 := by
        have := (fnd_nxt t.data.toList).2
        rw [Lib.mk_data] at this
        rw [this, hl]; simp [nxtN, h1]
      rw [e1, e2]; clear e1 e2 hl
      have hp : 0 < t.size := by omega
      have hd := decode_le t 0
      have hnx : ∀ ty, (Instr.next (.pointer (some ⟨w.heap.size, 0, none⟩)) true ty).run Try.prog (w.iter t 0) = _ := fun ty => run_next_any w t 0 ty hp
      have H := Lib.hid hts; clear hts
      go_enter Try.func32, Try.ntmps32
      go_wp2_with fail
      refine wp_loop_rounds 1 ?_
      rw [rounds_succ]
      go_wp2_with (go_at_call 55; refine (found_any _ _ _ (by omega) (by omega)).mono ?_; rintro e w' ⟨rfl, rfl⟩)
      go_ret2
      exact ⟨rfl, .inr ⟨_, rfl⟩⟩
    · have e1 : nxtC s i = 0 := by simp [nxtC, h1]
      have e2 : nxtN s i = 0 := by simp [nxtN, h1]
      rw [e1, e2]; clear e1 e2
      have h1' : (s.size : Int) ≤ i := by omega
      go_enter Try.func32, Try.ntmps32
      go_wp2
      go_ret2
      exact ⟨rfl, .inl rfl⟩
  · have e1 : nxtC s i = 0 := by simp [nxtC, h0]
    have e2 : nxtN s i = 0 := by simp [nxtN, h0]
    rw [e1, e2]; clear e1 e2
    have h1' : i < 0 := by omega
    go_enter Try.func32, Try.ntmps32
    go_wp2
    go_ret2
    exact ⟨rfl, .inl rfl⟩

end Go.Proofs.Ytfcjihfnimefhaa
