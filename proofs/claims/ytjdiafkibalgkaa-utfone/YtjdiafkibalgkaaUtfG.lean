/- The law UtfParts: its mathematics and its walk. -/
import Derived.Test.YtjdiafkibalgkaaUtfF
namespace Go.Proofs.Ytjdiafkibalgkaa
open Go.RowKit

theorem bad_of (s : ByteArray) (v : Int) (hs : s.size ≤ 1000000000) (h : badI s.data.toList = v) (w : World) :
    Calls Try.prog 15 #[.string s] w fun e w' => e = .returned (.int .i64 v) ∧ Below w.heap.size w w' := by rw [← h]; exact bad_any s hs w
theorem may_of (s : ByteArray) (v : Bool) (hs : s.size ≤ 1000000000) (h : mayB s.data.toList = v) (w : World) :
    Calls Try.prog 17 #[.string s] w fun e w' => e = .returned (.bool v) ∧ Below w.heap.size w w' := by rw [← h]; exact may_any s hs w

theorem badI_all {l : List UInt8} (h : thru l = l.length) : badI l = -1 := by rw [badI, if_pos h]
theorem badI_at {l : List UInt8} (h : thru l ≠ l.length) : badI l = thru l := by rw [badI, if_neg h]
theorem mayB_all {l : List UInt8} (h : thru l = l.length) : mayB l = true := by rw [mayB, badI_all h]; rfl
theorem mayB_at {l : List UInt8} (h : thru l ≠ l.length) : mayB l = false := by rw [mayB, badI_at h]; simp

/-- Where the sum of both stops, if the first stops ahead of its end. -/
theorem thru_stay {l : List UInt8} (t : List UInt8) (h : thru l + 3 < l.length) : thru (l ++ t) = thru l := by
  rw [thru_more]
  have h0 := thru_end l
  have := nxt_stay h0 (by simp; omega) t
  rw [thru_stop this]; rfl

set_option maxHeartbeats 4000000 in
theorem parts_any (a b : ByteArray) (w : World) (ha : a.size ≤ 9223372036854775807) (hb : b.size ≤ 9223372036854775807) :
    Calls Try.prog 5 #[.string a, .string b] w fun e w' => e = .returned (.bool true) ∧ Below w.heap.size w w' := by
  by_cases ha' : 600 < a.size
  · go_enter Try.func5, Try.ntmps5
    go_wp2_with (first | (go_at_call 9; refine (awake_any _).mono ?_; rintro e w1 ⟨rfl, hb1⟩))
    go_ret
    exact ⟨by simp, hb1⟩
  by_cases hb' : 600 < b.size
  · go_enter Try.func5, Try.ntmps5
    go_wp2_with (first | (go_at_call 9; refine (awake_any _).mono ?_; rintro e w1 ⟨rfl, hb1⟩))
    go_ret
    exact ⟨by simp, hb1⟩
  have ha2 : a.size ≤ 600 := by omega
  have hb2 : b.size ≤ 600 := by omega
  clear ha hb
  have hz2 : (a ++ b).size ≤ 1200 := by simp; omega
  have hadd1 : ∀ w, (Op.stringOp .add a b).run Try.prog w = .ok (.string (a ++ b)) w := fun w => run_string_add_sum w _ _ (by omega)
  have hla := Lib.size_eq a
  have hlb := Lib.size_eq b
  have hlab : (a ++ b).data.toList = a.data.toList ++ b.data.toList := toList_app a b
  by_cases h : thru a.data.toList = a.data.toList.length
  · have c1 := fun w => bad_of a (-1) (by omega) (badI_all h) w
    have m1 := fun w => may_of a true (by omega) (mayB_all h) w
    have hs := thru_append h b.data.toList
    by_cases k : thru b.data.toList = b.data.toList.length
    · have c2 := fun w => bad_of b (-1) (by omega) (badI_all k) w
      have c3 := fun w => bad_of (a ++ b) (-1) (by omega) (by rw [hlab]; exact badI_all (by rw [hs, k]; simp)) w
      have C1 := Lib.hid c1; have C2 := Lib.hid c2; have C3 := Lib.hid c3; have M1 := Lib.hid m1
      clear c1 c2 c3 m1 hla hlb hlab h k hs
      go_enter Try.func5, Try.ntmps5
      go_wp2_with fail
      refine (awake_any _).mono ?_; rintro e w1 ⟨rfl, hb1⟩
      go_wp2_with fail
      refine (C1.out _).mono ?_; rintro e w2 ⟨rfl, hb2⟩
      go_wp2_with fail
      refine (C2.out _).mono ?_; rintro e w3 ⟨rfl, hb3⟩
      go_wp2_with fail
      refine (C3.out _).mono ?_; rintro e w4 ⟨rfl, hb4⟩
      go_wp2_with fail
      refine (M1.out _).mono ?_; rintro e w5 ⟨rfl, hb5⟩
      go_wp2
      go_ret
      exact ⟨by simp, bel_trans (bel_trans (bel_trans (bel_trans hb1 hb2) hb3) hb4) hb5⟩
    · have c2 := fun w => bad_of b _ (by omega) (badI_at k) w
      have c3 := fun w => bad_of (a ++ b) (a.size + thru b.data.toList : Nat) (by omega) (by rw [hlab, badI_at (by rw [hs]; simp; omega), hs, hla]) w
      have hle := thru_le b.data.toList
      rw [← hlb] at hle
      have C1 := Lib.hid c1; have C2 := Lib.hid c2; have C3 := Lib.hid c3; have M1 := Lib.hid m1
      clear c1 c2 c3 m1 hla hlb hlab h k hs
      generalize thru b.data.toList = t at *
      have t1 : ((t : Int) == -1) = false := by first | (simp; done) | (simp; omega)
      have t2 : ((a.size : Int) + t == (a.size : Int) + t) = true := by simp
      go_enter Try.func5, Try.ntmps5
      go_wp2_with fail
      refine (awake_any _).mono ?_; rintro e w1 ⟨rfl, hb1⟩
      go_wp2_with fail
      refine (C1.out _).mono ?_; rintro e w2 ⟨rfl, hb2⟩
      go_wp2_with fail
      refine (C2.out _).mono ?_; rintro e w3 ⟨rfl, hb3⟩
      go_wp2_with fail
      refine (C3.out _).mono ?_; rintro e w4 ⟨rfl, hb4⟩
      go_wp2_with fail
      refine (M1.out _).mono ?_; rintro e w5 ⟨rfl, hb5⟩
      go_wp2
      go_ret
      exact ⟨by simp, bel_trans (bel_trans (bel_trans (bel_trans hb1 hb2) hb3) hb4) hb5⟩
  · have hle := thru_le a.data.toList
    have hend := thru_take a.data.toList
    have c1 := fun w => bad_of a _ (by omega) (badI_at h) w
    have m1 := fun w => may_of a false (by omega) (mayB_at h) w
    have hx : (a.extract 0 (thru a.data.toList)).data.toList = a.data.toList.take (thru a.data.toList) := by rw [Lib.extract_data]; simp
    have m2 := fun w => may_of (a.extract 0 (thru a.data.toList)) true (by simp; omega) (by rw [hx]; exact mayB_all (by rw [hend]; simp; omega)) w
    have hmore := thru_more a.data.toList b.data.toList
    have hleab := thru_le (a.data.toList ++ b.data.toList)
    have hlt : thru a.data.toList < a.size := by omega
    by_cases h3 : thru a.data.toList + 3 < a.size
    · have hst := thru_stay b.data.toList (l := a.data.toList) (by omega)
      have c3 := fun w => bad_of (a ++ b) (thru a.data.toList) (by omega) (by rw [hlab, badI_at (by rw [hst]; simp; omega), hst]) w
      have C1 := Lib.hid c1; have M2 := Lib.hid m2; have C3 := Lib.hid c3; have M1 := Lib.hid m1
      clear c1 m2 c3 m1 hla hlb hlab h hst hmore hleab hx hend hle
      generalize thru a.data.toList = t at *
      have t1 : ((t : Int) == -1) = false := by first | (simp; done) | (simp; omega)
      have t3 : decide ((t : Int) < (a.size : Int) - 3) = true := by first | (simp; done) | (simp; omega)
      go_enter Try.func5, Try.ntmps5
      go_wp2_with fail
      refine (awake_any _).mono ?_; rintro e w1 ⟨rfl, hb1⟩
      go_wp2_with fail
      refine (C1.out _).mono ?_; rintro e w2 ⟨rfl, hb2⟩
      go_wp2_with fail
      refine (M2.out _).mono ?_; rintro e w3 ⟨rfl, hb3⟩
      go_wp2_with fail
      refine (M1.out _).mono ?_; rintro e w4 ⟨rfl, hb4⟩
      go_wp2_with fail
      refine (C3.out _).mono ?_; rintro e w5 ⟨rfl, hb5⟩
      go_wp2
      go_ret
      exact ⟨by simp, bel_trans (bel_trans (bel_trans (bel_trans hb1 hb2) hb3) hb4) hb5⟩
    · by_cases k : thru (a.data.toList ++ b.data.toList) = (a.data.toList ++ b.data.toList).length
      · have c3 := fun w => bad_of (a ++ b) (-1) (by omega) (by rw [hlab]; exact badI_all k) w
        have m3 := fun w => may_of (a ++ b) true (by omega) (by rw [hlab]; exact mayB_all k) w
        have C1 := Lib.hid c1; have M2 := Lib.hid m2; have C3 := Lib.hid c3; have M1 := Lib.hid m1; have M3 := Lib.hid m3
        clear c1 m2 c3 m1 m3 hla hlb hlab h hmore hleab hx hend hle k
        generalize thru a.data.toList = t at *
        have t1 : ((t : Int) == -1) = false := by first | (simp; done) | (simp; omega)
        have t3 : decide ((t : Int) < (a.size : Int) - 3) = false := by first | (simp; done) | (simp; omega)
        have t4 : decide ((a.size : Int) - 3 ≤ (t : Int)) = true := by first | (simp; done) | (simp; omega)
        have t5 : decide ((t : Int) ≤ -1) = false := by first | (simp; done) | (simp; omega)
        go_enter Try.func5, Try.ntmps5
        go_wp2_with fail
        refine (awake_any _).mono ?_; rintro e w1 ⟨rfl, hb1⟩
        go_wp2_with fail
        refine (C1.out _).mono ?_; rintro e w2 ⟨rfl, hb2⟩
        go_wp2_with fail
        refine (M2.out _).mono ?_; rintro e w3 ⟨rfl, hb3⟩
        go_wp2_with fail
        refine (M1.out _).mono ?_; rintro e w4 ⟨rfl, hb4⟩
        go_wp2_with fail
        refine (C3.out _).mono ?_; rintro e w5 ⟨rfl, hb5⟩
        go_wp2_with fail
        refine (M3.out _).mono ?_; rintro e w6 ⟨rfl, hb6⟩
        go_wp2
        go_ret
        exact ⟨by simp, bel_trans (bel_trans (bel_trans (bel_trans (bel_trans hb1 hb2) hb3) hb4) hb5) hb6⟩
      · have c3 := fun w => bad_of (a ++ b) (thru (a.data.toList ++ b.data.toList)) (by omega) (by rw [hlab]; exact badI_at k) w
        have C1 := Lib.hid c1; have M2 := Lib.hid m2; have C3 := Lib.hid c3; have M1 := Lib.hid m1
        have hge : thru a.data.toList ≤ thru (a.data.toList ++ b.data.toList) := by omega
        clear c1 m2 c3 m1 hla hlb hlab h hmore hleab hx hend hle k
        generalize thru (a.data.toList ++ b.data.toList) = u at *
        generalize thru a.data.toList = t at *
        have t1 : ((t : Int) == -1) = false := by first | (simp; done) | (simp; omega)
        have t3 : decide ((t : Int) < (a.size : Int) - 3) = false := by first | (simp; done) | (simp; omega)
        have t4 : decide ((a.size : Int) - 3 ≤ (t : Int)) = true := by first | (simp; done) | (simp; omega)
        have t6 : decide (t ≤ u) = true := by simp; exact hge
        go_enter Try.func5, Try.ntmps5
        go_wp2_with fail
        refine (awake_any _).mono ?_; rintro e w1 ⟨rfl, hb1⟩
        go_wp2_with fail
        refine (C1.out _).mono ?_; rintro e w2 ⟨rfl, hb2⟩
        go_wp2_with fail
        refine (M2.out _).mono ?_; rintro e w3 ⟨rfl, hb3⟩
        go_wp2_with fail
        refine (M1.out _).mono ?_; rintro e w4 ⟨rfl, hb4⟩
        go_wp2_with fail
        refine (C3.out _).mono ?_; rintro e w5 ⟨rfl, hb5⟩
        go_wp2
        go_ret
        exact ⟨by simp, bel_trans (bel_trans (bel_trans (bel_trans hb1 hb2) hb3) hb4) hb5⟩

end Go.Proofs.Ytjdiafkibalgkaa
