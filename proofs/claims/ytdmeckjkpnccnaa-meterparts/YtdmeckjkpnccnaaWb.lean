/- Contracts of the other functions of package meter, and of the document's answers beside them. -/
import Derived.Test.YtdmeckjkpnccnaaWa
namespace Go.Proofs.Ytdmeckjkpnccnaa
open Go.RowKit

theorem mayB_false (s c : Int) (h : ¬ (0 ≤ s ∧ s ≤ 1099511627776 ∧ 0 ≤ c ∧ c ≤ 1099511627776)) : mayB s c = false := by
  rw [← Bool.not_eq_true, mayB_iff]; exact h

set_option maxHeartbeats 1000000 in
theorem cell_any (s c n : Int) (w : World) :
    Calls Try.prog 15 #[.agg #[.int .i64 s, .int .i64 c], .int .i64 n] w fun e w' => e = .returned (.agg #[.int .i64 s, .int .i64 (cellI s c n)]) ∧ Below w.heap.size w w' := by
  cases hm : mayB s c
  · have e1 : cellI s c n = c := by simp [cellI, hm]
    rw [e1]; clear e1
    go_enter Try.func15, Try.ntmps15
    go_wp2_with (go_at_call 12; refine (may_any _ _ _).mono ?_; rintro e w' ⟨rfl, rfl⟩)
    refine bodyPost_ret (v := .agg #[.int .i64 s, .int .i64 c]) (by simp [results, Try.results15, go_sem]) rfl ⟨rfl, ?_⟩
    repeat (first | exact Below.refl _ _ | with_reducible refine Below.alloc ?_ (by go_size) _ | with_reducible refine Below.setCell ?_ (by go_size) _ | with_reducible refine below_drewN ?_ _)
  · by_cases hn : 0 ≤ n
    · have e1 : cellI s c n = moreI c n := by simp [cellI, hm, hn]
      rw [e1]; clear e1
      have hmm := (mayB_iff s c).1 hm
      obtain ⟨s0, s1, c0, c1⟩ := hmm
      go_enter Try.func15, Try.ntmps15
      go_wp2_with (first | (go_at_call 12; refine (may_any _ _ _).mono ?_; rintro e w' ⟨rfl, rfl⟩) | (go_at_call 21; go_in) | (go_at_call 23; refine (add1_any _ _ _ c n _ (by simp [go_sem]) (by simp [go_sem]) (by simp [go_sem]) c0 c1 hn).mono ?_; rintro e w' ⟨rfl, k, rfl⟩))
      refine bodyPost_ret (v := .agg #[.int .i64 s, .int .i64 (moreI c n)]) (by simp [results, Try.results15, go_sem]) rfl ⟨rfl, ?_⟩
      repeat (first | exact Below.refl _ _ | with_reducible refine Below.alloc ?_ (by go_size) _ | with_reducible refine Below.setCell ?_ (by go_size) _ | with_reducible refine below_drewN ?_ _)
    · have e1 : cellI s c n = c := by simp [cellI, hn]
      rw [e1]; clear e1
      go_enter Try.func15, Try.ntmps15
      go_wp2_with (go_at_call 12; refine (may_any _ _ _).mono ?_; rintro e w' ⟨rfl, rfl⟩)
      refine bodyPost_ret (v := .agg #[.int .i64 s, .int .i64 c]) (by simp [results, Try.results15, go_sem]) rfl ⟨rfl, ?_⟩
      repeat (first | exact Below.refl _ _ | with_reducible refine Below.alloc ?_ (by go_size) _ | with_reducible refine Below.setCell ?_ (by go_size) _ | with_reducible refine below_drewN ?_ _)

/-- What Sum answers: of a pair of counts, when both meters may be. -/
def sumI (ok : Bool) (a b : Int) : Int := if ok = true then moreI a b else 0

set_option maxHeartbeats 2000000 in
theorem sum_any (s c s' c' : Int) (w : World) :
    Calls Try.prog 17 #[.agg #[.int .i64 s, .int .i64 c], .agg #[.int .i64 s', .int .i64 c']] w fun e w' =>
      e = .returned (.agg #[.int .i64 (sumI (mayB s c && mayB s' c') s s'), .int .i64 (sumI (mayB s c && mayB s' c') c c')]) ∧ Below w.heap.size w w' := by
  cases hm : mayB s c
  · go_enter Try.func17, Try.ntmps17
    go_wp2_with (go_at_call 12; refine (may_any _ _ _).mono ?_; rintro e w' ⟨rfl, rfl⟩)
    refine bodyPost_ret (v := .agg #[.int .i64 0, .int .i64 0]) (by simp [results, Try.results17, go_sem]) rfl ⟨by simp [sumI], ?_⟩
    repeat (first | exact Below.refl _ _ | with_reducible refine Below.alloc ?_ (by go_size) _ | with_reducible refine Below.setCell ?_ (by go_size) _ | with_reducible refine below_drewN ?_ _)
  · cases hm' : mayB s' c'
    · go_enter Try.func17, Try.ntmps17
      go_wp2_with (go_at_call 12; refine (may_any _ _ _).mono ?_; rintro e w' ⟨rfl, rfl⟩)
      refine bodyPost_ret (v := .agg #[.int .i64 0, .int .i64 0]) (by simp [results, Try.results17, go_sem]) rfl ⟨by simp [sumI], ?_⟩
      repeat (first | exact Below.refl _ _ | with_reducible refine Below.alloc ?_ (by go_size) _ | with_reducible refine Below.setCell ?_ (by go_size) _ | with_reducible refine below_drewN ?_ _)
    · obtain ⟨s0, s1, c0, c1⟩ := (mayB_iff s c).1 hm
      obtain ⟨s0', s1', c0', c1'⟩ := (mayB_iff s' c').1 hm'
      go_enter Try.func17, Try.ntmps17
      go_wp2_with (first | (go_at_call 12; refine (may_any _ _ _).mono ?_; rintro e w' ⟨rfl, rfl⟩) | (go_at_call 21; go_in))
      refine (add1_any _ _ _ s s' _ (by simp [go_sem]) (by simp [go_sem]) (by simp [go_sem]) s0 s1 s0').mono ?_
      rintro e w' ⟨rfl, k, rfl⟩
      go_wp2_with (first | (go_at_call 12; refine (may_any _ _ _).mono ?_; rintro e w' ⟨rfl, rfl⟩) | (go_at_call 21; go_in))
      refine (add1_any _ _ _ c c' _ (by simp [go_sem]) (by simp [go_sem]) (by simp [go_sem]) c0 c1 c0').mono ?_
      rintro e w' ⟨rfl, k2, rfl⟩
      go_wp2_with fail
      refine bodyPost_ret (v := .agg #[.int .i64 (moreI s s'), .int .i64 (moreI c c')]) (by simp [results, Try.results17, go_sem]) rfl ⟨by simp [sumI], ?_⟩
      repeat (first | exact Below.refl _ _ | with_reducible refine Below.alloc ?_ (by go_size) _ | with_reducible refine Below.setCell ?_ (by go_size) _ | with_reducible refine below_drewN ?_ _)

set_option maxHeartbeats 1000000 in
theorem rmay_any (s c : Int) (w : World) :
    Calls Try.prog 10 #[.agg #[.int .i64 s, .int .i64 c]] w fun e w' => e = .returned (.bool (mayB s c)) ∧ w' = w.alloc (.cells #[.int .i64 s, .int .i64 c] 23) := by
  by_cases h1 : 0 ≤ s
  · by_cases h2 : s ≤ 1099511627776
    · by_cases h3 : 0 ≤ c
      · by_cases h4 : c ≤ 1099511627776
        · have e1 : mayB s c = true := (mayB_iff s c).2 ⟨h1, h2, h3, h4⟩
          rw [e1]; clear e1
          go_enter Try.func10, Try.ntmps10
          go_wp2
          go_ret
          exact ⟨by simp, rfl⟩
        · have e1 : mayB s c = false := mayB_false s c (by omega)
          rw [e1]; clear e1
          go_enter Try.func10, Try.ntmps10
          go_wp2
          go_ret
          exact ⟨by simp, rfl⟩
      · have e1 : mayB s c = false := mayB_false s c (by omega)
        rw [e1]; clear e1
        go_enter Try.func10, Try.ntmps10
        go_wp2
        go_ret
        exact ⟨by simp, rfl⟩
    · have e1 : mayB s c = false := mayB_false s c (by omega)
      rw [e1]; clear e1
      go_enter Try.func10, Try.ntmps10
      go_wp2
      go_ret
      exact ⟨by simp, rfl⟩
  · have e1 : mayB s c = false := mayB_false s c (by omega)
    rw [e1]; clear e1
    go_enter Try.func10, Try.ntmps10
    go_wp2
    go_ret
    exact ⟨by simp, rfl⟩

set_option maxHeartbeats 400000 in
theorem more_any (h n : Int) (w : World) (h0 : 0 ≤ h) (h1 : h ≤ 1099511627776) (n0 : 0 ≤ n) :
    Calls Try.prog 22 #[.int .i64 h, .int .i64 n] w fun e w' => e = .returned (.int .i64 (moreI h n)) ∧ w = w' := by
  by_cases hlt : 1099511627776 - h < n
  · have hm : moreI h n = 1099511627776 := by simp [moreI, hlt]
    rw [hm]; clear hm
    go_enter Try.func22, Try.ntmps22
    go_wp2
    go_ret
    exact ⟨rfl, rfl⟩
  · have hm : moreI h n = h + n := by simp [moreI, hlt]
    rw [hm]; clear hm
    go_enter Try.func22, Try.ntmps22
    go_wp2
    go_ret
    exact ⟨rfl, rfl⟩

end Go.Proofs.Ytdmeckjkpnccnaa
