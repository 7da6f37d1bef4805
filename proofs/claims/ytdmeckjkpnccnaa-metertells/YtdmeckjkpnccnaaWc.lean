/- Contracts: Within (both), and the document's Step, Cell, Sum. -/
import Derived.Test.YtdmeckjkpnccnaaWb
namespace Go.Proofs.Ytdmeckjkpnccnaa
open Go.RowKit

def fitB (a n s : Int) : Bool := decide (s ≤ a * (n + 1))
def withinB (s c n a b : Int) : Bool := mayB s c && (upB 1048576 n && (upB 1048576 a && (upB 1048576 b && (fitB a n s && fitB b n c))))

theorem upB_iff (t n : Int) : upB t n = true ↔ 0 ≤ n ∧ n ≤ t := by simp [upB]
theorem mul_bd (a n : Int) (h0 : 0 ≤ a) (h1 : a ≤ 1048576) (n0 : 0 ≤ n) (n1 : n ≤ 1048577) : 0 ≤ a * n ∧ a * n ≤ 1099512676352 := by
  refine ⟨Int.mul_nonneg h0 n0, ?_⟩
  have : a * n ≤ 1048576 * 1048577 := Int.mul_le_mul h1 n1 n0 (by omega)
  omega

set_option maxHeartbeats 2000000 in
theorem within_any (s c n a b : Int) (w : World) :
    Calls Try.prog 19 #[.agg #[.int .i64 s, .int .i64 c], .int .i64 n, .int .i64 a, .int .i64 b] w fun e w' => e = .returned (.bool (withinB s c n a b)) ∧ Below w.heap.size w w' := by
  unfold withinB
  cases hm : mayB s c
  · go_enter Try.func19, Try.ntmps19
    go_wp2_with (first | (go_at_call 12; refine (may_any _ _ _).mono ?_; rintro e w' ⟨rfl, rfl⟩) | (go_at_call 20; refine (upTo_any _ _ _).mono ?_; rintro e w' ⟨rfl, rfl⟩))
    go_ret
    refine ⟨by simp, ?_⟩
    go_grown
  cases h1 : upB 1048576 n
  · go_enter Try.func19, Try.ntmps19
    go_wp2_with (first | (go_at_call 12; refine (may_any _ _ _).mono ?_; rintro e w' ⟨rfl, rfl⟩) | (go_at_call 20; refine (upTo_any _ _ _).mono ?_; rintro e w' ⟨rfl, rfl⟩))
    go_ret
    refine ⟨by simp, ?_⟩
    go_grown
  cases h2 : upB 1048576 a
  · go_enter Try.func19, Try.ntmps19
    go_wp2_with (first | (go_at_call 12; refine (may_any _ _ _).mono ?_; rintro e w' ⟨rfl, rfl⟩) | (go_at_call 20; refine (upTo_any _ _ _).mono ?_; rintro e w' ⟨rfl, rfl⟩))
    go_ret
    refine ⟨by simp, ?_⟩
    go_grown
  cases h3 : upB 1048576 b
  · go_enter Try.func19, Try.ntmps19
    go_wp2_with (first | (go_at_call 12; refine (may_any _ _ _).mono ?_; rintro e w' ⟨rfl, rfl⟩) | (go_at_call 20; refine (upTo_any _ _ _).mono ?_; rintro e w' ⟨rfl, rfl⟩))
    go_ret
    refine ⟨by simp, ?_⟩
    go_grown
  obtain ⟨n0, n1⟩ := (upB_iff _ _).1 h1
  obtain ⟨a0, a1⟩ := (upB_iff _ _).1 h2
  obtain ⟨b0, b1⟩ := (upB_iff _ _).1 h3
  obtain ⟨p0, p1⟩ := mul_bd a (n + 1) a0 a1 (by omega) (by omega)
  obtain ⟨q0, q1⟩ := mul_bd b (n + 1) b0 b1 (by omega) (by omega)
  unfold fitB
  by_cases k1 : s ≤ a * (n + 1)
  · by_cases k2 : c ≤ b * (n + 1)
    all_goals
      go_enter Try.func19, Try.ntmps19
      go_wp2_with (first | (go_at_call 12; refine (may_any _ _ _).mono ?_; rintro e w' ⟨rfl, rfl⟩) | (go_at_call 20; refine (upTo_any _ _ _).mono ?_; rintro e w' ⟨rfl, rfl⟩))
      go_ret
      refine ⟨by simp [k1, k2], ?_⟩
      go_grown
  · go_enter Try.func19, Try.ntmps19
    go_wp2_with (first | (go_at_call 12; refine (may_any _ _ _).mono ?_; rintro e w' ⟨rfl, rfl⟩) | (go_at_call 20; refine (upTo_any _ _ _).mono ?_; rintro e w' ⟨rfl, rfl⟩))
    go_ret
    refine ⟨by simp; omega, ?_⟩
    go_grown


theorem fit_alt (a n s : Int) : fitB a n s = decide (s ≤ a * n + a) := by
  unfold fitB; rw [Int.mul_add, Int.mul_one]

set_option maxHeartbeats 2000000 in
theorem rwithin_no (s c n a b : Int) (w : World) (h : withinB s c n a b = false) (h1 : (mayB s c && (upB 1048576 n && (upB 1048576 a && upB 1048576 b))) = false) :
    Calls Try.prog 11 #[.agg #[.int .i64 s, .int .i64 c], .int .i64 n, .int .i64 a, .int .i64 b] w fun e w' => e = .returned (.bool (withinB s c n a b)) ∧ Below w.heap.size w w' := by
  rw [h]; clear h
  cases hm : mayB s c
  · clear h1
    go_enter Try.func11, Try.ntmps11
    go_wp2_with (go_at_call 10; refine (rmay_any _ _ _).mono ?_; rintro e w' ⟨rfl, rfl⟩)
    go_ret
    refine ⟨by simp, ?_⟩
    go_grown
  rw [hm] at h1
  by_cases n0 : n < 0
  · clear h1
    go_enter Try.func11, Try.ntmps11
    go_wp2_with (go_at_call 10; refine (rmay_any _ _ _).mono ?_; rintro e w' ⟨rfl, rfl⟩)
    go_ret
    refine ⟨by simp, ?_⟩
    go_grown
  by_cases n1 : 1048576 < n
  · clear h1
    go_enter Try.func11, Try.ntmps11
    go_wp2_with (go_at_call 10; refine (rmay_any _ _ _).mono ?_; rintro e w' ⟨rfl, rfl⟩)
    go_ret
    refine ⟨by simp, ?_⟩
    go_grown
  by_cases a0 : a < 0
  · clear h1
    go_enter Try.func11, Try.ntmps11
    go_wp2_with (go_at_call 10; refine (rmay_any _ _ _).mono ?_; rintro e w' ⟨rfl, rfl⟩)
    go_ret
    refine ⟨by simp, ?_⟩
    go_grown
  by_cases a1 : 1048576 < a
  · clear h1
    go_enter Try.func11, Try.ntmps11
    go_wp2_with (go_at_call 10; refine (rmay_any _ _ _).mono ?_; rintro e w' ⟨rfl, rfl⟩)
    go_ret
    refine ⟨by simp, ?_⟩
    go_grown
  by_cases b0 : b < 0
  · clear h1
    go_enter Try.func11, Try.ntmps11
    go_wp2_with (go_at_call 10; refine (rmay_any _ _ _).mono ?_; rintro e w' ⟨rfl, rfl⟩)
    go_ret
    refine ⟨by simp, ?_⟩
    go_grown
  by_cases b1 : 1048576 < b
  · clear h1
    go_enter Try.func11, Try.ntmps11
    go_wp2_with (go_at_call 10; refine (rmay_any _ _ _).mono ?_; rintro e w' ⟨rfl, rfl⟩)
    go_ret
    refine ⟨by simp, ?_⟩
    go_grown
  exfalso
  have k1 : upB 1048576 n = true := (upB_iff _ _).2 ⟨by omega, by omega⟩
  have k2 : upB 1048576 a = true := (upB_iff _ _).2 ⟨by omega, by omega⟩
  have k3 : upB 1048576 b = true := (upB_iff _ _).2 ⟨by omega, by omega⟩
  simp [k1, k2, k3] at h1

set_option maxHeartbeats 2000000 in
theorem rwithin_any (s c n a b : Int) (w : World) :
    Calls Try.prog 11 #[.agg #[.int .i64 s, .int .i64 c], .int .i64 n, .int .i64 a, .int .i64 b] w fun e w' => e = .returned (.bool (withinB s c n a b)) ∧ Below w.heap.size w w' := by
  cases h1 : (mayB s c && (upB 1048576 n && (upB 1048576 a && upB 1048576 b)))
  · refine rwithin_no s c n a b w ?_ h1
    unfold withinB
    revert h1
    cases mayB s c <;> cases upB 1048576 n <;> cases upB 1048576 a <;> cases upB 1048576 b <;> simp
  simp only [Bool.and_eq_true] at h1
  obtain ⟨hm, h2, h3, h4⟩ := h1
  obtain ⟨n0, n1⟩ := (upB_iff _ _).1 h2
  obtain ⟨a0, a1⟩ := (upB_iff _ _).1 h3
  obtain ⟨b0, b1⟩ := (upB_iff _ _).1 h4
  have e1 : withinB s c n a b = (decide (s ≤ a * n + a) && decide (c ≤ b * n + b)) := by
    unfold withinB; rw [hm, h2, h3, h4, fit_alt, fit_alt]; rfl
  rw [e1]; clear e1 h2 h3 h4
  obtain ⟨p0, p1⟩ := mul_bd a n a0 a1 (by omega) (by omega)
  obtain ⟨q0, q1⟩ := mul_bd b n b0 b1 (by omega) (by omega)
  by_cases k1 : s ≤ a * n + a
  · by_cases k2 : c ≤ b * n + b
    all_goals
      go_enter Try.func11, Try.ntmps11
      go_wp2_with (go_at_call 10; refine (rmay_any _ _ _).mono ?_; rintro e w' ⟨rfl, rfl⟩)
      go_ret
      refine ⟨by simp [k1, k2], ?_⟩
      go_grown
  · go_enter Try.func11, Try.ntmps11
    go_wp2_with (go_at_call 10; refine (rmay_any _ _ _).mono ?_; rintro e w' ⟨rfl, rfl⟩)
    go_ret
    refine ⟨by simp; omega, ?_⟩
    go_grown

set_option maxHeartbeats 1000000 in
theorem rstep_any (s c n : Int) (w : World) :
    Calls Try.prog 14 #[.agg #[.int .i64 s, .int .i64 c], .int .i64 n] w fun e w' => e = .returned (.agg #[.int .i64 (stepI s c n), .int .i64 c]) ∧ Below w.heap.size w w' := by
  cases hm : mayB s c
  · have e1 : stepI s c n = s := by simp [stepI, hm]
    rw [e1]; clear e1
    go_enter Try.func14, Try.ntmps14
    go_wp2_with (go_at_call 10; refine (rmay_any _ _ _).mono ?_; rintro e w' ⟨rfl, rfl⟩)
    refine bodyPost_ret (v := .agg #[.int .i64 s, .int .i64 c]) (by simp [results, Try.results14, go_sem]) rfl ⟨rfl, ?_⟩
    go_grown
  · by_cases hn : 0 ≤ n
    · have e1 : stepI s c n = moreI s n := by simp [stepI, hm, hn]
      rw [e1]; clear e1
      obtain ⟨s0, s1, c0, c1⟩ := (mayB_iff s c).1 hm
      go_enter Try.func14, Try.ntmps14
      go_wp2_with (first | (go_at_call 10; refine (rmay_any _ _ _).mono ?_; rintro e w' ⟨rfl, rfl⟩) | (go_at_call 22; refine (more_any _ _ _ s0 s1 hn).mono ?_; rintro e w' ⟨rfl, rfl⟩))
      refine bodyPost_ret (v := .agg #[.int .i64 (moreI s n), .int .i64 c]) (by simp [results, Try.results14, go_sem]) rfl ⟨rfl, ?_⟩
      go_grown
    · have e1 : stepI s c n = s := by simp [stepI, hn]
      rw [e1]; clear e1
      go_enter Try.func14, Try.ntmps14
      go_wp2_with (go_at_call 10; refine (rmay_any _ _ _).mono ?_; rintro e w' ⟨rfl, rfl⟩)
      refine bodyPost_ret (v := .agg #[.int .i64 s, .int .i64 c]) (by simp [results, Try.results14, go_sem]) rfl ⟨rfl, ?_⟩
      go_grown

set_option maxHeartbeats 1000000 in
theorem rcell_any (s c n : Int) (w : World) :
    Calls Try.prog 16 #[.agg #[.int .i64 s, .int .i64 c], .int .i64 n] w fun e w' => e = .returned (.agg #[.int .i64 s, .int .i64 (cellI s c n)]) ∧ Below w.heap.size w w' := by
  cases hm : mayB s c
  · have e1 : cellI s c n = c := by simp [cellI, hm]
    rw [e1]; clear e1
    go_enter Try.func16, Try.ntmps16
    go_wp2_with (go_at_call 10; refine (rmay_any _ _ _).mono ?_; rintro e w' ⟨rfl, rfl⟩)
    refine bodyPost_ret (v := .agg #[.int .i64 s, .int .i64 c]) (by simp [results, Try.results16, go_sem]) rfl ⟨rfl, ?_⟩
    go_grown
  · by_cases hn : 0 ≤ n
    · have e1 : cellI s c n = moreI c n := by simp [cellI, hm, hn]
      rw [e1]; clear e1
      obtain ⟨s0, s1, c0, c1⟩ := (mayB_iff s c).1 hm
      go_enter Try.func16, Try.ntmps16
      go_wp2_with (first | (go_at_call 10; refine (rmay_any _ _ _).mono ?_; rintro e w' ⟨rfl, rfl⟩) | (go_at_call 22; refine (more_any _ _ _ c0 c1 hn).mono ?_; rintro e w' ⟨rfl, rfl⟩))
      refine bodyPost_ret (v := .agg #[.int .i64 s, .int .i64 (moreI c n)]) (by simp [results, Try.results16, go_sem]) rfl ⟨rfl, ?_⟩
      go_grown
    · have e1 : cellI s c n = c := by simp [cellI, hn]
      rw [e1]; clear e1
      go_enter Try.func16, Try.ntmps16
      go_wp2_with (go_at_call 10; refine (rmay_any _ _ _).mono ?_; rintro e w' ⟨rfl, rfl⟩)
      refine bodyPost_ret (v := .agg #[.int .i64 s, .int .i64 c]) (by simp [results, Try.results16, go_sem]) rfl ⟨rfl, ?_⟩
      go_grown

set_option maxHeartbeats 2000000 in
theorem rsum_any (s c s' c' : Int) (w : World) :
    Calls Try.prog 18 #[.agg #[.int .i64 s, .int .i64 c], .agg #[.int .i64 s', .int .i64 c']] w fun e w' =>
      e = .returned (.agg #[.int .i64 (sumI (mayB s c && mayB s' c') s s'), .int .i64 (sumI (mayB s c && mayB s' c') c c')]) ∧ Below w.heap.size w w' := by
  cases hm : mayB s c
  · go_enter Try.func18, Try.ntmps18
    go_wp2_with (go_at_call 10; refine (rmay_any _ _ _).mono ?_; rintro e w' ⟨rfl, rfl⟩)
    refine bodyPost_ret (v := .agg #[.int .i64 0, .int .i64 0]) (by simp [results, Try.results18, go_sem]) rfl ⟨by simp [sumI], ?_⟩
    go_grown
  · cases hm' : mayB s' c'
    · go_enter Try.func18, Try.ntmps18
      go_wp2_with (go_at_call 10; refine (rmay_any _ _ _).mono ?_; rintro e w' ⟨rfl, rfl⟩)
      refine bodyPost_ret (v := .agg #[.int .i64 0, .int .i64 0]) (by simp [results, Try.results18, go_sem]) rfl ⟨by simp [sumI], ?_⟩
      go_grown
    · obtain ⟨s0, s1, c0, c1⟩ := (mayB_iff s c).1 hm
      obtain ⟨s0', s1', c0', c1'⟩ := (mayB_iff s' c').1 hm'
      go_enter Try.func18, Try.ntmps18
      go_wp2_with (go_at_call 10; refine (rmay_any _ _ _).mono ?_; rintro e w' ⟨rfl, rfl⟩)
      go_region_held3 (fun w' => w'.cell? ⟨w.heap.size, 0, none⟩ = some (.int .i64 s) ∧ w'.cell? ⟨w.heap.size, 1, none⟩ = some (.int .i64 c) ∧ w'.cell? ⟨w.heap.size + 1, 0, none⟩ = some (.int .i64 s') ∧ w'.cell? ⟨w.heap.size + 1, 1, none⟩ = some (.int .i64 c')) (simp [go_sem])
        (first | (go_at_call 22; refine (more_any _ _ _ (by omega) (by omega) (by omega)).mono ?_; rintro e w' ⟨rfl, rfl⟩))
      go_wp2
      refine bodyPost_ret (v := .agg #[.int .i64 (moreI s s'), .int .i64 (moreI c c')]) (by simp [results, Try.results18, go_sem]) rfl ⟨by simp [sumI], ?_⟩
      go_grown

end Go.Proofs.Ytdmeckjkpnccnaa
