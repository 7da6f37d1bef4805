/- The walk of the law MeterWithin. -/
import Derived.Test.YtdmeckjkpnccnaaWd
namespace Go.Proofs.Ytdmeckjkpnccnaa
open Go.RowKit

theorem within_iff (s c n a b : Int) : withinB s c n a b = true ↔ mayB s c = true ∧ (0 ≤ n ∧ n ≤ 1048576) ∧ (0 ≤ a ∧ a ≤ 1048576) ∧ (0 ≤ b ∧ b ≤ 1048576) ∧ s ≤ a * (n + 1) ∧ c ≤ b * (n + 1) := by
  simp only [withinB, fitB, Bool.and_eq_true, upB_iff, decide_eq_true_eq]

theorem zero_within {n a b : Int} (n0 : 0 ≤ n) (n1 : n ≤ 524288) (a0 : 0 ≤ a) (a1 : a ≤ 524288) (b0 : 0 ≤ b) (b1 : b ≤ 524288) : withinB 0 0 n a b = true := by
  rw [within_iff]
  exact ⟨by decide, ⟨n0, by omega⟩, ⟨a0, by omega⟩, ⟨b0, by omega⟩, Int.mul_nonneg a0 (by omega), Int.mul_nonneg b0 (by omega)⟩

theorem mul_mono {a b n m : Int} (h : a ≤ b) (hn : n ≤ m) (a0 : 0 ≤ a) (m0 : 0 ≤ m) : a * n ≤ b * m :=
  Int.le_trans (Int.mul_le_mul_of_nonneg_left hn a0) (Int.mul_le_mul_of_nonneg_right h m0)

theorem within_more {s c n a b s' n' a' b' : Int} (h : withinB s c n a b = true) (hs : s' ≤ s) (s0 : 0 ≤ s') (hn : n ≤ n') (ha : a ≤ a') (hb : b ≤ b')
    (n1 : n' ≤ 1048576) (a1 : a' ≤ 1048576) (b1 : b' ≤ 1048576) : withinB s' c n' a' b' = true := by
  rw [within_iff] at h ⊢
  obtain ⟨hm, ⟨x1, x2⟩, ⟨x3, x4⟩, ⟨x5, x6⟩, x7, x8⟩ := h
  rw [mayB_iff] at hm ⊢
  have p1 := mul_mono ha (show n + 1 ≤ n' + 1 by omega) x3 (by omega)
  have p2 := mul_mono hb (show n + 1 ≤ n' + 1 by omega) x5 (by omega)
  refine ⟨⟨s0, by omega, by omega, by omega⟩, ⟨by omega, n1⟩, ⟨by omega, a1⟩, ⟨by omega, b1⟩, by omega, by omega⟩

set_option maxHeartbeats 2000000 in
theorem withinlaw_any (s c n a b k : Int) (w : World) :
    Calls Try.prog 6 #[.agg #[.int .i64 s, .int .i64 c], .int .i64 n, .int .i64 a, .int .i64 b, .int .i64 k] w fun e w' => e = .returned (.bool true) ∧ Below w.heap.size w w' := by
  go_enter Try.func6, Try.ntmps6
  go_wp2_with fail
  refine (awake_any _).mono ?_
  rintro e w1 ⟨rfl, hb1⟩
  have x0 : w1.cell? ⟨w.heap.size, 0, none⟩ = some (.int .i64 s) := below_cell' hb1 (by simp [go_sem])
  have x1 : w1.cell? ⟨w.heap.size, 1, none⟩ = some (.int .i64 c) := below_cell' hb1 (by simp [go_sem])
  have z1 : w.heap.size < w1.heap.size := World.block_lt_of_cell? w1 _ x0
  have hb : Below w.heap.size w w1 := bel_trans (bel_alloc (Below.refl _ _) _) hb1
  clear hb1
  by_cases n0 : n < 0
  · go_wp2_with fail
    go_ret
    exact ⟨by simp, hb⟩
  by_cases a0 : a < 0
  · go_wp2_with fail
    go_ret
    exact ⟨by simp, hb⟩
  by_cases b0 : b < 0
  · go_wp2_with fail
    go_ret
    exact ⟨by simp, hb⟩
  by_cases n1 : 524288 < n
  · by_cases k0 : k < 0
    all_goals
      go_wp2_with fail
      go_ret
      exact ⟨by simp, hb⟩
  by_cases a1 : 524288 < a
  · by_cases k0 : k < 0
    all_goals
      go_wp2_with fail
      go_ret
      exact ⟨by simp, hb⟩
  by_cases b1 : 524288 < b
  · by_cases k0 : k < 0
    all_goals
      go_wp2_with fail
      go_ret
      exact ⟨by simp, hb⟩
  have e0 : withinB 0 0 n a b = true := zero_within (by omega) (by omega) (by omega) (by omega) (by omega) (by omega)
  by_cases k0 : k < 0
  · go_wp2_with fail
    refine (within_any _ _ _ _ _ _).mono ?_
    rintro e w2 ⟨rfl, hb2⟩
    go_wp2_with fail
    go_ret
    exact ⟨by simp, bel_trans hb hb2⟩
  by_cases k1 : 524288 < k
  · go_wp2_with fail
    refine (within_any _ _ _ _ _ _).mono ?_
    rintro e w2 ⟨rfl, hb2⟩
    go_wp2_with fail
    go_ret
    exact ⟨by simp, bel_trans hb hb2⟩
  cases hw : withinB s c n a b
  · go_wp2_with fail
    refine (within_any _ _ _ _ _ _).mono ?_
    rintro e w2 ⟨rfl, hb2⟩
    go_wp2_with fail
    refine (within_any _ _ _ _ _ _).mono ?_
    rintro e w3 ⟨rfl, hb3⟩
    go_wp2_with fail
    go_ret
    exact ⟨by simp, bel_trans (bel_trans hb hb2) hb3⟩
  have hi := (within_iff s c n a b).1 hw
  obtain ⟨hm, _, _, _, q1, q2⟩ := hi
  obtain ⟨s0, s1, c0, c1⟩ := (mayB_iff s c).1 hm
  have f1 : withinB s c (n + k) a b = true := within_more hw (Int.le_refl _) s0 (by omega) (by omega) (by omega) (by omega) (by omega) (by omega)
  have f2 : withinB s c n (a + k) b = true := within_more hw (Int.le_refl _) s0 (by omega) (by omega) (by omega) (by omega) (by omega) (by omega)
  have f3 : withinB s c n a (b + k) = true := within_more hw (Int.le_refl _) s0 (by omega) (by omega) (by omega) (by omega) (by omega) (by omega)
  have f4 : withinB (s / 2) c n a b = true := within_more hw (by omega) (by omega) (by omega) (by omega) (by omega) (by omega) (by omega) (by omega)
  obtain ⟨p0, p1⟩ := mul_bd a (n + 1) (by omega) (by omega) (by omega) (by omega)
  clear hm e0
  go_wp2_with fail
  refine (within_any _ _ _ _ _ _).mono ?_
  rintro e w2 ⟨rfl, hb2⟩
  have y0 := below_cell' hb2 x0
  have y1 := below_cell' hb2 x1
  have z2 : w.heap.size < w2.heap.size := World.block_lt_of_cell? w2 _ y0
  have hc2 := bel_trans hb hb2
  clear x0 x1 z1 hb hb2
  go_wp2_with fail
  refine (within_any _ _ _ _ _ _).mono ?_
  rintro e w3 ⟨rfl, hb3⟩
  have t0 : w3.cell? ⟨w.heap.size, 0, none⟩ = some (.int .i64 s) := below_cell' hb3 (by simp [go_sem, *])
  have t1 : w3.cell? ⟨w.heap.size, 1, none⟩ = some (.int .i64 c) := below_cell' hb3 (by simp [go_sem, *])
  have t2 : w3.cell? ⟨w2.heap.size, 0, none⟩ = some (.int .i64 (s / 2)) := below_cell' hb3 (by simp [go_sem])
  have t3 : w3.cell? ⟨w2.heap.size, 1, none⟩ = some (.int .i64 c) := below_cell' hb3 (by simp [go_sem])
  have hc3 := bel_trans (bel_alloc hc2 _) hb3
  clear y0 y1 z2 hc2 hb3
  go_wp2_with fail
  refine (within_any _ _ _ _ _ _).mono ?_
  rintro e w4 ⟨rfl, hb4⟩
  have u0 := below_cell' hb4 t0
  have u1 := below_cell' hb4 t1
  have u2 := below_cell' hb4 t2
  have u3 := below_cell' hb4 t3
  have hc4 := bel_trans hc3 hb4
  clear t0 t1 t2 t3 hc3 hb4
  go_wp2_with fail
  refine (within_any _ _ _ _ _ _).mono ?_
  rintro e w5 ⟨rfl, hb5⟩
  have v0 := below_cell' hb5 u0
  have v1 := below_cell' hb5 u1
  have v2 := below_cell' hb5 u2
  have v3 := below_cell' hb5 u3
  have hc5 := bel_trans hc4 hb5
  clear u0 u1 u2 u3 hc4 hb5
  go_wp2_with fail
  refine (within_any _ _ _ _ _ _).mono ?_
  rintro e w6 ⟨rfl, hb6⟩
  have r0 := below_cell' hb6 v0
  have hc6 := bel_trans hc5 hb6
  clear v0 v1 v2 v3 hc5 hb6
  have q3 : decide (s ≤ a * (n + 1)) = true := by simpa using q1
  go_wp2_with fail
  go_ret
  exact ⟨by simp, hc6⟩

end Go.Proofs.Ytdmeckjkpnccnaa
