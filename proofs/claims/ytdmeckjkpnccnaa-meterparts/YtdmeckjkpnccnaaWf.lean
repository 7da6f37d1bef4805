/- The walk of the law MeterParts. -/
import Derived.Test.YtdmeckjkpnccnaaWd
namespace Go.Proofs.Ytdmeckjkpnccnaa
open Go.RowKit

theorem more_more {s a b : Int} (b0 : 0 ≤ b) : moreI s (a + b) = moreI (moreI s a) b := by
  unfold moreI; repeat' split
  all_goals omega
theorem more_ge {s a : Int} (h1 : s ≤ 1099511627776) (a0 : 0 ≤ a) : s ≤ moreI s a := by
  unfold moreI; split <;> omega

set_option maxHeartbeats 4000000 in
theorem parts_any (s c a b : Int) (w : World) :
    Calls Try.prog 4 #[.agg #[.int .i64 s, .int .i64 c], .int .i64 a, .int .i64 b] w fun e w' => e = .returned (.bool true) ∧ Below w.heap.size w w' := by
  go_enter Try.func4, Try.ntmps4
  go_wp2_with fail
  refine (awake_any _).mono ?_
  rintro e w1 ⟨rfl, hb1⟩
  have x0 : w1.cell? ⟨w.heap.size, 0, none⟩ = some (.int .i64 s) := below_cell' hb1 (by simp [go_sem])
  have x1 : w1.cell? ⟨w.heap.size, 1, none⟩ = some (.int .i64 c) := below_cell' hb1 (by simp [go_sem])
  have z1 : w.heap.size < w1.heap.size := World.block_lt_of_cell? w1 _ x0
  have hb : Below w.heap.size w w1 := bel_trans (bel_alloc (Below.refl _ _) _) hb1
  clear hb1
  cases hm : mayB s c
  · go_wp2_with (go_at_call 12; refine (may_any _ _ _).mono ?_; rintro e w' ⟨rfl, rfl⟩)
    go_ret
    exact ⟨by simp, bel_alloc hb _⟩
  by_cases k1 : a < 0
  · go_wp2_with (go_at_call 12; refine (may_any _ _ _).mono ?_; rintro e w' ⟨rfl, rfl⟩)
    go_ret
    exact ⟨by simp, bel_alloc hb _⟩
  by_cases k2 : b < 0
  · go_wp2_with (go_at_call 12; refine (may_any _ _ _).mono ?_; rintro e w' ⟨rfl, rfl⟩)
    go_ret
    exact ⟨by simp, bel_alloc hb _⟩
  by_cases k3 : 1152921504606846976 < a
  · go_wp2_with (go_at_call 12; refine (may_any _ _ _).mono ?_; rintro e w' ⟨rfl, rfl⟩)
    go_ret
    exact ⟨by simp, bel_alloc hb _⟩
  by_cases k4 : 1152921504606846976 < b
  · go_wp2_with (go_at_call 12; refine (may_any _ _ _).mono ?_; rintro e w' ⟨rfl, rfl⟩)
    go_ret
    exact ⟨by simp, bel_alloc hb _⟩
  have a0 : 0 ≤ a := by omega
  have b0 : 0 ≤ b := by omega
  have ab : 0 ≤ a + b := by omega
  obtain ⟨s0, s1, c0, c1⟩ := (mayB_iff s c).1 hm
  have e1 := stepI_of hm a0
  have m1 := may_more hm a0
  have e2 := stepI_of m1 b0
  have m2 := may_more m1 b0
  have e3 := cellI_of hm b0
  have m3 := may_more' hm b0
  have e4 := stepI_of m3 a0
  have e5 := stepI_of hm ab
  have e6 := more_more (s := s) (a := a) b0
  have e7 := cellI_of m1 b0
  have m4 := may_more m3 a0
  obtain ⟨g0, g1, _, _⟩ := (mayB_iff _ _).1 m1
  have e8 : s ≤ moreI (moreI s a) b := Int.le_trans (more_ge s1 a0) (more_ge g1 b0)
  rw [e6] at e5; clear e6
  have e9 : decide (s ≤ moreI (moreI s a) b) = true := by simpa using e8
  go_wp2_with fail
  refine (may_any _ _ _).mono ?_
  rintro e w2 ⟨rfl, rfl⟩
  go_wp2_with fail
  refine (step_any _ _ _ _).mono ?_
  rintro e w2 ⟨rfl, hb2⟩
  go_wp2_with fail
  refine (step_any _ _ _ _).mono ?_
  rintro e w3 ⟨rfl, hb3⟩
  have y0 : w3.cell? ⟨w.heap.size, 0, none⟩ = some (.int .i64 s) := below_cell' hb3 (below_cell' hb2 (by simp [go_sem, *]))
  have y1 : w3.cell? ⟨w.heap.size, 1, none⟩ = some (.int .i64 c) := below_cell' hb3 (below_cell' hb2 (by simp [go_sem, *]))
  have z3 : w.heap.size < w3.heap.size := World.block_lt_of_cell? w3 _ y0
  have hc3 : Below w.heap.size w w3 := bel_trans (bel_trans (bel_alloc hb _) hb2) hb3
  clear x0 x1 z1 hb hb2 hb3
  go_wp2_with fail
  refine (cell_any _ _ _ _).mono ?_
  rintro e w4 ⟨rfl, hb4⟩
  go_wp2_with fail
  refine (step_any _ _ _ _).mono ?_
  rintro e w5 ⟨rfl, hb5⟩
  have t0 : w5.cell? ⟨w.heap.size, 0, none⟩ = some (.int .i64 s) := below_cell' hb5 (below_cell' hb4 (by simp [go_sem, *]))
  have t1 : w5.cell? ⟨w.heap.size, 1, none⟩ = some (.int .i64 c) := below_cell' hb5 (below_cell' hb4 (by simp [go_sem, *]))
  have t2 : w5.cell? ⟨w3.heap.size, 0, none⟩ = some (.int .i64 (moreI (moreI s a) b)) := below_cell' hb5 (below_cell' hb4 (by simp [go_sem, *]))
  have t3 : w5.cell? ⟨w3.heap.size, 1, none⟩ = some (.int .i64 c) := below_cell' hb5 (below_cell' hb4 (by simp [go_sem, *]))
  have z5 : w3.heap.size < w5.heap.size := World.block_lt_of_cell? w5 _ t2
  have z6 : w.heap.size < w5.heap.size := World.block_lt_of_cell? w5 _ t0
  have hc5 : Below w.heap.size w w5 := bel_trans (bel_trans (bel_alloc hc3 _) hb4) hb5
  clear y0 y1 hb4 hb5
  go_wp2_with fail
  have wr : IntKind.i64.wrap (a + b) = a + b := IntWalk.i64_in _ (by omega)
  go_region_held3 (fun w' => w'.cell? ⟨w.heap.size, 0, none⟩ = some (.int .i64 s) ∧ w'.cell? ⟨w.heap.size, 1, none⟩ = some (.int .i64 c) ∧ w'.cell? ⟨w3.heap.size, 0, none⟩ = some (.int .i64 (moreI (moreI s a) b)) ∧ w'.cell? ⟨w3.heap.size, 1, none⟩ = some (.int .i64 c)
      ∧ w'.cell? ⟨w5.heap.size, 0, none⟩ = some (.int .i64 (moreI s a)) ∧ w'.cell? ⟨w5.heap.size, 1, none⟩ = some (.int .i64 (moreI c b)))
    (first | (go_split_ands; refine ⟨?_, ?_, ?_, ?_, ?_, ?_⟩ <;> exact below_cell' hq (by assumption)) | (simp [go_sem, *]; done))
    (first
      | (go_at_call 12; refine (may_any _ _ _).mono ?_; rintro e w4 ⟨rfl, hq0⟩; have hq := hq0.symm ▸ bel_alloc (Below.refl _ _) _; clear hq0)
      | (go_at_call 13; refine (step_any _ _ _ _).mono ?_; rintro e w4 ⟨rfl, hq⟩)
      | (go_at_call 15; refine (cell_any _ _ _ _).mono ?_; rintro e w4 ⟨rfl, hq⟩))
  go_wp2
  go_ret
  refine ⟨by simp, ?_⟩
  repeat (first | with_reducible exact Below.refl _ _ | with_reducible assumption | with_reducible refine bel_trans ?_ (by assumption) | with_reducible refine bel_alloc ?_ _ | with_reducible refine Below.drew ?_ | with_reducible refine below_drewN ?_ _)

end Go.Proofs.Ytdmeckjkpnccnaa
