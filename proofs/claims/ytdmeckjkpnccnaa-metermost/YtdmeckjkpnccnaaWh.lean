/- The walk of the law MeterMost. -/
import Derived.Test.YtdmeckjkpnccnaaWd
namespace Go.Proofs.Ytdmeckjkpnccnaa
open Go.RowKit

theorem step_full {s c : Int} (w : World) (h : mayB s c = true) :
    Calls Try.prog 13 #[.agg #[.int .i64 s, .int .i64 c], .int .i64 9223372036854775807] w fun e w' => e = .returned (.agg #[.int .i64 1099511627776, .int .i64 c]) ∧ Below w.heap.size w w' := by
  refine (step_any s c 9223372036854775807 w).mono ?_
  rintro e w' ⟨rfl, hb⟩
  refine ⟨?_, hb⟩
  obtain ⟨s0, s1, c0, c1⟩ := (mayB_iff s c).1 h
  have e1 : stepI s c 9223372036854775807 = 1099511627776 := by
    rw [stepI_of h (by omega)]; unfold moreI; rw [if_pos (by omega)]
  rw [e1]

set_option maxHeartbeats 2000000 in
theorem most_any (s c n : Int) (w : World) :
    Calls Try.prog 7 #[.agg #[.int .i64 s, .int .i64 c], .int .i64 n] w fun e w' => e = .returned (.bool true) ∧ Below w.heap.size w w' := by
  go_enter Try.func7, Try.ntmps7
  go_wp2_with fail
  refine (awake_any _).mono ?_
  rintro e w1 ⟨rfl, hb1⟩
  have x0 : w1.cell? ⟨w.heap.size, 0, none⟩ = some (.int .i64 s) := below_cell' hb1 (by simp [go_sem])
  have x1 : w1.cell? ⟨w.heap.size, 1, none⟩ = some (.int .i64 c) := below_cell' hb1 (by simp [go_sem])
  have z1 : w.heap.size < w1.heap.size := World.block_lt_of_cell? w1 _ x0
  have hb : Below w.heap.size w w1 := bel_trans (bel_alloc (Below.refl _ _) _) hb1
  clear hb1
  cases hm : mayB s c
  · have e1 : stepI s c n = s := by simp [stepI, hm]
    have e2 : cellI s c n = c := by simp [cellI, hm]
    go_wp2_with (go_at_call 12; refine (may_any _ _ _).mono ?_; rintro e w' ⟨rfl, rfl⟩)
    go_region_held3 (fun w' => w'.cell? ⟨w.heap.size, 0, none⟩ = some (.int .i64 s) ∧ w'.cell? ⟨w.heap.size, 1, none⟩ = some (.int .i64 c))
      (first | (go_split_ands; refine ⟨?_, ?_⟩ <;> exact below_cell' hq (by assumption)) | (simp [go_sem, *]; done))
      (first
        | (go_at_call 13; refine (step_any _ _ _ _).mono ?_; rintro e w4 ⟨rfl, hq⟩)
        | (go_at_call 15; refine (cell_any _ _ _ _).mono ?_; rintro e w4 ⟨rfl, hq⟩))
    go_wp2
    go_ret
    refine ⟨by simp, ?_⟩
    repeat (first | with_reducible exact Below.refl _ _ | with_reducible assumption | with_reducible refine bel_trans ?_ (by assumption) | with_reducible refine bel_alloc ?_ _ | with_reducible refine Below.drew ?_ | with_reducible refine below_drewN ?_ _)
  obtain ⟨s0, s1, c0, c1⟩ := (mayB_iff s c).1 hm
  have H := Lib.hid hm
  go_wp2_with fail
  refine (may_any _ _ _).mono ?_
  rintro e w2 ⟨rfl, rfl⟩
  go_wp2_with fail
  refine (step_full _ H.out).mono ?_
  rintro e w2 ⟨rfl, hb2⟩
  have y0 : w2.cell? ⟨w.heap.size, 0, none⟩ = some (.int .i64 s) := below_cell' hb2 (by simp [go_sem, *])
  have y1 : w2.cell? ⟨w.heap.size, 1, none⟩ = some (.int .i64 c) := below_cell' hb2 (by simp [go_sem, *])
  have z2 : w.heap.size < w2.heap.size := World.block_lt_of_cell? w2 _ y0
  have hc2 : Below w.heap.size w w2 := bel_trans (bel_alloc hb _) hb2
  clear x0 x1 z1 hb hb2
  go_wp2_with fail
  refine (step_any _ _ _ _).mono ?_
  rintro e w3 ⟨rfl, hb3⟩
  have t0 : w3.cell? ⟨w.heap.size, 0, none⟩ = some (.int .i64 s) := below_cell' hb3 (by simp [go_sem, *])
  have t1 : w3.cell? ⟨w.heap.size, 1, none⟩ = some (.int .i64 c) := below_cell' hb3 (by simp [go_sem, *])
  have t2 : w3.cell? ⟨w2.heap.size, 0, none⟩ = some (.int .i64 1099511627776) := below_cell' hb3 (by simp [go_sem, *])
  have t3 : w3.cell? ⟨w2.heap.size, 1, none⟩ = some (.int .i64 c) := below_cell' hb3 (by simp [go_sem, *])
  have z3 : w.heap.size < w3.heap.size := World.block_lt_of_cell? w3 _ t0
  have z4 : w2.heap.size < w3.heap.size := World.block_lt_of_cell? w3 _ t2
  have hc3 : Below w.heap.size w w3 := bel_trans (bel_alloc hc2 _) hb3
  clear y0 y1 z2 hc2 hb3
  go_wp2_with fail
  refine (cell_any _ _ _ _).mono ?_
  rintro e w4 ⟨rfl, hb4⟩
  have u0 : w4.cell? ⟨w.heap.size, 0, none⟩ = some (.int .i64 s) := below_cell' hb4 (by simp [go_sem, *])
  have u1 : w4.cell? ⟨w.heap.size, 1, none⟩ = some (.int .i64 c) := below_cell' hb4 (by simp [go_sem, *])
  have u2 : w4.cell? ⟨w2.heap.size, 0, none⟩ = some (.int .i64 1099511627776) := below_cell' hb4 (by simp [go_sem, *])
  have u3 : w4.cell? ⟨w2.heap.size, 1, none⟩ = some (.int .i64 c) := below_cell' hb4 (by simp [go_sem, *])
  have u4 : w4.cell? ⟨w3.heap.size, 0, none⟩ = some (.int .i64 (stepI s c n)) := below_cell' hb4 (by simp [go_sem])
  have u5 : w4.cell? ⟨w3.heap.size, 1, none⟩ = some (.int .i64 c) := below_cell' hb4 (by simp [go_sem])
  have z5 : w.heap.size < w4.heap.size := World.block_lt_of_cell? w4 _ u0
  have z6 : w2.heap.size < w4.heap.size := World.block_lt_of_cell? w4 _ u2
  have z7 : w3.heap.size < w4.heap.size := World.block_lt_of_cell? w4 _ u4
  have hc4 : Below w.heap.size w w4 := bel_trans (bel_alloc hc3 _) hb4
  clear t0 t1 t2 t3 z3 z4 hc3 hb4
  by_cases hn : n < 0
  · have e1 : stepI s c n = s := by simp [stepI]; omega
    have e2 : cellI s c n = c := by simp [cellI]; omega
    go_wp2
    go_ret
    exact ⟨by simp, bel_alloc hc4 _⟩
  have n0 : 0 ≤ n := by omega
  have e1 := stepI_of hm n0
  have e2 := cellI_of hm n0
  have b1 := moreI_bd s n s0 s1 n0
  have b2 := moreI_bd c n c0 c1 n0
  obtain ⟨b10, b11, b12⟩ := b1
  obtain ⟨b20, b21, b22⟩ := b2
  have g1 : decide (s ≤ moreI s n) = true := by simpa using b10
  have g2 : decide (moreI s n ≤ 1099511627776) = true := by simpa using b12
  have g3 : decide (moreI c n ≤ 1099511627776) = true := by simpa using b22
  by_cases k1 : 1099511627776 < n
  · go_wp2
    go_ret
    exact ⟨by simp, bel_alloc hc4 _⟩
  by_cases k2 : 1099511627776 < s + n
  · go_wp2
    go_ret
    exact ⟨by simp, bel_alloc hc4 _⟩
  · have e3 : moreI s n = s + n := by unfold moreI; rw [if_neg (by omega)]
    rw [e3] at e1 b10 b11 b12 g1 g2
    clear e3
    go_wp2
    go_ret
    exact ⟨by simp, bel_alloc hc4 _⟩

end Go.Proofs.Ytdmeckjkpnccnaa
