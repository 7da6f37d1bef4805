/- The walks of the laws MeterTells and MeterParts. -/
import Derived.Test.YtdmeckjkpnccnaaWd
namespace Go.Proofs.Ytdmeckjkpnccnaa
open Go.RowKit

set_option maxHeartbeats 4000000 in
theorem tells_any (s c s' c' n a b : Int) (w : World) :
    Calls Try.prog 3 #[.agg #[.int .i64 s, .int .i64 c], .agg #[.int .i64 s', .int .i64 c'], .int .i64 n, .int .i64 a, .int .i64 b] w fun e w' => e = .returned (.bool true) ∧ Below w.heap.size w w' := by
  go_enter Try.func3, Try.ntmps3
  go_wp2_with fail
  refine (awake_any _).mono ?_
  rintro e w1 ⟨rfl, hb1⟩
  have a0 : w1.cell? ⟨w.heap.size, 0, none⟩ = some (.int .i64 s) := below_cell' hb1 (by simp [go_sem])
  have a1 : w1.cell? ⟨w.heap.size, 1, none⟩ = some (.int .i64 c) := below_cell' hb1 (by simp [go_sem])
  have a2 : w1.cell? ⟨w.heap.size + 1, 0, none⟩ = some (.int .i64 s') := below_cell' hb1 (by simp [go_sem])
  have a3 : w1.cell? ⟨w.heap.size + 1, 1, none⟩ = some (.int .i64 c') := below_cell' hb1 (by simp [go_sem])
  have z1 : w.heap.size < w1.heap.size := by have := hb1.size; simp at this; omega
  have z2 : w.heap.size + 1 < w1.heap.size := by have := hb1.size; simp at this; omega
  have hb : Below w.heap.size w w1 := Below.trans (by go_grown) (hb1.mono (by simp; omega))
  clear hb1
  go_wp2_with fail
  refine (rmay_any _ _ _).mono ?_
  rintro e w2 ⟨rfl, rfl⟩
  go_wp2_with fail
  refine (rwithin_any _ _ _ _ _ _).mono ?_
  rintro e w3 ⟨rfl, hb3⟩
  have d0 : w3.cell? ⟨w.heap.size, 0, none⟩ = some (.int .i64 s) := below_cell' hb3 (by simp [go_sem, *])
  have d1 : w3.cell? ⟨w.heap.size, 1, none⟩ = some (.int .i64 c) := below_cell' hb3 (by simp [go_sem, *])
  have d2 : w3.cell? ⟨w.heap.size + 1, 0, none⟩ = some (.int .i64 s') := below_cell' hb3 (by simp [go_sem, *])
  have d3 : w3.cell? ⟨w.heap.size + 1, 1, none⟩ = some (.int .i64 c') := below_cell' hb3 (by simp [go_sem, *])
  have hb4 : Below w.heap.size w w3 := bel_trans (bel_alloc hb _) hb3
  clear hb hb3 a0 a1 a2 a3 z1 z2
  go_wp2_with fail
  go_region_held3 (fun w' => w'.cell? ⟨w.heap.size, 0, none⟩ = some (.int .i64 s) ∧ w'.cell? ⟨w.heap.size, 1, none⟩ = some (.int .i64 c) ∧ w'.cell? ⟨w.heap.size + 1, 0, none⟩ = some (.int .i64 s') ∧ w'.cell? ⟨w.heap.size + 1, 1, none⟩ = some (.int .i64 c'))
    (first | (exact ⟨d0, d1, d2, d3⟩) | (go_split_ands; refine ⟨?_, ?_, ?_, ?_⟩ <;> exact below_cell' hq (by assumption)))
    (first
      | (go_at_call 12; refine (may_any _ _ _).mono ?_; rintro e w4 ⟨rfl, hq0⟩; have hq := hq0.symm ▸ bel_alloc (Below.refl _ _) _; clear hq0)
      | (go_at_call 13; refine (step_any _ _ _ _).mono ?_; rintro e w4 ⟨rfl, hq⟩)
      | (go_at_call 14; refine (rstep_any _ _ _ _).mono ?_; rintro e w4 ⟨rfl, hq⟩)
      | (go_at_call 15; refine (cell_any _ _ _ _).mono ?_; rintro e w4 ⟨rfl, hq⟩)
      | (go_at_call 16; refine (rcell_any _ _ _ _).mono ?_; rintro e w4 ⟨rfl, hq⟩)
      | (go_at_call 17; refine (sum_any _ _ _ _ _).mono ?_; rintro e w4 ⟨rfl, hq⟩)
      | (go_at_call 18; refine (rsum_any _ _ _ _ _).mono ?_; rintro e w4 ⟨rfl, hq⟩)
      | (go_at_call 19; refine (within_any _ _ _ _ _ _).mono ?_; rintro e w4 ⟨rfl, hq⟩))
  go_wp2
  go_ret
  refine ⟨by simp, ?_⟩
  repeat (first | with_reducible exact Below.refl _ _ | with_reducible assumption | with_reducible refine bel_trans ?_ (by assumption) | with_reducible refine bel_alloc ?_ _ | with_reducible refine Below.drew ?_ | with_reducible refine below_drewN ?_ _)

end Go.Proofs.Ytdmeckjkpnccnaa
