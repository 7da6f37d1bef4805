/- The walk of the law MeterSum. -/
import Derived.Test.YtdmeckjkpnccnaaWd
namespace Go.Proofs.Ytdmeckjkpnccnaa
open Go.RowKit
set_option linter.unusedSimpArgs false

theorem alloc_cell {W : World} {a : Addr} {v : Value} {o : Obj} (h : W.cell? a = some v) : (W.alloc o).cell? a = some v := below_cell' (bel_alloc (Below.refl _ _) o) h
theorem drew_cell {W : World} {a : Addr} {v : Value} (h : W.cell? a = some v) : W.drew.cell? a = some v := h
theorem more_assoc {a b c : Int} (a0 : 0 ≤ a) (a1 : a ≤ 1099511627776) (c0 : 0 ≤ c) : moreI (moreI a b) c = moreI a (moreI b c) := by
  unfold moreI; repeat' split
  all_goals omega
theorem more_comm {a b : Int} : moreI a b = moreI b a := by
  unfold moreI; repeat' split
  all_goals omega
theorem more_zero {a : Int} (a1 : a ≤ 1099511627776) : moreI a 0 = a := by
  unfold moreI; split <;> omega
theorem more_geL {s a : Int} (h1 : s ≤ 1099511627776) (a0 : 0 ≤ a) : s ≤ moreI s a := by
  unfold moreI; split <;> omega
theorem more_geR {s a : Int} (h1 : 0 ≤ s) (a0 : a ≤ 1099511627776) : a ≤ moreI s a := by
  unfold moreI; split <;> omega
theorem may_sum {s c s' c' : Int} (h : mayB s c = true) (h' : mayB s' c' = true) : mayB (moreI s s') (moreI c c') = true := by
  obtain ⟨a, b, d, e⟩ := (mayB_iff s c).1 h
  obtain ⟨a', b', d', e'⟩ := (mayB_iff s' c').1 h'
  have := moreI_bd s s' a b a'
  have := moreI_bd c c' d e d'
  exact (mayB_iff _ _).2 ⟨by omega, by omega, by omega, by omega⟩

set_option maxHeartbeats 2000000 in
theorem sumlaw_any (s1 c1 s2 c2 s3 c3 : Int) (w : World) :
    Calls Try.prog 5 #[.agg #[.int .i64 s1, .int .i64 c1], .agg #[.int .i64 s2, .int .i64 c2], .agg #[.int .i64 s3, .int .i64 c3]] w fun e w' => e = .returned (.bool true) ∧ Below w.heap.size w w' := by
  go_enter Try.func5, Try.ntmps5
  go_wp2_with fail
  refine (awake_any _).mono ?_
  rintro e w1 ⟨rfl, hb1⟩
  have x0 : w1.cell? ⟨w.heap.size, 0, none⟩ = some (.int .i64 s1) := below_cell' hb1 (by simp [go_sem])
  have x1 : w1.cell? ⟨w.heap.size, 1, none⟩ = some (.int .i64 c1) := below_cell' hb1 (by simp [go_sem])
  have x2 : w1.cell? ⟨w.heap.size + 1, 0, none⟩ = some (.int .i64 s2) := below_cell' hb1 (by simp [go_sem])
  have x3 : w1.cell? ⟨w.heap.size + 1, 1, none⟩ = some (.int .i64 c2) := below_cell' hb1 (by simp [go_sem])
  have x4 : w1.cell? ⟨w.heap.size + 1 + 1, 0, none⟩ = some (.int .i64 s3) := below_cell' hb1 (by simp [go_sem])
  have x5 : w1.cell? ⟨w.heap.size + 1 + 1, 1, none⟩ = some (.int .i64 c3) := below_cell' hb1 (by simp [go_sem])
  have hb : Below w.heap.size w w1 := bel_trans (bel_alloc (bel_alloc (bel_alloc (Below.refl _ _) _) _) _) hb1
  clear hb1
  go_wp2_with fail
  refine (sum_any _ _ _ _ _).mono ?_
  rintro e w2 ⟨rfl, hb2⟩
  have y0 := below_cell' hb2 x0
  have y1 := below_cell' hb2 x1
  have y2 := below_cell' hb2 x2
  have y3 := below_cell' hb2 x3
  have y4 := below_cell' hb2 x4
  have y5 := below_cell' hb2 x5
  have hc2 := bel_trans hb hb2
  have z0 : w.heap.size < w2.heap.size := World.block_lt_of_cell? w2 _ y0
  have z1 : w.heap.size + 1 < w2.heap.size := World.block_lt_of_cell? w2 _ y2
  have z2 : w.heap.size + 1 + 1 < w2.heap.size := World.block_lt_of_cell? w2 _ y4
  clear x0 x1 x2 x3 x4 x5 hb hb2
  cases hm1 : mayB s1 c1
  · have e1 : sumI false s1 s2 = 0 := rfl
    have e2 : sumI false c1 c2 = 0 := rfl
    go_wp2_with (go_at_call 12; refine (may_any _ _ _).mono ?_; rintro e w' ⟨rfl, rfl⟩)
    go_ret
    exact ⟨by simp, bel_alloc (bel_alloc hc2 _) _⟩
  cases hm2 : mayB s2 c2
  · have e1 : sumI false s1 s2 = 0 := rfl
    have e2 : sumI false c1 c2 = 0 := rfl
    go_wp2_with (go_at_call 12; refine (may_any _ _ _).mono ?_; rintro e w' ⟨rfl, rfl⟩)
    go_ret
    exact ⟨by simp, bel_alloc (bel_alloc (bel_alloc hc2 _) _) _⟩
  obtain ⟨s10, s11, c10, c11⟩ := (mayB_iff s1 c1).1 hm1
  obtain ⟨s20, s21, c20, c21⟩ := (mayB_iff s2 c2).1 hm2
  have m12 := may_sum hm1 hm2
  have e1 : sumI true s1 s2 = moreI s1 s2 := rfl
  have e2 : sumI true c1 c2 = moreI c1 c2 := rfl
  have e3 : sumI true s2 s1 = moreI s1 s2 := more_comm
  have e4 : sumI true c2 c1 = moreI c1 c2 := more_comm
  have e5 : sumI true s1 0 = s1 := more_zero s11
  have e6 : sumI true c1 0 = c1 := more_zero c11
  have m0 : mayB 0 0 = true := by decide
  have g1 : s1 ≤ moreI s1 s2 := more_geL s11 s20
  have g2 : c2 ≤ moreI c1 c2 := more_geR c10 c21
  have g3 : decide (s1 ≤ moreI s1 s2) = true := by simpa using g1
  have g4 : decide (c2 ≤ moreI c1 c2) = true := by simpa using g2
  go_wp2_with fail
  refine (may_any _ _ _).mono ?_
  rintro e w' ⟨rfl, rfl⟩
  go_wp2_with fail
  refine (may_any _ _ _).mono ?_
  rintro e w' ⟨rfl, rfl⟩
  have t6 : (w2.alloc (.cells #[.int .i64 (moreI s1 s2), .int .i64 (moreI c1 c2)] 23)).cell? ⟨w2.heap.size, 0, none⟩ = some (.int .i64 (moreI s1 s2)) := by simp [go_sem]
  have t7 : (w2.alloc (.cells #[.int .i64 (moreI s1 s2), .int .i64 (moreI c1 c2)] 23)).cell? ⟨w2.heap.size, 1, none⟩ = some (.int .i64 (moreI c1 c2)) := by simp [go_sem]
  have u6 := alloc_cell (o := .cells #[.int .i64 s2, .int .i64 c2] 23) (alloc_cell (o := .cells #[.int .i64 s1, .int .i64 c1] 23) t6)
  have u7 := alloc_cell (o := .cells #[.int .i64 s2, .int .i64 c2] 23) (alloc_cell (o := .cells #[.int .i64 s1, .int .i64 c1] 23) t7)
  have hq : Below w2.heap.size w2 (((w2.alloc (.cells #[.int .i64 (moreI s1 s2), .int .i64 (moreI c1 c2)] 23)).alloc (.cells #[.int .i64 s1, .int .i64 c1] 23)).alloc (.cells #[.int .i64 s2, .int .i64 c2] 23)) := bel_alloc (bel_alloc (bel_alloc (Below.refl _ _) _) _) _
  clear t6 t7
  cases hm3 : mayB s3 c3
  · go_wp2_with fail
    generalize (((w2.alloc (.cells #[.int .i64 (moreI s1 s2), .int .i64 (moreI c1 c2)] 23)).alloc (.cells #[.int .i64 s1, .int .i64 c1] 23)).alloc (.cells #[.int .i64 s2, .int .i64 c2] 23)) = w5 at *
    refine wp_region_held_drew (S := (fun w' => w'.cell? ⟨w.heap.size, 0, none⟩ = some (.int .i64 s1) ∧ w'.cell? ⟨w.heap.size, 1, none⟩ = some (.int .i64 c1) ∧ w'.cell? ⟨w.heap.size + 1, 0, none⟩ = some (.int .i64 s2) ∧ w'.cell? ⟨w.heap.size + 1, 1, none⟩ = some (.int .i64 c2)
      ∧ w'.cell? ⟨w.heap.size + 1 + 1, 0, none⟩ = some (.int .i64 s3) ∧ w'.cell? ⟨w.heap.size + 1 + 1, 1, none⟩ = some (.int .i64 c3) ∧ w'.cell? ⟨w2.heap.size, 0, none⟩ = some (.int .i64 (moreI s1 s2)) ∧ w'.cell? ⟨w2.heap.size, 1, none⟩ = some (.int .i64 (moreI c1 c2)))) (by kernel_rfl) ?_ (fun hHeld => ?_)
    · refine ⟨?_, ?_, ?_, ?_, ?_, ?_, ?_, ?_⟩ <;> (repeat (first | with_reducible assumption | with_reducible refine drew_cell ?_ | with_reducible refine below_cell' hq ?_))
    refine wpAnyH_take (i := 0) (v := .agg #[.int .i64 s3, .int .i64 c3]) rfl (by kernel_rfl) (by kernel_rfl) (by kernel_rfl) (fun _ _ _ h => h) (Or.inl ⟨by kernel_rfl, ?_⟩) (by assumption) ?_
    · intro w hSw; (try dsimp only at hSw); go_simp
    simp only [Act.put, List.getElem_toArray, List.getElem_cons_succ, List.getElem_cons_zero, List.setIfInBounds_toArray, List.set_cons_zero, List.set_cons_succ]
    refine wpAnyH_ready (rs := [1]) (by kernel_rfl) (by simp) ?_
    refine AllReadyH.cons rfl (fun K hK => ?_) AllReadyH.nil
    go_simp
    refine (may_any _ _ _).mono ?_
    rintro e w6 ⟨rfl, rfl⟩
    try go_simp
    refine hK.out _ _ ?_ (fun hHeld => ?_)
    · go_split_ands; refine ⟨?_, ?_, ?_, ?_, ?_, ?_, ?_, ?_⟩ <;> (repeat (first | with_reducible assumption | with_reducible refine drew_cell ?_ | with_reducible refine alloc_cell ?_ | with_reducible refine below_cell' hq ?_))
    clear hK K
    try simp only [Act.put, List.getElem_toArray, List.getElem_cons_succ, List.getElem_cons_zero, List.setIfInBounds_toArray, List.set_cons_zero, List.set_cons_succ]
    refine wpAnyH_take (i := 2) (v := .bool true) rfl (by kernel_rfl) (by kernel_rfl) (by kernel_rfl) (fun _ _ _ h => h) (Or.inl ⟨by kernel_rfl, ?_⟩) (by assumption) ?_
    · intro w hSw; (try dsimp only at hSw); go_simp
    simp only [Act.put, List.getElem_toArray, List.getElem_cons_succ, List.getElem_cons_zero, List.setIfInBounds_toArray, List.set_cons_zero, List.set_cons_succ]
    refine wpAnyH_take (i := 3) (v := .bool true) rfl (by kernel_rfl) (by kernel_rfl) (by kernel_rfl) (fun _ _ _ h => h) (Or.inl ⟨by kernel_rfl, ?_⟩) (by assumption) ?_
    · intro w hSw; (try dsimp only at hSw); go_simp
    simp only [Act.put, List.getElem_toArray, List.getElem_cons_succ, List.getElem_cons_zero, List.setIfInBounds_toArray, List.set_cons_zero, List.set_cons_succ]
    refine wpAnyH_take (i := 4) (v := undef) rfl (by kernel_rfl) (by kernel_rfl) (by kernel_rfl) (fun _ _ _ h => h) (Or.inr ⟨by kernel_rfl, rfl⟩) (by assumption) ?_
    simp only [Act.put, List.getElem_toArray, List.getElem_cons_succ, List.getElem_cons_zero, List.setIfInBounds_toArray, List.set_cons_zero, List.set_cons_succ]
    refine wpAnyH_take (i := 5) (v := undef) rfl (by kernel_rfl) (by kernel_rfl) (by kernel_rfl) (fun _ _ _ h => h) (Or.inr ⟨by kernel_rfl, rfl⟩) (by assumption) ?_
    simp only [Act.put, List.getElem_toArray, List.getElem_cons_succ, List.getElem_cons_zero, List.setIfInBounds_toArray, List.set_cons_zero, List.set_cons_succ]
    refine wpAnyH_take (i := 6) (v := undef) rfl (by kernel_rfl) (by kernel_rfl) (by kernel_rfl) (fun _ _ _ h => h) (Or.inr ⟨by kernel_rfl, rfl⟩) (by assumption) ?_
    simp only [Act.put, List.getElem_toArray, List.getElem_cons_succ, List.getElem_cons_zero, List.setIfInBounds_toArray, List.set_cons_zero, List.set_cons_succ]
    refine wpAnyH_take (i := 7) (v := undef) rfl (by kernel_rfl) (by kernel_rfl) (by kernel_rfl) (fun _ _ _ h => h) (Or.inr ⟨by kernel_rfl, rfl⟩) (by assumption) ?_
    simp only [Act.put, List.getElem_toArray, List.getElem_cons_succ, List.getElem_cons_zero, List.setIfInBounds_toArray, List.set_cons_zero, List.set_cons_succ]
    refine wpAnyH_take (i := 8) (v := undef) rfl (by kernel_rfl) (by kernel_rfl) (by kernel_rfl) (fun _ _ _ h => h) (Or.inr ⟨by kernel_rfl, rfl⟩) (by assumption) ?_
    simp only [Act.put, List.getElem_toArray, List.getElem_cons_succ, List.getElem_cons_zero, List.setIfInBounds_toArray, List.set_cons_zero, List.set_cons_succ]
    refine wpAnyH_take (i := 9) (v := undef) rfl (by kernel_rfl) (by kernel_rfl) (by kernel_rfl) (fun _ _ _ h => h) (Or.inr ⟨by kernel_rfl, rfl⟩) (by assumption) ?_
    simp only [Act.put, List.getElem_toArray, List.getElem_cons_succ, List.getElem_cons_zero, List.setIfInBounds_toArray, List.set_cons_zero, List.set_cons_succ]
    refine wpAnyH_take (i := 10) (v := undef) rfl (by kernel_rfl) (by kernel_rfl) (by kernel_rfl) (fun _ _ _ h => h) (Or.inr ⟨by kernel_rfl, rfl⟩) (by assumption) ?_
    simp only [Act.put, List.getElem_toArray, List.getElem_cons_succ, List.getElem_cons_zero, List.setIfInBounds_toArray, List.set_cons_zero, List.set_cons_succ]
    refine wpAnyH_take (i := 11) (v := undef) rfl (by kernel_rfl) (by kernel_rfl) (by kernel_rfl) (fun _ _ _ h => h) (Or.inr ⟨by kernel_rfl, rfl⟩) (by assumption) ?_
    simp only [Act.put, List.getElem_toArray, List.getElem_cons_succ, List.getElem_cons_zero, List.setIfInBounds_toArray, List.set_cons_zero, List.set_cons_succ]
    refine wpAnyH_take (i := 12) (v := undef) rfl (by kernel_rfl) (by kernel_rfl) (by kernel_rfl) (fun _ _ _ h => h) (Or.inr ⟨by kernel_rfl, rfl⟩) (by assumption) ?_
    simp only [Act.put, List.getElem_toArray, List.getElem_cons_succ, List.getElem_cons_zero, List.setIfInBounds_toArray, List.set_cons_zero, List.set_cons_succ]
    refine wpAnyH_take (i := 13) (v := .bool true) rfl (by kernel_rfl) (by kernel_rfl) (by kernel_rfl) (fun _ _ _ h => h) (Or.inl ⟨by kernel_rfl, ?_⟩) (by assumption) ?_
    · intro w hSw; (try dsimp only at hSw); go_simp
    simp only [Act.put, List.getElem_toArray, List.getElem_cons_succ, List.getElem_cons_zero, List.setIfInBounds_toArray, List.set_cons_zero, List.set_cons_succ]
    refine wpAnyH_take (i := 14) (v := .bool true) rfl (by kernel_rfl) (by kernel_rfl) (by kernel_rfl) (fun _ _ _ h => h) (Or.inl ⟨by kernel_rfl, ?_⟩) (by assumption) ?_
    · intro w hSw; (try dsimp only at hSw); go_simp
    simp only [Act.put, List.getElem_toArray, List.getElem_cons_succ, List.getElem_cons_zero, List.setIfInBounds_toArray, List.set_cons_zero, List.set_cons_succ]
    refine wpAnyH_done (by kernel_rfl) ?_ _
    go_wp2_with fail
    go_region_held3 (fun w' => w'.cell? ⟨w.heap.size, 0, none⟩ = some (.int .i64 s1) ∧ w'.cell? ⟨w.heap.size, 1, none⟩ = some (.int .i64 c1) ∧ w'.cell? ⟨w.heap.size + 1, 0, none⟩ = some (.int .i64 s2) ∧ w'.cell? ⟨w.heap.size + 1, 1, none⟩ = some (.int .i64 c2)
      ∧ w'.cell? ⟨w.heap.size + 1 + 1, 0, none⟩ = some (.int .i64 s3) ∧ w'.cell? ⟨w.heap.size + 1 + 1, 1, none⟩ = some (.int .i64 c3) ∧ w'.cell? ⟨w2.heap.size, 0, none⟩ = some (.int .i64 (moreI s1 s2)) ∧ w'.cell? ⟨w2.heap.size, 1, none⟩ = some (.int .i64 (moreI c1 c2)))
      ((go_split_ands; refine ⟨?_, ?_, ?_, ?_, ?_, ?_, ?_, ?_⟩ <;> (repeat (first | with_reducible assumption | with_reducible refine drew_cell ?_ | with_reducible refine below_cell' hq ?_))))
      (first
        | (go_at_call 12; refine (may_any _ _ _).mono ?_; rintro e w4 ⟨rfl, hq0⟩; have hq := hq0.symm ▸ bel_alloc (Below.refl _ _) _; clear hq0)
        | (go_at_call 17; refine (sum_any _ _ _ _ _).mono ?_; rintro e w4 ⟨rfl, hq⟩))
    go_wp2
    go_ret
    refine ⟨by simp, ?_⟩
    repeat (first | with_reducible exact Below.refl _ _ | with_reducible assumption | with_reducible refine bel_trans ?_ (by assumption) | with_reducible refine bel_alloc ?_ _ | with_reducible refine Below.drew ?_ | with_reducible refine below_drewN ?_ _)
  · obtain ⟨s30, s31, c30, c31⟩ := (mayB_iff s3 c3).1 hm3
    have m23 := may_sum hm2 hm3
    have f1 : sumI true (moreI s1 s2) s3 = moreI s1 (moreI s2 s3) := more_assoc s10 s11 s30
    have f2 : sumI true (moreI c1 c2) c3 = moreI c1 (moreI c2 c3) := more_assoc c10 c11 c30
    have f3 : sumI true s2 s3 = moreI s2 s3 := rfl
    have f4 : sumI true c2 c3 = moreI c2 c3 := rfl
    have f5 : sumI true s1 (moreI s2 s3) = moreI s1 (moreI s2 s3) := rfl
    have f6 : sumI true c1 (moreI c2 c3) = moreI c1 (moreI c2 c3) := rfl
    go_wp2_with fail
    generalize (((w2.alloc (.cells #[.int .i64 (moreI s1 s2), .int .i64 (moreI c1 c2)] 23)).alloc (.cells #[.int .i64 s1, .int .i64 c1] 23)).alloc (.cells #[.int .i64 s2, .int .i64 c2] 23)) = w5 at *
    go_region_held3 (fun w' => w'.cell? ⟨w.heap.size, 0, none⟩ = some (.int .i64 s1) ∧ w'.cell? ⟨w.heap.size, 1, none⟩ = some (.int .i64 c1) ∧ w'.cell? ⟨w.heap.size + 1, 0, none⟩ = some (.int .i64 s2) ∧ w'.cell? ⟨w.heap.size + 1, 1, none⟩ = some (.int .i64 c2)
      ∧ w'.cell? ⟨w.heap.size + 1 + 1, 0, none⟩ = some (.int .i64 s3) ∧ w'.cell? ⟨w.heap.size + 1 + 1, 1, none⟩ = some (.int .i64 c3) ∧ w'.cell? ⟨w2.heap.size, 0, none⟩ = some (.int .i64 (moreI s1 s2)) ∧ w'.cell? ⟨w2.heap.size, 1, none⟩ = some (.int .i64 (moreI c1 c2)))
      ((go_split_ands; refine ⟨?_, ?_, ?_, ?_, ?_, ?_, ?_, ?_⟩ <;> (repeat (first | with_reducible assumption | with_reducible refine drew_cell ?_ | with_reducible refine below_cell' hq ?_))))
      (first
        | (go_at_call 12; refine (may_any _ _ _).mono ?_; rintro e w4 ⟨rfl, hq0⟩; have hq := hq0.symm ▸ bel_alloc (Below.refl _ _) _; clear hq0)
        | (go_at_call 17; refine (sum_any _ _ _ _ _).mono ?_; rintro e w4 ⟨rfl, hq⟩))
    go_wp2_with fail
    go_region_held3 (fun w' => w'.cell? ⟨w.heap.size, 0, none⟩ = some (.int .i64 s1) ∧ w'.cell? ⟨w.heap.size, 1, none⟩ = some (.int .i64 c1) ∧ w'.cell? ⟨w.heap.size + 1, 0, none⟩ = some (.int .i64 s2) ∧ w'.cell? ⟨w.heap.size + 1, 1, none⟩ = some (.int .i64 c2)
      ∧ w'.cell? ⟨w.heap.size + 1 + 1, 0, none⟩ = some (.int .i64 s3) ∧ w'.cell? ⟨w.heap.size + 1 + 1, 1, none⟩ = some (.int .i64 c3) ∧ w'.cell? ⟨w2.heap.size, 0, none⟩ = some (.int .i64 (moreI s1 s2)) ∧ w'.cell? ⟨w2.heap.size, 1, none⟩ = some (.int .i64 (moreI c1 c2)))
      ((go_split_ands; refine ⟨?_, ?_, ?_, ?_, ?_, ?_, ?_, ?_⟩ <;> (repeat (first | with_reducible assumption | with_reducible refine drew_cell ?_ | with_reducible refine below_cell' hq ?_))))
      (first
        | (go_at_call 12; refine (may_any _ _ _).mono ?_; rintro e w4 ⟨rfl, hq0⟩; have hq := hq0.symm ▸ bel_alloc (Below.refl _ _) _; clear hq0)
        | (go_at_call 17; refine (sum_any _ _ _ _ _).mono ?_; rintro e w4 ⟨rfl, hq⟩))
    go_wp2
    go_ret
    refine ⟨by simp, ?_⟩
    repeat (first | with_reducible exact Below.refl _ _ | with_reducible assumption | with_reducible refine bel_trans ?_ (by assumption) | with_reducible refine bel_alloc ?_ _ | with_reducible refine Below.drew ?_ | with_reducible refine below_drewN ?_ _)

end Go.Proofs.Ytdmeckjkpnccnaa
