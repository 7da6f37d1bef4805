/- The chapter's example (awake), and the law MeterBoth. -/
import Derived.Test.YtdmeckjkpnccnaaWc
namespace Go.Proofs.Ytdmeckjkpnccnaa
open Go.RowKit

theorem bel_trans {a b c : World} (h : Below a.heap.size a b) (k : Below b.heap.size b c) : Below a.heap.size a c := h.trans (k.mono h.size)
theorem bel_alloc {a b : World} (h : Below a.heap.size a b) (o : Obj) : Below a.heap.size a (b.alloc o) := h.alloc h.size o
theorem below_cell {B : Nat} {W w1 : World} (hb : Below B W w1) {a : Addr} {v : Value} (h : W.cell? a = some v) (hB : a.block < B) : w1.cell? a = some v := by
  rw [hb.cell hB]; exact h
theorem below_cell' {W w1 : World} (hb : Below W.heap.size W w1) {a : Addr} {v : Value} (h : W.cell? a = some v) : w1.cell? a = some v :=
  below_cell hb h (World.block_lt_of_cell? W a h)

@[go_sem] theorem fld0 (a b : Int) (w : World) : (Instr.field 23 (.agg #[.int .i64 a, .int .i64 b]) 0).run Try.prog w = .ok (.int .i64 a) w := by kernel_rfl
@[go_sem] theorem fld1 (a b : Int) (w : World) : (Instr.field 23 (.agg #[.int .i64 a, .int .i64 b]) 1).run Try.prog w = .ok (.int .i64 b) w := by kernel_rfl

theorem ex1 : stepI 0 0 2 = 2 := by decide
theorem ex2 : cellI 2 0 3 = 3 := by decide
theorem ex3 : mayB 2 3 = true := by decide
theorem ex4 : withinB 2 3 0 1 2 = false := by decide
theorem ex5 : withinB 2 3 1 1 2 = true := by decide
theorem ex6 : sumI true 3 3 = 6 := by decide
theorem ex7 : sumI true 2 2 = 4 := by decide

set_option maxHeartbeats 2000000 in
theorem awake_any (w : World) : Calls Try.prog 9 #[] w fun e w' => e = .returned (.bool true) ∧ Below w.heap.size w w' := by
  have e1 := ex1
  have e2 := ex2
  have e3 := ex3
  have e4 := ex4
  have e5 := ex5
  have e6 := ex6
  have e7 := ex7
  go_enter Try.func9, Try.ntmps9
  go_wp2_with fail
  refine (step_any _ _ _ _).mono ?_
  rintro e w1 ⟨rfl, hb1⟩
  go_wp2_with fail
  refine (cell_any _ _ _ _).mono ?_
  rintro e w2 ⟨rfl, hb2⟩
  go_wp2_with fail
  refine (may_any _ _ _).mono ?_
  rintro e w3 ⟨rfl, rfl⟩
  go_wp2_with fail
  refine (within_any _ _ _ _ _ _).mono ?_
  rintro e w3 ⟨rfl, hb3⟩
  have c0 : w3.cell? ⟨w2.heap.size, 0, none⟩ = some (.int .i64 2) := below_cell' hb3 (by simp [go_sem])
  have c1 : w3.cell? ⟨w2.heap.size, 1, none⟩ = some (.int .i64 3) := below_cell' hb3 (by simp [go_sem])
  go_wp2_with fail
  refine (within_any _ _ _ _ _ _).mono ?_
  rintro e w4 ⟨rfl, hb4⟩
  have d0 : w4.cell? ⟨w2.heap.size, 0, none⟩ = some (.int .i64 2) := below_cell' hb4 c0
  have d1 : w4.cell? ⟨w2.heap.size, 1, none⟩ = some (.int .i64 3) := below_cell' hb4 c1
  go_wp2_with fail
  refine (sum_any _ _ _ _ _).mono ?_
  rintro e w5 ⟨rfl, hb5⟩
  go_wp2_with fail
  go_ret
  refine ⟨by simp, ?_⟩
  repeat (first | with_reducible exact Below.refl _ _ | with_reducible assumption | with_reducible refine bel_trans ?_ (by assumption) | with_reducible refine bel_alloc ?_ _ | with_reducible refine Below.drew ?_ | with_reducible refine below_drewN ?_ _)

/-! ### MeterBoth -/
theorem stepI_of {s c n : Int} (h : mayB s c = true) (hn : 0 ≤ n) : stepI s c n = moreI s n := by simp [stepI, h, hn]
theorem cellI_of {s c n : Int} (h : mayB s c = true) (hn : 0 ≤ n) : cellI s c n = moreI c n := by simp [cellI, h, hn]
theorem may_more {s c n : Int} (h : mayB s c = true) (hn : 0 ≤ n) : mayB (moreI s n) c = true := by
  obtain ⟨a, b, d, e⟩ := (mayB_iff s c).1 h
  have := moreI_bd s n a b hn
  exact (mayB_iff _ _).2 ⟨by omega, by omega, d, e⟩
theorem may_more' {s c n : Int} (h : mayB s c = true) (hn : 0 ≤ n) : mayB s (moreI c n) = true := by
  obtain ⟨a, b, d, e⟩ := (mayB_iff s c).1 h
  have := moreI_bd c n d e hn
  exact (mayB_iff _ _).2 ⟨a, b, by omega, by omega⟩

set_option maxHeartbeats 4000000 in
theorem both_any (s c s' c' : Int) (w : World) :
    Calls Try.prog 8 #[.agg #[.int .i64 s, .int .i64 c], .agg #[.int .i64 s', .int .i64 c']] w fun e w' => e = .returned (.bool true) ∧ Below w.heap.size w w' := by
  go_enter Try.func8, Try.ntmps8
  go_wp2_with fail
  refine (awake_any _).mono ?_
  rintro e w1 ⟨rfl, hb1⟩
  have a0 : w1.cell? ⟨w.heap.size, 0, none⟩ = some (.int .i64 s) := below_cell' hb1 (by simp [go_sem])
  have a1 : w1.cell? ⟨w.heap.size, 1, none⟩ = some (.int .i64 c) := below_cell' hb1 (by simp [go_sem])
  have a2 : w1.cell? ⟨w.heap.size + 1, 0, none⟩ = some (.int .i64 s') := below_cell' hb1 (by simp [go_sem])
  have a3 : w1.cell? ⟨w.heap.size + 1, 1, none⟩ = some (.int .i64 c') := below_cell' hb1 (by simp [go_sem])
  have z1 : w.heap.size < w1.heap.size := by have := hb1.size; simp at this; omega
  have z2 : w.heap.size + 1 < w1.heap.size := by have := hb1.size; simp at this; omega
  have hb : Below w.heap.size w w1 := Below.trans (by go_grown) (hb1.mono (by simp; omega))
  clear hb1
  cases hm : mayB s c
  · go_wp2_with (go_at_call 12; refine (may_any _ _ _).mono ?_; rintro e w' ⟨rfl, rfl⟩)
    go_ret
    exact ⟨by simp, hb.trans (by go_grown)⟩
  · cases hm' : mayB s' c'
    · go_wp2_with (go_at_call 12; refine (may_any _ _ _).mono ?_; rintro e w' ⟨rfl, rfl⟩)
      go_ret
      exact ⟨by simp, hb.trans (by go_grown)⟩
    · obtain ⟨s0, s1, c0, c1⟩ := (mayB_iff s' c').1 hm'
      have e1 := stepI_of hm s0
      have e2 := cellI_of (may_more hm s0) c0
      have e3 : sumI true s s' = moreI s s' := rfl
      have e4 : sumI true c c' = moreI c c' := rfl
      go_wp2_with (go_at_call 12; refine (may_any _ _ _).mono ?_; rintro e w' ⟨rfl, rfl⟩)
      go_region_held3 (fun w' => w'.cell? ⟨w.heap.size, 0, none⟩ = some (.int .i64 s) ∧ w'.cell? ⟨w.heap.size, 1, none⟩ = some (.int .i64 c) ∧ w'.cell? ⟨w.heap.size + 1, 0, none⟩ = some (.int .i64 s') ∧ w'.cell? ⟨w.heap.size + 1, 1, none⟩ = some (.int .i64 c'))
        (first | (simp [go_sem, *]; done) | (go_split_ands; refine ⟨?_, ?_, ?_, ?_⟩ <;> exact below_cell' hq (by assumption)))
        (first | (go_at_call 17; refine (sum_any _ _ _ _ _).mono ?_; rintro e w3 ⟨rfl, hq⟩) | (go_at_call 13; refine (step_any _ _ _ _).mono ?_; rintro e w4 ⟨rfl, hq⟩) | (go_at_call 15; refine (cell_any _ _ _ _).mono ?_; rintro e w5 ⟨rfl, hq⟩))
      go_wp2
      go_ret
      refine ⟨by simp, ?_⟩
      repeat (first | with_reducible exact Below.refl _ _ | with_reducible assumption | with_reducible refine bel_trans ?_ (by assumption) | with_reducible refine bel_alloc ?_ _ | with_reducible refine Below.drew ?_ | with_reducible refine below_drewN ?_ _)

end Go.Proofs.Ytdmeckjkpnccnaa
