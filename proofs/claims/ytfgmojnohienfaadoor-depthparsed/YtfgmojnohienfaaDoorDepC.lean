/- Stage 15's common beginning: awake. -/
import Derived.Test.YtfgmojnohienfaaDoorDepB
namespace Go.Proofs.YtfgmojnohienfaaDoor
open Go.RowKit
set_option linter.unusedVariables false
set_option maxRecDepth 100000

theorem ri_tk {w : World} {A : Option Addr} {l : List Int} (h : Ri w A l) (k : Nat) : Ri w A (l.take k) := fun j x hx => by
  have hj : j < k := by
    have := (List.getElem?_eq_some_iff.1 hx).1
    rw [List.length_take] at this
    omega
  rw [List.getElem?_take_of_lt hj] at hx
  exact h j x hx
theorem ri_blk {w : World} {g : Nat} (l : List Int) {t : TypeId} {fr : Nat × Nat} (h : w.heap[g]? = some (.cells (l.map iv).toArray t fr)) : Ri w (some ⟨g, 0, none⟩) l := fun j x hj => by
  refine ⟨g, 0, rfl, ?_⟩
  rw [Nat.zero_add]
  simp only [World.cell?, h]
  have : ((l.map iv).toArray)[j]? = some (iv x) := by simp [hj]
  simpa [iv] using this
theorem wf_tk {l : List Int} (h : wfL l) (k : Nat) : wfL (l.take k) := fun t ht => h t (List.mem_of_mem_take ht)
/-- The example. -/
def exL : List Int := [12, 4, 5, 14]
def exO : Obj := .cells #[.int .i64 12, .int .i64 4, .int .i64 5, .int .i64 14] 3
theorem ex_wf : wfL exL := by
  intro t ht
  simp only [exL, List.mem_cons, List.not_mem_nil, or_false] at ht
  rcases ht with rfl | rfl | rfl | rfl <;> decide
theorem ex_depth {g : Nat} {w : World} (hA : Ri w (some ⟨g, 0, none⟩) exL) : Calls Tryd.prog 7 #[.slice (some ⟨g, 0, none⟩) 4 4] w fun e w' => e = .returned (.int .i64 2) ∧ Below w.heap.size w w' :=
  depth_any (ts := exL) rfl (by omega) hA ex_wf
theorem ex_ends {g : Nat} {w : World} (hA : Ri w (some ⟨g, 0, none⟩) exL) : Calls Tryd.prog 6 #[.slice (some ⟨g, 0, none⟩) 4 4] w fun e w' => e = .returned (.int .i64 0) ∧ Below w.heap.size w w' :=
  ends_any (ts := exL) rfl (by omega) hA ex_wf
theorem ex_cut {g : Nat} {w : World} (hA : Ri w (some ⟨g, 0, none⟩) exL) : Calls Tryd.prog 6 #[.slice (some ⟨g, 0, none⟩) 2 4] w fun e w' => e = .returned (.int .i64 2) ∧ Below w.heap.size w w' :=
  ends_any (ts := exL.take 2) rfl (by omega) (ri_tk hA 2) (wf_tk ex_wf 2)
theorem ex_at1 {g : Nat} {w : World} (hA : Ri w (some ⟨g, 0, none⟩) exL) : Calls Tryd.prog 8 #[.slice (some ⟨g, 0, none⟩) 4 4, .int .i64 1] w fun e w' => e = .returned (.int .i64 1) ∧ Below w.heap.size w w' :=
  at_any (ts := exL) rfl (by omega) hA ex_wf
theorem ex_at2 {g : Nat} {w : World} (hA : Ri w (some ⟨g, 0, none⟩) exL) : Calls Tryd.prog 8 #[.slice (some ⟨g, 0, none⟩) 4 4, .int .i64 2] w fun e w' => e = .returned (.int .i64 (-1)) ∧ Below w.heap.size w w' :=
  at_any (ts := exL) rfl (by omega) hA ex_wf
set_option maxHeartbeats 2000000 in
theorem awake_any (w : World) : Calls Tryd.prog 4 #[] w fun e w' => e = .returned (.bool true) ∧ Below w.heap.size w w' := by
  have hbo := bel_alloc (Below.refl _ w) exO
  have hri : Ri (w.alloc exO) (some ⟨w.heap.size, 0, none⟩) exL := ri_blk exL (heap_alloc_new w exO)
  unfold exO at hbo hri
  have HB0 := Lib.hid hbo
  have HR0 := Lib.hid hri
  clear hbo hri
  go_enter Tryd.func4, Tryd.ntmps4
  go_wp2_with fail
  ((with_reducible refine (ex_depth HR0.out).mono ?_))
  rintro e w1 ⟨rfl, hb1⟩
  have HB1 := Lib.hid (bel_trans HB0.out hb1)
  have HR1 := Lib.hid (HR0.out.below hb1)
  clear hb1
  go_wp2_with fail
  ((with_reducible refine (ex_at1 HR1.out).mono ?_))
  rintro e w2 ⟨rfl, hb2⟩
  have HB2 := Lib.hid (bel_trans HB1.out hb2)
  have HR2 := Lib.hid (HR1.out.below hb2)
  clear hb2
  go_wp2_with fail
  ((with_reducible refine (ex_at2 HR2.out).mono ?_))
  rintro e w3 ⟨rfl, hb3⟩
  have HB3 := Lib.hid (bel_trans HB2.out hb3)
  have HR3 := Lib.hid (HR2.out.below hb3)
  clear hb3
  go_wp2_with fail
  ((with_reducible refine (ex_ends HR3.out).mono ?_))
  rintro e w4 ⟨rfl, hb4⟩
  have HB4 := Lib.hid (bel_trans HB3.out hb4)
  have HR4 := Lib.hid (HR3.out.below hb4)
  clear hb4
  go_wp2_with fail
  ((with_reducible refine (ex_cut HR4.out).mono ?_))
  rintro e w5 ⟨rfl, hb5⟩
  have HB5 := Lib.hid (bel_trans HB4.out hb5)
  clear hb5
  go_wp2_with fail
  go_ret
  exact ⟨by simp, HB5.out⟩
end Go.Proofs.YtfgmojnohienfaaDoor
