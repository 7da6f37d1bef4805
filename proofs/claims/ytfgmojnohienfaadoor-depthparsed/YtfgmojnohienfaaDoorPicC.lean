/- Package pick: Fits, First, Begins, Pick. -/
import Derived.Test.YtfgmojnohienfaaDoorPicB
namespace Go.Proofs.YtfgmojnohienfaaDoor
open Go.RowKit
set_option linter.unusedVariables false
set_option maxRecDepth 100000

set_option maxHeartbeats 1000000 in
/-- The closure, asked of a variable's symbol. -/
theorem fits_var {te n : Int} {bt bf : Nat} (hd : AnsB te n bt bf) {w : World} (ht : TabR w) (hf : Fw te bt bf w) :
    Calls Tryd.prog 24 #[.agg #[.int .i64 1, .int .i64 n], .pointer (some ⟨bt, 0, none⟩), .pointer (some ⟨bf, 0, none⟩)] w fun e w' => e = .returned (.bool (fstK te n)) ∧ Below w.heap.size w w' := by
  obtain ⟨r, hr⟩ : ∃ r, begN te n = r := ⟨_, rfl⟩
  have hq : decide (0 ≤ r) = fstK te n := by rw [← hr]; exact begN_ge te n
  have hbo := bel_alloc (Below.refl _ w) (.cells #[.int .i64 1, .int .i64 n] 35)
  have r1 := beginning_of hd hr (ht.below hbo) (hf.below hbo)
  rw [← hq]
  obtain ⟨c0, c1⟩ := hf
  have l0 := World.block_lt_of_cell? _ _ c0
  have l1 := World.block_lt_of_cell? _ _ c1
  have HBo := Lib.hid hbo
  clear hbo ht hd hr hq
  go_enter Tryd.func24, Tryd.ntmps24
  go_wp2_with fail
  ((with_reducible refine r1.mono ?_))
  rintro e w2 ⟨rfl, hb2⟩
  have HB2 := Lib.hid (bel_trans HBo.out hb2)
  clear hb2 r1
  go_wp2_with fail
  go_ret
  exact ⟨rfl, HB2.out⟩
theorem ans_all (te : Int) (bt bf : Nat) : ∀ d, AnsF d te bt bf
  | 0 => fun t w hd ht hf => fits_leaf (by simpa [depB] using hd) hf
  | d + 1 => fun t w hd ht hf => by
    by_cases h1 : t.k = 1
    · obtain ⟨k, n⟩ := t
      change k = 1 at h1
      subst h1
      rw [fitK_var]
      refine fits_var (fun i w' hi ht' hf' => begins_of (ans_all te bt bf d) ?_ ht' hf') ht hf
      have : (ofR n).all (fun i => okS (depB d) (plR i)) = true := by simpa [depB] using hd
      exact List.all_eq_true.1 this i hi
    · exact fits_leaf h1 hf
theorem okS_all (p : Sq → Bool) (h : ∀ t, p t = true) : ∀ l, okS p l = true
  | [] => rfl
  | t :: l => by rw [okS, h t, okS_all p h l]; simp
theorem ansB_all (te : Int) (bt bf : Nat) (v : Int) : AnsB te v bt bf := fun i w hi ht hf => begins_of (ans_all te bt bf 6) (okS_all _ dep_all _) ht hf
set_option maxHeartbeats 1000000 in
theorem pfits_any {te : Int} {t : Sq} {r : Bool} (hr : fitK te t = r) {w : World} (ht : TabR w) :
    Calls Tryd.prog 14 #[.agg #[.int .i64 t.k, .int .i64 t.n], .int .i64 te] w fun e w' => e = .returned (.bool r) ∧ Below w.heap.size w w' := by
  have r1 := fun bt bf {w} h h' => ans_all te bt bf 6 t w (dep_all t) h h'
  rw [hr] at r1
  have hbo := bel_alloc (Below.refl _ w) (.cells #[.int .i64 t.k, .int .i64 t.n] 35)
  have c0 : (w.alloc (.cells #[.int .i64 t.k, .int .i64 t.n] 35)).cell? ⟨w.heap.size, 0, none⟩ = some (.int .i64 t.k) := by simp [go_sem]
  have c1 : (w.alloc (.cells #[.int .i64 t.k, .int .i64 t.n] 35)).cell? ⟨w.heap.size, 1, none⟩ = some (.int .i64 t.n) := by simp [go_sem]
  have HC0 := Lib.hid c0
  have HC1 := Lib.hid c1
  have HT := Lib.hid ht
  have HBo := Lib.hid hbo
  clear ht hbo c0 c1 hr
  go_enter Tryd.func14, Tryd.ntmps14
  go_wp2_with fail
  go_region_held3 (fun w' => w'.cell? ⟨w.heap.size, 0, none⟩ = some (.int .i64 t.k) ∧ w'.cell? ⟨w.heap.size, 1, none⟩ = some (.int .i64 t.n))
    (first | (exact ⟨HC0.out, HC1.out⟩) | (go_split_ands; refine ⟨?_, ?_⟩ <;> exact bel_cell hq (by assumption)))
    (first
      | (go_at_call 18; ((with_reducible refine (fitting_any te _).mono ?_)); rintro e w2 ⟨bt, bf, rfl, hq, hf2⟩; have hq2 := hq)
      | (go_at_call 24; ((with_reducible refine (r1 bt bf (HT.out.below (bel_trans HBo.out.drew hq2)) hf2).mono ?_)); rintro e w3 ⟨rfl, hq⟩; have hq3 := hq))
  go_wp2
  go_ret
  exact ⟨rfl, bel_trans (bel_trans HBo.out.drew hq2) hq3⟩
set_option maxHeartbeats 1000000 in
theorem ppick_any {v te r : Int} (hr : pickK te v = r) {w : World} (ht : TabR w) :
    Calls Tryd.prog 12 #[.int .i64 v, .int .i64 te] w fun e w' => e = .returned (.int .i64 r) ∧ Below w.heap.size w w' := by
  obtain ⟨x, hx⟩ : ∃ x, begN te v = x := ⟨_, rfl⟩
  have r1 := fun bt bf {w} h h' => beginning_of (ansB_all te bt bf v) hx (w := w) h h'
  have HT := Lib.hid ht
  rw [pickK, hx] at hr
  clear ht hx
  by_cases h0 : 0 ≤ x
  · rw [if_pos h0] at hr
    subst hr
    go_enter Tryd.func12, Tryd.ntmps12
    go_wp2_with fail
    ((with_reducible refine (fitting_any te _).mono ?_))
    rintro e w2 ⟨bt, bf, rfl, hb2, hf2⟩
    have HB2 := Lib.hid hb2
    have r2 := r1 bt bf (HT.out.below hb2) hf2
    clear hb2 hf2 r1
    go_wp2_with fail
    ((with_reducible refine r2.mono ?_))
    rintro e w3 ⟨rfl, hb3⟩
    have HB3 := Lib.hid (bel_trans HB2.out hb3)
    clear hb3 r2
    go_wp2_with fail
    go_ret
    exact ⟨rfl, HB3.out⟩
  · rw [if_neg h0] at hr
    have r3 := fun {w} h => empty_any (w := w) hr h
    clear hr
    go_enter Tryd.func12, Tryd.ntmps12
    go_wp2_with fail
    ((with_reducible refine (fitting_any te _).mono ?_))
    rintro e w2 ⟨bt, bf, rfl, hb2, hf2⟩
    have HB2 := Lib.hid hb2
    have r2 := r1 bt bf (HT.out.below hb2) hf2
    clear hb2 hf2 r1
    go_wp2_with fail
    ((with_reducible refine r2.mono ?_))
    rintro e w3 ⟨rfl, hb3⟩
    have HB3 := Lib.hid (bel_trans HB2.out hb3)
    have HTT := Lib.hid (HT.out.below HB3.out)
    clear hb3 r2
    go_wp2_with fail
    ((with_reducible refine (r3 HTT.out).mono ?_))
    rintro e w4 ⟨rfl, hb4⟩
    have HB4 := Lib.hid (bel_trans HB3.out hb4)
    clear hb4 r3
    go_wp2_with fail
    go_ret
    exact ⟨rfl, HB4.out⟩
end Go.Proofs.YtfgmojnohienfaaDoor
