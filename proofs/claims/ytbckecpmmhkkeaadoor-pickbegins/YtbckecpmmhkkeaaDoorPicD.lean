/- Stage 12's common beginning: awake. -/
import Derived.Test.YtbckecpmmhkkeaaDoorPicC
namespace Go.Proofs.YtbckecpmmhkkeaaDoor
open Go.RowKit
set_option linter.unusedVariables false
set_option maxRecDepth 100000

set_option maxHeartbeats 1000000 in
theorem awake_any (w : World) (ht : TabR w) : Calls Tryd.prog 10 #[] w fun e w' => e = .returned (.bool true) ∧ Below w.heap.size w w' := by
  have p1 := fun w h => ppick_any (v := 2) (te := 19) (r := 4) (by decide +kernel) (w := w) h
  have p2 := fun w h => ppick_any (v := 10) (te := 12) (r := 21) (by decide +kernel) (w := w) h
  have f1 := fun w h => pfirst_any (v := 2) (te := 12) (r := true) (by decide +kernel) (w := w) h
  have b1 := fun w h => pbegins_any (i := 3) (te := 12) (r := true) (by decide +kernel) (w := w) h
  have e1 := fun w h => empty_any (v := 10) (r := 21) (by decide +kernel) (w := w) h
  have e2 := fun w h => empty_any (v := 2) (r := -1) (by decide +kernel) (w := w) h
  have s1 := fun w h => pfits_any (t := ⟨2, 0⟩) (te := 23) (r := true) (by decide +kernel) (w := w) h
  go_enter Tryd.func10, Tryd.ntmps10
  (try simp only [List.append_eq, List.cons_append, List.nil_append])
  go_wp2_with fail
  (with_reducible refine (p1 _ ht).mono ?_)
  rintro e w1 ⟨rfl, hb1⟩
  go_wp2_with fail
  (with_reducible refine (p2 _ (ht.below hb1)).mono ?_)
  rintro e w2 ⟨rfl, hb2⟩
  go_wp2_with fail
  (with_reducible refine (f1 _ (ht.below (bel_trans hb1 hb2))).mono ?_)
  rintro e w3 ⟨rfl, hb3⟩
  go_wp2_with fail
  (with_reducible refine (b1 _ (ht.below (bel_trans (bel_trans hb1 hb2) hb3))).mono ?_)
  rintro e w4 ⟨rfl, hb4⟩
  go_wp2_with fail
  (with_reducible refine (e1 _ (ht.below (bel_trans (bel_trans (bel_trans hb1 hb2) hb3) hb4))).mono ?_)
  rintro e w5 ⟨rfl, hb5⟩
  go_wp2_with fail
  (with_reducible refine (e2 _ (ht.below (bel_trans (bel_trans (bel_trans (bel_trans hb1 hb2) hb3) hb4) hb5))).mono ?_)
  rintro e w6 ⟨rfl, hb6⟩
  go_wp2_with fail
  (with_reducible refine (s1 _ (ht.below (bel_trans (bel_trans (bel_trans (bel_trans (bel_trans hb1 hb2) hb3) hb4) hb5) hb6))).mono ?_)
  rintro e w7 ⟨rfl, hb7⟩
  go_wp2_with fail
  go_ret
  exact ⟨by first | (simp; done) | (simp; omega), (bel_trans (bel_trans (bel_trans (bel_trans (bel_trans (bel_trans hb1 hb2) hb3) hb4) hb5) hb6) hb7)⟩
end Go.Proofs.YtbckecpmmhkkeaaDoor
