/- The law PickClass: its walk. -/
import Derived.Test.YtbckecpmmhkkeaaDoorPicD
namespace Go.Proofs.YtbckecpmmhkkeaaDoor
open Go.RowKit
set_option linter.unusedVariables false
set_option maxRecDepth 100000

set_option maxHeartbeats 2000000 in
theorem class_law (c te : Int) {w : World} (ht : TabR w) : Calls Tryd.prog 7 #[.int .i64 c, .int .i64 te] w fun e w' => e = .returned (.bool true) ∧ Below w.heap.size w w' := by
  obtain ⟨x, hx⟩ : ∃ x, inK c te = x := ⟨_, rfl⟩
  have i1 := fun w => in_any hx w
  have s1 := fun w h => pfits_any (te := te) (t := ⟨2, c⟩) (r := x) (by rw [fitK_class]; exact hx) (w := w) h
  have s2 := fun w h => pfits_any (te := te) (t := ⟨3, c⟩) (r := false) (fitK_other te (by decide) (by decide) (by decide)) (w := w) h
  clear hx
  by_cases h1 : c = te
  · subst h1
    by_cases h2 : c = 0
    · subst h2
      have s3 := fun w h => pfits_any (te := 0) (t := ⟨0, 0⟩) (r := false) (by rw [fitK_term]; rfl) (w := w) h
      go_enter Tryd.func7, Tryd.ntmps7
      (try simp only [List.append_eq, List.cons_append, List.nil_append])
      go_wp2_with fail
      (with_reducible refine (awake_any _ ht).mono ?_)
      rintro e w1 ⟨rfl, hb1⟩
      go_wp2_with fail
      (with_reducible refine (s1 _ (ht.below hb1)).mono ?_)
      rintro e w2 ⟨rfl, hb2⟩
      go_wp2_with fail
      (with_reducible refine (i1 _).mono ?_)
      rintro e w' ⟨rfl, rfl⟩
      go_wp2_with fail
      (with_reducible refine (s2 _ (ht.below (bel_trans hb1 hb2))).mono ?_)
      rintro e w3 ⟨rfl, hb3⟩
      go_wp2_with fail
      (with_reducible refine (s3 _ (ht.below (bel_trans (bel_trans hb1 hb2) hb3))).mono ?_)
      rintro e w4 ⟨rfl, hb4⟩
      go_wp2_with fail
      go_ret
      exact ⟨by first | (simp; done) | (simp; omega), (bel_trans (bel_trans (bel_trans hb1 hb2) hb3) hb4)⟩
    · have q2 : (c != 0) = true := by simpa using h2
      have q3 : (c == 0) = false := by simpa using h2
      have s3 := fun w h => pfits_any (te := c) (t := ⟨0, c⟩) (r := true) (by rw [fitK_term, q2]; simp) (w := w) h
      clear h2
      go_enter Tryd.func7, Tryd.ntmps7
      (try simp only [List.append_eq, List.cons_append, List.nil_append])
      go_wp2_with fail
      (with_reducible refine (awake_any _ ht).mono ?_)
      rintro e w1 ⟨rfl, hb1⟩
      go_wp2_with fail
      (with_reducible refine (s1 _ (ht.below hb1)).mono ?_)
      rintro e w2 ⟨rfl, hb2⟩
      go_wp2_with fail
      (with_reducible refine (i1 _).mono ?_)
      rintro e w' ⟨rfl, rfl⟩
      go_wp2_with fail
      (with_reducible refine (s2 _ (ht.below (bel_trans hb1 hb2))).mono ?_)
      rintro e w3 ⟨rfl, hb3⟩
      go_wp2_with fail
      (with_reducible refine (s3 _ (ht.below (bel_trans (bel_trans hb1 hb2) hb3))).mono ?_)
      rintro e w4 ⟨rfl, hb4⟩
      go_wp2_with fail
      go_ret
      exact ⟨by first | (simp; done) | (simp; omega), (bel_trans (bel_trans (bel_trans hb1 hb2) hb3) hb4)⟩
  · have q1 : (c == te) = false := by simpa using h1
    have s3 := fun w h => pfits_any (te := te) (t := ⟨0, c⟩) (r := false) (by rw [fitK_term, q1]; rfl) (w := w) h
    clear h1
    go_enter Tryd.func7, Tryd.ntmps7
    (try simp only [List.append_eq, List.cons_append, List.nil_append])
    go_wp2_with fail
    (with_reducible refine (awake_any _ ht).mono ?_)
    rintro e w1 ⟨rfl, hb1⟩
    go_wp2_with fail
    (with_reducible refine (s1 _ (ht.below hb1)).mono ?_)
    rintro e w2 ⟨rfl, hb2⟩
    go_wp2_with fail
    (with_reducible refine (i1 _).mono ?_)
    rintro e w' ⟨rfl, rfl⟩
    go_wp2_with fail
    (with_reducible refine (s2 _ (ht.below (bel_trans hb1 hb2))).mono ?_)
    rintro e w3 ⟨rfl, hb3⟩
    go_wp2_with fail
    (with_reducible refine (s3 _ (ht.below (bel_trans (bel_trans hb1 hb2) hb3))).mono ?_)
    rintro e w4 ⟨rfl, hb4⟩
    go_wp2_with fail
    go_ret
    exact ⟨by first | (simp; done) | (simp; omega), (bel_trans (bel_trans (bel_trans hb1 hb2) hb3) hb4)⟩
end Go.Proofs.YtbckecpmmhkkeaaDoor
