/- Package kind: which terminals are in a class: In. -/
import Derived.Test.YtfgmojnohienfaaDoorKinM
import Derived.Test.YtfgmojnohienfaaDoorBel
namespace Go.Proofs.YtfgmojnohienfaaDoor
open Go.RowKit
set_option linter.unusedVariables false

/-- Is a terminal a name's? -/
def nmB (te : Int) : Bool := decide (18 ≤ te ∧ te ≤ 30)
set_option maxHeartbeats 400000 in
theorem isName_any (te : Int) (w : World) : Calls Tryd.prog 29 #[.int .i64 te] w fun e w' => e = .returned (.bool (nmB te)) ∧ w = w' := by
  by_cases h1 : 18 ≤ te
  · by_cases h2 : te ≤ 30
    · have e : nmB te = true := by simp [nmB, h1, h2]
      rw [e]; clear e
      go_enter Tryd.func29, Tryd.ntmps29
      go_wp2
      go_ret
      exact ⟨by simp, rfl⟩
    · have e : nmB te = false := by simp [nmB, h2]
      rw [e]; clear e
      go_enter Tryd.func29, Tryd.ntmps29
      go_wp2
      go_ret
      exact ⟨by simp, rfl⟩
  · have e : nmB te = false := by simp [nmB, h1]
    rw [e]; clear e
    go_enter Tryd.func29, Tryd.ntmps29
    go_wp2
    go_ret
    exact ⟨by simp, rfl⟩

/-- Is a terminal in a class? -/
theorem inK_0 (te : Int) : inK 0 te = nmB te := by simp [inK, nmB]
theorem inK_1 (te : Int) : inK 1 te = (nmB te && (te != 23)) := by
  unfold inK nmB
  by_cases h1 : 18 ≤ te <;> by_cases h2 : te ≤ 30 <;> by_cases h3 : te = 23 <;> simp [h1, h2, h3]
theorem inK_2 (te : Int) : inK 2 te = decide (19 ≤ te ∧ te ≤ 21) := by simp [inK]
theorem inK_no {c : Int} (h0 : c ≠ 0) (h1 : c ≠ 1) (h2 : c ≠ 2) (te : Int) : inK c te = false := by simp [inK, h0, h1, h2]
set_option maxHeartbeats 1000000 in
theorem in_any {c te : Int} {r : Bool} (hr : inK c te = r) (w : World) :
    Calls Tryd.prog 25 #[.int .i64 c, .int .i64 te] w fun e w' => e = .returned (.bool r) ∧ w = w' := by
  subst hr
  have rn := isName_any te
  by_cases h0 : c = 0
  · subst h0
    rw [inK_0]
    generalize nmB te = v at *
    go_enter Tryd.func25, Tryd.ntmps25
    go_wp2_with fail
    (with_reducible refine (rn _).mono ?_)
    rintro e w1 ⟨rfl, rfl⟩
    go_wp2
    go_ret
    exact ⟨rfl, rfl⟩
  by_cases h1 : c = 1
  · subst h1
    rw [inK_1]
    generalize nmB te = v at *
    by_cases h3 : te = 23
    · subst h3
      cases v
      all_goals
        go_enter Tryd.func25, Tryd.ntmps25
        go_wp2_with fail
        (with_reducible refine (rn _).mono ?_)
        rintro e w1 ⟨rfl, rfl⟩
        go_wp2
        go_ret
        exact ⟨by simp, rfl⟩
    · have q : (te != 23) = true := by simpa using h3
      rw [q]
      clear h0 h3
      cases v
      all_goals
        go_enter Tryd.func25, Tryd.ntmps25
        go_wp2_with fail
        (with_reducible refine (rn _).mono ?_)
        rintro e w1 ⟨rfl, rfl⟩
        go_wp2
        go_ret
        exact ⟨by simp, rfl⟩
  by_cases h2 : c = 2
  · subst h2
    rw [inK_2]
    by_cases g1 : te = 19
    · subst g1
      go_enter Tryd.func25, Tryd.ntmps25
      go_wp2
      go_ret
      exact ⟨by simp, rfl⟩
    by_cases g2 : te = 20
    · subst g2
      go_enter Tryd.func25, Tryd.ntmps25
      go_wp2
      go_ret
      exact ⟨by simp, rfl⟩
    by_cases g3 : te = 21
    · subst g3
      go_enter Tryd.func25, Tryd.ntmps25
      go_wp2
      go_ret
      exact ⟨by simp, rfl⟩
    have q1 : (te == 19) = false := by simpa using g1
    have q2 : (te == 20) = false := by simpa using g2
    have q3 : (te == 21) = false := by simpa using g3
    have e : decide (19 ≤ te ∧ te ≤ 21) = false := by simp; omega
    rw [e]
    clear g1 g2 g3 h0 h1 e
    go_enter Tryd.func25, Tryd.ntmps25
    go_wp2
    go_ret
    exact ⟨by simp, rfl⟩
  rw [inK_no h0 h1 h2]
  have q1 : (c == 0) = false := by simpa using h0
  have q2 : (c == 1) = false := by simpa using h1
  have q3 : (c == 2) = false := by simpa using h2
  clear h0 h1 h2 rn
  go_enter Tryd.func25, Tryd.ntmps25
  go_wp2
  go_ret
  exact ⟨by simp, rfl⟩
end Go.Proofs.YtfgmojnohienfaaDoor
