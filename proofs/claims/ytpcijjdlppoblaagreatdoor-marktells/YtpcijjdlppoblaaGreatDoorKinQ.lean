/- The reference's In (copperplateref10). -/
import Derived.Test.YtpcijjdlppoblaaGreatDoorPicO
namespace Go.Proofs.YtpcijjdlppoblaaGreatDoor
open Go.RowKit
set_option linter.unusedVariables false
set_option maxRecDepth 100000

set_option maxHeartbeats 1000000 in
theorem rin_any {c te : Int} {r : Bool} (hr : inK c te = r) (w : World) :
    Calls Tryz.prog 64 #[.int .i64 c, .int .i64 te] w fun e w' => e = .returned (.bool r) ∧ w = w' := by
  subst hr
  by_cases h1 : te < 18
  · have e : inK c te = false := by
      have a1 : ¬ (18 : Int) ≤ te := by omega
      have a2 : ¬ (19 : Int) ≤ te := by omega
      simp [inK, a1, a2]
    rw [e]; clear e
    go_enter Tryz.func64, Tryz.ntmps64
    go_wp2
    go_ret
    exact ⟨by simp, rfl⟩
  by_cases h2 : 30 < te
  · have e : inK c te = false := by
      have a1 : ¬ te ≤ 30 := by omega
      have a2 : ¬ te ≤ 21 := by omega
      simp [inK, a1, a2]
    rw [e]; clear e
    go_enter Tryz.func64, Tryz.ntmps64
    go_wp2
    go_ret
    exact ⟨by simp, rfl⟩
  have a1 : (18 : Int) ≤ te := by omega
  have a2 : te ≤ 30 := by omega
  by_cases h3 : c = 0
  · subst h3
    have e : inK 0 te = true := by simp [inK, a1, a2]
    rw [e]; clear e
    go_enter Tryz.func64, Tryz.ntmps64
    go_wp2
    go_ret
    exact ⟨by simp, rfl⟩
  by_cases h4 : c = 1
  · subst h4
    have e : inK 1 te = (te != 23) := by
      by_cases h : te = 23 <;> simp [inK, a1, a2, h]
    rw [e]; clear e h3
    by_cases h5 : te = 23
    · subst h5
      go_enter Tryz.func64, Tryz.ntmps64
      go_wp2
      go_ret
      exact ⟨by simp, rfl⟩
    · have q : (te != 23) = true := by simpa using h5
      rw [q]
      clear h5
      go_enter Tryz.func64, Tryz.ntmps64
      go_wp2
      go_ret
      exact ⟨by simp, rfl⟩
  have q3 : (c == 0) = false := by simpa using h3
  have q4 : (c == 1) = false := by simpa using h4
  by_cases h5 : c = 2
  · subst h5
    clear h3 h4 q3 q4
    by_cases h6 : 19 ≤ te
    · by_cases h7 : te ≤ 21
      · have e : inK 2 te = true := by simp [inK, h6, h7]
        rw [e]; clear e
        go_enter Tryz.func64, Tryz.ntmps64
        go_wp2
        go_ret
        exact ⟨by simp, rfl⟩
      · have e : inK 2 te = false := by simp [inK, h7]
        rw [e]; clear e
        go_enter Tryz.func64, Tryz.ntmps64
        go_wp2
        go_ret
        exact ⟨by simp, rfl⟩
    · have e : inK 2 te = false := by simp [inK, h6]
      rw [e]; clear e
      go_enter Tryz.func64, Tryz.ntmps64
      go_wp2
      go_ret
      exact ⟨by simp, rfl⟩
  · have q5 : (c == 2) = false := by simpa using h5
    rw [inK_no h3 h4 h5]
    clear h3 h4 h5
    go_enter Tryz.func64, Tryz.ntmps64
    go_wp2
    go_ret
    exact ⟨by simp, rfl⟩
end Go.Proofs.YtpcijjdlppoblaaGreatDoor
