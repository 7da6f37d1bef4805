/- Contracts of package scan's functions: Begins, isDigit, inName, inComment, the closure, end. -/
import Derived.Test.YtjfhcgolgabkkaaDoorRows
import Derived.Test.YtjfhcgolgabkkaaDoorScanM
import Derived.WalkKit
import Derived.WalkSpells
import Derived.StillTactics
import Derived.Laws.Pointers
import Derived.Laws.RangeAny
import Derived.Deep.RegionHeld3
import Derived.Deep.QuietTactic
import Derived.BigQuiet
import Derived.Below
import Derived.IntWalk
import Derived.Lib.Hide
import Derived.Lib.Strings
import Derived.WalkSmall
import Derived.LoopN
import Derived.Handy
namespace Go.Proofs.YtjfhcgolgabkkaaDoor.Sc
open Go.RowKit
set_option linter.unusedVariables false

theorem bel_trans {a b c : World} (h : Below a.heap.size a b) (k : Below b.heap.size b c) : Below a.heap.size a c := h.trans (k.mono h.size)
theorem bel_alloc {a b : World} (h : Below a.heap.size a b) (o : Obj) : Below a.heap.size a (b.alloc o) := h.alloc h.size o

set_option maxHeartbeats 400000 in
theorem begins_any (x : Int) (w : World) :
    Calls Tryd.prog 40 #[.int .u8 x] w fun e w' => e = .returned (.bool (bgI x)) ∧ w = w' := by
  by_cases h5 : x = 95
  · subst h5
    go_enter Tryd.func40, Tryd.ntmps40
    go_wp2
    go_ret
    exact ⟨rfl, rfl⟩
  have e5 : (x == 95) = false := by simp [h5]
  by_cases h1 : 97 ≤ x <;> by_cases h2 : x ≤ 122 <;> by_cases h3 : 65 ≤ x <;> by_cases h4 : x ≤ 90
  all_goals
    go_enter Tryd.func40, Tryd.ntmps40
    go_wp2
    go_ret
    exact ⟨by simp [bgI, h1, h2, h3, h4, h5], rfl⟩

set_option maxHeartbeats 400000 in
theorem digit_any (x : Int) (w : World) :
    Calls Tryd.prog 54 #[.int .u8 x] w fun e w' => e = .returned (.bool (dgI x)) ∧ w = w' := by
  by_cases h1 : 48 ≤ x <;> by_cases h2 : x ≤ 57
  all_goals
    go_enter Tryd.func54, Tryd.ntmps54
    go_wp2
    go_ret
    exact ⟨by simp [dgI, h1, h2], rfl⟩

set_option maxHeartbeats 400000 in
theorem inName_any (x : Int) (w : World) :
    Calls Tryd.prog 48 #[.int .u8 x] w fun e w' => e = .returned (.bool (nmI x)) ∧ w = w' := by
  have e : nmI x = (bgI x || dgI x) := rfl
  rw [e]; clear e
  have hb := begins_any x
  have hd := digit_any x
  generalize bgI x = p at hb ⊢
  generalize dgI x = q at hd ⊢
  cases p
  all_goals
    go_enter Tryd.func48, Tryd.ntmps48
    go_wp2_with (first | (go_at_call 40; refine (hb _).mono ?_; rintro e w' ⟨rfl, rfl⟩) | (go_at_call 54; refine (hd _).mono ?_; rintro e w' ⟨rfl, rfl⟩))
    go_ret
    exact ⟨rfl, rfl⟩

set_option maxHeartbeats 400000 in
theorem inComment_any (x : Int) (w : World) :
    Calls Tryd.prog 35 #[.int .u8 x] w fun e w' => e = .returned (.bool (cmI x)) ∧ w = w' := by
  by_cases h1 : x = 10
  · subst h1
    go_enter Tryd.func35, Tryd.ntmps35
    go_wp2
    go_ret
    exact ⟨rfl, rfl⟩
  by_cases h2 : x = 13
  · subst h2
    go_enter Tryd.func35, Tryd.ntmps35
    go_wp2
    go_ret
    exact ⟨rfl, rfl⟩
  have e1 : (x != 10) = true := by simp [h1]
  have e2 : (x != 13) = true := by simp [h2]
  have e : cmI x = true := by simp [cmI, h1, h2]
  rw [e]; clear e
  go_enter Tryd.func35, Tryd.ntmps35
  go_wp2
  go_ret
  exact ⟨rfl, rfl⟩

/-- Does the closure say yes? -/
def sd (p : Int → Bool) (l : List UInt8) (i : Int) : Bool := decide (0 ≤ i ∧ i < l.length) && p ((l.getD i.toNat 0).toNat : Int)

/-- A function value that tells p of a byte. -/
structure Tells (p : Int → Bool) (f : Nat) : Prop where
  goes : ∀ (args : Array Value) (w : World), (callFunc f args).run Tryd.prog w = .ok (.enter f args) w
  says : ∀ (x : Int) (w : World), Calls Tryd.prog f #[.int .u8 x] w fun e w' => e = .returned (.bool (p x)) ∧ w = w'
theorem begins_tells : Tells bgI 40 := ⟨fun args w => by simp [go_sem], begins_any⟩
theorem digit_tells : Tells dgI 54 := ⟨fun args w => by simp [go_sem], digit_any⟩
theorem inName_tells : Tells nmI 48 := ⟨fun args w => by simp [go_sem], inName_any⟩
theorem inComment_tells : Tells cmI 35 := ⟨fun args w => by simp [go_sem], inComment_any⟩

set_option maxHeartbeats 400000 in
theorem standing1_any (p : Int → Bool) (f : Nat) (hf : Tells p f) (s : ByteArray) (i : Int) (b1 b2 : Nat) (w : World)
    (c1 : w.cell? ⟨b1, 0, none⟩ = some (.string s)) (c2 : w.cell? ⟨b2, 0, none⟩ = some (.func (.func f) #[] #[])) :
    Calls Tryd.prog 45 #[.int .i64 i, .pointer (some ⟨b1, 0, none⟩), .pointer (some ⟨b2, 0, none⟩)] w fun e w' =>
      e = .returned (.bool (sd p s.data.toList i)) ∧ ∃ n, w' = w.drewN n := by
  have hsz : s.data.toList.length = s.size := (Lib.size_eq s).symm
  by_cases h0 : 0 ≤ i
  · obtain ⟨k, rfl⟩ := Int.eq_ofNat_of_zero_le h0
    by_cases h1 : k < s.size
    · have e : sd p s.data.toList k = p ((s[k]).toNat : Int) := by
        unfold sd
        rw [decide_eq_true (by omega), Bool.true_and, Int.toNat_natCast, List.getD_eq_getElem?_getD, List.getElem?_eq_getElem (by omega)]
        rfl
      rw [e]; clear e hsz
      have d0 : decide ((0 : Int) ≤ (k : Int)) = true := by simp
      have d1 : decide ((k : Int) < (s.size : Int)) = true := by simp [h1]
      have hx : ∀ w : World, Calls Tryd.prog f #[.int .u8 ((s[k]).toNat : Int)] w fun e w' => e = .returned (.bool (p ((s[k]).toNat : Int))) ∧ w' = w := fun w => (hf.says _ w).mono fun _ _ h => ⟨h.1, h.2.symm⟩
      generalize p ((s[k]).toNat : Int) = v at hx ⊢
      have hgo := hf.goes
      go_enter Tryd.func45, Tryd.ntmps45
      go_wp2_with fail
      go_quiet (exact Calls.quiet_of_same (hx _))
      go_wp2
      go_ret
      exact ⟨rfl, _, rfl⟩
    · have e : sd p s.data.toList k = false := by unfold sd; rw [decide_eq_false (by omega)]; rfl
      rw [e]; clear e hsz
      have d0 : decide ((0 : Int) ≤ (k : Int)) = true := by simp
      have d1 : decide ((k : Int) < (s.size : Int)) = false := by simp; omega
      go_enter Tryd.func45, Tryd.ntmps45
      go_wp2_with fail
      go_quiet (fail)
      go_wp2
      go_ret
      exact ⟨rfl, _, rfl⟩
  · have e : sd p s.data.toList i = false := by unfold sd; rw [decide_eq_false (by omega)]; rfl
    rw [e]; clear e hsz
    have d0 : decide ((0 : Int) ≤ i) = false := by simp; omega
    go_enter Tryd.func45, Tryd.ntmps45
    go_wp2_with fail
    go_quiet (fail)
    go_wp2
    go_ret
    exact ⟨rfl, _, rfl⟩
end Go.Proofs.YtjfhcgolgabkkaaDoor.Sc
