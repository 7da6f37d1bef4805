/- Contracts of the small functions of package meter. -/
import Derived.Test.YtdmeckjkpnccnaaRows
import Derived.WalkKit
import Derived.WalkSpells
import Derived.StillTactics
import Derived.Laws.Pointers
import Derived.Deep.RegionHeld3
import Derived.Deep.QuietTactic
import Derived.BigQuiet
import Derived.Below
import Derived.Lib.Hide
import Derived.WalkSmall
import Derived.Handy
namespace Go.Proofs.Ytdmeckjkpnccnaa
open Go.RowKit

@[go_sem] theorem setCell_drewN (w : World) (k : Nat) (a : Addr) (v : Value) : (w.drewN k).setCell a v = (w.setCell a v).drewN k := by
  unfold World.setCell World.drewN; split <;> rfl
@[go_sem] theorem alloc_drewN (w : World) (k : Nat) (o : Obj) : (w.drewN k).alloc o = (w.alloc o).drewN k := rfl

def upB (t n : Int) : Bool := decide (0 ≤ n) && decide (n ≤ t)

set_option maxHeartbeats 400000 in
theorem upTo_any (t n : Int) (w : World) :
    Calls Try.prog 20 #[.int .i64 t, .int .i64 n] w fun e w' => e = .returned (.bool (upB t n)) ∧ w = w' := by
  by_cases h1 : 0 ≤ n <;> by_cases h2 : n ≤ t
  all_goals
    go_enter Try.func20, Try.ntmps20
    go_wp2
    go_ret
    exact ⟨by simp [upB, h1, h2], rfl⟩

/-- 2^40. -/
abbrev M : Int := 1099511627776
def mayB (s c : Int) : Bool := upB 1099511627776 s && upB 1099511627776 c
def moreI (h n : Int) : Int := if 1099511627776 - h < n then 1099511627776 else h + n

theorem mayB_iff (s c : Int) : mayB s c = true ↔ 0 ≤ s ∧ s ≤ 1099511627776 ∧ 0 ≤ c ∧ c ≤ 1099511627776 := by
  simp [mayB, upB]; omega

set_option maxHeartbeats 400000 in
theorem may_any (s c : Int) (w : World) :
    Calls Try.prog 12 #[.agg #[.int .i64 s, .int .i64 c]] w fun e w' => e = .returned (.bool (mayB s c)) ∧ w' = w.alloc (.cells #[.int .i64 s, .int .i64 c] 23) := by
  cases h1 : upB 1099511627776 s <;> cases h2 : upB 1099511627776 c
  all_goals
    go_enter Try.func12, Try.ntmps12
    go_wp2_with (go_at_call 20; refine (upTo_any _ _ _).mono ?_; rintro e w' ⟨rfl, rfl⟩)
    go_ret
    exact ⟨by simp [mayB, h1, h2], rfl⟩

set_option maxHeartbeats 400000 in
theorem add1_any (b o bn : Nat) (h n : Int) (w : World) (hc : w.cell? ⟨b, o, none⟩ = some (.int .i64 h)) (hf : w.frozen? ⟨b, o, none⟩ = false)
    (hn : w.cell? ⟨bn, 0, none⟩ = some (.int .i64 n)) (h0 : 0 ≤ h) (h1 : h ≤ 1099511627776) (n0 : 0 ≤ n) :
    Calls Try.prog 23 #[.pointer (some ⟨b, o, none⟩), .pointer (some ⟨bn, 0, none⟩)] w fun e w' => e = .returned (.tuple #[]) ∧ ∃ k, w' = (w.setCell ⟨b, o, none⟩ (.int .i64 (moreI h n))).drewN k := by
  by_cases hlt : 1099511627776 - h < n
  · have hm : moreI h n = 1099511627776 := by simp [moreI, hlt]
    rw [hm]; clear hm
    go_enter Try.func23, Try.ntmps23
    go_wp2
    go_quiet (fail)
    go_wp2
    refine bodyPost_ret (results_none rfl _ _ _) rfl ?_
    exact ⟨rfl, _, rfl⟩
  · have hm : moreI h n = h + n := by simp [moreI, hlt]
    rw [hm]; clear hm
    go_enter Try.func23, Try.ntmps23
    go_wp2
    go_quiet (fail)
    go_wp2
    go_region
    all_goals (try go_wp2)
    all_goals (go_end0; exact ⟨rfl, _, rfl⟩)

theorem moreI_bd (h n : Int) (h0 : 0 ≤ h) (h1 : h ≤ 1099511627776) (n0 : 0 ≤ n) : h ≤ moreI h n ∧ 0 ≤ moreI h n ∧ moreI h n ≤ 1099511627776 := by
  unfold moreI; split <;> omega

/-- What Step answers of the Steps. -/
def stepI (s c n : Int) : Int := if mayB s c = true ∧ 0 ≤ n then moreI s n else s
def cellI (s c n : Int) : Int := if mayB s c = true ∧ 0 ≤ n then moreI c n else c

theorem bcell {W w1 : World} (hb : Below W.heap.size W w1) : (∀ b o, b < W.heap.size → w1.cell? ⟨b, o, none⟩ = W.cell? ⟨b, o, none⟩) ∧ (∀ b o, b < W.heap.size → w1.frozen? ⟨b, o, none⟩ = W.frozen? ⟨b, o, none⟩) :=
  ⟨fun b o h => hb.cell (p := ⟨b, o, none⟩) h, fun b o h => hb.frozen (p := ⟨b, o, none⟩) h⟩

set_option maxHeartbeats 1000000 in
theorem step_any (s c n : Int) (w : World) :
    Calls Try.prog 13 #[.agg #[.int .i64 s, .int .i64 c], .int .i64 n] w fun e w' => e = .returned (.agg #[.int .i64 (stepI s c n), .int .i64 c]) ∧ Below w.heap.size w w' := by
  cases hm : mayB s c
  · have e1 : stepI s c n = s := by simp [stepI, hm]
    rw [e1]; clear e1
    go_enter Try.func13, Try.ntmps13
    go_wp2_with (go_at_call 12; refine (may_any _ _ _).mono ?_; rintro e w' ⟨rfl, rfl⟩)
    refine bodyPost_ret (v := .agg #[.int .i64 s, .int .i64 c]) (by simp [results, Try.results13, go_sem]) rfl ⟨rfl, ?_⟩
    repeat (first | exact Below.refl _ _ | with_reducible refine Below.alloc ?_ (by go_size) _ | with_reducible refine Below.setCell ?_ (by go_size) _ | with_reducible refine below_drewN ?_ _)
  · by_cases hn : 0 ≤ n
    · have e1 : stepI s c n = moreI s n := by simp [stepI, hm, hn]
      rw [e1]; clear e1
      have hmm := (mayB_iff s c).1 hm
      obtain ⟨s0, s1, c0, c1⟩ := hmm
      go_enter Try.func13, Try.ntmps13
      go_wp2_with (first | (go_at_call 12; refine (may_any _ _ _).mono ?_; rintro e w' ⟨rfl, rfl⟩) | (go_at_call 21; go_in) | (go_at_call 23; refine (add1_any _ _ _ s n _ (by simp [go_sem]) (by simp [go_sem]) (by simp [go_sem]) s0 s1 hn).mono ?_; rintro e w' ⟨rfl, k, rfl⟩))
      refine bodyPost_ret (v := .agg #[.int .i64 (moreI s n), .int .i64 c]) (by simp [results, Try.results13, go_sem]) rfl ⟨rfl, ?_⟩
      repeat (first | exact Below.refl _ _ | with_reducible refine Below.alloc ?_ (by go_size) _ | with_reducible refine Below.setCell ?_ (by go_size) _ | with_reducible refine below_drewN ?_ _)
    · have e1 : stepI s c n = s := by simp [stepI, hn]
      rw [e1]; clear e1
      go_enter Try.func13, Try.ntmps13
      go_wp2_with (go_at_call 12; refine (may_any _ _ _).mono ?_; rintro e w' ⟨rfl, rfl⟩)
      refine bodyPost_ret (v := .agg #[.int .i64 s, .int .i64 c]) (by simp [results, Try.results13, go_sem]) rfl ⟨rfl, ?_⟩
      repeat (first | exact Below.refl _ _ | with_reducible refine Below.alloc ?_ (by go_size) _ | with_reducible refine Below.setCell ?_ (by go_size) _ | with_reducible refine below_drewN ?_ _)

end Go.Proofs.Ytdmeckjkpnccnaa
