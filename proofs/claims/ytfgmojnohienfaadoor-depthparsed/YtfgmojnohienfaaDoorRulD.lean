/- Stage 11's common beginning: awake. -/
import Derived.Test.YtfgmojnohienfaaDoorRulB
import Derived.Test.YtfgmojnohienfaaDoorRulC
namespace Go.Proofs.YtfgmojnohienfaaDoor
open Go.RowKit
set_option linter.unusedVariables false
set_option maxRecDepth 100000

theorem TabR.drew {w : World} (h : TabR w) : TabR w.drew := h
/-- How Get ends, whatever the number. -/
def GaE (w : World) (e : Ending) (w' : World) : Prop := ∃ (v : Int) (A : Option Addr) (n c : Nat) (b : Bool), e = .returned (.tuple #[.agg #[.int .i64 v, .slice A n c], .bool b]) ∧ Below w.heap.size w w'
theorem get_all (k : Int) {w : World} (ht : TabR w) : Calls Tryd.prog 20 #[.int .i64 k] w fun e w' => GaE w e w' := by
  by_cases h : 0 ≤ k ∧ k < 90
  · obtain ⟨i, rfl⟩ := Int.eq_ofNat_of_zero_le h.1
    refine (get_yes (i := i) (by omega) ht).mono ?_
    rintro e w' ⟨A, c, rfl, hb, -, -⟩
    exact ⟨_, _, _, _, _, rfl, hb⟩
  · refine (get_no (by omega) w).mono ?_
    rintro e w' ⟨rfl, hb⟩
    exact ⟨_, _, _, _, _, rfl, hb⟩
/-- How Get ends where there is the rule: its variable v, its symbols L, n of them. -/
def GyE (v : Int) (n : Nat) (L : List Sq) (w : World) (e : Ending) (w' : World) : Prop := ∃ A c, e = .returned (.tuple #[.agg #[.int .i64 v, .slice A n c], .bool true]) ∧ Below w.heap.size w w' ∧ Sr w' A L ∧ (A = none → n = 0 ∧ c = 0)
theorem get_as {i : Nat} (h : i < 90) {v : Int} {n : Nat} {L : List Sq} (hv : (varR i : Int) = v) (hL : symR i = L) (hn : L.length = n) {w : World} (ht : TabR w) : Calls Tryd.prog 20 #[.int .i64 i] w fun e w' => GyE v n L w e w' := by
  subst hv hL hn
  exact get_yes h ht
end Go.Proofs.YtfgmojnohienfaaDoor
