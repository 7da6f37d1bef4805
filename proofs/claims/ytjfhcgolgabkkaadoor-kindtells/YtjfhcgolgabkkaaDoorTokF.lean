/- FewToks (copperplatelaw09). -/
import Derived.Test.YtjfhcgolgabkkaaDoorTokR
namespace Go.Proofs.YtjfhcgolgabkkaaDoor
open Go.RowKit
set_option linter.unusedVariables false
set_option maxRecDepth 100000

/-- How FewToks ends. -/
def FewE (n : Nat) (w : World) (e : Ending) (w' : World) : Prop := ∃ b, e = .returned (.bool b) ∧ (b = true → n ≤ 100) ∧ w = w'
set_option maxHeartbeats 1000000 in
theorem few_any {w : World} {A : Option Addr} {n c : Nat} {ts : List Tq} (ha : Tr w A ts) (hn : ts.length = n) (hz : n ≤ 9223372036854775807) (hv : ∀ t ∈ ts, t.v.size ≤ 9223372036854775807) :
    Calls Tryd.prog 10 #[.slice A n c] w fun e w' => FewE n w e w' := by
  have HN := Lib.hid hn
  have HA := Lib.hid ha
  have HV := Lib.hid hv
  clear hn ha hv
  go_enter Tryd.func10, Tryd.ntmps10
  go_wp2
  go_loop [3] (fun i => ∃ k : Nat, i = .int .i64 k ∧ k ≤ n ∧ k ≤ 101) (fun i => n - (intOf i).toNat)
  case atStart => exact ⟨0, rfl, Nat.zero_le _, by decide⟩
  case round =>
    obtain ⟨k, rfl, hk, hk2⟩ := hrel
    by_cases hlt : k < n
    · by_cases hl2 : k ≤ 100
      · obtain ⟨t, ht⟩ : ∃ t, ts[k]? = some t := ⟨_, List.getElem?_eq_getElem (by rw [HN.out]; exact hlt)⟩
        obtain ⟨b, o, rfl, c0, c1, c2, c3⟩ := HA.out k t ht
        have hvv := HV.out t (List.mem_of_getElem? ht)
        clear ht
        by_cases h6 : 600 < t.v.size
        · have g6 : (600 : Int) < (t.v.size : Int) := by omega
          go_wp2
          go_ret
          exact ⟨false, rfl, fun h => (by cases h), rfl⟩
        · have g6 : ¬ (600 : Int) < (t.v.size : Int) := by omega
          go_wp2
          go_round
          case rel => exact ⟨k + 1, by go_num, by omega, by omega⟩
          case measure => simp [intOf]; omega
      · have g1 : ¬ (k : Int) ≤ 100 := by omega
        have g2 : ¬ (n : Int) ≤ 100 := by omega
        go_wp2
        go_ret
        exact ⟨false, by simp, fun h => (by cases h), rfl⟩
    · obtain rfl : k = n := by omega
      by_cases hl2 : k ≤ 100
      · have g2 : (k : Int) ≤ 100 := by omega
        go_wp2
        go_ret
        exact ⟨true, by simp, fun _ => hl2, rfl⟩
      · have g2 : ¬ (k : Int) ≤ 100 := by omega
        go_wp2
        go_ret
        exact ⟨false, by simp, fun h => (by cases h), rfl⟩
end Go.Proofs.YtjfhcgolgabkkaaDoor
