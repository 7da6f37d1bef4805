/- The reference's Of, Plain (copperplateref11). -/
import Derived.Test.YtbckecpmmhkkeaaDoorRulS
import Derived.Test.YtbckecpmmhkkeaaDoorRulB
namespace Go.Proofs.YtbckecpmmhkkeaaDoor
open Go.RowKit
set_option linter.unusedVariables false
set_option maxRecDepth 100000

set_option maxHeartbeats 1000000 in
theorem rof_any {w : World} (v : Int) {L : List Int} (hL : ofR v = L) :
    Calls Tryd.prog 27 #[.int .i64 v] w fun e w' => OfE L w e w' := by
  have HL := Lib.hid hL
  obtain ⟨i0, hi, hz0, hz1, hz2⟩ := info_parts infoI
  have HI := Lib.hid hi
  have HI0 := Lib.hid hz0
  have HI1 := Lib.hid hz1
  have HI2 := Lib.hid hz2
  clear hL hi hz0 hz1 hz2
  go_enter Tryd.func27, Tryd.ntmps27
  go_wp2_with fail
  refine (rvars_any _).mono ?_
  rintro e w1 ⟨g, rfl, hb1, hv⟩
  have HV := Lib.hid hv
  have HB1 := Lib.hid hb1
  clear hv hb1
  go_wp2
  go_loopw [4, 5] (fun q i wr => ∃ k : Nat, i = .int .i64 k ∧ k ≤ 90 ∧ wr.ownsRow w1.heap.size 3 1 q (ofN v k).length ((ofN v k).map iv) ∧ Below w1.heap.size w1 wr) (fun _ i _ => 90 - (intOf i).toNat)
  case atStart => exact ⟨0, rfl, by decide, World.ownsRow_nil _ _ _ _, Below.refl _ _⟩
  case round =>
    obtain ⟨k, rfl, hk, hown, hB⟩ := hrel
    by_cases hlt : k < 90
    · have q1 : (k : Int) < 90 := by omega
      have hcell := bel_cell hB (HV.out k hlt)
      have hs := ofN_succ v k
      have hlen := ofN_len v k
      have hO := Lib.hid hown
      generalize varR k = m at *
      clear hown
      by_cases hm : (m : Int) = v
      · rw [if_pos hm] at hs
        have HS := Lib.hid hs
        have q2 : ((m : Int) == v) = true := by simpa using hm
        clear hs hm
        go_wp2_with (at_builtin; refine wpList_append_own _ rfl _ _ 30 rfl w1.heap.size 3 i0 (.int .i64 0) 1 8 Tryd.underlying30 HI.out HI0.out HI1.out HI2.out rfl (by decide) _ _ _ rfl (hO.out.alloc _) ⟨wr.heap.size, 0, none⟩ 1 1 [.int .i64 (k : Int)] rfl rfl (cell_one_new _ _ _) (by simp [Value.oneCell']) (by unfold maxLen; omega) (by omega) (by have := hB.size; simp; omega) ?_)
        intro v' w3 hown' hgrow _
        have hB3 : Below w1.heap.size w1 w3 := (bel_alloc hB _).grown hgrow (by have := hB.size; simp; omega) (fun k hk => (hO.out.lt k hk).1)
        have hown3 : w3.ownsRow w1.heap.size 3 1 v' (ofN v (k + 1)).length ((ofN v (k + 1)).map iv) := by
          rw [HS.out, List.length_append, List.map_append]; exact hown'
        have HO3 := Lib.hid hown3
        clear hown' hgrow hown3
        go_wp2
        go_roundw
        case rel => exact ⟨k + 1, by go_num, by omega, HO3.out, hB3⟩
        case measure => simp [intOf]; omega
      · rw [if_neg hm, List.append_nil] at hs
        have HS := Lib.hid hs
        have q2 : ((m : Int) == v) = false := by simpa using hm
        clear hs hm
        go_wp2
        go_roundw
        case rel => exact ⟨k + 1, by go_num, by omega, by rw [HS.out]; exact hO.out, hB⟩
        case measure => simp [intOf]; omega
    · obtain rfl : k = 90 := by omega
      have e : ofN v 90 = L := HL.out
      rw [e] at hown
      obtain ⟨A', m, c', hv⟩ := own_sl hown
      subst hv
      obtain ⟨e1, e2, e3⟩ := ri_row hown
      have H2 := Lib.hid e2
      have H3 := Lib.hid e3
      subst e1
      clear hown e2 e3 e
      go_wp2
      go_ret
      exact ⟨_, _, rfl, bel_trans HB1.out hB, H2.out, H3.out⟩

end Go.Proofs.YtbckecpmmhkkeaaDoor
