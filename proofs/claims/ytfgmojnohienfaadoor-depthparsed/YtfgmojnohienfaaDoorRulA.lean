/- Package rule: its table; Count, Vars, symbol, ofKind, Of. -/
import Derived.Test.YtfgmojnohienfaaDoorSymR
import Derived.Test.YtfgmojnohienfaaDoorIntR
namespace Go.Proofs.YtfgmojnohienfaaDoor
open Go.RowKit
set_option linter.unusedVariables false
set_option maxRecDepth 100000

/-- The table holds the rules' codes. -/
def TabR (w : World) : Prop := 0 < w.heap.size ∧ ∀ c, c < 90 → w.cell? ⟨0, c, none⟩ = some (.string (mkb (codR c)))
theorem TabR.below {w w' : World} (h : TabR w) (b : Below w.heap.size w w') : TabR w' :=
  ⟨Nat.lt_of_lt_of_le h.1 b.size, fun c hc => (b.cell (p := ⟨0, c, none⟩) h.1).trans (h.2 c hc)⟩

set_option maxHeartbeats 400000 in
theorem symbol_any {c k n : Int} (h0 : 0 ≤ c) (h1 : c < 256) (hr : symZ c = ⟨k, n⟩) (w : World) :
    Calls Tryd.prog 26 #[.int .i64 c] w fun e w' => e = .returned (.agg #[.int .i64 k, .int .i64 n]) ∧ Below w.heap.size w w' := by
  unfold symZ at hr
  by_cases g1 : 98 ≤ c
  · rw [if_pos g1] at hr
    injection hr with e1 e2
    subst e1 e2
    go_enter Tryd.func26, Tryd.ntmps26
    go_wp2
    go_returns
    exact ⟨rfl, by go_grown⟩
  rw [if_neg g1] at hr
  by_cases g2 : 95 ≤ c
  · rw [if_pos g2] at hr
    injection hr with e1 e2
    subst e1 e2
    go_enter Tryd.func26, Tryd.ntmps26
    go_wp2
    go_returns
    exact ⟨rfl, by go_grown⟩
  rw [if_neg g2] at hr
  by_cases g3 : 64 ≤ c
  · rw [if_pos g3] at hr
    injection hr with e1 e2
    subst e1 e2
    go_enter Tryd.func26, Tryd.ntmps26
    go_wp2
    go_returns
    exact ⟨rfl, by go_grown⟩
  rw [if_neg g3] at hr
  injection hr with e1 e2
  subst e1 e2
  go_enter Tryd.func26, Tryd.ntmps26
  go_wp2
  go_returns
  exact ⟨rfl, by go_grown⟩

theorem ofKind_any (k : Int) (w : World) :
    Calls Tryd.prog 27 #[.int .i64 k] w fun e w' => e = .returned (.func (.func 30) #[] #[.pointer (some ⟨w.heap.size, 0, none⟩)]) ∧ w' = w.alloc (.cells #[.int .i64 k] 3) := by
  go_enter Tryd.func27, Tryd.ntmps27
  go_wp2
  go_ret
  exact ⟨rfl, rfl⟩
theorem isKind_any {w : World} {bx : Nat} {kk : Int} (k n : Int) {r : Bool} (hr : (k == kk) = r) (hb : w.cell? ⟨bx, 0, none⟩ = some (.int .i64 kk)) :
    Calls Tryd.prog 30 #[.agg #[.int .i64 k, .int .i64 n], .pointer (some ⟨bx, 0, none⟩)] w fun e w' => e = .returned (.bool r) ∧ w' = w.alloc (.cells #[.int .i64 k, .int .i64 n] 35) := by
  have lb := World.block_lt_of_cell? _ _ hb
  go_enter Tryd.func30, Tryd.ntmps30
  go_wp2
  go_ret
  exact ⟨by first | rfl | (simp; done) | (simp [hr]; done), rfl⟩

/-- How Of ends. -/
def OfE (L : List Int) (w : World) (e : Ending) (w' : World) : Prop := ∃ A c, e = .returned (.slice A L.length c) ∧ Below w.heap.size w w' ∧ Ri w' A L ∧ (A = none → L.length = 0 ∧ c = 0)
/-- A rule's codes as a string. -/
theorem str_cod (i : Nat) (h : i < 90) : ∃ X : ByteArray, mkb (codR i) = X ∧ ∃ h : 0 < X.size, X[0].toNat = varR i := by
  refine ⟨_, rfl, ?_⟩
  rw [codR_eq i h]
  refine ⟨by rw [mkb_size]; simp, ?_⟩
  have := varR_lt i h
  show (UInt8.ofNat (varR i)).toNat = varR i
  rw [UInt8.toNat_ofNat']; omega
set_option maxHeartbeats 1000000 in
theorem of_any {w : World} (v : Int) {L : List Int} (hL : ofR v = L) (ht : TabR w) :
    Calls Tryd.prog 22 #[.int .i64 v] w fun e w' => OfE L w e w' := by
  have HL := Lib.hid hL
  have HT := Lib.hid ht
  obtain ⟨i0, hi, hz0, hz1, hz2⟩ := info_parts infoI
  have HI := Lib.hid hi
  have HI0 := Lib.hid hz0
  have HI1 := Lib.hid hz1
  have HI2 := Lib.hid hz2
  clear hL ht hi hz0 hz1 hz2
  go_enter Tryd.func22, Tryd.ntmps22
  go_wp2
  go_loopw [3, 5] (fun q i wr => ∃ k : Nat, i = .int .i64 k ∧ k ≤ 90 ∧ wr.ownsRow w.heap.size 3 1 q (ofN v k).length ((ofN v k).map iv) ∧ Below w.heap.size w wr) (fun _ i _ => 90 - (intOf i).toNat)
  case atStart => exact ⟨0, rfl, by decide, World.ownsRow_nil _ _ _ _, Below.refl _ _⟩
  case round =>
    obtain ⟨k, rfl, hk, hown, hB⟩ := hrel
    by_cases hlt : k < 90
    · have q1 : (k : Int) < 90 := by omega
      have hcell := (HT.out.below hB).2 k hlt
      obtain ⟨X, hX, x0, x1⟩ := str_cod k hlt
      rw [hX] at hcell
      have hs := ofN_succ v k
      have hlen := ofN_len v k
      have hv3 := varR_lt k hlt
      have hO := Lib.hid hown
      generalize varR k = m at *
      clear hown hX
      by_cases hm : (m : Int) = v
      · rw [if_pos hm] at hs
        have HS := Lib.hid hs
        have q2 : ((m : Int) == v) = true := by simpa using hm
        clear hs hm
        go_wp2_with (at_builtin; refine wpList_append_own _ rfl _ _ 22 rfl w.heap.size 3 i0 (.int .i64 0) 1 8 Tryd.underlying22 HI.out HI0.out HI1.out HI2.out rfl (by decide) _ _ _ rfl (hO.out.alloc _) ⟨wr.heap.size, 0, none⟩ 1 1 [.int .i64 (k : Int)] rfl rfl (cell_one_new _ _ _) (by simp [Value.oneCell']) (by unfold maxLen; omega) (by omega) (by have := hB.size; simp; omega) ?_)
        intro v' w3 hown' hgrow _
        have hB3 : Below w.heap.size w w3 := (bel_alloc hB _).grown hgrow (by have := hB.size; simp; omega) (fun k hk => (hO.out.lt k hk).1)
        have hown3 : w3.ownsRow w.heap.size 3 1 v' (ofN v (k + 1)).length ((ofN v (k + 1)).map iv) := by
          rw [HS.out, List.length_append, List.map_append]; exact hown'
        have HO3 := Lib.hid hown3
        clear hown' hgrow hown3
        go_wp2
        go_roundw
        case rel => exact ⟨k + 1, by go_num, by omega, HO3.out, hB3⟩
        case measure => simp [intOf]; omega
      · rw [if_neg hm, List.append_nil] at hs
        have HS := Lib.hid hs
        have q2 : ((m : Int) == v) = false := by simpa using hm
        clear hs hm
        go_wp2
        go_roundw
        case rel => exact ⟨k + 1, by go_num, by omega, by rw [HS.out]; exact hO.out, hB⟩
        case measure => simp [intOf]; omega
    · obtain rfl : k = 90 := by omega
      have e : ofN v 90 = L := HL.out
      rw [e] at hown
      obtain ⟨A', m, c', hv⟩ := own_sl hown
      subst hv
      obtain ⟨e1, e2, e3⟩ := ri_row hown
      have H2 := Lib.hid e2
      have H3 := Lib.hid e3
      subst e1
      clear hown e2 e3 e
      go_wp2
      go_ret
      exact ⟨_, _, rfl, hB, H2.out, H3.out⟩
end Go.Proofs.YtfgmojnohienfaaDoor
