/- The reference's Of, Plain (copperplateref11). -/
import Derived.Test.YtpcijjdlppoblaaGreatDoorRulS
import Derived.Test.YtpcijjdlppoblaaGreatDoorRulD
namespace Go.Proofs.YtpcijjdlppoblaaGreatDoor
open Go.RowKit
set_option linter.unusedVariables false
set_option maxRecDepth 100000

set_option maxHeartbeats 1000000 in
theorem rulof_any {w : World} (v : Int) {L : List Int} (hL : ofR v = L) :
    Calls Tryz.prog 96 #[.int .i64 v] w fun e w' => OfE L w e w' := by
  have HL := Lib.hid hL
  obtain ⟨i0, hi, hz0, hz1, hz2⟩ := info_parts infoI
  have HI := Lib.hid hi
  have HI0 := Lib.hid hz0
  have HI1 := Lib.hid hz1
  have HI2 := Lib.hid hz2
  clear hL hi hz0 hz1 hz2
  go_enter Tryz.func96, Tryz.ntmps96
  go_wp2_with fail
  refine (rvars_any _).mono ?_
  rintro e w1 ⟨g, rfl, hb1, hv⟩
  have HV := Lib.hid hv
  have HB1 := Lib.hid hb1
  clear hv hb1
  go_wp2
  go_loopw [4, 5] (fun q i wr => ∃ k : Nat, i = .int .i64 k ∧ k ≤ 90 ∧ wr.ownsRow w1.heap.size 3 1 q (ofN v k).length ((ofN v k).map iv) ∧ Below w1.heap.size w1 wr) (fun _ i _ => 90 - (intOf i).toNat)
  case atStart => exact ⟨0, rfl, by decide, World.ownsRow_nil _ _ _ _, Below.refl _ _⟩
  case round =>
    obtain ⟨k, rfl, hk, hown, hB⟩ := hrel
    by_cases hlt : k < 90
    · have q1 : (k : Int) < 90 := by omega
      have hcell := bel_cell hB (HV.out k hlt)
      have hs := ofN_succ v k
      have hlen := ofN_len v k
      have hO := Lib.hid hown
      generalize varR k = m at *
      clear hown
      by_cases hm : (m : Int) = v
      · rw [if_pos hm] at hs
        have HS := Lib.hid hs
        have q2 : ((m : Int) == v) = true := by simpa using hm
        clear hs hm
        go_wp2_with (at_builtin; refine wpList_append_own _ rfl _ _ 22 rfl w1.heap.size 3 i0 (.int .i64 0) 1 8 Tryz.underlying22 HI.out HI0.out HI1.out HI2.out rfl (by decide) _ _ _ rfl (hO.out.alloc _) ⟨wr.heap.size, 0, none⟩ 1 1 [.int .i64 (k : Int)] rfl rfl (cell_one_new _ _ _) (by simp [Value.oneCell']) (by unfold maxLen; omega) (by omega) (by have := hB.size; simp; omega) ?_)
        intro v' w3 hown' hgrow _
        have hB3 : Below w1.heap.size w1 w3 := (bel_alloc hB _).grown hgrow (by have := hB.size; simp; omega) (fun k hk => (hO.out.lt k hk).1)
        have hown3 : w3.ownsRow w1.heap.size 3 1 v' (ofN v (k + 1)).length ((ofN v (k + 1)).map iv) := by
          rw [HS.out, List.length_append, List.map_append]; exact hown'
        have HO3 := Lib.hid hown3
        clear hown' hgrow hown3
        go_wp2
        go_roundw
        case rel => exact ⟨k + 1, by go_num, by omega, HO3.out, hB3⟩
        case measure => simp [intOf]; omega
      · rw [if_neg hm, List.append_nil] at hs
        have HS := Lib.hid hs
        have q2 : ((m : Int) == v) = false := by simpa using hm
        clear hs hm
        go_wp2
        go_roundw
        case rel => exact ⟨k + 1, by go_num, by omega, by rw [HS.out]; exact hO.out, hB⟩
        case measure => simp [intOf]; omega
    · obtain rfl : k = 90 := by omega
      have e : ofN v 90 = L := HL.out
      rw [e] at hown
      obtain ⟨A', m, c', hv⟩ := own_sl hown
      subst hv
      obtain ⟨e1, e2, e3⟩ := ri_row hown
      have H2 := Lib.hid e2
      have H3 := Lib.hid e3
      subst e1
      clear hown e2 e3 e
      go_wp2
      go_ret
      exact ⟨_, _, rfl, bel_trans HB1.out hB, H2.out, H3.out⟩

/-- How Plain ends, and where its answer lies. -/
def PrzE (m : Nat) (L : List Sq) (w : World) (e : Ending) (w' : World) : Prop := ∃ A c, e = .returned (.slice A m c) ∧ Below w.heap.size w w' ∧ Sr w' A L ∧ (A = none → m = 0 ∧ c = 0) ∧ (∀ b, (Value.slice A m c).ownBlock = some b → w.heap.size ≤ b)
set_option maxHeartbeats 1000000 in
theorem rplain_lies {w : World} {A : Option Addr} {n m c : Nat} {ts L : List Sq} (hL : plS ts = L) (hm : L.length = m) (ha : Sr w A ts) (hn : ts.length = n) (hz : n ≤ 1000000) :
    Calls Tryz.prog 63 #[.slice A n c] w fun e w' => PrzE m L w e w' := by
  have HA := Lib.hid ha
  have HN := Lib.hid hn
  have HL := Lib.hid hL
  have HM := Lib.hid hm
  clear hL hm ha hn
  go_enter Tryz.func63, Tryz.ntmps63
  go_wp2
  go_loopw [3, 4] (fun q i wr => ∃ k : Nat, i = .int .i64 k ∧ k ≤ n ∧ wr.ownsRow w.heap.size 59 2 q (plS (ts.take k)).length (cly (plS (ts.take k))) ∧ Below w.heap.size w wr) (fun _ i _ => n - (intOf i).toNat)
  case atStart => exact ⟨0, rfl, Nat.zero_le _, World.ownsRow_nil _ _ _ _, Below.refl _ _⟩
  case round =>
    obtain ⟨k, rfl, hk, hown, hB⟩ := hrel
    by_cases hlt : k < n
    · obtain ⟨t, ht⟩ : ∃ t, ts[k]? = some t := ⟨_, List.getElem?_eq_getElem (by rw [HN.out]; exact hlt)⟩
      obtain ⟨b, o, rfl, c0, c1⟩ := (HA.out.below hB) k t ht
      have q1 : (k : Int) < (n : Int) := by omega
      have hs := plS_take ht
      have hlen := plS_le (ts.take k)
      have hlt2 : (ts.take k).length ≤ k := by rw [List.length_take]; omega
      have hO := Lib.hid hown
      have hsz := hB.size
      clear hown ht
      by_cases h3 : t.k = 3
      · rw [if_pos h3, List.append_nil] at hs
        have HS := Lib.hid hs
        have q2 : (t.k == 3) = true := by simpa using h3
        have q3 : (t.k != 3) = false := by simpa using h3
        clear hs h3
        go_wp2
        go_roundw
        case rel => exact ⟨k + 1, by go_num, by omega, by rw [HS.out]; exact hO.out, hB⟩
        case measure => simp [intOf]; omega
      · rw [if_neg h3] at hs
        have HS := Lib.hid hs
        have q2 : (t.k == 3) = false := by simpa using h3
        have q3 : (t.k != 3) = true := by simpa using h3
        clear hs h3
        go_wp2_with (at_builtin; refine app_syms rfl _ _ rfl w.heap.size _ _ (plS (ts.take k)) rfl (hO.out.alloc _) (A := some ⟨wr.heap.size, 0, none⟩) (m := 1) (c := 1) (ts := [t]) (by simp [go_sem]) (sr_one (k := t.k) (n := t.n) (heap_alloc_new wr _)) rfl (fun e => by cases e) (by omega) (by simp; omega) ?_)
        intro v' w3 hown' hgrow
        have hB3 : Below w.heap.size w w3 := (bel_alloc hB _).grown hgrow (by simp; omega) (fun k hk => (hO.out.lt k hk).1)
        have hown3 : w3.ownsRow w.heap.size 59 2 v' (plS (ts.take (k + 1))).length (cly (plS (ts.take (k + 1)))) := by
          rw [HS.out, List.length_append]; exact hown'
        have HO3 := Lib.hid hown3
        have HB3 := Lib.hid hB3
        clear hown' hgrow hown3 hB3
        go_wp2
        go_roundw
        case rel => exact ⟨k + 1, by go_num, by omega, HO3.out, HB3.out⟩
        case measure => simp [intOf]; omega
    · obtain rfl : k = n := by omega
      rw [List.take_of_length_le (by rw [HN.out]; exact Nat.le_refl _), HL.out, HM.out] at hown
      obtain ⟨A', mm, c', hv⟩ := own_sl hown
      subst hv
      have hown2 := hown
      rw [← HM.out] at hown2
      obtain ⟨e1, e2, e3⟩ := sr_row hown2
      rw [HM.out] at e1
      have hat : ∀ b, (Value.slice A' mm c').ownBlock = some b → w.heap.size ≤ b := fun b e => (hown.lt b e).1
      have H2 := Lib.hid e2
      have H3 := Lib.hid e3
      subst e1
      have H4 := Lib.hid hat
      clear hown hown2 e2 e3 hat
      go_wp2
      go_ret
      exact ⟨_, _, rfl, hB, H2.out, H3.out, H4.out⟩
theorem rplain_any {w : World} {A : Option Addr} {n m c : Nat} {ts L : List Sq} (hL : plS ts = L) (hm : L.length = m) (ha : Sr w A ts) (hn : ts.length = n) (hz : n ≤ 1000000) :
    Calls Tryz.prog 63 #[.slice A n c] w fun e w' => PyE m L w e w' :=
  (rplain_lies hL hm ha hn hz).mono (by rintro e w' ⟨A, c, rfl, hb, hs, h1, -⟩; exact ⟨A, c, rfl, hb, hs, h1⟩)
end Go.Proofs.YtpcijjdlppoblaaGreatDoor
