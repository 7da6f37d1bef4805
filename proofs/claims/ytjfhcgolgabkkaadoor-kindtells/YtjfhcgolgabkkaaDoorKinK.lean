/- The law KindTells: its walk. -/
import Derived.Test.YtjfhcgolgabkkaaDoorKinH
import Derived.Test.YtjfhcgolgabkkaaDoorKinR
import Derived.Test.YtjfhcgolgabkkaaDoorTokF
namespace Go.Proofs.YtjfhcgolgabkkaaDoor
open Go.RowKit
set_option linter.unusedVariables false

theorem rin_b {c te : Int} {r : Bool} (hr : inK c te = r) (w : World) : Calls Tryd.prog 16 #[.int .i64 c, .int .i64 te] w fun e w' => e = .returned (.bool r) ∧ w = w' := rin_any hr w
set_option maxHeartbeats 4000000 in
set_option maxRecDepth 100000 in
theorem tells_law {w : World} (k : Int) (s : ByteArray) (a z : Int) {A : Option Addr} {n c : Nat} {ts : List Tq} (cl te : Int) (zs : s.size ≤ 9223372036854775807) (ht : TabK w) (ha : Tr w A ts) (hn : ts.length = n)
    (hz : n ≤ 9223372036854775807) (hv : ∀ t ∈ ts, t.v.size ≤ 9223372036854775807) :
    Calls Tryd.prog 3 #[.agg #[.int .i64 k, .string s, .int .i64 a, .int .i64 z], .slice A n c, .int .i64 cl, .int .i64 te] w fun e w' => e = .returned (.bool true) ∧ Below w.heap.size w w' := by
  obtain ⟨r, hr⟩ : ∃ r, ((ofK k s.data.toList : Nat) : Int) = r := ⟨_, rfl⟩
  have r1 := fun (w : World) (h : TabK w) => kof_any (k := k) (s := s) (a := a) (z := z) hr h
  have r2 := fun (w : World) => rof_any (k := k) (s := s) (a := a) (z := z) hr w
  have r3 := fun (w : World) (h : TabK w) => ktext_any te h
  have r4 := fun (w : World) => rtext_any te w
  obtain ⟨I, hI⟩ : ∃ I, inK cl te = I := ⟨_, rfl⟩
  have r5 := fun (w : World) => in_any hI w
  have r6 := fun (w : World) => rin_any hI w
  unfold TxE at r4
  obtain ⟨L, hL⟩ : ∃ L, ts.map teQ = L := ⟨_, rfl⟩
  have hLn : L.length = n := by rw [← hL, List.length_map, hn]
  have HT := Lib.hid ht
  have HN := Lib.hid hn
  have HA := Lib.hid ha
  have HV := Lib.hid hv
  have HL := Lib.hid hL
  have HLN := Lib.hid hLn
  generalize txK te = X at *
  generalize hasK te = T at *
  clear hr hI hL hLn ht hn ha hv
  go_enter Tryd.func3, Tryd.ntmps3
  go_wp2_with fail
  refine (awake_any _ (HT.out.below (bel_alloc (Below.refl _ _) _))).mono ?_
  rintro e w1 ⟨rfl, hb1⟩
  obtain ⟨c0, c1, c2, c3⟩ := box4 hb1
  have hB1 := bel_trans (bel_alloc (Below.refl _ w) _) hb1
  clear hb1
  go_wp2_with fail
  refine (few_any (c := c) (HA.out.below hB1) HN.out hz HV.out).mono ?_
  rintro e w' ⟨b, rfl, hfew, rfl⟩
  cases b
  · go_wp2
    go_ret
    exact ⟨by simp, hB1⟩
  have hn100 := hfew rfl
  clear hfew
  by_cases h6 : 600 < s.size
  · have g6 : (600 : Int) < (s.size : Int) := by omega
    go_wp2
    go_ret
    exact ⟨by simp, hB1⟩
  have g6 : ¬ (600 : Int) < (s.size : Int) := by omega
  have HT1 := Lib.hid (HT.out.below hB1)
  go_wp2_with fail
  refine (r3 _ HT1.out).mono ?_
  rintro e w2 ⟨rfl, hb2⟩
  have hB2 := bel_trans hB1 hb2
  have C0 := Lib.hid (bel_cell hb2 c0)
  have C1 := Lib.hid (bel_cell hb2 c1)
  have C2 := Lib.hid (bel_cell hb2 c2)
  have C3 := Lib.hid (bel_cell hb2 c3)
  clear c0 c1 c2 c3 hB1 hb2 r3
  go_wp2_with fail
  refine (r4 _).mono ?_
  rintro e w3 ⟨rfl, hb3⟩
  have hB3 := bel_trans hB2 hb3
  clear r4
  go_wp2_with fail
  refine (kall_any HL.out (HT.out.below hB3) (HA.out.below hB3) HN.out (by omega)).mono ?_
  rintro e w4 ⟨Y, cy, rfl, hb4, hY, -⟩
  have hB4 := bel_trans hB3 hb4
  have HY := Lib.hid hY
  clear hY
  go_wp2_with fail
  refine (rall_any HL.out (HA.out.below hB4) HN.out (by omega)).mono ?_
  rintro e w5 ⟨Z, cz, rfl, hb5, hZ, -⟩
  have hB5 := bel_trans hB4 hb5
  have HZ := Lib.hid hZ
  have HY5 := Lib.hid (HY.out.below hb5)
  clear hZ
  go_wp2_with fail
  refine (ints_any HY5.out HZ.out HLN.out (by omega)).mono ?_
  rintro e w6 ⟨rfl, hb6⟩
  have hB26 := bel_trans (bel_trans (bel_trans hb3 hb4) hb5) hb6
  have c0 := bel_cell hB26 C0.out
  have c1 := bel_cell hB26 C1.out
  have c2 := bel_cell hB26 C2.out
  have c3 := bel_cell hB26 C3.out
  have hB6 := bel_trans hB2 hB26
  have HT6 := Lib.hid (HT.out.below hB6)
  clear hb3 hb4 hb5 hb6 hB26 hB2 hB3 hB4 hB5
  go_wp2_with fail
  (with_reducible refine (r6 _).mono ?_)
  rintro e w' ⟨rfl, rfl⟩
  go_wp2_with fail
  go_region_held3 (fun w' => w'.cell? ⟨w.heap.size, 0, none⟩ = some (.int .i64 k) ∧ w'.cell? ⟨w.heap.size, 1, none⟩ = some (.string s) ∧ w'.cell? ⟨w.heap.size, 2, none⟩ = some (.int .i64 a) ∧ w'.cell? ⟨w.heap.size, 3, none⟩ = some (.int .i64 z))
    (first | (exact ⟨c0, c1, c2, c3⟩) | (go_split_ands; refine ⟨?_, ?_, ?_, ?_⟩ <;> exact bel_cell hq (by assumption)))
    (first | (go_at_call 17; refine (r1 _ HT6.out.drew).mono ?_; rintro e w7 ⟨rfl, hq⟩; have hq4 := hq) | (go_at_call 18; refine (r2 _).mono ?_; rintro e w8 ⟨rfl, hq⟩; have hq5 := hq) | (go_at_call 19; refine (r5 _).mono ?_; rintro e w9 ⟨rfl, rfl⟩; have hq := Below.refl w8.heap.size w8))
  go_wp2
  go_ret
  have hq6 : Below w6.heap.size w6 w7 := ⟨hq4.os, hq4.tape, hq4.output, hq4.size, hq4.block⟩
  exact ⟨by simp, bel_trans hB6 (bel_trans hq6 hq5)⟩
end Go.Proofs.YtjfhcgolgabkkaaDoor
