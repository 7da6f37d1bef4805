/- Contracts of package flow: slices.Repeat of one int; columns. -/
import Derived.Test.YtfcjihfnimefhaaFloC
import Derived.Test.YtfcjihfnimefhaaFloN
import Derived.Test.YtfcjihfnimefhaaIntW
import Derived.Test.YtfcjihfnimefhaaSpaR
import Derived.Test.YtfcjihfnimefhaaIntN
import Derived.Laws.CopyOwn
namespace Go.Proofs.Ytfcjihfnimefhaa
open Go.Shelf Go.RowKit
set_option linter.unusedVariables false
set_option maxRecDepth 100000

theorem own_sli {w : World} {base k : Nat} {v : Value} {xs : List Value} (h : w.ownsRow base 3 1 v k xs) : ∃ A n c, v = .slice A n c ∧ n ≤ c := by
  rcases h.2 with ⟨rfl, _⟩ | ⟨g, cap, cur, rfl, _, _, hc, _⟩
  · exact ⟨_, _, _, rfl, Nat.le_refl _⟩
  · exact ⟨_, _, _, rfl, hc⟩
theorem own_sln {w : World} {base k : Nat} {v : Value} {xs : List Value} (h : w.ownsRow base 3 1 v k xs) (hk : k ≠ 0) : ∃ g c, v = .slice (some ⟨g, 0, none⟩) k c := by
  rcases h.2 with ⟨_, h0⟩ | ⟨g, cap, cur, rfl, _⟩
  · exact absurd h0 hk
  · exact ⟨g, cap, rfl⟩
theorem rib {w : World} {g : Nat} {cs : Array Value} {t : TypeId} {fr : Nat × Nat} (l : List Int) (h : w.heap[g]? = some (.cells cs t fr)) (hc : cs.toList = l.map iv) : Ri w (some ⟨g, 0, none⟩) l := fun j x hx => by
  have e : cs.toList[j]? = some (iv x) := by rw [hc, List.getElem?_map, hx]; rfl
  refine ⟨g, 0, rfl, ?_⟩
  rw [Nat.zero_add, Lib.cell_of_heap h, ← Array.getElem?_toList]; exact e
/-- A row of the call's own, the head of it filled. -/
theorem own_head {w : World} {B g n : Nat} {cs : List Value} (h : w.heap[g]? = some (.cells cs.toArray 3 (0, 0))) (hB : B ≤ g) (hn : cs.length = n) (hz : n ≤ 1000) : w.ownsRow B 3 1 (.slice (some ⟨g, 0, none⟩) n n) n cs :=
  ⟨by rw [hn, Nat.mul_one], .inr ⟨g, n, cs.toArray, rfl, hB, h, Nat.le_refl _, by unfold maxLen; omega, by simp [hn], by rw [List.take_of_length_le (by simp [hn])]⟩⟩
theorem splice_rep {v : Value} {k m : Nat} {zs : List Value} (hm : m ≤ zs.length) : splice (List.replicate k v ++ zs) k (List.replicate m v) = List.replicate (k + m) v ++ zs.drop m := by
  unfold splice
  rw [List.length_replicate, List.take_left' (List.length_replicate ..), List.drop_append, List.length_replicate, List.drop_eq_nil_of_le (by rw [List.length_replicate]; omega), show k + m - k = m by omega, List.nil_append, ← List.append_assoc, List.replicate_append_replicate]
/-- k of them are there. -/
structure RepI (w : World) (n : Nat) (x : Int) (k : Nat) (wr : World) : Prop where
  ex : ∃ ys : List Value, ys.length = n - k ∧ wr.heap[w.heap.size]? = some (.cells (List.replicate k (Value.int .i64 x) ++ ys).toArray 3 (0, 0))
  bel : Below w.heap.size w wr
set_option maxHeartbeats 2000000 in
theorem rep1_any {w : World} {g0 n : Nat} {x : Int} (hA : w.heap[g0]? = some (.cells #[.int .i64 x] 3 (0, 0))) (hz : n ≤ 1000) :
    Calls Try.prog 76 #[.slice (some ⟨g0, 0, none⟩) 1 1, .int .i64 (n : Int)] w fun e w' => ∃ g, e = .returned (.slice (some ⟨g, 0, none⟩) n n) ∧ w'.ownsRow w.heap.size 3 1 (.slice (some ⟨g, 0, none⟩) n n) n ((List.replicate n x).map iv) ∧ Below w.heap.size w w' := by
  obtain ⟨i0, hi, hz0, hz1, hz2⟩ := info_parts infoI
  have r1 : ∀ w, Calls Try.prog 66 #[.int .u64 1, .int .u64 (n : Int)] w fun e w' => e = .returned (.tuple #[.int .u64 0, .int .u64 (n : Int)]) ∧ w' = w := fun w => by
    have h := Any.bits_Mul { lays105 with } 1 n (by omega) (by omega) w
    rw [Nat.one_mul, Nat.div_eq_of_lt (by omega), Nat.mod_eq_of_lt (by omega)] at h
    exact h
  obtain ⟨w1, hmk, hown, hgr⟩ := run_make_full (P := Try.prog) w w.heap.size 81 3 i0 (.int .i64 0) 1 Try.underlying81 hi hz0 hz1 .i64 .i64 n (by rw [hz2]; omega) (by unfold maxLen; omega) (Nat.le_refl _)
  have hB1 : Below w.heap.size w w1 := (Below.refl _ w).grown hgr (Nat.le_refl _) (fun k e => by cases e)
  obtain ⟨zs, hzs, hzl⟩ : ∃ zs : List Value, w1.heap[w.heap.size]? = some (.cells zs.toArray 3 (0, 0)) ∧ zs.length = n := by
    rcases hown.2 with ⟨h, _⟩ | ⟨g, cap, cur, h1, h2, h3, h4, h5, h6, h7⟩
    · cases h
    · injection h1 with h1 _ hc
      injection h1 with h1
      injection h1 with h1
      subst h1 hc
      exact ⟨cur.toList, h3, by rw [Array.length_toList, h6, Nat.mul_one]⟩
  have hA1 := (hB1.block g0 (Array.getElem?_eq_some_iff.1 hA).1).trans hA
  have hlt := (Array.getElem?_eq_some_iff.1 hA).1
  have HB1 := Lib.hid hB1
  have HA1 := Lib.hid hA1
  have HZ := Lib.hid hzs
  have HL := Lib.hid hzl
  have hu : Try.prog.underlying 81 = some (.slice 3) := by kernel_rfl
  have hsz : (Try.prog.info? 3).map (·.size) = some 1 := by kernel_rfl
  have HU := Lib.hid (And.intro hu hsz)
  clear hown hgr hB1 hA hA1 hzs hzl hi hz0 hz1 hz2 hu hsz
  have q0 : ¬ (n : Int) < 0 := by omega
  go_enter Try.func76, Try.ntmps76
  go_wp2_with fail
  ((with_reducible refine (r1 _).mono ?_))
  rintro e w2 ⟨rfl, hw⟩
  have hw := hw.symm
  subst hw
  clear r1
  by_cases h0 : n = 0
  · obtain rfl : zs = [] := List.length_eq_zero_iff.1 (HL.out.trans h0)
    subst h0
    rw [show ((0 : Nat) : Int) = 0 from rfl] at hmk
    go_wp2_with (refine wpList_copy_nothing (o := ⟨some 33, _, _, _, _, _⟩) rfl (.tmp 31) (.tmp 32) 81 81 rfl 3 HU.out.1 HU.out.2 _ _ _ _ _ _ rfl rfl rfl ?_)
    clear hmk
    go_loopw [8] (fun f wr => f = .int .i64 0 ∧ wr = w1) (fun f _ => 0)
    case atStart => exact ⟨rfl, rfl⟩
    case round =>
      obtain ⟨rfl, rfl⟩ := hrel
      go_wp2
      go_ret
      exact ⟨_, rfl, own_head HZ.out (Nat.le_refl _) rfl (by omega), HB1.out⟩
  · have hn1 : 1 ≤ n := by omega
    have HS0 := Lib.hid (show ∀ j v, [Value.int .i64 x][j]? = some v → w1.cell? ((⟨g0, 0, none⟩ : Addr).add j) = some v by
      intro j u hj
      match j, hj with
      | 0, hj => simp at hj; subst hj; rw [Addr.add_lit, Lib.cell_of_heap HA1.out]; rfl)
    go_wp2_with (refine wpList_copy_splice (o := ⟨some 33, _, _, _, _, _⟩) rfl (.tmp 31) (.tmp 32) 81 81 rfl 3 HU.out.1 HU.out.2 _ _ _ _ _ _ rfl rfl w.heap.size 0 zs 3 HZ.out [.int .i64 x] (by show 1 = min 1 n; omega) (fun _ => ⟨rfl, _, rfl, HS0.out⟩) (by rw [HL.out]; show 0 + 1 ≤ n; omega) (by intro u hu; simp at hu; subst hu; rfl) w.heap.size w HB1.out (Nat.le_refl _) ?_)
    intro w3 hg3 hb3
    have e3 : splice zs 0 [Value.int .i64 x] = List.replicate 1 (Value.int .i64 x) ++ zs.drop 1 := splice_rep (k := 0) (m := 1) (by rw [HL.out]; omega)
    rw [e3] at hg3
    have HB3 := Lib.hid hb3
    have HL3 := Lib.hid (show (zs.drop 1).length = n - 1 by rw [List.length_drop, HL.out])
    generalize zs.drop 1 = ys at hg3 HL3
    clear hmk hb3 e3 h0
    go_wp2_with fail
    go_loopw [8] (fun f wr => ∃ k : Nat, f = .int .i64 k ∧ 1 ≤ k ∧ k ≤ n ∧ RepI w n x k wr) (fun f _ => n - (intOf f).toNat)
    case atStart => exact ⟨1, by simp, Nat.le_refl _, hn1, ⟨ys, HL3.out, hg3.out⟩, HB3.out⟩
    case round =>
      obtain ⟨k, rfl, hk1, hkn, ⟨ys, hl', hg'⟩, hb'⟩ := hrel
      have hl := Lib.hid hl'
      have hg := Lib.hid hg'
      have hb := Lib.hid hb'
      clear hl' hg' hb'
      by_cases hlt : k < n
      · obtain ⟨m, hm⟩ : ∃ m, min k (n - k) = m := ⟨_, rfl⟩
        have hm1 : 1 ≤ m := by omega
        have hml : m ≤ n - k := by omega
        have hmk : m ≤ k := by omega
        have q2 : (k : Int) ≤ (n : Int) := by omega
        have q3 : ¬ (n : Int) < (k : Int) := by omega
        have q4 : ¬ (n : Int) ≤ (k : Int) := by omega
        obtain ⟨cs, hcs⟩ : ∃ cs, List.replicate m (Value.int .i64 x) = cs := ⟨_, rfl⟩
        have hcl : cs.length = m := by rw [← hcs, List.length_replicate]
        have HC := Lib.hid hcs
        have HCL := Lib.hid hcl
        have HM := Lib.hid hm
        have HWR := Lib.hid (show IntKind.i64.wrap ((k : Int) + (m : Int)) = ((k + m : Nat) : Int) by rw [IntWalk.i64_in _ (by omega)]; omega)
        have HKN := Lib.hid (show cs.length = Nat.min k (n - k) by rw [hcl, ← hm])
        have HF := Lib.hid (show ∀ u ∈ cs, u.oneCell' = true by intro u hu; rw [← hcs] at hu; rw [(List.mem_replicate.1 hu).2]; rfl)
        have HS := Lib.hid (show ∀ j v, cs[j]? = some v → wr.cell? ((⟨w.heap.size, 0, none⟩ : Addr).add j) = some v by
          intro j v hj
          have hjl := (List.getElem?_eq_some_iff.1 hj).1
          rw [← hcs, List.getElem?_replicate] at hj
          rw [hcl] at hjl
          rw [if_pos hjl] at hj
          rw [Addr.add_lit, Nat.zero_add, Lib.cell_of_heap hg.out]
          simp only [List.getElem?_toArray]
          rw [List.getElem?_append_left (by rw [List.length_replicate]; omega), List.getElem?_replicate, if_pos (by omega)]
          exact hj)
        clear hcs hcl hm
        go_wp2_with fail
        go_region_law (refine step_copy_splice rfl (.tmp 41) (.tmp 44) 81 81 rfl 3 HU.out.1 HU.out.2 (some ⟨w.heap.size, k, none⟩) (some ⟨w.heap.size, 0, none⟩) (n - k) (n - k) k n (by go_simp; omega) (by go_simp) w.heap.size k (List.replicate k (Value.int .i64 x) ++ ys) 3 hg.out cs HKN.out (fun _ => ⟨rfl, _, rfl, HS.out⟩) (by rw [HCL.out, List.length_append, List.length_replicate, hl.out]; omega) HF.out w.heap.size w hb.out.drew (Nat.le_refl _) ?_; intro w4 hg4 hb4)
        all_goals (go_wp2_with fail)
        all_goals go_roundw
        case rel =>
          have h4 := hg4.out
          rw [← HC.out, splice_rep (by rw [hl.out]; omega)] at h4
          exact ⟨k + m, by rw [HCL.out, HWR.out], by omega, by omega, ⟨ys.drop m, by rw [List.length_drop, hl.out]; omega, h4⟩, hb4⟩
        case measure => simp [intOf, HCL.out, HWR.out]; omega
      · obtain rfl : k = n := by omega
        obtain rfl : ys = [] := List.length_eq_zero_iff.1 (by rw [hl.out, Nat.sub_self])
        have hg2 := hg.out
        rw [List.append_nil] at hg2
        have HO := Lib.hid (own_head hg2 (Nat.le_refl _) (List.length_replicate ..) (by omega))
        clear hg hg2 hl
        go_wp2
        go_ret
        exact ⟨_, rfl, by rw [List.map_replicate]; exact HO.out, hb.out⟩
/-- Columns up to each place. -/
theorem clL_snoc {l : List Bq} {k : Nat} {b : Bq} (h : l[k]? = some b) : (List.range (k + 1)).map (fun i => ((colS (l.take i) : Nat) : Int)) ++ [((colS (l.take k) + colB b : Nat) : Int)] = (List.range (k + 1 + 1)).map (fun i => ((colS (l.take i) : Nat) : Int)) := by
  rw [List.range_succ (n := k + 1), List.map_append, List.map_singleton, colS_next h]
set_option maxHeartbeats 4000000 in
theorem fcols_any {w : World} {A : Option Addr} {n c : Nat} {l : List Bq} (hA : Br w A l) (hn : l.length = n) (hz : n ≤ 400) (hok : ∀ b ∈ l, (Lit.int .i64 b.m).wf = true) (hs : SzB l) :
    Calls Try.prog 58 #[.slice A n c] w fun e w' => ∃ g c', e = .returned (.slice (some ⟨g, 0, none⟩) (n + 1) c') ∧ w'.ownsRow w.heap.size 3 1 (.slice (some ⟨g, 0, none⟩) (n + 1) c') (n + 1) ((clL l).map iv) ∧ Below w.heap.size w w' := by
  have HA := Lib.hid hA
  have HL := Lib.hid hn
  have HOK := Lib.hid hok
  have HS := Lib.hid hs
  have HR0 := Lib.hid (show Rn w [0] (.slice (some ⟨w.heap.size, 0, none⟩) 1 1) (w.alloc (.cells #[.int .i64 0] 3)) from ⟨own_blk w [0] (by decide), bel_alloc (Below.refl _ w) _⟩)
  clear hA hn hok hs
  go_enter Try.func58, Try.ntmps58
  go_wp2_with fail
  go_loopw [3, 11] (fun v i wr => ∃ k : Nat, k ≤ n ∧ i = .int .i64 k ∧ Hid (Rn w ((List.range (k + 1)).map (fun i => ((colS (l.take i) : Nat) : Int))) v wr)) (fun _ i _ => n - (intOf i).toNat)
  case atStart => exact ⟨0, Nat.zero_le _, rfl, HR0⟩
  case round =>
    obtain ⟨k, hk, rfl, hR⟩ := hrel
    by_cases hlt : k < n
    · obtain ⟨t, ht⟩ : ∃ t, l[k]? = some t := ⟨_, List.getElem?_eq_getElem (by rw [HL.out]; omega)⟩
      obtain ⟨b0, o0, rfl, d0, d1⟩ := (HA.out.below hR.out.bel) k t ht
      have htm := List.mem_of_getElem? ht
      have hmk := HOK.out t htm
      have hsz := HS.out t htm
      have hcb := colB_le t hsz
      have hcs := colS_bd HS.out (by rw [HL.out]; omega) k
      have hfz := flV_size t hsz
      have HSN := Lib.hid (clL_snoc ht)
      obtain ⟨S, hS⟩ : ∃ S, flV t = S := ⟨_, rfl⟩
      obtain ⟨z, hcz⟩ : ∃ z, colB t = z := ⟨_, rfl⟩
      have hzz : cols S.data.toList = z := by rw [← hS]; exact hcz
      rw [hS] at hfz
      rw [hcz] at hcb
      rw [hcz] at HSN
      have hXl : ((List.range (k + 1)).map (fun i => ((colS (l.take i) : Nat) : Int))).length = k + 1 := by simp
      have hXk : ((List.range (k + 1)).map (fun i => ((colS (l.take i) : Nat) : Int)))[k]? = some ((colS (l.take k) : Nat) : Int) := by rw [List.getElem?_map, List.getElem?_range (by omega)]; rfl
      obtain ⟨C, hC⟩ : ∃ C, colS (l.take k) = C := ⟨_, rfl⟩
      rw [hC] at hcs hXk HSN
      generalize (List.range (k + 1)).map (fun i => ((colS (l.take i) : Nat) : Int)) = X at hR hXl hXk HSN
      obtain ⟨AX, nX, cX, rfl, hnc⟩ := own_sli hR.out.own
      obtain ⟨hnX, hRX, -⟩ := ri_row hR.out.own
      rw [hXl] at hnX
      subst hnX
      obtain ⟨g, o, rfl, d2⟩ := hRX k _ hXk
      obtain ⟨is, his⟩ : ∃ is, flI t = is := ⟨_, rfl⟩
      have hwr : IntKind.i64.wrap ((C : Int) + (z : Int)) = ((C + z : Nat) : Int) := by rw [IntWalk.i64_in _ (by omega)]; omega
      have HWR := Lib.hid hwr
      have HXL := Lib.hid hXl
      have HRX := Lib.hid hRX
      have lb := World.block_lt_of_cell? _ _ d0
      have lg := World.block_lt_of_cell? _ _ d2
      obtain ⟨tm, tv⟩ := t
      dsimp only at d0 d1 hmk hsz
      have r1 := fun w => sflat_any (w := w) hmk hS his
      have r2 := fun w => scols_any S (by omega) hzz w
      have HXK := Lib.hid hXk
      clear ht htm hS hcz his hzz hC hXl hXk hRX hwr d2
      go_wp2_with fail
      ((with_reducible refine (r1 _).mono ?_))
      rintro e w1 ⟨rfl, hb1⟩
      have HB1 := Lib.hid (bel_trans (bel_alloc (Below.refl _ _) (.cells #[.int .i64 tm, .string tv] 34)) hb1)
      clear r1 hb1
      have lw1 := HB1.out.size
      have hB1 := bel_trans hR.out.bel HB1.out
      have HO1 := Lib.hid (show w1.ownsRow w.heap.size 3 1 (.slice (some ⟨g, o, none⟩) (k + 1) cX) (k + 1) (X.map iv) by have := row_below hR.out.own HB1.out; rwa [HXL.out] at this)
      have HBL := Lib.hid hB1
      have d2 : w1.cell? ⟨g, o + k, none⟩ = some (.int .i64 (C : Int)) := bel_cell HB1.out (by obtain ⟨b', o', e, h⟩ := HRX.out k _ HXK.out; injection e with e; injection e with e1 e2; subst e1 e2; exact h)
      have hwr : IntKind.i64.wrap ((C : Int) + (z : Int)) = (C : Int) + (z : Int) := by rw [HWR.out]; omega
      have q1 : (k : Int) < (k : Int) + 1 := by omega
      clear hR hB1
      go_wp2_with fail
      go_region_law (first
        | (go_simp; go_at_call 19; refine (r2 _).mono ?_; rintro e w2 ⟨rfl, hb2⟩; have HB2 := Lib.hid (bel_trans (Below.refl _ _).drew hb2); have d3 := bel_cell HB2.out d2; have HB3 := Lib.hid (bel_trans HB2.out (bel_alloc (Below.refl _ w2) (.cells #[.int .i64 ((C : Int) + (z : Int))] 3))); have HO3 := Lib.hid (row_below HO1.out HB3.out); have HBL3 := Lib.hid (bel_trans HBL.out HB3.out); have HN := Lib.hid (rib [(C : Int) + (z : Int)] (heap_alloc_new w2 (.cells #[.int .i64 ((C : Int) + (z : Int))] 3)) rfl); clear hb2)
        | (refine step_app_ints rfl (.tmp 21) (.tmp 29) rfl w.heap.size (.slice (some ⟨g, o, none⟩) (k + 1) cX) (k + 1) X (by go_simp) HO3.out (A := some ⟨w2.heap.size, 0, none⟩) (m := 1) (c := 1) (ts := [(C : Int) + (z : Int)]) (by go_simp) HN.out rfl (fun e => by cases e) (by omega) HBL3.out.size ?_; intro v3 w3 ho3 hg3))
      all_goals (go_wp2_with fail)
      all_goals
        go_roundw
        case rel =>
          have e1 : ((C + z : Nat) : Int) = (C : Int) + (z : Int) := by omega
          have hY := HSN.out
          rw [e1] at hY
          refine ⟨k + 1, by omega, by go_num, Lib.hid ⟨?_, HBL3.out.grown hg3 HBL3.out.size (fun q hq => (HO3.out.lt q hq).1)⟩⟩
          rw [← hY, List.length_append, List.length_singleton, HXL.out]
          exact ho3
        case measure => simp [intOf]; omega
    · obtain rfl : k = n := by omega
      have ho := hR.out.own
      have hb := hR.out.bel
      have eY : (List.range (k + 1)).map (fun i => ((colS (l.take i) : Nat) : Int)) = clL l := by rw [clL, HL.out]
      have eL : (clL l).length = k + 1 := by rw [clL_len, HL.out]
      rw [eY, eL] at ho
      obtain ⟨g, c', rfl⟩ := own_sln ho (by omega)
      have HO := Lib.hid ho
      have HB := Lib.hid hb
      clear ho hb hR eY eL
      go_wp2
      go_ret
      exact ⟨_, _, rfl, HO.out, HB.out⟩
end Go.Proofs.Ytfcjihfnimefhaa
