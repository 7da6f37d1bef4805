/- The law SpanHard: its walk. -/
import Derived.Test.YtmknjhmfgapejaaSpaE
import Derived.Test.YtmknjhmfgapejaaSpaN
import Derived.Test.YtmknjhmfgapejaaBitW
import Derived.Deep.CutRange
namespace Go.Proofs.Ytmknjhmfgapejaa
open Go.RowKit
set_option linter.unusedVariables false
set_option maxRecDepth 100000

set_option maxHeartbeats 8000000 in
theorem hard_law {w : World} {i k : Int} {s : ByteArray} {A : Option Addr} {n c : Nat} {ts : List Bq} (hl : ts.length = n) (hA : Br w A ts) (hc : n ≤ c) (h0 : A = none → n = 0 ∧ c = 0) (hw : ∀ x ∈ ts, (Lit.int .i64 x.m).wf = true) (hs : SzB ts) :
    Calls Try.prog 7 #[.slice A n c, .int .i64 i, .int .i64 k, .string s] w fun e w' => e = .returned (.bool true) ∧ Below w.heap.size w w' := by
  obtain ⟨us, rfl⟩ := bz_ex ts hw hs
  have r1 := fun w => awake_any w
  have HA := Lib.hid hA
  have HL := Lib.hid hl
  clear hA hl hs hw h0
  go_enter Try.func7, Try.ntmps7
  go_wp2_with fail
  ((with_reducible refine (r1 _).mono ?_))
  rintro e w1 ⟨rfl, hb1⟩
  have HB1 := Lib.hid hb1
  clear hb1 r1
  by_cases h3 : 300 < n
  · have q3 : (300 : Int) < (n : Int) := by omega
    go_wp2
    go_ret
    exact ⟨rfl, HB1.out⟩
  have q3 : ¬ (300 : Int) < (n : Int) := by omega
  by_cases i0 : i < 0
  · go_wp2
    go_ret
    exact ⟨rfl, HB1.out⟩
  by_cases ki : k ≤ i
  · go_wp2
    go_ret
    exact ⟨rfl, HB1.out⟩
  by_cases kn : (n : Int) < k
  · go_wp2
    go_ret
    exact ⟨rfl, HB1.out⟩
  by_cases h4 : 300 < s.size
  · have q4 : (300 : Int) < (s.size : Int) := by omega
    go_wp2
    go_ret
    exact ⟨rfl, HB1.out⟩
  have q4 : ¬ (300 : Int) < (s.size : Int) := by omega
  obtain ⟨j, rfl⟩ := Int.eq_ofNat_of_zero_le (show 0 ≤ i by omega)
  obtain ⟨p, rfl⟩ := Int.eq_ofNat_of_zero_le (show 0 ≤ k by omega)
  have hjp : j < p := by omega
  have hpn : p ≤ n := by omega
  have y1 : decide ((p : Int) ≤ (j : Int)) = false := decide_eq_false ki
  have y2 : decide ((n : Int) < (p : Int)) = false := decide_eq_false kn
  have y3 : decide (p ≤ j) = false := decide_eq_false (by omega)
  have y4 : decide (n < p) = false := decide_eq_false (by omega)
  clear i0 ki kn
  have hjn : j < n := by omega
  obtain ⟨t, ht⟩ : ∃ t, (us.map (·.b))[j]? = some t := ⟨_, List.getElem?_eq_getElem (by rw [HL.out]; omega)⟩
  obtain ⟨b, o, rfl, d0, d1⟩ := HA.out j t ht
  have hlu : us.length = n := by rw [← HL.out, List.length_map]
  clear d0 d1 ht
  obtain ⟨q, hq⟩ := mtA_ex (us.map (·.b)) (j : Int)
  obtain ⟨r, hr⟩ := neA_ex (us.map (·.b)) (j : Int)
  have r2 := fun w h => smatch_any (w := w) (A := some ⟨b, o, none⟩) (n := n) (c := c) hq hlu (by omega) h
  have r3 := fun w h => sneed_any (w := w) (A := some ⟨b, o, none⟩) (n := n) (c := c) hr hlu (by omega) hc h
  rcases hq with ⟨j', m, e1, rfl, hm⟩ | ⟨rfl, hno⟩
  · obtain rfl : j' = j := by omega
    have hmn := hm.len
    have hjm := hm.lt
    rw [HL.out] at hmn
    have g1 : ¬ (m : Int) < 0 := by omega
    have g2 : decide (n ≤ m) = false := decide_eq_false (by omega)
    have g3 : decide (m < n) = true := decide_eq_true hmn
    by_cases pm : m < p
    · have g4 : decide (m < p) = true := decide_eq_true pm
      clear hm hr hlu h3 h4 pm e1
      go_wp2_with fail
      ((with_reducible refine (r2 _ (HA.out.below HB1.out)).mono ?_))
      rintro e w2 ⟨rfl, hb2⟩
      have HB2 := Lib.hid (bel_trans HB1.out hb2)
      clear hb2 r2
      go_wp2_with fail
      ((with_reducible refine (r3 _ (HA.out.below HB2.out)).mono ?_))
      rintro e w3 ⟨rfl, hb3⟩
      have HB3 := Lib.hid (bel_trans HB2.out hb3)
      clear hb3 r3
      go_wp2
      go_ret
      exact ⟨rfl, HB3.out⟩
    · have g4 : decide (m < p) = false := decide_eq_false pm
      obtain rfl : r = ndF (us.map (·.b)) j' m := hr.is hm
      obtain ⟨f1, f2⟩ := hard_need hm hjp (show p ≤ m by omega)
      obtain ⟨f3, f4⟩ := text_need s hm hjp (show p ≤ m by omega)
      obtain ⟨z, hz⟩ : ∃ z, cols s.data.toList = z := ⟨_, rfl⟩
      have hzb := cols_le s.data.toList
      rw [← size_list, hz] at hzb
      obtain ⟨ta, hta⟩ : ∃ ta, (us.map (·.b)).take p = ta := ⟨_, rfl⟩
      obtain ⟨tb, htb⟩ : ∃ tb, (us.map (·.b)).drop p = tb := ⟨_, rfl⟩
      rw [hta, htb] at f1 f2 f3 f4
      obtain ⟨X1, hX1⟩ : ∃ X1, ta ++ (⟨5, noV⟩ : Bq) :: tb = X1 := ⟨_, rfl⟩
      obtain ⟨X2, hX2⟩ : ∃ X2, ta ++ (⟨0, s⟩ : Bq) :: tb = X2 := ⟨_, rfl⟩
      have hla : ta.length = p := by rw [← hta, List.length_take, HL.out]; omega
      have hlb : tb.length = n - p := by rw [← htb, List.length_drop, HL.out]
      have hl1 : X1.length = n + 1 := by rw [← hX1, List.length_append, List.length_cons, hla, hlb]; omega
      have hl2 : X2.length = n + 1 := by rw [← hX2, List.length_append, List.length_cons, hla, hlb]; omega
      obtain ⟨v1, hv1, hv1l⟩ : ∃ v1 : List Bz, v1.map (·.b) = X1 ∧ v1.length = n + 1 := by
        refine ⟨us.take p ++ (⟨⟨5, noV⟩, rfl, by decide⟩ : Bz) :: us.drop p, ?_, ?_⟩
        · rw [← hX1, ← hta, ← htb, List.map_append, List.map_cons, List.map_take, List.map_drop]
        · rw [List.length_append, List.length_cons, List.length_take, List.length_drop, hlu]; omega
      obtain ⟨v2, hv2, hv2l⟩ : ∃ v2 : List Bz, v2.map (·.b) = X2 ∧ v2.length = n + 1 := by
        refine ⟨us.take p ++ (⟨⟨0, s⟩, rfl, by show s.size ≤ _; omega⟩ : Bz) :: us.drop p, ?_, ?_⟩
        · rw [← hX2, ← hta, ← htb, List.map_append, List.map_cons, List.map_take, List.map_drop]
        · rw [List.length_append, List.length_cons, List.length_take, List.length_drop, hlu]; omega
      rw [hX1] at f1 f2
      rw [hX2] at f3 f4
      have n1 := NeA.mk f1
      have n2 := NeA.mk f3
      rw [f2] at n1
      obtain ⟨r, hr0⟩ : ∃ r, ndF (us.map (·.b)) j' m = r := ⟨_, rfl⟩
      obtain ⟨r', hr'⟩ : ∃ r', ndF X2 j' (m + 1) = r' := ⟨_, rfl⟩
      rw [hr0] at r3 f4 hr
      rw [hr'] at n2 f4
      rw [hz] at f4
      have hrb := neA_range (us_sz us) (by rw [List.length_map, hlu]; omega) hr
      have r4 := fun w (E : Option Addr) (d : Nat) hd (h : Br w E X1) => sneed_any (w := w) (A := E) (n := n + 1) (c := d) (us := v1) (by rw [hv1]; exact n1) hv1l (by omega) hd (by rw [hv1]; exact h)
      have r5 := fun w (E : Option Addr) (d : Nat) hd (h : Br w E X2) => sneed_any (w := w) (A := E) (n := n + 1) (c := d) (us := v2) (by rw [hv2]; exact n2) hv2l (by omega) hd (by rw [hv2]; exact h)
      have r6 := fun w (E : Option Addr) (d : Nat) (h : Br w E X2) => smatch_any (w := w) (A := E) (n := n + 1) (c := d) (us := v2) (by rw [hv2]; exact MtA.mk f3) hv2l (by omega) (by rw [hv2]; exact h)
      have r7 := fun w => scols_any s (by omega) hz w
      have hbt : ∀ W, Br W (some ⟨b, o, none⟩) (us.map (·.b)) → Br W (some ⟨b, o, none⟩) ta ∧ Br W (some ⟨b, o + p * 2, none⟩) tb := fun W h => ⟨by rw [← hta]; exact br_take h _, by rw [← htb]; exact br_drop h _⟩
      have HBT := Lib.hid hbt
      have HX1 := Lib.hid hX1
      have HX2 := Lib.hid hX2
      have HLA := Lib.hid hla
      have HLB := Lib.hid hlb
      have HL1 := Lib.hid hl1
      have HL2 := Lib.hid hl2
      have HF := Lib.hid f4
      have g5 : ([] : List Bq).length + p ≤ 1000000 := by simp; omega
      have g6 : ∀ x : Bq, ta.length + [x].length ≤ 1000000 := fun x => by simp; omega
      have g7 : ∀ x : Bq, (ta ++ [x]).length + (n - p) ≤ 1000000 := fun x => by simp; omega
      have hpc : p ≤ c := by omega
      have hpc2 : ¬ c = p := by omega
      clear hm hr hlu h3 h4 pm e1 f1 f2 f3 f4 hz hta htb hX1 hX2 hla hlb hl1 hl2 hv1 hv1l hv2 hv2l n1 n2 hr0 hr' hbt
      go_wp2_with fail
      ((with_reducible refine (r2 _ (HA.out.below HB1.out)).mono ?_))
      rintro e w2 ⟨rfl, hb2⟩
      have HB2 := Lib.hid (bel_trans HB1.out hb2)
      clear hb2 r2
      go_wp2_with fail
      ((with_reducible refine (r3 _ (HA.out.below HB2.out)).mono ?_))
      rintro e w3 ⟨rfl, hb3⟩
      have HB3 := Lib.hid (bel_trans HB2.out hb3)
      clear hb3 r3
      go_wp2_with fail
      go_cut [12] from 78 to 88 (fun v W => Hid (Bn w3 X1 v W))
      case first =>
        clear r4 r5 r6 r7 HF hrb v1 v2
        have N10a := Lib.hid (show Bn w3 [] (.slice none 0 0) w3.drew from ⟨World.ownsRow_nil _ _ _ _, (Below.refl _ _).drew⟩)
        have N10b := Lib.hid (N10a.out.alloc (.cells #[.int .i64 5, .string ⟨#[]⟩] 23))
        have B10a := Lib.hid ((HBT.out _ (HA.out.below HB3.out)).1.below (Below.refl _ w3).drew)
        have B10b := Lib.hid (B10a.out.below (bel_alloc (Below.refl _ _) (.cells #[.int .i64 5, .string ⟨#[]⟩] 23)))
        go_region_law (first
          | (refine step_app_bits (A := some ⟨b, o, none⟩) (m := p) (c := c) (w0 := w3) (by rfl) (.const (.slice none 0 0)) (.tmp 80) (by rfl) (.slice none 0 0) [] (by rfl) (by first | with_reducible exact N10a.out | exact N10b.out) (by go_simp) (by first | with_reducible exact B10a.out | exact B10b.out) HLA.out (fun e => by cases e) g5 ?_; intro v10 w10 hn10 hg10
             have hk10 := by first | exact (br_blk (bs := [(⟨5, noV⟩ : Bq)]) (heap_alloc_new w3.drew (.cells #[.int .i64 5, .string ⟨#[]⟩] 23)) rfl).below (grown_below hg10) | exact br_blk (bs := [(⟨5, noV⟩ : Bq)]) (heap_alloc_new w10 (.cells #[.int .i64 5, .string ⟨#[]⟩] 23)) rfl
             have HK10 := Lib.hid hk10
             have HN10 := Lib.hid (show Bn w3 ta v10 w10 by simpa using hn10)
             clear hn10 hg10 hk10)
          | (refine step_app_bits (m := 1) (c := 1) (w0 := w3) (by rfl) (.tmp 81) (.tmp 83) (by rfl) v10 ta (by go_simp) (by first | with_reducible exact HN10.out | exact HN10.out.alloc _) (by go_simp) HK10.out rfl (fun e => by cases e) (g6 (⟨5, noV⟩ : Bq)) ?_; intro v11 w11 hn11 hg11
             have HN11 := Lib.hid (show Bn w3 (ta ++ [(⟨5, noV⟩ : Bq)]) v11 w11 from hn11)
             clear hn11 hg11)
          | (refine step_app_bits (c := c - p) (w0 := w3) (by rfl) (.tmp 84) (.tmp 87) (by rfl) v11 (ta ++ [(⟨5, noV⟩ : Bq)]) (by go_simp) HN11.out (by go_simp) (HBT.out _ ((HA.out.below HB3.out).below HN11.out.bel)).2 HLB.out (fun e => by cases e) (g7 _) ?_; intro v12 w12 hn12 hg12
             have HN12 := Lib.hid (show Bn w3 X1 v12 w12 by have h := hn12; rw [List.append_assoc] at h; rw [← HX1.out]; exact h)
             clear hn12 hg12))
        all_goals (go_wp2_with fail)
        all_goals go_meet
        all_goals exact HN12
      case rest =>
      obtain ⟨E1, cE1, rfl, hE1, -, hcE1⟩ := hcut.out.row
      have HE1 := Lib.hid hE1
      have HB12 := Lib.hid (bel_trans HB3.out hcut.out.bel)
      rw [HL1.out] at hcE1
      rw [HL1.out]
      clear hE1 hcut
      go_wp2_with fail
      go_cut [13] from 89 to 100 (fun v W => Hid (Bn wc X2 v W))
      case first =>
        clear r4 r5 r6 r7 HF hrb v1 v2 HE1 hcE1
        have N20a := Lib.hid (show Bn wc [] (.slice none 0 0) wc.drew from ⟨World.ownsRow_nil _ _ _ _, (Below.refl _ _).drew⟩)
        have N20b := Lib.hid (N20a.out.alloc (.cells #[.int .i64 0, .string s] 23))
        have B20a := Lib.hid ((HBT.out _ (HA.out.below HB12.out)).1.below (Below.refl _ wc).drew)
        have B20b := Lib.hid (B20a.out.below (bel_alloc (Below.refl _ _) (.cells #[.int .i64 0, .string s] 23)))
        go_region_law (first
          | (refine step_app_bits (A := some ⟨b, o, none⟩) (m := p) (c := c) (w0 := wc) (by rfl) (.const (.slice none 0 0)) (.tmp 91) (by rfl) (.slice none 0 0) [] (by rfl) (by first | with_reducible exact N20a.out | exact N20b.out) (by go_simp) (by first | with_reducible exact B20a.out | exact B20b.out) HLA.out (fun e => by cases e) g5 ?_; intro v20 w20 hn20 hg20
             have hk20 := by first | exact (br_blk (bs := [(⟨0, s⟩ : Bq)]) (heap_alloc_new wc.drew (.cells #[.int .i64 0, .string s] 23)) rfl).below (grown_below hg20) | exact br_blk (bs := [(⟨0, s⟩ : Bq)]) (heap_alloc_new w20 (.cells #[.int .i64 0, .string s] 23)) rfl
             have HK20 := Lib.hid hk20
             have HN20 := Lib.hid (show Bn wc ta v20 w20 by simpa using hn20)
             clear hn20 hg20 hk20)
          | (refine step_app_bits (m := 1) (c := 1) (w0 := wc) (by rfl) (.tmp 92) (.tmp 95) (by rfl) v20 ta (by go_simp) (by first | with_reducible exact HN20.out | exact HN20.out.alloc _) (by go_simp) HK20.out rfl (fun e => by cases e) (g6 (⟨0, s⟩ : Bq)) ?_; intro v21 w21 hn21 hg21
             have HN21 := Lib.hid (show Bn wc (ta ++ [(⟨0, s⟩ : Bq)]) v21 w21 from hn21)
             clear hn21 hg21)
          | (refine step_app_bits (c := c - p) (w0 := wc) (by rfl) (.tmp 96) (.tmp 99) (by rfl) v21 (ta ++ [(⟨0, s⟩ : Bq)]) (by go_simp) HN21.out (by go_simp) (HBT.out _ ((HA.out.below HB12.out).below HN21.out.bel)).2 HLB.out (fun e => by cases e) (g7 _) ?_; intro v22 w22 hn22 hg22
             have HN22 := Lib.hid (show Bn wc X2 v22 w22 by have h := hn22; rw [List.append_assoc] at h; rw [← HX2.out]; exact h)
             clear hn22 hg22))
        all_goals (go_wp2_with fail)
        all_goals go_meet
        all_goals exact HN22
      case rest =>
      rename_i W22
      obtain ⟨E2, cE2, rfl, hE2, -, hcE2⟩ := hcut.out.row
      have HE2 := Lib.hid hE2
      have HE3 := Lib.hid (HE1.out.below hcut.out.bel)
      have HB22 := Lib.hid (bel_trans HB12.out hcut.out.bel)
      rw [HL2.out] at hcE2
      rw [HL2.out]
      clear hE2 hcut HE1 g5 g6 g7
      go_wp2_with fail
      ((with_reducible refine (r4 _ _ _ hcE1 HE3.out).mono ?_))
      rintro e w30 ⟨rfl, hb30⟩
      have HB30 := Lib.hid (bel_trans HB22.out hb30)
      have HE4 := Lib.hid (HE2.out.below hb30)
      clear hb30 r4 HE2 HE3
      rcases HF.out with ⟨rfl, rfl⟩ | ⟨hr0, hrr⟩
      · go_wp2_with fail
        ((with_reducible refine (r5 _ _ _ hcE2 HE4.out).mono ?_))
        rintro e w31 ⟨rfl, hb31⟩
        have HB31 := Lib.hid (bel_trans HB30.out hb31)
        have HE5 := Lib.hid (HE4.out.below hb31)
        clear hb31 r5 HE4
        go_wp2_with fail
        ((with_reducible refine (r6 _ _ _ HE5.out).mono ?_))
        rintro e w32 ⟨rfl, hb32⟩
        have HB32 := Lib.hid (bel_trans HB31.out hb32)
        clear hb32 r6
        go_wp2
        go_ret
        exact ⟨rfl, HB32.out⟩
      · have z0 : (r == -1) = false := beq_false_of_ne (by omega)
        have z1 : decide (0 ≤ r) = true := decide_eq_true hr0
        have z2 : (r' == r + (z : Int)) = true := by rw [hrr]; simp
        clear hrr
        go_wp2_with fail
        ((with_reducible refine (r5 _ _ _ hcE2 HE4.out).mono ?_))
        rintro e w31 ⟨rfl, hb31⟩
        have HB31 := Lib.hid (bel_trans HB30.out hb31)
        have HE5 := Lib.hid (HE4.out.below hb31)
        clear hb31 r5 HE4
        go_wp2_with fail
        ((with_reducible refine (r7 _).mono ?_))
        rintro e w32 ⟨rfl, hb32⟩
        have HB32 := Lib.hid (bel_trans HB31.out hb32)
        have HE6 := Lib.hid (HE5.out.below hb32)
        clear hb32 r7 HE5
        go_wp2_with fail
        ((with_reducible refine (r6 _ _ _ HE6.out).mono ?_))
        rintro e w33 ⟨rfl, hb33⟩
        have HB33 := Lib.hid (bel_trans HB32.out hb33)
        clear hb33 r6
        go_wp2
        go_ret
        exact ⟨rfl, HB33.out⟩
  · obtain rfl : r = -1 := hr.no fun j' m e hm => hno j' m e hm
    clear hr hno hlu h3 h4
    go_wp2_with fail
    ((with_reducible refine (r2 _ (HA.out.below HB1.out)).mono ?_))
    rintro e w2 ⟨rfl, hb2⟩
    have HB2 := Lib.hid (bel_trans HB1.out hb2)
    clear hb2 r2
    go_wp2_with fail
    ((with_reducible refine (r3 _ (HA.out.below HB2.out)).mono ?_))
    rintro e w3 ⟨rfl, hb3⟩
    have HB3 := Lib.hid (bel_trans HB2.out hb3)
    clear hb3 r3
    go_wp2
    go_ret
    exact ⟨rfl, HB3.out⟩
end Go.Proofs.Ytmknjhmfgapejaa
