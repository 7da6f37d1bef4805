/- The law SpanNeed: its walk. -/
import Derived.Test.YtmknjhmfgapejaaSpaE
import Derived.Test.YtmknjhmfgapejaaSpaN
import Derived.Test.YtmknjhmfgapejaaBitH
import Derived.Test.YtmknjhmfgapejaaMayA
namespace Go.Proofs.Ytmknjhmfgapejaa
open Go.RowKit
set_option linter.unusedVariables false
set_option maxRecDepth 100000

set_option maxHeartbeats 8000000 in
theorem need_law {w : World} {i k : Int} {s : ByteArray} {A : Option Addr} {n c : Nat} {ts : List Bq} (hl : ts.length = n) (hA : Br w A ts) (hc : n ≤ c) (h0 : A = none → n = 0 ∧ c = 0) (hw : ∀ x ∈ ts, (Lit.int .i64 x.m).wf = true) (hs : SzB ts) :
    Calls Try.prog 6 #[.slice A n c, .int .i64 i, .int .i64 k, .string s] w fun e w' => e = .returned (.bool true) ∧ Below w.heap.size w w' := by
  obtain ⟨us, rfl⟩ := bz_ex ts hw hs
  obtain ⟨y, hy⟩ : ∃ y, mayL (us.map (·.b)) = y := ⟨_, rfl⟩
  have r1 := fun w => awake_any w
  have HA := Lib.hid hA
  have HL := Lib.hid hl
  have HY := Lib.hid hy
  have H0 := Lib.hid h0
  clear hA hl hs hw hy h0
  go_enter Try.func6, Try.ntmps6
  go_wp2_with fail
  ((with_reducible refine (r1 _).mono ?_))
  rintro e w1 ⟨rfl, hb1⟩
  have HB1 := Lib.hid hb1
  clear hb1 r1
  by_cases h3 : 300 < n
  · have q3 : (300 : Int) < (n : Int) := by omega
    go_wp2
    go_ret
    exact ⟨rfl, HB1.out⟩
  have q3 : ¬ (300 : Int) < (n : Int) := by omega
  have r2 := fun w h => mmay_any (w := w) (A := A) (c := c) HY.out h HL.out (by omega)
  go_wp2_with fail
  ((with_reducible refine (r2 _ (HA.out.below HB1.out)).mono ?_))
  rintro e w2 ⟨rfl, hb2⟩
  have HB2 := Lib.hid (bel_trans HB1.out hb2)
  clear hb2 r2
  cases y with
  | false =>
    go_wp2
    go_ret
    exact ⟨rfl, HB2.out⟩
  | true =>
    by_cases i0 : i < 0
    · go_wp2
      go_ret
      exact ⟨rfl, HB2.out⟩
    obtain ⟨j, rfl⟩ := Int.eq_ofNat_of_zero_le (show 0 ≤ i by omega)
    clear i0
    by_cases jn : n ≤ j
    · have qj : decide (n ≤ j) = true := decide_eq_true jn
      go_wp2
      go_ret
      exact ⟨rfl, HB2.out⟩
    have qj : decide (n ≤ j) = false := decide_eq_false jn
    by_cases h4 : 300 < s.size
    · have q4 : (300 : Int) < (s.size : Int) := by omega
      go_wp2
      go_ret
      exact ⟨rfl, HB2.out⟩
    have q4 : ¬ (300 : Int) < (s.size : Int) := by omega
    have hjn : j < n := by omega
    obtain ⟨t, ht⟩ : ∃ t, (us.map (·.b))[j]? = some t := ⟨_, List.getElem?_eq_getElem (by rw [HL.out]; omega)⟩
    obtain ⟨b, o, rfl, d0, d1⟩ := HA.out j t ht
    clear d0 d1
    obtain ⟨r, hr⟩ := neA_ex (us.map (·.b)) (j : Int)
    have hr2 := neA_cons ⟨0, s⟩ hr (by omega)
    obtain ⟨bb, hbb⟩ : ∃ bb, [(⟨0, s⟩ : Bq)] ++ us.map (·.b) = bb := ⟨_, rfl⟩
    have hlb : bb.length = n + 1 := by rw [← hbb, List.length_append, HL.out, Nat.add_comm]; rfl
    obtain ⟨us2, hu2, hl2⟩ : ∃ us2 : List Bz, us2.map (·.b) = bb ∧ us2.length = n + 1 := by
      refine ⟨⟨⟨0, s⟩, rfl, by show s.size ≤ _; omega⟩ :: us, by rw [← hbb]; rfl, ?_⟩
      rw [List.length_cons, ← HL.out, List.length_map]
    rw [show (⟨0, s⟩ : Bq) :: us.map (·.b) = bb from hbb] at hr2
    have hlu : us.length = n := by rw [← HL.out, List.length_map]
    have r3 := fun w h => sneed_any (w := w) (A := some ⟨b, o, none⟩) (c := c) hr hlu (by omega) hc h
    have r4 := fun w (E : Option Addr) (d : Nat) hd (h : Br w E bb) => sneed_any (w := w) (A := E) (n := n + 1) (c := d) (us := us2) (by rw [hu2]; exact hr2) hl2 (by omega) hd (by rw [hu2]; exact h)
    have HBB := Lib.hid hbb
    have HLB := Lib.hid hlb
    have HT := Lib.hid ht
    have HLU := Lib.hid hlu
    have HR := Lib.hid hr
    have hn1 : [(⟨0, s⟩ : Bq)].length + n ≤ 1000000 := by simp; omega
    have hcase : r = -1 ∨ (0 ≤ r ∧ ∃ m, Mt (us.map (·.b)) j m ∧ (bet (us.map (·.b)) j m).all flI = true ∧ r = ndF (us.map (·.b)) j m) := by
      rcases hr with ⟨j', m, e1, e2, hm⟩ | ⟨e, -⟩
      · obtain rfl : j' = j := by omega
        cases h : (bet (us.map (·.b)) j' m).all flI
        · exact .inl (e2.trans (ndF_no h))
        · refine .inr ⟨?_, m, hm, h, e2⟩
          rw [e2, ndF_yes h]; omega
      · exact .inl e
    clear hr hr2 hu2 hl2 hbb hlb ht h3 h4 jn hlu
    go_wp2_with fail
    ((with_reducible refine (r3 _ (HA.out.below HB2.out)).mono ?_))
    rintro e w3 ⟨rfl, hb3⟩
    have HB3 := Lib.hid (bel_trans HB2.out hb3)
    clear hb3 r3
    go_wp2_with (at_builtin; refine app_bns rfl _ _ rfl (.slice (some ⟨w3.heap.size, 0, none⟩) 1 1) [⟨0, s⟩] rfl (bn_blk w3 rfl rfl (by omega)) rfl ((HA.out.below HB3.out).below (bel_alloc (Below.refl _ w3) _)) HL.out H0.out hn1 ?_)
    intro v5 w5 hn5
    replace hn5 : Bn w3 bb v5 w5 := by rw [← HBB.out]; exact hn5
    obtain ⟨E, cE, rfl, hE, -, hcE⟩ := hn5.row
    have HE := Lib.hid hE
    have HB5 := Lib.hid (bel_trans HB3.out hn5.bel)
    rw [HLB.out] at hcE
    rw [HLB.out]
    clear hn5 hE hn1
    go_wp2_with fail
    ((with_reducible refine (r4 _ _ _ hcE HE.out).mono ?_))
    rintro e w6 ⟨rfl, hb6⟩
    have HB6 := Lib.hid (bel_trans HB5.out hb6)
    clear hb6 r4 HE
    rcases hcase with rfl | ⟨hr0, m, hm, hall, hrr⟩
    · obtain ⟨q, hq⟩ := mtA_ex (us.map (·.b)) (j : Int)
      have r5 := fun w h => smatch_any (w := w) (A := some ⟨b, o, none⟩) (n := n) (c := c) hq HLU.out (by omega) h
      clear hq
      go_wp2_with fail
      ((with_reducible refine (r5 _ (HA.out.below HB6.out)).mono ?_))
      rintro e w7 ⟨rfl, hb7⟩
      have HB7 := Lib.hid (bel_trans HB6.out hb7)
      clear hb7 r5
      go_wp2
      go_ret
      exact ⟨rfl, HB7.out⟩
    · obtain ⟨tt, htt, h6⟩ := hm.op
      obtain ⟨b1, o1, hbo, d0, d1⟩ := (HA.out.below HB6.out) j tt htt
      injection hbo with hbo
      injection hbo with hb1 hb2 hb3
      subst hb1 hb2
      rw [h6] at d0
      have hjm := hm.lt
      have hmn := hm.len
      rw [HL.out] at hmn
      have r5 := fun w h => smatch_any (w := w) (A := some ⟨b, o, none⟩) (n := n) (c := c) (MtA.mk hm) HLU.out (by omega) h
      have g0 : ¬ r < 0 := by omega
      have g1 : decide (0 ≤ r) = true := decide_eq_true hr0
      have g2 : decide (n ≤ m) = false := decide_eq_false (by omega)
      have HM := Lib.hid (And.intro hm (And.intro hall hrr))
      clear htt h6 hm hall hrr hb3
      go_wp2_with fail
      ((with_reducible refine (r5 _ (HA.out.below HB6.out)).mono ?_))
      rintro e w7 ⟨rfl, hb7⟩
      have HB7 := Lib.hid (bel_trans HB6.out hb7)
      clear hb7 r5 d0 d1
      by_cases kj : k ≤ (j : Int)
      · have z1 : decide (k ≤ (j : Int)) = true := decide_eq_true kj
        clear kj
        go_wp2
        go_ret
        exact ⟨rfl, HB7.out⟩
      have z1 : decide (k ≤ (j : Int)) = false := decide_eq_false kj
      obtain ⟨p, rfl⟩ := Int.eq_ofNat_of_zero_le (show 0 ≤ k by omega)
      by_cases km : m ≤ p
      · have z2 : decide (m ≤ p) = true := decide_eq_true km
        clear km
        go_wp2
        go_ret
        exact ⟨rfl, HB7.out⟩
      have z2 : decide (m ≤ p) = false := decide_eq_false km
      obtain ⟨u, hu⟩ : ∃ u, (us.map (·.b))[p]? = some u := ⟨_, List.getElem?_eq_getElem (by rw [HL.out]; omega)⟩
      obtain ⟨b1, o1, hbo, d0, d1⟩ := (HA.out.below HB7.out) p u hu
      injection hbo with hbo
      injection hbo with hb1 hb2 hb3
      subst hb1 hb2
      obtain ⟨um, uv⟩ := u
      dsimp only at d0 d1
      by_cases h6 : um = 6
      · subst h6
        obtain ⟨q, hq1, hq2⟩ := mt_sub HM.out.1 (show j < p by omega) (show p < m by omega) hu rfl
        obtain ⟨f1, f2, f3⟩ := need_in HM.out.1 hq2 (show j < p by omega) hq1 HM.out.2.1
        rw [← HM.out.2.2] at f3
        obtain ⟨own, hown⟩ : ∃ own, ndF ((us.map (·.b)).take (m + 1)) p q = own := ⟨_, rfl⟩
        have hne := NeA.mk f1
        rw [hown] at f2 f3 hne
        have r6 := fun w h => sneed_any (w := w) (A := some ⟨b, o, none⟩) (n := m + 1) (c := c) (us := us.take (m + 1)) (i := (p : Int)) (r := own) (by rw [List.map_take]; exact hne) (by rw [List.length_take, HLU.out]; omega) (by omega) (by omega) h
        have z3 : decide (0 ≤ own) = true := decide_eq_true f2
        have z4 : decide (own ≤ r) = true := decide_eq_true f3
        have z5 : m + 1 ≤ c := by omega
        clear f1 hown hne hq1 hq2 hu
        go_wp2_with fail
        ((with_reducible refine (r6 _ (by rw [List.map_take]; exact br_take (HA.out.below HB7.out) _)).mono ?_))
        rintro e w8 ⟨rfl, hb8⟩
        have HB8 := Lib.hid (bel_trans HB7.out hb8)
        clear hb8 r6 d0 d1
        go_wp2
        go_ret
        exact ⟨rfl, HB8.out⟩
      · have z3 : (um != 6) = true := bne_iff_ne.2 h6
        clear h6 hu
        go_wp2
        go_ret
        exact ⟨rfl, HB7.out⟩
end Go.Proofs.Ytmknjhmfgapejaa
