/- The law RulePlain: its walk. -/
import Derived.Test.YtgjinkekepfnnaaDoorRulD
import Derived.Test.YtgjinkekepfnnaaDoorSymF
namespace Go.Proofs.YtgjinkekepfnnaaDoor
open Go.RowKit
set_option linter.unusedVariables false
set_option maxRecDepth 100000

set_option maxHeartbeats 4000000 in
theorem plain_law {w : World} {A B : Option Addr} {n c m d : Nat} {ts us : List Sq} (ht : TabR w) (ha : Sr w A ts) (hn : ts.length = n) (hA : A = none → n = 0 ∧ c = 0) (hb : Sr w B us) (hm : us.length = m) (hB : B = none → m = 0 ∧ d = 0)
    (hz : n ≤ 9223372036854775807) (hz2 : m ≤ 9223372036854775807) :
    Calls Tryd.prog 6 #[.slice A n c, .slice B m d] w fun e w' => e = .returned (.bool true) ∧ Below w.heap.size w w' := by
  have HT := Lib.hid ht
  have HN := Lib.hid hn
  have HM := Lib.hid hm
  have Ha := Lib.hid ha
  have Hb := Lib.hid hb
  have HA := Lib.hid hA
  have HB := Lib.hid hB
  clear ht hn hm ha hb hA hB
  by_cases g1 : 100 < n
  · have x1 : (100 : Int) < (n : Int) := by omega
    clear g1
    go_enter Tryd.func6, Tryd.ntmps6
    go_wp2_with fail
    refine (awake_any _ HT.out).mono ?_
    rintro e w1 ⟨rfl, hb1⟩
    go_wp2
    go_ret
    exact ⟨by simp, hb1⟩
  have x1 : ¬ (100 : Int) < (n : Int) := by omega
  by_cases g2 : 100 < m
  · have x2 : (100 : Int) < (m : Int) := by omega
    clear g1 g2
    go_enter Tryd.func6, Tryd.ntmps6
    go_wp2_with fail
    refine (awake_any _ HT.out).mono ?_
    rintro e w1 ⟨rfl, hb1⟩
    go_wp2
    go_ret
    exact ⟨by simp, hb1⟩
  have x2 : ¬ (100 : Int) < (m : Int) := by omega
  obtain ⟨la, hla⟩ : ∃ L, plS ts = L := ⟨_, rfl⟩
  obtain ⟨lb, hlb⟩ : ∃ L, plS us = L := ⟨_, rfl⟩
  obtain ⟨na, hna⟩ : ∃ n, la.length = n := ⟨_, rfl⟩
  obtain ⟨nb, hnb⟩ : ∃ n, lb.length = n := ⟨_, rfl⟩
  have pa := plS_le ts
  rw [hla, hna, HN.out] at pa
  have pb := plS_le us
  rw [hlb, hnb, HM.out] at pb
  have hlaa : plS la = la := by rw [← hla, plS_twice]
  have hlab : plS (ts ++ us) = la ++ lb := by rw [plS_app, hla, hlb]
  have hno : ∀ (j : Nat) (t : Sq), la[j]? = some t → (t.k == 3) = false := fun j t h => by
    rw [← hla] at h
    simpa using plS_mem (List.mem_of_getElem? h)
  have r1 := fun {w : World} (h : Sr w A ts) => plain_as (c := c) hla hna h HN.out (by omega)
  have r2 := fun {w : World} {X : Option Addr} {x : Nat} (h : Sr w X la) => plain_as (c := x) hlaa hna h hna (by omega)
  have r3 := fun {w : World} {X Y : Option Addr} {x y : Nat} (h : Sr w X la) (h' : Sr w Y la) => syms_any (c := x) (d := y) (sameS_refl la) h h' hna hna (by omega)
  have r4 := fun {w : World} {X : Option Addr} {x : Nat} (h : Sr w X (ts ++ us)) => plain_as (n := n + m) (m := na + nb) (c := x) hlab (by rw [List.length_append, hna, hnb]) h (by rw [List.length_append, HN.out, HM.out]) (by omega)
  have r5 := fun {w : World} (h : Sr w B us) => plain_as (c := d) hlb hnb h HM.out (by omega)
  have r6 := fun {w : World} {X Y : Option Addr} {x y : Nat} (h : Sr w X (la ++ lb)) (h' : Sr w Y (la ++ lb)) => syms_any (n := na + nb) (m := na + nb) (c := x) (d := y) (sameS_refl (la ++ lb)) h h' (by rw [List.length_append, hna, hnb]) (by rw [List.length_append, hna, hnb]) (by omega)
  have HNA := Lib.hid hna
  have HNB := Lib.hid hnb
  have HNO := Lib.hid hno
  clear hla hlb hna hnb hlaa hlab hno
  go_enter Tryd.func6, Tryd.ntmps6
  go_wp2_with fail
  refine (awake_any _ HT.out).mono ?_
  rintro e w1 ⟨rfl, hb1⟩
  have HB1 := Lib.hid hb1
  clear hb1
  go_wp2_with fail
  ((with_reducible refine (r1 (Ha.out.below HB1.out)).mono ?_))
  rintro e w2 ⟨X, cx, rfl, hb2, hX, hX0⟩
  have HX := Lib.hid hX
  have HX0 := Lib.hid hX0
  have HB2 := Lib.hid (bel_trans HB1.out hb2)
  clear hb2 hX hX0 r1
  go_wp2_with fail
  ((with_reducible refine (r2 HX.out).mono ?_))
  rintro e w3 ⟨Y, cy, rfl, hb3, hY, hY0⟩
  have HY := Lib.hid hY
  have HX3 := Lib.hid (HX.out.below hb3)
  have HB3 := Lib.hid (bel_trans HB2.out hb3)
  clear hb3 hY hY0 r2
  go_wp2_with fail
  ((with_reducible refine (r3 HY.out HX3.out).mono ?_))
  rintro e w4 ⟨rfl, hb4⟩
  have HX4 := Lib.hid (HX3.out.below hb4)
  have HB4 := Lib.hid (bel_trans HB3.out hb4)
  clear hb4 HY r3
  go_wp2_with (at_builtin; refine app_syms rfl _ _ rfl w4.heap.size (.slice none 0 0) 0 [] rfl (World.ownsRow_nil _ _ _ _) rfl (Ha.out.below HB4.out) HN.out HA.out (by omega) (Nat.le_refl _) ?_)
  intro v5 w5 hown5 hgrow5
  have hB5 : Below w4.heap.size w4 w5 := (Below.refl _ w4).grown hgrow5 (Nat.le_refl _) (fun k e => by cases e)
  have hB50 := bel_trans HB4.out hB5
  have hs5 : w4.heap.size ≤ w5.heap.size := hB5.size
  go_wp2_with (at_builtin; refine app_syms rfl _ _ rfl w4.heap.size v5 n ts rfl hown5 rfl (Hb.out.below hB50) HM.out HB.out (by omega) hs5 ?_)
  intro v6 w6 hown6 hgrow6
  have hB6 : Below w4.heap.size w4 w6 := hB5.grown hgrow6 hs5 (fun k e => (hown5.lt k e).1)
  obtain ⟨E, n6, g6, hv6⟩ := own_sl hown6
  subst hv6
  have hl6 : (ts ++ us).length = n + m := by rw [List.length_append, HN.out, HM.out]
  rw [← hl6] at hown6
  have h6 := sr_row hown6
  have hn6 : n6 = n + m := h6.1.trans hl6
  subst hn6
  have H6 := Lib.hid h6.2.1
  have HX6 := Lib.hid (HX4.out.below hB6)
  have HB6 := Lib.hid (bel_trans HB4.out hB6)
  clear hown5 hown6 hgrow5 hgrow6 hB5 hB6 h6 hl6 hs5 hB50
  go_wp2_with fail
  ((with_reducible refine (r4 H6.out).mono ?_))
  rintro e w7 ⟨Z, cz, rfl, hb7, hZ, -⟩
  have HZ := Lib.hid hZ
  have HX7 := Lib.hid (HX6.out.below hb7)
  have HB7 := Lib.hid (bel_trans HB6.out hb7)
  clear hb7 hZ r4
  go_wp2_with (at_builtin; refine app_syms rfl _ _ rfl w7.heap.size (.slice none 0 0) 0 [] rfl (World.ownsRow_nil _ _ _ _) rfl HX7.out HNA.out HX0.out (by omega) (Nat.le_refl _) ?_)
  intro v8 w8 hown8 hgrow8
  have hB8 : Below w7.heap.size w7 w8 := (Below.refl _ w7).grown hgrow8 (Nat.le_refl _) (fun k e => by cases e)
  have hB80 := bel_trans HB7.out hB8
  go_wp2_with fail
  ((with_reducible refine (r5 (Hb.out.below hB80)).mono ?_))
  rintro e w9 ⟨P, cp, rfl, hb9, hP, hP0⟩
  have hB9 := bel_trans hB8 hb9
  have hown9 := row_below hown8 hb9
  have hs9 : w7.heap.size ≤ w9.heap.size := hB9.size
  go_wp2_with (at_builtin; refine app_syms rfl _ _ rfl w7.heap.size v8 na la rfl hown9 rfl hP HNB.out hP0 (by omega) hs9 ?_)
  intro v11 w11 hown11 hgrow11
  have hB11 : Below w7.heap.size w7 w11 := hB9.grown hgrow11 hs9 (fun k e => (hown9.lt k e).1)
  obtain ⟨G, n11, g11, hv11⟩ := own_sl hown11
  subst hv11
  have hl11 : (la ++ lb).length = na + nb := by rw [List.length_append, HNA.out, HNB.out]
  rw [← hl11] at hown11
  have h11 := sr_row hown11
  have hn11 : n11 = na + nb := h11.1.trans hl11
  subst hn11
  have H11 := Lib.hid h11.2.1
  have HZ11 := Lib.hid (HZ.out.below hB11)
  have HX11 := Lib.hid (HX7.out.below hB11)
  have HB11 := Lib.hid (bel_trans HB7.out hB11)
  clear hown8 hgrow8 hB8 hB80 r5 hb9 hP hP0 hB9 hown9 hs9 hown11 hgrow11 hB11 h11 hl11
  go_wp2_with fail
  ((with_reducible refine (r6 HZ11.out H11.out).mono ?_))
  rintro e w12 ⟨rfl, hb12⟩
  have HX12 := Lib.hid (HX11.out.below hb12)
  have HB12 := Lib.hid (bel_trans HB11.out hb12)
  clear hb12 r6
  go_wp2
  go_loop [9] (fun i => ∃ k : Nat, i = .int .i64 k ∧ k ≤ na) (fun i => na - (intOf i).toNat)
  case atStart => exact ⟨0, rfl, Nat.zero_le _⟩
  case round =>
    obtain ⟨k, rfl, hk⟩ := hrel
    by_cases hlt : k < na
    · obtain ⟨t, ht⟩ : ∃ t, la[k]? = some t := ⟨_, List.getElem?_eq_getElem (by rw [HNA.out]; exact hlt)⟩
      obtain ⟨b, o, rfl, c0, c1⟩ := HX12.out k t ht
      have q3 := HNO.out k t ht
      clear ht
      go_wp2
      go_round
      case rel => exact ⟨k + 1, by go_num, by omega⟩
      case measure => simp [intOf]; omega
    · obtain rfl : k = na := by omega
      have q4 : (k : Int) ≤ (n : Int) := by omega
      go_wp2
      go_ret
      exact ⟨by simp, HB12.out⟩
end Go.Proofs.YtgjinkekepfnnaaDoor
