/- The law KindAll: its walk. -/
import Derived.Test.YtjfhcgolgabkkaaDoorKinH
import Derived.Test.YtjfhcgolgabkkaaDoorKinR
import Derived.Test.YtjfhcgolgabkkaaDoorTokA
namespace Go.Proofs.YtjfhcgolgabkkaaDoor
open Go.RowKit
set_option linter.unusedVariables false

set_option maxHeartbeats 4000000 in
set_option maxRecDepth 100000 in
theorem all_law {w : World} {A B : Option Addr} {n c m d : Nat} {ts us : List Tq} (i : Int) (ht : TabK w) (ha : Tr w A ts) (hn : ts.length = n) (hA : A = none → n = 0 ∧ c = 0) (hb : Tr w B us) (hm : us.length = m) (hB : B = none → m = 0 ∧ d = 0)
    (hz : n ≤ 9223372036854775807) (hz2 : m ≤ 9223372036854775807) :
    Calls Tryd.prog 7 #[.slice A n c, .slice B m d, .int .i64 i] w fun e w' => e = .returned (.bool true) ∧ Below w.heap.size w w' := by
  have HT := Lib.hid ht
  have HN := Lib.hid hn
  have HM := Lib.hid hm
  have Ha := Lib.hid ha
  have Hb := Lib.hid hb
  have HA := Lib.hid hA
  have HB := Lib.hid hB
  clear ht hn hm ha hb hA hB
  by_cases g1 : 100 < n
  · have x1 : (100 : Int) < (n : Int) := by omega
    clear g1
    go_enter Tryd.func7, Tryd.ntmps7
    go_wp2_with fail
    refine (awake_any _ HT.out).mono ?_
    rintro e w1 ⟨rfl, hb1⟩
    go_wp2
    go_ret
    exact ⟨by simp, hb1⟩
  have x1 : ¬ (100 : Int) < (n : Int) := by omega
  by_cases g2 : 100 < m
  · have x2 : (100 : Int) < (m : Int) := by omega
    clear g1 g2
    go_enter Tryd.func7, Tryd.ntmps7
    go_wp2_with fail
    refine (awake_any _ HT.out).mono ?_
    rintro e w1 ⟨rfl, hb1⟩
    go_wp2
    go_ret
    exact ⟨by simp, hb1⟩
  have x2 : ¬ (100 : Int) < (m : Int) := by omega
  obtain ⟨La, hLa⟩ : ∃ L, ts.map teQ = L := ⟨_, rfl⟩
  obtain ⟨Lb, hLb⟩ : ∃ L, us.map teQ = L := ⟨_, rfl⟩
  have HLa := Lib.hid hLa
  have HLb := Lib.hid hLb
  have HnA : Hid (La.length = n) := by show La.length = n; rw [← hLa, List.length_map, HN.out]
  have HnB : Hid (Lb.length = m) := by show Lb.length = m; rw [← hLb, List.length_map, HM.out]
  clear hLa hLb
  by_cases hi : 0 ≤ i ∧ i < n
  · obtain ⟨k, rfl⟩ := Int.eq_ofNat_of_zero_le hi.1
    have hk : k < n := by omega
    have q1 : decide ((k : Int) < 0) = false := by simp
    have q2 : decide ((n : Int) ≤ (k : Int)) = false := by simp; omega
    have q3 : ¬ n ≤ k := by omega
    have q4 : (k : Int) < (n : Int) := by omega
    obtain ⟨t, ht⟩ : ∃ t, ts[k]? = some t := ⟨_, List.getElem?_eq_getElem (by rw [HN.out]; exact hk)⟩
    have hx : La[k]? = some (teQ t) := by rw [← HLa.out, List.getElem?_map, ht]; rfl
    have Ht := Lib.hid ht
    have Hx := Lib.hid hx
    have rk := fun (w' : World) (h : TabK w') => kof_any (k := t.k) (s := t.v) (a := t.a) (z := t.z) (r := teQ t) rfl h
    generalize teQ t = x at *
    clear ht hx hi
    go_enter Tryd.func7, Tryd.ntmps7
    go_wp2_with fail
    refine (awake_any _ HT.out).mono ?_
    rintro e w1 ⟨rfl, hb1⟩
    go_wp2_with fail
    refine (kall_any HLa.out (HT.out.below hb1) (Ha.out.below hb1) HN.out (by omega)).mono ?_
    rintro e w2 ⟨X, cx, rfl, hb2, hX, hX0⟩
    have HB2 := Lib.hid (bel_trans hb1 hb2)
    have HX := Lib.hid hX
    have HX0 := Lib.hid hX0
    clear hb1 hb2 hX hX0
    go_wp2_with (at_builtin; refine app_own rfl _ _ rfl w2.heap.size (.slice none 0 0) 0 [] rfl (World.ownsRow_nil _ _ _ _) rfl (Ha.out.below HB2.out) HN.out HA.out (by omega) (Nat.le_refl _) ?_)
    intro v5 w5 hown5 hgrow5
    have hB5 : Below w2.heap.size w2 w5 := (Below.refl _ w2).grown hgrow5 (Nat.le_refl _) (fun k e => by cases e)
    have hs5 := hB5.size
    have HB5 := Lib.hid (bel_trans HB2.out hB5)
    go_wp2_with (at_builtin; refine app_own rfl _ _ rfl w2.heap.size v5 n ts rfl hown5 rfl (Hb.out.below HB5.out) HM.out HB.out (by omega) hs5 ?_)
    intro v6 w6 hown6 hgrow6
    have hB6 : Below w2.heap.size w2 w6 := hB5.grown hgrow6 hs5 (fun k e => (hown5.lt k e).1)
    obtain ⟨D, n6, g6, hv6⟩ := own_sl hown6
    subst hv6
    have hl6 : (ts ++ us).length = n + m := by rw [List.length_append, HN.out, HM.out]
    rw [← hl6] at hown6
    have h6 := tr_rowq hown6
    have hB60 := bel_trans HB2.out hB6
    have r6 := kall_any (c := g6) (n := n + m) (L := La ++ Lb) (by rw [List.map_append, HLa.out, HLb.out]) (HT.out.below hB60) h6.2 hl6 (by omega)
    have hn6 : n6 = n + m := h6.1.trans hl6
    subst hn6
    have HX6 := Lib.hid (HX.out.below hB6)
    have HB6 := Lib.hid hB60
    clear hown5 hown6 hgrow5 hgrow6 hB5 hB6 h6 hl6 hs5 hB60
    go_wp2_with fail
    refine r6.mono ?_
    rintro e w7 ⟨Y, cy, rfl, hb7, hY, -⟩
    have HY := Lib.hid hY
    have HX7 := Lib.hid (HX6.out.below hb7)
    have HB7 := Lib.hid (bel_trans HB6.out hb7)
    clear hY hb7 r6
    go_wp2_with (at_builtin; refine app_ints rfl _ _ rfl w7.heap.size (.slice none 0 0) 0 [] rfl (World.ownsRow_nil _ _ _ _) rfl HX7.out HnA.out HX0.out (by omega) (Nat.le_refl _) ?_)
    intro v8 w8 hown8 hgrow8
    have hB8 : Below w7.heap.size w7 w8 := (Below.refl _ w7).grown hgrow8 (Nat.le_refl _) (fun k e => by cases e)
    have hB80 := bel_trans HB7.out hB8
    have r8 := kall_any (c := d) HLb.out (HT.out.below hB80) (Hb.out.below hB80) HM.out (by omega)
    go_wp2_with fail
    refine r8.mono ?_
    rintro e w9 ⟨Z, cz, rfl, hb9, hZ, hZ0⟩
    have hB9 := bel_trans hB8 hb9
    have hown9 := row_below hown8 hb9
    have hs9 : w7.heap.size ≤ w9.heap.size := hB9.size
    go_wp2_with (at_builtin; refine app_ints rfl _ _ rfl w7.heap.size v8 n La rfl hown9 rfl hZ HnB.out hZ0 (by omega) hs9 ?_)
    intro v11 w11 hown11 hgrow11
    have hB11 : Below w7.heap.size w7 w11 := hB9.grown hgrow11 hs9 (fun k e => (hown9.lt k e).1)
    obtain ⟨E, n11, g11, hv11⟩ := own_sl hown11
    subst hv11
    have hl11 : (La ++ Lb).length = n + m := by rw [List.length_append, HnA.out, HnB.out]
    rw [← hl11, ← List.map_append] at hown11
    have h11 := ri_row hown11
    have hn11 : n11 = n + m := h11.1.trans hl11
    subst hn11
    have r11 := ints_any (c := cy) (d := g11) (HY.out.below hB11) h11.2.1 hl11 (by omega)
    have HX11 := Lib.hid (HX7.out.below hB11)
    have HB11 := Lib.hid (bel_trans HB7.out hB11)
    clear hown8 hgrow8 hB8 hB80 r8 hb9 hZ hZ0 hB9 hown9 hs9 hown11 hgrow11 hB11 h11 hl11
    go_wp2_with fail
    refine r11.mono ?_
    rintro e w9 ⟨rfl, hb12⟩
    have HR2 := Lib.hid (HX11.out.below hb12)
    have HB9 := Lib.hid (bel_trans HB11.out hb12)
    clear hb12 r11 HX11 HB11 HX7 HB7 HY HX6 HB6 HB5 HB2 HX HX0
    obtain ⟨xb, xo, rfl, x0⟩ := (HR2.out) k x Hx.out
    obtain ⟨b, o, rfl, c0, c1, c2, c3⟩ := (Ha.out.below HB9.out) k t Ht.out
    have HT9 := Lib.hid (HT.out.below HB9.out)
    go_wp2_with fail
    go_region_held3 (fun w' => w'.cell? ⟨xb, xo + k, none⟩ = some (.int .i64 x) ∧ w'.cell? ⟨b, o + k * 4, none⟩ = some (.int .i64 t.k) ∧ w'.cell? ⟨b, o + k * 4 + 1, none⟩ = some (.string t.v) ∧ w'.cell? ⟨b, o + k * 4 + 2, none⟩ = some (.int .i64 t.a) ∧ w'.cell? ⟨b, o + k * 4 + 3, none⟩ = some (.int .i64 t.z))
      (first | (exact ⟨x0, c0, c1, c2, c3⟩) | (go_split_ands; refine ⟨?_, ?_, ?_, ?_, ?_⟩ <;> exact bel_cell hq (by assumption)))
      (first | (go_at_call 17; refine (rk _ HT9.out.drew).mono ?_; rintro e w10 ⟨rfl, hq⟩; have hq4 := hq))
    go_wp2
    go_ret
    have hq5 : Below w9.heap.size w9 w10 := ⟨hq4.os, hq4.tape, hq4.output, hq4.size, hq4.block⟩
    exact ⟨by simp, bel_trans HB9.out hq5⟩
  · have hq : (decide (i < 0) = true) ∨ (decide (i < 0) = false ∧ decide ((n : Int) ≤ i) = true) := by
      by_cases h : i < 0
      · exact .inl (by simp [h])
      · exact .inr ⟨by simp; omega, by simp; omega⟩
    clear hi
    rcases hq with q1 | ⟨q1, q2⟩
    all_goals
      go_enter Tryd.func7, Tryd.ntmps7
      go_wp2_with fail
      refine (awake_any _ HT.out).mono ?_
      rintro e w1 ⟨rfl, hb1⟩
      go_wp2_with fail
      refine (kall_any HLa.out (HT.out.below hb1) (Ha.out.below hb1) HN.out (by omega)).mono ?_
      rintro e w2 ⟨X, cx, rfl, hb2, hX, hX0⟩
      have HB2 := Lib.hid (bel_trans hb1 hb2)
      have HX := Lib.hid hX
      have HX0 := Lib.hid hX0
      clear hb1 hb2 hX hX0
      go_wp2_with (at_builtin; refine app_own rfl _ _ rfl w2.heap.size (.slice none 0 0) 0 [] rfl (World.ownsRow_nil _ _ _ _) rfl (Ha.out.below HB2.out) HN.out HA.out (by omega) (Nat.le_refl _) ?_)
      intro v5 w5 hown5 hgrow5
      have hB5 : Below w2.heap.size w2 w5 := (Below.refl _ w2).grown hgrow5 (Nat.le_refl _) (fun k e => by cases e)
      have hs5 := hB5.size
      have HB5 := Lib.hid (bel_trans HB2.out hB5)
      go_wp2_with (at_builtin; refine app_own rfl _ _ rfl w2.heap.size v5 n ts rfl hown5 rfl (Hb.out.below HB5.out) HM.out HB.out (by omega) hs5 ?_)
      intro v6 w6 hown6 hgrow6
      have hB6 : Below w2.heap.size w2 w6 := hB5.grown hgrow6 hs5 (fun k e => (hown5.lt k e).1)
      obtain ⟨D, n6, g6, hv6⟩ := own_sl hown6
      subst hv6
      have hl6 : (ts ++ us).length = n + m := by rw [List.length_append, HN.out, HM.out]
      rw [← hl6] at hown6
      have h6 := tr_rowq hown6
      have hB60 := bel_trans HB2.out hB6
      have r6 := kall_any (c := g6) (n := n + m) (L := La ++ Lb) (by rw [List.map_append, HLa.out, HLb.out]) (HT.out.below hB60) h6.2 hl6 (by omega)
      have hn6 : n6 = n + m := h6.1.trans hl6
      subst hn6
      have HX6 := Lib.hid (HX.out.below hB6)
      have HB6 := Lib.hid hB60
      clear hown5 hown6 hgrow5 hgrow6 hB5 hB6 h6 hl6 hs5 hB60
      go_wp2_with fail
      refine r6.mono ?_
      rintro e w7 ⟨Y, cy, rfl, hb7, hY, -⟩
      have HY := Lib.hid hY
      have HX7 := Lib.hid (HX6.out.below hb7)
      have HB7 := Lib.hid (bel_trans HB6.out hb7)
      clear hY hb7 r6
      go_wp2_with (at_builtin; refine app_ints rfl _ _ rfl w7.heap.size (.slice none 0 0) 0 [] rfl (World.ownsRow_nil _ _ _ _) rfl HX7.out HnA.out HX0.out (by omega) (Nat.le_refl _) ?_)
      intro v8 w8 hown8 hgrow8
      have hB8 : Below w7.heap.size w7 w8 := (Below.refl _ w7).grown hgrow8 (Nat.le_refl _) (fun k e => by cases e)
      have hB80 := bel_trans HB7.out hB8
      have r8 := kall_any (c := d) HLb.out (HT.out.below hB80) (Hb.out.below hB80) HM.out (by omega)
      go_wp2_with fail
      refine r8.mono ?_
      rintro e w9 ⟨Z, cz, rfl, hb9, hZ, hZ0⟩
      have hB9 := bel_trans hB8 hb9
      have hown9 := row_below hown8 hb9
      have hs9 : w7.heap.size ≤ w9.heap.size := hB9.size
      go_wp2_with (at_builtin; refine app_ints rfl _ _ rfl w7.heap.size v8 n La rfl hown9 rfl hZ HnB.out hZ0 (by omega) hs9 ?_)
      intro v11 w11 hown11 hgrow11
      have hB11 : Below w7.heap.size w7 w11 := hB9.grown hgrow11 hs9 (fun k e => (hown9.lt k e).1)
      obtain ⟨E, n11, g11, hv11⟩ := own_sl hown11
      subst hv11
      have hl11 : (La ++ Lb).length = n + m := by rw [List.length_append, HnA.out, HnB.out]
      rw [← hl11, ← List.map_append] at hown11
      have h11 := ri_row hown11
      have hn11 : n11 = n + m := h11.1.trans hl11
      subst hn11
      have r11 := ints_any (c := cy) (d := g11) (HY.out.below hB11) h11.2.1 hl11 (by omega)
      have HX11 := Lib.hid (HX7.out.below hB11)
      have HB11 := Lib.hid (bel_trans HB7.out hB11)
      clear hown8 hgrow8 hB8 hB80 r8 hb9 hZ hZ0 hB9 hown9 hs9 hown11 hgrow11 hB11 h11 hl11
      go_wp2_with fail
      refine r11.mono ?_
      rintro e w9 ⟨rfl, hb12⟩
      have HR2 := Lib.hid (HX11.out.below hb12)
      have HB9 := Lib.hid (bel_trans HB11.out hb12)
      clear hb12 r11 HX11 HB11 HX7 HB7 HY HX6 HB6 HB5 HB2 HX HX0
      clear HR2
      go_wp2_with fail
      go_quiet (fail)
      go_wp2
      go_ret
      exact ⟨by simp, below_drewN HB9.out _⟩
end Go.Proofs.YtjfhcgolgabkkaaDoor
