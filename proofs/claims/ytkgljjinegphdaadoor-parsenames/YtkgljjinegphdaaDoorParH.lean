/- The law ParseNames: its walk. -/
import Derived.Test.YtkgljjinegphdaaDoorParC
import Derived.Test.YtkgljjinegphdaaDoorParO
import Derived.Test.YtkgljjinegphdaaDoorIntF
import Derived.Laws.OwnMore
namespace Go.Proofs.YtkgljjinegphdaaDoor
open Go.RowKit
set_option linter.unusedVariables false
set_option maxRecDepth 100000

theorem hdL_set {L : List Int} {k : Nat} {x : Int} (h : k < L.length) : hdL (L.set k x) k = x := by
  rw [hdL_some (x := x)]; rw [List.getElem?_set_self h]
theorem hdL_set_ne {L : List Int} {k j : Nat} {x : Int} (h : j ≠ k) : hdL L j = hdL (L.set k x) j := by
  unfold hdL; rw [List.getElem?_set_ne (Ne.symm h)]
set_option maxHeartbeats 4000000 in
theorem names_law {w : World} {A : Option Addr} {n c : Nat} {L : List Int} {k : Int} (hl : L.length = n) (hA : Ri w A L) (hc : n ≤ c) (hno : A = none → n = 0 ∧ c = 0) (ht : TabR w) :
    Calls Tryd.prog 6 #[.slice A n c, .int .i64 k] w fun e w' => e = .returned (.bool true) ∧ Below w.heap.size w w' := by
  have HT := Lib.hid ht
  by_cases h300 : 300 < n
  · have q1 : (300 : Int) < (n : Int) := by omega
    clear h300
    clear hl hA ht hno hc
    go_enter Tryd.func6, Tryd.ntmps6
    go_wp2_with fail
    ((with_reducible refine (awake_any _ HT.out).mono ?_))
    rintro e w1 ⟨rfl, hb1⟩
    have HB1 := Lib.hid hb1
    clear hb1
    go_wp2_with fail
    go_ret
    exact ⟨rfl, HB1.out⟩
  have q1 : ¬ (300 : Int) < (n : Int) := by omega
  by_cases h0 : k < 0
  · have q2 : decide (k < 0) = true := decide_eq_true h0
    clear h300 h0
    clear hl hA ht hno hc
    go_enter Tryd.func6, Tryd.ntmps6
    go_wp2_with fail
    ((with_reducible refine (awake_any _ HT.out).mono ?_))
    rintro e w1 ⟨rfl, hb1⟩
    have HB1 := Lib.hid hb1
    clear hb1
    go_wp2_with fail
    go_ret
    exact ⟨rfl, HB1.out⟩
  by_cases h1 : (n : Int) ≤ k
  · have q2 : decide (k < 0) = false := decide_eq_false h0
    have q4 : decide ((n : Int) ≤ k) = true := decide_eq_true h1
    clear h300 h0
    clear hl hA ht hno hc
    go_enter Tryd.func6, Tryd.ntmps6
    go_wp2_with fail
    ((with_reducible refine (awake_any _ HT.out).mono ?_))
    rintro e w1 ⟨rfl, hb1⟩
    have HB1 := Lib.hid hb1
    clear hb1
    go_wp2_with fail
    go_ret
    exact ⟨rfl, HB1.out⟩
  obtain ⟨j, rfl⟩ := Int.eq_ofNat_of_zero_le (show 0 ≤ k by omega)
  have q3 : j < n := by omega
  have q3' : 0 < n := by omega
  have q5 : ¬ (j : Int) < 0 := by omega
  have q6 : ¬ (n : Int) ≤ (j : Int) := by omega
  have q7 : ¬ n ≤ j := by omega
  have q8 : (j : Int) < (n : Int) := by omega
  obtain ⟨te, hte⟩ : ∃ te, L[j]? = some te := ⟨_, List.getElem?_eq_getElem (by omega)⟩
  obtain ⟨b, o, rfl, c0⟩ := hA j te hte
  have HA := Lib.hid hA
  have HC := Lib.hid c0
  have HL := Lib.hid hl
  by_cases h18 : te = 18
  · subst h18
    obtain ⟨R, z, f, hp⟩ := par_ex L
    obtain ⟨R2, z2, f2, hp2⟩ := par_ex (L.set j 24)
    obtain ⟨R', hR'⟩ : ∃ R', outR L R z f = R' := ⟨_, rfl⟩
    obtain ⟨m, hm⟩ : ∃ m, R'.length = m := ⟨_, rfl⟩
    obtain ⟨p, hpz⟩ : ∃ p, outZ L z f = p := ⟨_, rfl⟩
    obtain ⟨R2', hR2'⟩ : ∃ R', outR (L.set j 24) R2 z2 f2 = R' := ⟨_, rfl⟩
    obtain ⟨m2, hm2⟩ : ∃ m, R2'.length = m := ⟨_, rfl⟩
    obtain ⟨p2, hpz2⟩ : ∃ p, outZ (L.set j 24) z2 f2 = p := ⟨_, rfl⟩
    have hn : n ≤ 1000 := by omega
    have hl2 : (L.set j 24).length = n := by rw [List.length_set, hl]
    have hk2 : m ≤ 10000 := by
      rw [← hm, ← hR', outR]
      have := hp.steps
      have := hp.within
      split
      · omega
      · exact Nat.zero_le _
    obtain ⟨m3, m4⟩ := names_math hp hp2 (by rw [List.length_set]) (by omega) (hdL_some hte) (hdL_set (by omega)) (fun i hi => hdL_set_ne hi) hpz hpz2
    rw [hR', hR2'] at m3
    have r1 := fun w h h' => parse_any (w := w) (A := some ⟨b, o, none⟩) (c := c) hp hR' hm hpz hl hn h h'
    have r2 := fun {A c} w h h' => parse_any (w := w) (A := A) (c := c) hp2 hR2' hm2 hpz2 hl2 hn h h'
    by_cases e1 : p = -1
    · obtain ⟨e2, e3⟩ := m3 e1
      rw [e3] at hm2
      rw [e3] at r2
      have hmm : m2 = m := hm2.symm.trans hm
      subst hmm
      have r3 := fun {w : World} {A B : Option Addr} {c d : Nat} (h1 : Ri w A R') (h2 : Ri w B R') => ints_any (c := c) (d := d) h1 h2 hm (by omega)
      have d1 : (p == -1) = true := by simpa using e1
      have d2 : (p != -1) = false := by simpa using e1
      have d3 : (p2 == -1) = true := by simpa using e2
      clear hl hA ht h300 h0 h1 hno hc hte hp hp2 hR' hm hpz hR2' hm2 hpz2 hl2 m3 m4 e1 e2 e3 c0
      go_enter Tryd.func6, Tryd.ntmps6
      go_wp2_with fail
      ((with_reducible refine (awake_any _ HT.out).mono ?_))
      rintro e w1 ⟨rfl, hb1⟩
      have HB1 := Lib.hid hb1
      have C1 := bel_cell hb1 HC.out
      clear hb1
      go_wp2_with fail
      ((with_reducible refine (r1 _ (HA.out.below HB1.out) (HT.out.below HB1.out)).mono ?_))
      rintro e w2 ⟨B, d, rfl, hb2, hs2, -⟩
      have HB2 := Lib.hid (bel_trans HB1.out hb2)
      have HS2 := Lib.hid hs2
      clear hb2 hs2 C1
      go_wp2_with (at_builtin; refine app_ints rfl _ _ rfl w2.heap.size _ _ [] rfl (World.ownsRow_nil _ _ _ _) (A := some ⟨b, o, none⟩) (m := n) (c := c) (ts := L) rfl (HA.out.below HB2.out) HL.out (fun e => by cases e) (by omega) (Nat.le_refl _) ?_)
      intro v' w3 hown' hgrow
      have hown3 : w3.ownsRow w2.heap.size 3 1 v' n (L.map iv) := by simpa using hown'
      obtain ⟨g, cap, rfl, hgb, hgl⟩ := hown3.form q3'
      obtain ⟨u, hu⟩ : ∃ u, w3.cell? ⟨g, j, none⟩ = some u := by
        rw [hown3.cellAt j (by omega), List.getElem?_map]
        exact ⟨_, by rw [List.getElem?_eq_getElem (by rw [HL.out]; exact q3)]; rfl⟩
      have hfz := hown3.frozenAt j
      have hB3 : Below w2.heap.size w2 w3 := (Below.refl _ w2).grown hgrow (Nat.le_refl _) (fun k hk => by cases hk)
      have hst := (hown3.stored j (iv 24)).1
      have hB4 : Below w2.heap.size w2 (w3.setCell ⟨g, j, none⟩ (.int .i64 24)) := hB3.setCell (p := ⟨g, j, none⟩) hgb (iv 24)
      rw [← List.map_set] at hst
      have hl4 : (L.set j 24).length = n := by rw [List.length_set, HL.out]
      have hri : Ri (w3.setCell ⟨g, j, none⟩ (.int .i64 24)) (some ⟨g, 0, none⟩) (L.set j 24) := (ri_row (l := L.set j 24) (by rw [hl4]; exact hst)).2.1
      have HR4 := Lib.hid hri
      have HB4 := Lib.hid (bel_trans HB2.out hB4)
      have HS4 := Lib.hid (HS2.out.below hB4)
      clear hown' hown3 hgrow hB3 hB4 hst hri hl4
      go_wp2_with fail
      ((with_reducible refine (r2 _ HR4.out (HT.out.below HB4.out)).mono ?_))
      rintro e w5 ⟨B', d', rfl, hb5, hs5, -⟩
      have HB5 := Lib.hid (bel_trans HB4.out hb5)
      have HS5 := Lib.hid hs5
      have HS6 := Lib.hid (HS4.out.below hb5)
      clear hb5 hs5 hu hfz hgb hgl
      go_wp2_with fail
      ((with_reducible refine (r3 (HS6.out) HS5.out).mono ?_))
      rintro e w7 ⟨rfl, hb7⟩
      have HB7 := Lib.hid (bel_trans HB5.out hb7)
      clear hb7
      go_wp2_with fail
      go_ret
      exact ⟨by first | (simp; done) | (simp [d3]; done), HB7.out⟩
    · have d1 : (p == -1) = false := by simpa using e1
      have d2 : (p != -1) = true := by simpa using e1
      have e2 := m4 e1
      by_cases hpj : p < (j : Int)
      · have d4 : decide ((j : Int) ≤ p) = false := decide_eq_false (by omega)
        have d3 : (p2 == p) = true := by simpa using e2 hpj
        clear hl hA ht h300 h0 h1 hno hc hte hp hp2 hR' hm hpz hR2' hm2 hpz2 hl2 m3 m4 e1 e2 c0 hpj
        go_enter Tryd.func6, Tryd.ntmps6
        go_wp2_with fail
        ((with_reducible refine (awake_any _ HT.out).mono ?_))
        rintro e w1 ⟨rfl, hb1⟩
        have HB1 := Lib.hid hb1
        have C1 := bel_cell hb1 HC.out
        clear hb1
        go_wp2_with fail
        ((with_reducible refine (r1 _ (HA.out.below HB1.out) (HT.out.below HB1.out)).mono ?_))
        rintro e w2 ⟨B, d, rfl, hb2, hs2, -⟩
        have HB2 := Lib.hid (bel_trans HB1.out hb2)
        have HS2 := Lib.hid hs2
        clear hb2 hs2 C1
        go_wp2_with (at_builtin; refine app_ints rfl _ _ rfl w2.heap.size _ _ [] rfl (World.ownsRow_nil _ _ _ _) (A := some ⟨b, o, none⟩) (m := n) (c := c) (ts := L) rfl (HA.out.below HB2.out) HL.out (fun e => by cases e) (by omega) (Nat.le_refl _) ?_)
        intro v' w3 hown' hgrow
        have hown3 : w3.ownsRow w2.heap.size 3 1 v' n (L.map iv) := by simpa using hown'
        obtain ⟨g, cap, rfl, hgb, hgl⟩ := hown3.form q3'
        obtain ⟨u, hu⟩ : ∃ u, w3.cell? ⟨g, j, none⟩ = some u := by
          rw [hown3.cellAt j (by omega), List.getElem?_map]
          exact ⟨_, by rw [List.getElem?_eq_getElem (by rw [HL.out]; exact q3)]; rfl⟩
        have hfz := hown3.frozenAt j
        have hB3 : Below w2.heap.size w2 w3 := (Below.refl _ w2).grown hgrow (Nat.le_refl _) (fun k hk => by cases hk)
        have hst := (hown3.stored j (iv 24)).1
        have hB4 : Below w2.heap.size w2 (w3.setCell ⟨g, j, none⟩ (.int .i64 24)) := hB3.setCell (p := ⟨g, j, none⟩) hgb (iv 24)
        rw [← List.map_set] at hst
        have hl4 : (L.set j 24).length = n := by rw [List.length_set, HL.out]
        have hri : Ri (w3.setCell ⟨g, j, none⟩ (.int .i64 24)) (some ⟨g, 0, none⟩) (L.set j 24) := (ri_row (l := L.set j 24) (by rw [hl4]; exact hst)).2.1
        have HR4 := Lib.hid hri
        have HB4 := Lib.hid (bel_trans HB2.out hB4)
        have HS4 := Lib.hid (HS2.out.below hB4)
        clear hown' hown3 hgrow hB3 hB4 hst hri hl4
        go_wp2_with fail
        ((with_reducible refine (r2 _ HR4.out (HT.out.below HB4.out)).mono ?_))
        rintro e w5 ⟨B', d', rfl, hb5, hs5, -⟩
        have HB5 := Lib.hid (bel_trans HB4.out hb5)
        have HS5 := Lib.hid hs5
        have HS6 := Lib.hid (HS4.out.below hb5)
        clear hb5 hs5 hu hfz hgb hgl
        go_wp2_with fail
        go_ret
        exact ⟨by first | (simp; done) | (simp [d3]; done), HB5.out⟩
      · have d4 : decide ((j : Int) ≤ p) = true := decide_eq_true (by omega)
        have d3 := d4
        clear hl hA ht h300 h0 h1 hno hc hte hp hp2 hR' hm hpz hR2' hm2 hpz2 hl2 m3 m4 e1 e2 c0 hpj
        go_enter Tryd.func6, Tryd.ntmps6
        go_wp2_with fail
        ((with_reducible refine (awake_any _ HT.out).mono ?_))
        rintro e w1 ⟨rfl, hb1⟩
        have HB1 := Lib.hid hb1
        have C1 := bel_cell hb1 HC.out
        clear hb1
        go_wp2_with fail
        ((with_reducible refine (r1 _ (HA.out.below HB1.out) (HT.out.below HB1.out)).mono ?_))
        rintro e w2 ⟨B, d, rfl, hb2, hs2, -⟩
        have HB2 := Lib.hid (bel_trans HB1.out hb2)
        have HS2 := Lib.hid hs2
        clear hb2 hs2 C1
        go_wp2_with (at_builtin; refine app_ints rfl _ _ rfl w2.heap.size _ _ [] rfl (World.ownsRow_nil _ _ _ _) (A := some ⟨b, o, none⟩) (m := n) (c := c) (ts := L) rfl (HA.out.below HB2.out) HL.out (fun e => by cases e) (by omega) (Nat.le_refl _) ?_)
        intro v' w3 hown' hgrow
        have hown3 : w3.ownsRow w2.heap.size 3 1 v' n (L.map iv) := by simpa using hown'
        obtain ⟨g, cap, rfl, hgb, hgl⟩ := hown3.form q3'
        obtain ⟨u, hu⟩ : ∃ u, w3.cell? ⟨g, j, none⟩ = some u := by
          rw [hown3.cellAt j (by omega), List.getElem?_map]
          exact ⟨_, by rw [List.getElem?_eq_getElem (by rw [HL.out]; exact q3)]; rfl⟩
        have hfz := hown3.frozenAt j
        have hB3 : Below w2.heap.size w2 w3 := (Below.refl _ w2).grown hgrow (Nat.le_refl _) (fun k hk => by cases hk)
        have hst := (hown3.stored j (iv 24)).1
        have hB4 : Below w2.heap.size w2 (w3.setCell ⟨g, j, none⟩ (.int .i64 24)) := hB3.setCell (p := ⟨g, j, none⟩) hgb (iv 24)
        rw [← List.map_set] at hst
        have hl4 : (L.set j 24).length = n := by rw [List.length_set, HL.out]
        have hri : Ri (w3.setCell ⟨g, j, none⟩ (.int .i64 24)) (some ⟨g, 0, none⟩) (L.set j 24) := (ri_row (l := L.set j 24) (by rw [hl4]; exact hst)).2.1
        have HR4 := Lib.hid hri
        have HB4 := Lib.hid (bel_trans HB2.out hB4)
        have HS4 := Lib.hid (HS2.out.below hB4)
        clear hown' hown3 hgrow hB3 hB4 hst hri hl4
        go_wp2_with fail
        ((with_reducible refine (r2 _ HR4.out (HT.out.below HB4.out)).mono ?_))
        rintro e w5 ⟨B', d', rfl, hb5, hs5, -⟩
        have HB5 := Lib.hid (bel_trans HB4.out hb5)
        have HS5 := Lib.hid hs5
        have HS6 := Lib.hid (HS4.out.below hb5)
        clear hb5 hs5 hu hfz hgb hgl
        go_wp2_with fail
        go_ret
        exact ⟨by first | (simp; done) | (simp [d3]; done), HB5.out⟩
  · have q9 : (te == 18) = false := by simpa using h18
    have q10 : (te != 18) = true := by simpa using h18
    clear hl hA ht h300 h0 h1 hno hc hte h18 c0
    go_enter Tryd.func6, Tryd.ntmps6
    go_wp2_with fail
    ((with_reducible refine (awake_any _ HT.out).mono ?_))
    rintro e w1 ⟨rfl, hb1⟩
    have HB1 := Lib.hid hb1
    have C1 := bel_cell hb1 HC.out
    clear hb1
    go_wp2_with fail
    go_ret
    exact ⟨rfl, HB1.out⟩
end Go.Proofs.YtkgljjinegphdaaDoor
