/- The law SpanMatch: its walk. -/
import Derived.Test.YtmknjhmfgapejaaSpaE
import Derived.Test.YtmknjhmfgapejaaMayA
namespace Go.Proofs.Ytmknjhmfgapejaa
open Go.RowKit
set_option linter.unusedVariables false
set_option maxRecDepth 100000

set_option maxHeartbeats 8000000 in
theorem match_law {w : World} {i k : Int} {A : Option Addr} {n c : Nat} {ts : List Bq} (hl : ts.length = n) (hA : Br w A ts) (hc : n ≤ c) (hw : ∀ x ∈ ts, (Lit.int .i64 x.m).wf = true) (hs : SzB ts) :
    Calls Try.prog 5 #[.slice A n c, .int .i64 i, .int .i64 k] w fun e w' => e = .returned (.bool true) ∧ Below w.heap.size w w' := by
  obtain ⟨us, rfl⟩ := bz_ex ts hw hs
  obtain ⟨y, hy⟩ : ∃ y, mayL (us.map (·.b)) = y := ⟨_, rfl⟩
  have r1 := fun w => awake_any w
  have HA := Lib.hid hA
  have HL := Lib.hid hl
  have HY := Lib.hid hy
  clear hA hl hs hw hy
  go_enter Try.func5, Try.ntmps5
  go_wp2_with fail
  ((with_reducible refine (r1 _).mono ?_))
  rintro e w1 ⟨rfl, hb1⟩
  have HB1 := Lib.hid hb1
  clear hb1 r1
  by_cases h3 : 300 < n
  · have q3 : (300 : Int) < (n : Int) := by omega
    go_wp2
    go_ret
    exact ⟨rfl, HB1.out⟩
  have q3 : ¬ (300 : Int) < (n : Int) := by omega
  have r2 := fun w h => mmay_any (w := w) (A := A) (c := c) HY.out h HL.out (by omega)
  go_wp2_with fail
  ((with_reducible refine (r2 _ (HA.out.below HB1.out)).mono ?_))
  rintro e w2 ⟨rfl, hb2⟩
  have HB2 := Lib.hid (bel_trans HB1.out hb2)
  clear hb2 r2
  cases y with
  | false =>
    go_wp2
    go_ret
    exact ⟨rfl, HB2.out⟩
  | true =>
    by_cases i0 : i < 0
    · go_wp2
      go_ret
      exact ⟨rfl, HB2.out⟩
    by_cases k0 : k < 0
    · go_wp2
      go_ret
      exact ⟨rfl, HB2.out⟩
    obtain ⟨j, rfl⟩ := Int.eq_ofNat_of_zero_le (show 0 ≤ i by omega)
    obtain ⟨p, rfl⟩ := Int.eq_ofNat_of_zero_le (show 0 ≤ k by omega)
    clear i0 k0
    by_cases jn : n ≤ j
    · have qj : decide (n ≤ j) = true := decide_eq_true jn
      go_wp2
      go_ret
      exact ⟨rfl, HB2.out⟩
    by_cases pn : n ≤ p
    · have qp : decide (n ≤ p) = true := decide_eq_true pn
      have qj : decide (n ≤ j) = false := decide_eq_false jn
      go_wp2
      go_ret
      exact ⟨rfl, HB2.out⟩
    have qp : decide (n ≤ p) = false := decide_eq_false pn
    have qj : decide (n ≤ j) = false := decide_eq_false jn
    have hjn : j < n := by omega
    obtain ⟨t, ht⟩ : ∃ t, (us.map (·.b))[j]? = some t := ⟨_, List.getElem?_eq_getElem (by rw [HL.out]; omega)⟩
    obtain ⟨b, o, rfl, d0, d1⟩ := (HA.out.below HB2.out) j t ht
    obtain ⟨tm, tv⟩ := t
    dsimp only at d0 d1
    by_cases h6 : tm = 6
    · subst h6
      obtain ⟨m, hm⟩ := may_mt (mayL_yes HY.out) ht rfl
      have hjm := hm.lt
      have hmn := hm.len
      rw [HL.out] at hmn
      obtain ⟨t7, ht7, e7⟩ := hm.cl
      obtain ⟨tm7, tv7⟩ := t7
      dsimp only at e7
      subst e7
      have r3 := fun w h => smatch_any (w := w) (A := some ⟨b, o, none⟩) (n := n) (c := c) (MtA.mk hm) (by rw [← HL.out, List.length_map]) (by omega) h
      have hpj : p < j ∨ p = j ∨ j < p := by omega
      have hpm : p < m ∨ m ≤ p := by omega
      have HM := Lib.hid hm
      have HT := Lib.hid ht7
      clear ht hm ht7 h3 jn pn
      go_wp2_with fail
      ((with_reducible refine (r3 _ (HA.out.below HB2.out)).mono ?_))
      rintro e w3 ⟨rfl, hb3⟩
      have HB3 := Lib.hid (bel_trans HB2.out hb3)
      clear hb3 r3 d0 d1
      have d7 : Br w3 (some ⟨b, o, none⟩) (us.map (·.b)) := HA.out.below HB3.out
      obtain ⟨b', o', hbo, f0, f1⟩ := d7 m _ HT.out
      injection hbo with hbo
      injection hbo with hb1 hb2 hb3
      subst hb1 hb2
      have g1 : ¬ (m : Int) ≤ (j : Int) := by omega
      have g2 : ¬ (n : Int) ≤ (m : Int) := by omega
      have g3 : decide (n ≤ m) = false := decide_eq_false (by omega)
      have g4 : decide (m ≤ j) = false := decide_eq_false (by omega)
      dsimp only at f0 f1
      obtain ⟨rr, hrr⟩ := mtA_ex (us.map (·.b)) (p : Int)
      have r4 := fun w h => smatch_any (w := w) (A := some ⟨b, o, none⟩) (n := n) (c := c) hrr (by rw [← HL.out, List.length_map]) (by omega) h
      rcases hrr with ⟨p', q, e1, rfl, hq⟩ | ⟨rfl, hno⟩
      · obtain rfl : p' = p := by omega
        obtain ⟨a1, a2, a3⟩ := mt_apart HM.out hq
        have hpq := hq.lt
        have hqm : p' = j → q = m := fun e => by subst e; exact hq.one HM.out
        clear hq e1
        have z0 : ((q : Int) == -1) = false := beq_false_of_ne (by omega)
        rcases hpj with h | h | h
        · have z1 : ((p' : Int) == (j : Int)) = false := beq_false_of_ne (by omega)
          have z2 : ((q : Int) != (m : Int)) = true := bne_iff_ne.2 (by omega)
          have z3 : decide (j < p') = false := decide_eq_false (by omega)
          have z4 : q < j ∨ (¬ q < j ∧ m < q) := by omega
          clear a1 a2 a3 hqm
          rcases z4 with z4 | ⟨z4, z5⟩
          · have z6 : decide (q < j) = true := decide_eq_true z4
            clear z4
            go_wp2_with fail
            ((with_reducible refine (r4 _ (HA.out.below HB3.out)).mono ?_))
            rintro e w4 ⟨rfl, hb4⟩
            have HB4 := Lib.hid (bel_trans HB3.out hb4)
            clear hb4 r4 f0 f1 d7
            go_wp2
            go_ret
            exact ⟨rfl, HB4.out⟩
          · have z6 : decide (q < j) = false := decide_eq_false z4
            have z7 : decide (m < q) = true := decide_eq_true z5
            clear z4 z5
            go_wp2_with fail
            ((with_reducible refine (r4 _ (HA.out.below HB3.out)).mono ?_))
            rintro e w4 ⟨rfl, hb4⟩
            have HB4 := Lib.hid (bel_trans HB3.out hb4)
            clear hb4 r4 f0 f1 d7
            go_wp2
            go_ret
            exact ⟨rfl, HB4.out⟩
        · obtain rfl := hqm h
          subst h
          clear a1 a2 a3 hqm hpm
          go_wp2_with fail
          ((with_reducible refine (r4 _ (HA.out.below HB3.out)).mono ?_))
          rintro e w4 ⟨rfl, hb4⟩
          have HB4 := Lib.hid (bel_trans HB3.out hb4)
          clear hb4 r4 f0 f1 d7
          go_wp2
          go_ret
          exact ⟨rfl, HB4.out⟩
        · have z1 : ((p' : Int) == (j : Int)) = false := beq_false_of_ne (by omega)
          have z2 : ((q : Int) != (m : Int)) = true := bne_iff_ne.2 (by omega)
          have z3 : decide (j < p') = true := decide_eq_true h
          rcases hpm with h2 | h2
          · have z4 : decide (p' < m) = true := decide_eq_true h2
            have z5 : decide (q < m) = true := decide_eq_true (by omega)
            clear a1 a2 a3 hqm
            go_wp2_with fail
            ((with_reducible refine (r4 _ (HA.out.below HB3.out)).mono ?_))
            rintro e w4 ⟨rfl, hb4⟩
            have HB4 := Lib.hid (bel_trans HB3.out hb4)
            clear hb4 r4 f0 f1 d7
            go_wp2
            go_ret
            exact ⟨rfl, HB4.out⟩
          · have z4 : decide (p' < m) = false := decide_eq_false (by omega)
            clear a1 a2 a3 hqm
            go_wp2_with fail
            ((with_reducible refine (r4 _ (HA.out.below HB3.out)).mono ?_))
            rintro e w4 ⟨rfl, hb4⟩
            have HB4 := Lib.hid (bel_trans HB3.out hb4)
            clear hb4 r4 f0 f1 d7
            go_wp2
            go_ret
            exact ⟨rfl, HB4.out⟩
      · have hne : p ≠ j := fun e => hno p m rfl (by rw [e]; exact HM.out)
        have z1 : ((p : Int) == (j : Int)) = false := beq_false_of_ne (by omega)
        clear hno
        go_wp2_with fail
        ((with_reducible refine (r4 _ (HA.out.below HB3.out)).mono ?_))
        rintro e w4 ⟨rfl, hb4⟩
        have HB4 := Lib.hid (bel_trans HB3.out hb4)
        clear hb4 r4 f0 f1 d7
        go_wp2
        all_goals go_ret
        all_goals exact ⟨rfl, HB4.out⟩
    · have q6 : (tm != 6) = true := bne_iff_ne.2 h6
      clear h6 ht
      go_wp2
      go_ret
      exact ⟨rfl, HB2.out⟩
end Go.Proofs.Ytmknjhmfgapejaa
