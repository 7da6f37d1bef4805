/- The law PickBegins: its walk. -/
import Derived.Test.YtbckecpmmhkkeaaDoorPicD
import Derived.Test.YtbckecpmmhkkeaaDoorPicO
namespace Go.Proofs.YtbckecpmmhkkeaaDoor
open Go.RowKit
set_option linter.unusedVariables false
set_option maxRecDepth 100000

theorem begins_var {te i : Int} (h : begK te i = true) : fstK te (varI i) = true := by
  by_cases hi : 0 ≤ i ∧ i < 90
  · obtain ⟨a, rfl⟩ := Int.eq_ofNat_of_zero_le hi.1
    refine List.any_eq_true.2 ⟨(a : Int), ofR_mem.2 ⟨a, by omega, ?_, rfl⟩, h⟩
    unfold varI; rw [if_pos hi]; rfl
  · rw [begK_over te (by omega)] at h; cases h
set_option maxHeartbeats 4000000 in
theorem begins_law (i te : Int) {w : World} (ht : TabR w) : Calls Tryd.prog 9 #[.int .i64 i, .int .i64 te] w fun e w' => e = .returned (.bool true) ∧ Below w.heap.size w w' := by
  obtain ⟨L, hL⟩ : ∃ L, symI i = L := ⟨_, rfl⟩
  obtain ⟨n, hn⟩ : ∃ n, L.length = n := ⟨_, rfl⟩
  obtain ⟨v, hv⟩ : ∃ v, varI i = v := ⟨_, rfl⟩
  obtain ⟨bb, hbb⟩ : ∃ v, isI i = v := ⟨_, rfl⟩
  have hn10 : n ≤ 10 := by rw [← hn, ← hL]; exact symI_len i
  have r1 := fun {w} h => getp_any i hL hn hv hbb (w := w) h
  obtain ⟨P, hP⟩ : ∃ P, plS L = P := ⟨_, rfl⟩
  obtain ⟨m, hm⟩ : ∃ m, P.length = m := ⟨_, rfl⟩
  have r2 := fun {w A c} h => plain_as (w := w) (A := A) (c := c) hP hm h hn (by omega)
  have hpl : plR i = P := by rw [plR, hL, hP]
  obtain ⟨g, hg⟩ : ∃ g, begK te i = g := ⟨_, rfl⟩
  have r3 := fun {w} h => pbegins_any hg (w := w) h
  have hbv : g = true → fstK te v = true := by rw [← hg, ← hv]; exact begins_var
  have HT := Lib.hid ht
  have HN := Lib.hid hn
  have H10 := Lib.hid hn10
  by_cases h0 : m = 0
  · subst h0
    have e0 : P = [] := List.length_eq_zero_iff.1 hm
    have g0 : false = g := by rw [← hg, begK, hpl, e0]; rfl
    subst g0
    clear hL hn hv hbb hP hm hpl hg hbv e0 ht hn10
    cases bb
    all_goals
      go_enter Tryd.func9, Tryd.ntmps9
      go_wp2_with fail
      ((with_reducible refine (awake_any _ HT.out).mono ?_))
      rintro e w1 ⟨rfl, hb1⟩
      have HB1 := Lib.hid hb1
      clear hb1
      go_wp2_with fail
      ((with_reducible refine (r1 (HT.out.below HB1.out)).mono ?_))
      rintro e w2 ⟨A, c, rfl, hb2, hs2⟩
      have HS2 := Lib.hid (hs2.below (bel_alloc (Below.refl _ _) (.cells #[.int .i64 v, .slice A n c] 35)))
      have HB2 := Lib.hid (bel_alloc (bel_trans HB1.out hb2) (.cells #[.int .i64 v, .slice A n c] 35))
      clear hb2 hs2
      go_wp2_with fail
      ((with_reducible refine (r2 HS2.out).mono ?_))
      rintro e w3 ⟨B, c2, rfl, hb3, -, -⟩
      have HB3 := Lib.hid (bel_trans HB2.out hb3)
      clear hb3
      go_wp2_with fail
      ((with_reducible refine (r3 (HT.out.below HB3.out)).mono ?_))
      rintro e w4 ⟨rfl, hb4⟩
      have HB4 := Lib.hid (bel_trans HB3.out hb4)
      clear hb4
      go_wp2_with fail
      go_ret
      exact ⟨by simp, HB4.out⟩
  · obtain ⟨t, P', rfl⟩ : ∃ t P', P = t :: P' := by
      cases P with
      | nil => exact absurd hm.symm h0
      | cons t P' => exact ⟨t, P', rfl⟩
    have hib : true = bb := by
      rw [← hbb]; unfold isI
      refine (decide_eq_true ?_).symm
      by_cases hi : 0 ≤ i ∧ i < 90
      · exact hi
      · rw [plR_over (by omega)] at hpl; cases hpl
    subst hib
    have q0 : ((m : Int) == 0) = false := by simp; omega
    have q00 : ¬ m = 0 := h0
    have q01 : (0 : Int) < (m : Int) := by omega
    have q02 : 0 < m := by omega
    obtain ⟨x, hx⟩ : ∃ x, fitK te t = x := ⟨_, rfl⟩
    obtain ⟨y, hy⟩ : ∃ y, mayN t = y := ⟨_, rfl⟩
    obtain ⟨z, hz⟩ : ∃ z, empR t.n = z := ⟨_, rfl⟩
    obtain ⟨f, hf⟩ : ∃ f, fstK te v = f := ⟨_, rfl⟩
    have r4 := fun {w} h => empty_any hz (w := w) h
    have r5 := fun {w} h => pfits_any hx (w := w) h
    have r6 := fun {w} h => pfirst_any hf (w := w) h
    have hgx : g = (x || (y && goB (fitK te) P')) := by rw [← hg, begK, hpl, goB, hx, hy]
    have hyz : y = (t.k == 1 && decide (0 ≤ z)) := by rw [← hy, mayN, hz]
    rw [hf] at hbv
    have HGX := Lib.hid hgx
    have HYZ := Lib.hid hyz
    have HBV := Lib.hid hbv
    have HM := Lib.hid hm
    clear hL hn hv hbb hP hm hpl hg hbv ht hn10 hx hy hz hf hgx hyz h0
    have key : ∀ {w3 : World} {B : Option Addr} {c2 : Nat}, Sr w3 B (t :: P') → ∃ b o : Nat, B = some ⟨b, o, none⟩ ∧ w3.cell? ⟨b, o, none⟩ = some (.int .i64 t.k) ∧ w3.cell? ⟨b, o + 1, none⟩ = some (.int .i64 t.n) := by
      intro w3 B c2 h
      obtain ⟨b, o, h1, h2, h3⟩ := h 0 t rfl
      exact ⟨b, o, h1, by simpa using h2, by simpa using h3⟩
    by_cases k1 : t.k = 1
    · by_cases z0 : 0 ≤ z
      · have hy1 : y = true := by rw [HYZ.out]; simp [k1, z0]
        have q1 : (t.k != 1) = false := by simpa using k1
        have q2 : ¬ z < 0 := by omega
        have q3 : decide (z < 0) = false := decide_eq_false q2
        have hxg : x = true → g = true := by intro e; rw [HGX.out, e]; rfl
        have HXG := Lib.hid hxg
        clear k1 z0 hy1 hxg
        go_enter Tryd.func9, Tryd.ntmps9
        go_wp2_with fail
        ((with_reducible refine (awake_any _ HT.out).mono ?_))
        rintro e w1 ⟨rfl, hb1⟩
        have HB1 := Lib.hid hb1
        clear hb1
        go_wp2_with fail
        ((with_reducible refine (r1 (HT.out.below HB1.out)).mono ?_))
        rintro e w2 ⟨A, c, rfl, hb2, hs2⟩
        have HS2 := Lib.hid (hs2.below (bel_alloc (Below.refl _ _) (.cells #[.int .i64 v, .slice A n c] 35)))
        have HB2 := Lib.hid (bel_alloc (bel_trans HB1.out hb2) (.cells #[.int .i64 v, .slice A n c] 35))
        clear hb2 hs2
        go_wp2_with fail
        ((with_reducible refine (r2 HS2.out).mono ?_))
        rintro e w3 ⟨B, c2, rfl, hb3, hs3, -⟩
        obtain ⟨b, o, rfl, c0, c1⟩ := key (c2 := c2) hs3
        have HB3 := Lib.hid (bel_trans HB2.out hb3)
        have C0 := Lib.hid c0
        have C1 := Lib.hid c1
        clear hb3 hs3 c0 c1
        go_wp2_with fail
        ((with_reducible refine (r3 (HT.out.below HB3.out)).mono ?_))
        rintro e w4 ⟨rfl, hb4⟩
        have HB4 := Lib.hid (bel_trans HB3.out hb4)
        have d0 := bel_cell hb4 C0.out
        have d1 := bel_cell hb4 C1.out
        clear hb4
        go_wp2_with fail
        ((with_reducible refine (r4 (HT.out.below HB4.out)).mono ?_))
        rintro e w5 ⟨rfl, hb5⟩
        have HB5 := Lib.hid (bel_trans HB4.out hb5)
        have e0 := bel_cell hb5 d0
        have e1 := bel_cell hb5 d1
        clear hb5 d0 d1
        go_wp2_with fail
        ((with_reducible refine (r5 (HT.out.below HB5.out)).mono ?_))
        rintro e w6 ⟨rfl, hb6⟩
        have HB6 := Lib.hid (bel_trans HB5.out hb6)
        clear hb6 e0 e1
        cases x
        · go_wp2_with fail
          go_ret
          exact ⟨by simp, HB6.out⟩
        · obtain rfl : g = true := HXG.out rfl
          go_wp2_with fail
          go_ret
          exact ⟨by simp, HB6.out⟩
      · have hy1 : y = false := by rw [HYZ.out]; simp; omega
        have hxg : g = x := by rw [HGX.out, hy1]; simp
        subst hxg
        have q1 : (t.k != 1) = false := by simpa using k1
        have q2 : z < 0 := by omega
        have q3 : decide (z < 0) = true := decide_eq_true q2
        clear k1 z0 hy1
        go_enter Tryd.func9, Tryd.ntmps9
        go_wp2_with fail
        ((with_reducible refine (awake_any _ HT.out).mono ?_))
        rintro e w1 ⟨rfl, hb1⟩
        have HB1 := Lib.hid hb1
        clear hb1
        go_wp2_with fail
        ((with_reducible refine (r1 (HT.out.below HB1.out)).mono ?_))
        rintro e w2 ⟨A, c, rfl, hb2, hs2⟩
        have HS2 := Lib.hid (hs2.below (bel_alloc (Below.refl _ _) (.cells #[.int .i64 v, .slice A n c] 35)))
        have HB2 := Lib.hid (bel_alloc (bel_trans HB1.out hb2) (.cells #[.int .i64 v, .slice A n c] 35))
        obtain ⟨b0, b1, -, -⟩ := B2.new w2 (.int .i64 v) (.slice A n c) 35
        have V0 := Lib.hid b0
        clear hb2 hs2 b0 b1
        go_wp2_with fail
        ((with_reducible refine (r2 HS2.out).mono ?_))
        rintro e w3 ⟨B, c2, rfl, hb3, hs3, -⟩
        obtain ⟨b, o, rfl, c0, c1⟩ := key (c2 := c2) hs3
        have HB3 := Lib.hid (bel_trans HB2.out hb3)
        have C0 := Lib.hid c0
        have C1 := Lib.hid c1
        have V3 := Lib.hid (bel_cell hb3 V0.out)
        clear hb3 hs3 c0 c1 V0
        go_wp2_with fail
        ((with_reducible refine (r3 (HT.out.below HB3.out)).mono ?_))
        rintro e w4 ⟨rfl, hb4⟩
        have HB4 := Lib.hid (bel_trans HB3.out hb4)
        have d0 := bel_cell hb4 C0.out
        have d1 := bel_cell hb4 C1.out
        have V4 := Lib.hid (bel_cell hb4 V3.out)
        clear hb4 V3
        go_wp2_with fail
        ((with_reducible refine (r4 (HT.out.below HB4.out)).mono ?_))
        rintro e w5 ⟨rfl, hb5⟩
        have HB5 := Lib.hid (bel_trans HB4.out hb5)
        have e0 := bel_cell hb5 d0
        have e1 := bel_cell hb5 d1
        have V5 := Lib.hid (bel_cell hb5 V4.out)
        clear hb5 d0 d1 V4
        go_wp2_with fail
        ((with_reducible refine (r5 (HT.out.below HB5.out)).mono ?_))
        rintro e w6 ⟨rfl, hb6⟩
        have HB6 := Lib.hid (bel_trans HB5.out hb6)
        have v6 := bel_cell hb6 V5.out
        have l6 := World.block_lt_of_cell? _ _ v6
        clear hb6 e0 e1
        cases g
        · go_wp2_with fail
          go_ret
          exact ⟨by simp, HB6.out⟩
        · obtain rfl : f = true := HBV.out rfl
          go_wp2_with fail
          ((with_reducible refine (r6 (HT.out.below HB6.out)).mono ?_))
          rintro e w7 ⟨rfl, hb7⟩
          have HB7 := Lib.hid (bel_trans HB6.out hb7)
          clear hb7
          go_wp2_with fail
          go_ret
          exact ⟨by simp, HB7.out⟩
    · have hy1 : y = false := by rw [HYZ.out]; simp [k1]
      have hxg : g = x := by rw [HGX.out, hy1]; simp
      subst hxg
      have q1 : (t.k != 1) = true := by simpa using k1
      clear k1 hy1
      go_enter Tryd.func9, Tryd.ntmps9
      go_wp2_with fail
      ((with_reducible refine (awake_any _ HT.out).mono ?_))
      rintro e w1 ⟨rfl, hb1⟩
      have HB1 := Lib.hid hb1
      clear hb1
      go_wp2_with fail
      ((with_reducible refine (r1 (HT.out.below HB1.out)).mono ?_))
      rintro e w2 ⟨A, c, rfl, hb2, hs2⟩
      have HS2 := Lib.hid (hs2.below (bel_alloc (Below.refl _ _) (.cells #[.int .i64 v, .slice A n c] 35)))
      have HB2 := Lib.hid (bel_alloc (bel_trans HB1.out hb2) (.cells #[.int .i64 v, .slice A n c] 35))
      obtain ⟨b0, b1, -, -⟩ := B2.new w2 (.int .i64 v) (.slice A n c) 35
      have V0 := Lib.hid b0
      clear hb2 hs2 b0 b1
      go_wp2_with fail
      ((with_reducible refine (r2 HS2.out).mono ?_))
      rintro e w3 ⟨B, c2, rfl, hb3, hs3, -⟩
      obtain ⟨b, o, rfl, c0, c1⟩ := key (c2 := c2) hs3
      have HB3 := Lib.hid (bel_trans HB2.out hb3)
      have C0 := Lib.hid c0
      have C1 := Lib.hid c1
      have V3 := Lib.hid (bel_cell hb3 V0.out)
      clear hb3 hs3 c0 c1 V0
      go_wp2_with fail
      ((with_reducible refine (r3 (HT.out.below HB3.out)).mono ?_))
      rintro e w4 ⟨rfl, hb4⟩
      have HB4 := Lib.hid (bel_trans HB3.out hb4)
      have d0 := bel_cell hb4 C0.out
      have d1 := bel_cell hb4 C1.out
      have V4 := Lib.hid (bel_cell hb4 V3.out)
      clear hb4 V3
      go_wp2_with fail
      ((with_reducible refine (r5 (HT.out.below HB4.out)).mono ?_))
      rintro e w6 ⟨rfl, hb6⟩
      have HB6 := Lib.hid (bel_trans HB4.out hb6)
      have v6 := bel_cell hb6 V4.out
      have l6 := World.block_lt_of_cell? _ _ v6
      clear hb6 d0 d1
      cases g
      · go_wp2_with fail
        go_ret
        exact ⟨by simp, HB6.out⟩
      · obtain rfl : f = true := HBV.out rfl
        go_wp2_with fail
        ((with_reducible refine (r6 (HT.out.below HB6.out)).mono ?_))
        rintro e w7 ⟨rfl, hb7⟩
        have HB7 := Lib.hid (bel_trans HB6.out hb7)
        clear hb7
        go_wp2_with fail
        go_ret
        exact ⟨by simp, HB7.out⟩
end Go.Proofs.YtbckecpmmhkkeaaDoor
