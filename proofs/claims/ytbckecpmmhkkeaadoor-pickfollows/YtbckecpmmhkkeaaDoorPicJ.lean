/- The law PickFollows: its walk. -/
import Derived.Test.YtbckecpmmhkkeaaDoorPicD
import Derived.Test.YtbckecpmmhkkeaaDoorPicO
import Derived.Deep.LoopGhost
namespace Go.Proofs.YtbckecpmmhkkeaaDoor
open Go.RowKit
set_option linter.unusedVariables false
set_option maxRecDepth 100000

theorem folK_drop {te : Int} {l : List Sq} {k : Nat} {t : Sq} (h : l[k]? = some t) : folK te (l.drop k) = ((!mayN t || folJ te t.n (l.drop (k + 1))) && folK te (l.drop (k + 1))) := by
  obtain ⟨h1, rfl⟩ := List.getElem?_eq_some_iff.1 h
  rw [List.drop_eq_getElem_cons h1, folK]
theorem folJ_drop {te v : Int} {l : List Sq} {k : Nat} {t : Sq} (h : l[k]? = some t) : folJ te v (l.drop k) = (!(fitK te t && fstK te v) && (!mayN t || folJ te v (l.drop (k + 1)))) := by
  obtain ⟨h1, rfl⟩ := List.getElem?_eq_some_iff.1 h
  rw [List.drop_eq_getElem_cons h1, folJ]
theorem may_eq {t : Sq} {z : Int} (h : empR t.n = z) : mayN t = (t.k == 1 && decide (0 ≤ z)) := by rw [mayN, h]
set_option maxHeartbeats 8000000 in
theorem follows_law (i te : Int) {w : World} (ht : TabR w) : Calls Tryd.prog 6 #[.int .i64 i, .int .i64 te] w fun e w' => e = .returned (.bool true) ∧ Below w.heap.size w w' := by
  obtain ⟨L, hL⟩ : ∃ L, symI i = L := ⟨_, rfl⟩
  obtain ⟨n, hn⟩ : ∃ n, L.length = n := ⟨_, rfl⟩
  obtain ⟨v, hv⟩ : ∃ v, varI i = v := ⟨_, rfl⟩
  obtain ⟨bb, hbb⟩ : ∃ v, isI i = v := ⟨_, rfl⟩
  have hn10 : n ≤ 10 := by rw [← hn, ← hL]; exact symI_len i
  have r1 := fun {w} h => getp_any i hL hn hv hbb (w := w) h
  obtain ⟨P, hP⟩ : ∃ P, plS L = P := ⟨_, rfl⟩
  obtain ⟨m, hm⟩ : ∃ m, P.length = m := ⟨_, rfl⟩
  have hm10 : m ≤ 10 := by rw [← hm, ← hP]; exact Nat.le_trans (plS_le L) (by omega)
  have r2 := fun {w A c} h => plain_as (w := w) (A := A) (c := c) hP hm h hn (by omega)
  have hpl : plR i = P := by rw [plR, hL, hP]
  have hfol := fol_all i te
  rw [hpl] at hfol
  have HF := Lib.hid hfol
  have HT := Lib.hid ht
  have HN := Lib.hid hn
  have HM := Lib.hid hm
  clear hL hn hv hbb hP hm hpl hfol ht
  cases bb
  · go_enter Tryd.func6, Tryd.ntmps6
    go_wp2_with fail
    ((with_reducible refine (awake_any _ HT.out).mono ?_))
    rintro e w1 ⟨rfl, hb1⟩
    have HB1 := Lib.hid hb1
    clear hb1
    go_wp2_with fail
    ((with_reducible refine (r1 (HT.out.below HB1.out)).mono ?_))
    rintro e w2 ⟨A, c, rfl, hb2, hs2⟩
    have HB2 := Lib.hid (bel_alloc (bel_trans HB1.out hb2) (.cells #[.int .i64 v, .slice A n c] 35))
    clear hb2 hs2
    go_wp2_with fail
    go_ret
    exact ⟨rfl, HB2.out⟩
  go_enter Tryd.func6, Tryd.ntmps6
  go_wp2_with fail
  ((with_reducible refine (awake_any _ HT.out).mono ?_))
  rintro e w1 ⟨rfl, hb1⟩
  have HB1 := Lib.hid hb1
  clear hb1
  go_wp2_with fail
  ((with_reducible refine (r1 (HT.out.below HB1.out)).mono ?_))
  rintro e w2 ⟨A, c, rfl, hb2, hs2⟩
  have HS2 := Lib.hid (hs2.below (bel_alloc (Below.refl _ _) (.cells #[.int .i64 v, .slice A n c] 35)))
  have HB2 := Lib.hid (bel_alloc (bel_trans HB1.out hb2) (.cells #[.int .i64 v, .slice A n c] 35))
  clear hb2 hs2
  go_wp2_with fail
  ((with_reducible refine (r2 HS2.out).mono ?_))
  rintro e w3 ⟨B, c2, rfl, hb3, hs3, -⟩
  have HS3 := Lib.hid hs3
  have HB3 := Lib.hid (bel_trans HB2.out hb3)
  clear hb3 hs3
  go_wp2_with fail
  go_loopg [9] (m - 1) (fun g i wr => ∃ k : Nat, i = .int .i64 k ∧ k + g = m - 1 ∧ Hid (folK te (P.drop k) = true) ∧ Below w3.heap.size w3 wr)
  case atStart => exact ⟨0, rfl, by omega, by rw [List.drop_zero]; exact HF, Below.refl _ _⟩
  case round =>
    obtain ⟨k, rfl, hkg, hf, hB⟩ := hrel
    have HBr := Lib.hid (bel_trans HB3.out hB)
    have HBB := Lib.hid hB
    cases gk with
    | zero =>
      have q1 : ¬ (k : Int) < (m : Int) - 1 := by omega
      have q2 : decide ((k : Int) < (m : Int) - 1) = false := decide_eq_false q1
      have q3 : (m : Int) ≤ (k : Int) + 1 := by omega
      clear hf hB
      go_wp2_with fail
      go_ret
      exact ⟨rfl, HBr.out⟩
    | succ g =>
      have hkm : k + 1 < m := by omega
      have q1 : (k : Int) < (m : Int) - 1 := by omega
      have q2 : decide ((k : Int) < (m : Int) - 1) = true := decide_eq_true q1
      have q4 : (k : Int) < (m : Int) := by omega
      obtain ⟨t, htt⟩ : ∃ t, P[k]? = some t := ⟨_, List.getElem?_eq_getElem (by rw [HM.out]; omega)⟩
      obtain ⟨b, o, rfl, c0, c1⟩ := (HS3.out.below HBB.out) k t htt
      have hf' := hf.out
      rw [folK_drop htt, Bool.and_eq_true] at hf'
      obtain ⟨hj, hf'⟩ := hf'
      obtain ⟨z, hz⟩ : ∃ z, empR t.n = z := ⟨_, rfl⟩
      have r3 := fun {w} h => empty_any hz (w := w) h
      rw [may_eq hz] at hj
      have HF' := Lib.hid hf'
      have HJ := Lib.hid hj
      have HTr := Lib.hid (HT.out.below HBr.out)
      clear hf hf' hj htt hz hB
      by_cases k1 : t.k = 1
      · have x1 : (t.k != 1) = false := by simpa using k1
        by_cases z0 : 0 ≤ z
        · have x2 : ¬ z < 0 := by omega
          have x3 : decide (z < 0) = false := decide_eq_false x2
          have hj : folJ te t.n (P.drop (k + 1)) = true := by
            have := HJ.out
            rw [k1, decide_eq_true z0] at this
            simpa using this
          have HJ2 := Lib.hid hj
          have C1 := Lib.hid c1
          clear k1 z0 hj
          go_wp2_with fail
          ((with_reducible refine (r3 HTr.out).mono ?_))
          rintro e w5 ⟨rfl, hb5⟩
          have HB5 := Lib.hid (bel_trans HBr.out hb5)
          have HBB5 := Lib.hid (bel_trans HBB.out hb5)
          have D1 := Lib.hid (bel_cell hb5 C1.out)
          clear hb5 c0 c1 r3 C1
          go_wp2_with fail
          go_loopg [10] (m - (k + 1)) (fun g2 j wy => ∃ jj : Nat, j = .int .i64 jj ∧ jj + g2 = m ∧ Hid (folJ te t.n (P.drop jj) = true) ∧ Below w5.heap.size w5 wy)
          case atStart => exact ⟨k + 1, by go_num, by omega, HJ2, Below.refl _ _⟩
          case round =>
            obtain ⟨j, rfl, hjg, hfj, hB⟩ := hrel
            have HBy := Lib.hid (bel_trans HB5.out hB)
            have HBBy := Lib.hid (bel_trans HBB5.out hB)
            have HBI := Lib.hid hB
            cases gk with
            | zero =>
              have y1 : ¬ (j : Int) < (m : Int) := by omega
              clear hfj hB
              go_wp2_with fail
              go_roundg g
              case measure => omega
              case rel => exact ⟨k + 1, by go_num, by omega, HF', HBBy.out⟩
            | succ g2 =>
              have y1 : (j : Int) < (m : Int) := by omega
              obtain ⟨u, huu⟩ : ∃ u, P[j]? = some u := ⟨_, List.getElem?_eq_getElem (by rw [HM.out]; omega)⟩
              obtain ⟨b', o', hbo, e0, e1⟩ := (HS3.out.below HBBy.out) j u huu
              injection hbo with hbo
              injection hbo with hbo1 hbo2 hbo3
              subst hbo1 hbo2
              clear hbo3
              have hfj' := hfj.out
              rw [folJ_drop huu, Bool.and_eq_true] at hfj'
              obtain ⟨hx, hfj'⟩ := hfj'
              obtain ⟨z', hz'⟩ : ∃ z, empR u.n = z := ⟨_, rfl⟩
              obtain ⟨x, hxx⟩ : ∃ x, fitK te u = x := ⟨_, rfl⟩
              obtain ⟨f, hff⟩ : ∃ x, fstK te t.n = x := ⟨_, rfl⟩
              rw [hxx, hff] at hx
              rw [may_eq hz'] at hfj'
              have r4 := fun {w} h => pfits_any hxx (w := w) h
              have r5 := fun {w} h => pfirst_any hff (w := w) h
              have r6 := fun {w} h => empty_any hz' (w := w) h
              have E0 := Lib.hid e0
              have E1 := Lib.hid e1
              have F1 := Lib.hid (bel_cell HBI.out D1.out)
              have HTy := Lib.hid (HT.out.below HBy.out)
              have HX := Lib.hid hx
              have HFJ := Lib.hid hfj'
              clear hfj hfj' hx huu hz' hxx hff hB
              cases x
              · go_wp2_with fail
                ((with_reducible refine (r4 HTy.out).mono ?_))
                rintro e w6 ⟨rfl, hb6⟩
                have HB6 := Lib.hid (bel_trans HBy.out hb6)
                have HBB6 := Lib.hid (bel_trans HBBy.out hb6)
                have HBI6 := Lib.hid (bel_trans HBI.out hb6)
                have HT6 := Lib.hid (HT.out.below HB6.out)
                have g0 := bel_cell hb6 E0.out
                have g1 := bel_cell hb6 E1.out
                have h1 := bel_cell hb6 F1.out
                clear hb6 e0 e1
                by_cases k2 : u.k = 1
                · have x4 : (u.k != 1) = false := by simpa using k2
                  by_cases z1 : 0 ≤ z'
                  · have x5 : ¬ z' < 0 := by omega
                    have x6 : decide (z' < 0) = false := decide_eq_false x5
                    have hj2 : folJ te t.n (P.drop (j + 1)) = true := by
                      have := HFJ.out
                      rw [k2, decide_eq_true z1] at this
                      simpa using this
                    have HJ3 := Lib.hid hj2
                    clear k2 z1 hj2
                    go_wp2_with fail
                    ((with_reducible refine (r6 HT6.out).mono ?_))
                    rintro e w8 ⟨rfl, hb8⟩
                    have HBI8 := Lib.hid (bel_trans HBI6.out hb8)
                    clear hb8
                    go_wp2_with fail
                    go_roundg g2
                    case measure => omega
                    case rel => exact ⟨j + 1, by go_num, by omega, HJ3, HBI8.out⟩
                  · have x5 : z' < 0 := by omega
                    have x6 : decide (z' < 0) = true := decide_eq_true x5
                    clear k2 z1
                    go_wp2_with fail
                    ((with_reducible refine (r6 HT6.out).mono ?_))
                    rintro e w8 ⟨rfl, hb8⟩
                    have HBB8 := Lib.hid (bel_trans HBB6.out hb8)
                    clear hb8
                    go_wp2_with fail
                    go_roundg g
                    case measure => omega
                    case rel => exact ⟨k + 1, by go_num, by omega, HF', HBB8.out⟩
                · have x4 : (u.k != 1) = true := by simpa using k2
                  clear k2
                  go_wp2_with fail
                  go_roundg g
                  case measure => omega
                  case rel => exact ⟨k + 1, by go_num, by omega, HF', HBB6.out⟩
              · go_wp2_with fail
                ((with_reducible refine (r4 HTy.out).mono ?_))
                rintro e w6 ⟨rfl, hb6⟩
                have HB6 := Lib.hid (bel_trans HBy.out hb6)
                have HBB6 := Lib.hid (bel_trans HBBy.out hb6)
                have HBI6 := Lib.hid (bel_trans HBI.out hb6)
                have HT6 := Lib.hid (HT.out.below HB6.out)
                have g0 := bel_cell hb6 E0.out
                have g1 := bel_cell hb6 E1.out
                have h1 := bel_cell hb6 F1.out
                clear hb6 e0 e1
                obtain rfl : f = false := by have := HX.out; simpa using this
                go_wp2_with fail
                ((with_reducible refine (r5 HT6.out).mono ?_))
                rintro e w7 ⟨rfl, hb7⟩
                have HB7 := Lib.hid (bel_trans HB6.out hb7)
                have HBB7 := Lib.hid (bel_trans HBB6.out hb7)
                have HBI7 := Lib.hid (bel_trans HBI6.out hb7)
                have HT7 := Lib.hid (HT.out.below HB7.out)
                have i0 := bel_cell hb7 g0
                have i1 := bel_cell hb7 g1
                clear hb7 g0 g1 h1
                by_cases k2 : u.k = 1
                · have x4 : (u.k != 1) = false := by simpa using k2
                  by_cases z1 : 0 ≤ z'
                  · have x5 : ¬ z' < 0 := by omega
                    have x6 : decide (z' < 0) = false := decide_eq_false x5
                    have hj2 : folJ te t.n (P.drop (j + 1)) = true := by
                      have := HFJ.out
                      rw [k2, decide_eq_true z1] at this
                      simpa using this
                    have HJ3 := Lib.hid hj2
                    clear k2 z1 hj2
                    go_wp2_with fail
                    ((with_reducible refine (r6 HT7.out).mono ?_))
                    rintro e w8 ⟨rfl, hb8⟩
                    have HBI8 := Lib.hid (bel_trans HBI7.out hb8)
                    clear hb8
                    go_wp2_with fail
                    go_roundg g2
                    case measure => omega
                    case rel => exact ⟨j + 1, by go_num, by omega, HJ3, HBI8.out⟩
                  · have x5 : z' < 0 := by omega
                    have x6 : decide (z' < 0) = true := decide_eq_true x5
                    clear k2 z1
                    go_wp2_with fail
                    ((with_reducible refine (r6 HT7.out).mono ?_))
                    rintro e w8 ⟨rfl, hb8⟩
                    have HBB8 := Lib.hid (bel_trans HBB7.out hb8)
                    clear hb8
                    go_wp2_with fail
                    go_roundg g
                    case measure => omega
                    case rel => exact ⟨k + 1, by go_num, by omega, HF', HBB8.out⟩
                · have x4 : (u.k != 1) = true := by simpa using k2
                  clear k2
                  go_wp2_with fail
                  go_roundg g
                  case measure => omega
                  case rel => exact ⟨k + 1, by go_num, by omega, HF', HBB7.out⟩
        · have x2 : z < 0 := by omega
          have x3 : decide (z < 0) = true := decide_eq_true x2
          clear k1 z0
          go_wp2_with fail
          ((with_reducible refine (r3 HTr.out).mono ?_))
          rintro e w5 ⟨rfl, hb5⟩
          have HBB5 := Lib.hid (bel_trans HBB.out hb5)
          clear hb5
          go_wp2_with fail
          go_roundg g
          case measure => omega
          case rel => exact ⟨k + 1, by go_num, by omega, HF', HBB5.out⟩
      · have x1 : (t.k != 1) = true := by simpa using k1
        clear k1
        go_wp2_with fail
        go_roundg g
        case measure => omega
        case rel => exact ⟨k + 1, by go_num, by omega, HF', HBB.out⟩
end Go.Proofs.YtbckecpmmhkkeaaDoor
