/- The document's own answers for layer 19 (copperplateref19): decision. -/
import Derived.Test.YtfcjihfnimefhaaFloQ
import Derived.Test.YtfcjihfnimefhaaWidU
import Derived.Deep.LoopGhost
import Derived.Test.YtfcjihfnimefhaaFloP
import Derived.Test.YtfcjihfnimefhaaBitH
import Derived.Test.YtfcjihfnimefhaaFloK
namespace Go.Proofs.Ytfcjihfnimefhaa
open Go.RowKit
set_option linter.unusedVariables false
set_option maxRecDepth 100000

/-- What a group's match is, among the first k. -/
theorem mtc_way (l : List Bq) {i k : Nat} (hik : i < k) (hk : k ≤ l.length) : (mtc (l.take k) i = -1 ∧ segF l k i (-1) = (l.take k).drop i) ∨ ∃ m : Nat, mtc (l.take k) i = m ∧ i < m ∧ m < k ∧ segF l k i (m : Int) = (l.take m).drop i := by
  rcases mtc_spec (l.take k) i with ⟨j, m, e1, e2, hm⟩ | ⟨e2, -⟩
  · have hl := hm.len
    have hlt := hm.lt
    rw [List.length_take] at hl
    exact .inr ⟨m, e2, by omega, by omega, by rw [segF, if_pos (by omega)]; rfl⟩
  · exact .inl ⟨e2, by rw [segF, if_neg (by omega)]⟩
/-- Decided, in numbers: up to E, with B behind, and whether one breaks. -/
theorem dec_no {l : List Bq} {w col : Int} {k i : Nat} (h : (segF l k i (mtc (l.take k) i)).all flI = false) : decF l w k i col = some false := by
  unfold decF; rw [if_pos h]
theorem all_snoc {l : List Bq} {i j : Nat} {t : Bq} (ht : l[j]? = some t) (hij : i ≤ j) (q : Bq → Bool) : ((l.take (j + 1)).drop i).all q = (((l.take j).drop i).all q && q t) := by
  have hl := (List.getElem?_eq_some_iff.1 ht).1
  rw [List.take_add_one, ht, Option.toList_some, List.drop_append_of_le_length (by rw [List.length_take]; omega), List.all_append, List.all_cons, List.all_nil, Bool.and_true]
theorem any_snoc {l : List Bq} {i j : Nat} {t : Bq} (ht : l[j]? = some t) (hij : i ≤ j) (q : Bq → Bool) : ((l.take (j + 1)).drop i).any q = (((l.take j).drop i).any q || q t) := by
  have hl := (List.getElem?_eq_some_iff.1 ht).1
  rw [List.take_add_one, ht, Option.toList_some, List.drop_append_of_le_length (by rw [List.length_take]; omega), List.any_append, List.any_cons, List.any_nil, Bool.or_false]
/-- One that is not flat within makes all of it so. -/
theorem all_stop {l : List Bq} {i j e : Nat} {t : Bq} {q : Bq → Bool} (ht : l[j]? = some t) (hij : i ≤ j) (hje : j < e) (hq : q t = false) : ((l.take e).drop i).all q = false := by
  cases h : ((l.take e).drop i).all q
  · rfl
  · rw [List.all_eq_true] at h
    have := h t (List.mem_iff_getElem?.2 ⟨j - i, by rw [List.getElem?_drop, show i + (j - i) = j by omega, List.getElem?_take, if_pos hje]; exact ht⟩)
    rw [hq] at this
    cases this
theorem any_stop {l : List Bq} {i j e : Nat} {t : Bq} {q : Bq → Bool} (ht : l[j]? = some t) (hij : i ≤ j) (hje : j < e) (hq : q t = true) : ((l.take e).drop i).any q = true := by
  rw [List.any_eq_true]
  exact ⟨t, List.mem_iff_getElem?.2 ⟨j - i, by rw [List.getElem?_drop, show i + (j - i) = j by omega, List.getElem?_take, if_pos hje]; exact ht⟩, hq⟩
theorem colS_more {l : List Bq} {s i : Nat} {b : Bq} (h : l[i]? = some b) (hs : s ≤ i) : colS ((l.take (i + 1)).drop s) = colS ((l.take i).drop s) + colB b := by
  have h1 := colS_part l (i := s) (j := i) hs
  have h2 := colS_part l (i := s) (j := i + 1) (by omega)
  have h3 := colS_next h
  omega
theorem beF_le_colS (a : List Bq) : beF a ≤ colS a := by
  induction a with
  | nil => exact Nat.le_refl _
  | cons b a ih => rw [beF, colS]; split <;> omega
set_option maxHeartbeats 4000000 in
theorem rdec_any {w : World} {A : Option Addr} {n c : Nat} {l : List Bq} {W col : Int} {i k : Nat} {D : Option Bool} (hD : decF l W k i col = D) (hA : Br w A l) (hn : l.length = n) (hc : n ≤ c) (hz : n ≤ 400) (hs : SzB l) (hik : i < k) (hk : k ≤ n) (hc0 : 0 ≤ col) (hc1 : col ≤ 1000000000) :
    Calls Try.prog 25 #[.slice A n c, .int .i64 (i : Int), .int .i64 (k : Int), .int .i64 col, .int .i64 W] w fun e w' => e = .returned (.tuple #[.bool D.isSome, .bool (D == some true)]) ∧ Below w.heap.size w w' := by
  have hlT : (l.take k).length = k := by rw [List.length_take]; omega
  obtain ⟨t0, ht0⟩ : ∃ t, l[i]? = some t := ⟨_, List.getElem?_eq_getElem (by omega)⟩
  obtain ⟨b0, o0, rfl, -, -⟩ := hA i t0 ht0
  have rm := fun w h => rmatch_any (w := w) (A := some ⟨b0, o0, none⟩) (n := k) (c := c) (ts := l.take k) (i := i) (mtc_spec (l.take k) i) hlT (by omega) (br_take h k)
  have hno := fun h => dec_no (l := l) (w := W) (col := col) (k := k) (i := i) h
  have hsT := hs.take k
  have q1 : (k : Int) ≤ (c : Int) := by omega
  have q2 : (k : Int) ≤ (n : Int) := by omega
  have HA := Lib.hid hA
  have HL := Lib.hid hn
  have HS := Lib.hid hs
  have HD0 := Lib.hid hD
  rcases mtc_way l hik (by omega : k ≤ l.length) with ⟨hM, hseg⟩ | ⟨m, hM, him, hmk, hseg⟩
  · unfold decF at hD
    rw [hM] at rm hno hD
    rw [hseg] at hno hD
    rw [if_neg (show ¬ (0 : Int) ≤ -1 by omega), Nat.add_zero] at hD
    have HD := Lib.hid hD
    have HNO := Lib.hid hno
    clear hA hn hs hD hno hseg hM hlT ht0 hsT
    go_enter Try.func25, Try.ntmps25
    go_wp2_with fail
    ((with_reducible refine (rm _ HA.out).mono ?_))
    rintro e w1 ⟨rfl, hb1⟩
    have HB1 := Lib.hid hb1
    clear hb1 rm
    go_wp2_with fail
    go_loopg [14, 15] (k - i) (fun gh nn jj wr => ∃ j : Nat, i ≤ j ∧ j + gh = k ∧ jj = .int .i64 (j : Int) ∧ nn = .int .i64 ((colS ((l.take j).drop i) : Nat) : Int) ∧ Hid (((l.take j).drop i).all flI = true) ∧ Hid (Below w.heap.size w wr))
    case atStart =>
      refine ⟨i, Nat.le_refl _, by omega, rfl, ?_, Lib.hid ?_, HB1⟩
      · rw [List.drop_eq_nil_of_le (by rw [List.length_take]; omega)]; rfl
      · rw [List.drop_eq_nil_of_le (by rw [List.length_take]; omega)]; rfl
    case round =>
      obtain ⟨j, hij, hjg, rfl, rfl, hall, hB⟩ := hrel
      cases gk with
      | succ gg =>
        have hlt : j < k := by omega
        obtain ⟨t, ht⟩ : ∃ t, l[j]? = some t := ⟨_, List.getElem?_eq_getElem (by rw [HL.out]; omega)⟩
        obtain ⟨b1, o1, e, d0, d1⟩ := (HA.out.below hB.out) j t ht
        injection e with e
        injection e with e1 e2
        subst e1 e2
        have hts := HS.out t (List.mem_of_getElem? ht)
        have hcb := colB_le t hts
        have hcs := colS_bd HS.out (by rw [HL.out]; omega) j
        have hcp := colS_part l (i := i) (j := j) hij
        have hfz := flV_size t hts
        have HC := Lib.hid (colS_more ht hij)
        have HAS := Lib.hid (all_snoc ht hij flI)
        have HST := Lib.hid (fun h => all_stop (e := k) (q := flI) ht hij hlt h)
        obtain ⟨S, hS⟩ : ∃ S, flV t = S := ⟨_, rfl⟩
        obtain ⟨is, his⟩ : ∃ is, flI t = is := ⟨_, rfl⟩
        obtain ⟨z, hz⟩ : ∃ z, colB t = z := ⟨_, rfl⟩
        have hzz : cols S.data.toList = z := by rw [← hS, ← hz]; rfl
        rw [hS] at hfz
        rw [hz] at hcb HC
        rw [his] at HAS HST
        obtain ⟨C, hC⟩ : ∃ C, colS ((l.take j).drop i) = C := ⟨_, rfl⟩
        rw [hC] at hcp HC ⊢
        obtain ⟨tm, tv⟩ := t
        dsimp only at d0 d1
        have r4 := fun w => rflat_any (w := w) hS his
        have r5 := fun w => rcols_any S (by omega) hzz w
        have hwr : IntKind.i64.wrap ((C : Int) + (z : Int)) = (C : Int) + (z : Int) := IntWalk.i64_in _ (by omega)
        have hwj : IntKind.i64.wrap ((j : Int) + 1) = (j : Int) + 1 := IntWalk.i64_in _ (by omega)
        have qn : (j : Int) < (n : Int) := by omega
        have qe : (j : Int) < (k : Int) := by omega
        clear ht hts hcb hcs hcp hfz hS his hz hzz hC hlt
        go_wp2_with fail
        ((with_reducible refine (r4 _).mono ?_))
        rintro e w3 ⟨rfl, hb3⟩
        have HB3 := Lib.hid (bel_trans hB.out hb3)
        clear hb3 r4 d0 d1
        cases is with
        | false =>
          obtain rfl : D = some false := HD0.out.symm.trans (HNO.out (HST.out rfl))
          clear r5 HD
          go_wp2_with fail
          go_ret2
          exact ⟨rfl, HB3.out⟩
        | true =>
          go_wp2_with fail
          ((with_reducible refine (r5 _).mono ?_))
          rintro e w4 ⟨rfl, hb4⟩
          have HB4 := Lib.hid (bel_trans HB3.out hb4)
          clear hb4 r5
          go_wp2_with fail
          go_roundg gg
          case measure => omega
          case rel => exact ⟨j + 1, by omega, by omega, by go_num, by rw [HC.out]; congr 1, Lib.hid (by rw [HAS.out, hall.out]; rfl), HB4⟩
      | zero =>
        obtain rfl : j = k := by omega
        have hcs := colS_bd HS.out (by rw [HL.out]; omega) j
        have hcp := colS_part l (i := i) (j := j) hij
        have hD2 := HD.out
        rw [if_neg (by rw [hall.out]; decide)] at hD2
        obtain ⟨C, hC⟩ : ∃ C, colS ((l.take j).drop i) = C := ⟨_, rfl⟩
        rw [hC] at hcp hD2 ⊢
        have hwr : IntKind.i64.wrap (col + (C : Int)) = col + (C : Int) := IntWalk.i64_in _ (by omega)
        by_cases hw : W < col + (C : Int)
        · rw [if_pos hw] at hD2
          subst hD2
          clear hcs hcp hC HD
          go_wp2_with fail
          go_ret2
          exact ⟨rfl, hB.out⟩
        · rw [if_neg hw, if_neg (fun x => absurd x.1 (by decide))] at hD2
          subst hD2
          clear hcs hcp hC HD
          go_wp2_with fail
          have qk : (-1 : Int) < (j : Int) := by omega
          go_loopg [18] 0 (fun gh jj wr => gh = 0 ∧ jj = .int .i64 (-1) ∧ Hid (Below w.heap.size w wr))
          case atStart => exact ⟨rfl, rfl, hB⟩
          case round =>
            clear hB
            obtain ⟨hg, rfl, hB⟩ := hrel
            go_wp2_with fail
            go_ret2
            exact ⟨rfl, hB.out⟩
  · unfold decF at hD
    rw [hM] at rm hno hD
    rw [hseg] at hno hD
    rw [if_pos (show (0 : Int) ≤ (m : Int) by omega), show ((m : Int)).toNat = m from rfl] at hD
    have HD := Lib.hid hD
    have HNO := Lib.hid hno
    have qm : ¬ (m : Int) < 0 := by omega
    clear hA hn hs hD hno hseg hM ht0
    go_enter Try.func25, Try.ntmps25
    go_wp2_with fail
    ((with_reducible refine (rm _ HA.out).mono ?_))
    rintro e w1 ⟨rfl, hb1⟩
    have HB1 := Lib.hid hb1
    clear hb1 rm
    go_wp2_with fail
    go_loopg [14, 15] (m - i) (fun gh nn jj wr => ∃ j : Nat, i ≤ j ∧ j + gh = m ∧ jj = .int .i64 (j : Int) ∧ nn = .int .i64 ((colS ((l.take j).drop i) : Nat) : Int) ∧ Hid (((l.take j).drop i).all flI = true) ∧ Hid (Below w.heap.size w wr))
    case atStart =>
      refine ⟨i, Nat.le_refl _, by omega, rfl, ?_, Lib.hid ?_, HB1⟩
      · rw [List.drop_eq_nil_of_le (by rw [List.length_take]; omega)]; rfl
      · rw [List.drop_eq_nil_of_le (by rw [List.length_take]; omega)]; rfl
    case round =>
      obtain ⟨j, hij, hjg, rfl, rfl, hall, hB⟩ := hrel
      cases gk with
      | succ gg =>
        have hlt : j < m := by omega
        obtain ⟨t, ht⟩ : ∃ t, l[j]? = some t := ⟨_, List.getElem?_eq_getElem (by rw [HL.out]; omega)⟩
        obtain ⟨b1, o1, e, d0, d1⟩ := (HA.out.below hB.out) j t ht
        injection e with e
        injection e with e1 e2
        subst e1 e2
        have hts := HS.out t (List.mem_of_getElem? ht)
        have hcb := colB_le t hts
        have hcs := colS_bd HS.out (by rw [HL.out]; omega) j
        have hcp := colS_part l (i := i) (j := j) hij
        have hfz := flV_size t hts
        have HC := Lib.hid (colS_more ht hij)
        have HAS := Lib.hid (all_snoc ht hij flI)
        have HST := Lib.hid (fun h => all_stop (e := m) (q := flI) ht hij hlt h)
        obtain ⟨S, hS⟩ : ∃ S, flV t = S := ⟨_, rfl⟩
        obtain ⟨is, his⟩ : ∃ is, flI t = is := ⟨_, rfl⟩
        obtain ⟨z, hz⟩ : ∃ z, colB t = z := ⟨_, rfl⟩
        have hzz : cols S.data.toList = z := by rw [← hS, ← hz]; rfl
        rw [hS] at hfz
        rw [hz] at hcb HC
        rw [his] at HAS HST
        obtain ⟨C, hC⟩ : ∃ C, colS ((l.take j).drop i) = C := ⟨_, rfl⟩
        rw [hC] at hcp HC ⊢
        obtain ⟨tm, tv⟩ := t
        dsimp only at d0 d1
        have r4 := fun w => rflat_any (w := w) hS his
        have r5 := fun w => rcols_any S (by omega) hzz w
        have hwr : IntKind.i64.wrap ((C : Int) + (z : Int)) = (C : Int) + (z : Int) := IntWalk.i64_in _ (by omega)
        have hwj : IntKind.i64.wrap ((j : Int) + 1) = (j : Int) + 1 := IntWalk.i64_in _ (by omega)
        have qn : (j : Int) < (n : Int) := by omega
        have qe : (j : Int) < (m : Int) := by omega
        clear ht hts hcb hcs hcp hfz hS his hz hzz hC hlt
        go_wp2_with fail
        ((with_reducible refine (r4 _).mono ?_))
        rintro e w3 ⟨rfl, hb3⟩
        have HB3 := Lib.hid (bel_trans hB.out hb3)
        clear hb3 r4 d0 d1
        cases is with
        | false =>
          obtain rfl : D = some false := HD0.out.symm.trans (HNO.out (HST.out rfl))
          clear r5 HD
          go_wp2_with fail
          go_ret2
          exact ⟨rfl, HB3.out⟩
        | true =>
          go_wp2_with fail
          ((with_reducible refine (r5 _).mono ?_))
          rintro e w4 ⟨rfl, hb4⟩
          have HB4 := Lib.hid (bel_trans HB3.out hb4)
          clear hb4 r5
          go_wp2_with fail
          go_roundg gg
          case measure => omega
          case rel => exact ⟨j + 1, by omega, by omega, by go_num, by rw [HC.out]; congr 1, Lib.hid (by rw [HAS.out, hall.out]; rfl), HB4⟩
      | zero =>
        obtain rfl : j = m := by omega
        have hcs := colS_bd HS.out (by rw [HL.out]; omega) j
        have hcp := colS_part l (i := i) (j := j) hij
        have hD2 := HD.out
        rw [if_neg (by rw [hall.out]; decide)] at hD2
        obtain ⟨C, hC⟩ : ∃ C, colS ((l.take j).drop i) = C := ⟨_, rfl⟩
        rw [hC] at hcp hD2 ⊢
        have hcb := colS_bd hsT (by omega) k
        have hcm := beF_le_colS ((l.take k).drop j)
        have hcn := colS_part (l.take k) (i := j) (j := k) (by omega)
        rw [List.take_take, Nat.min_self] at hcb hcn
        obtain ⟨Bh, hBh⟩ : ∃ Bh, beF ((l.take k).drop j) = Bh := ⟨_, rfl⟩
        have r6 := fun w h => rbehind_any (w := w) (A := some ⟨b0, o0, none⟩) (n := k) (c := c) (j := j) (ts := l.take k) hBh hsT hlT (by omega) (by omega) (br_take h k)
        rw [hBh] at hcm hD2
        have hwn : IntKind.i64.wrap ((C : Int) + (Bh : Int)) = (C : Int) + (Bh : Int) := IntWalk.i64_in _ (by omega)
        have hwr : IntKind.i64.wrap (col + ((C : Int) + (Bh : Int))) = col + ((C : Int) + (Bh : Int)) := IntWalk.i64_in _ (by omega)
        have hq0 : (0 : Int) ≤ (j : Int) := by omega
        by_cases hw : W < col + ((C : Int) + (Bh : Int))
        · rw [if_pos (by omega)] at hD2
          subst hD2
          clear hcs hcp hC HD hcb hcm hcn hBh
          go_wp2_with fail
          ((with_reducible refine (r6 _ (HA.out.below hB.out)).mono ?_))
          rintro e w3 ⟨rfl, hb3⟩
          have HB3 := Lib.hid (bel_trans hB.out hb3)
          clear hb3 r6
          go_wp2_with fail
          go_ret2
          exact ⟨rfl, HB3.out⟩
        · rw [if_neg (by omega)] at hD2
          have HD2 := Lib.hid hD2
          clear hcs hcp hC HD hcb hcm hcn hBh hD2
          go_wp2_with fail
          ((with_reducible refine (r6 _ (HA.out.below hB.out)).mono ?_))
          rintro e w3 ⟨rfl, hb3⟩
          have HB3 := Lib.hid (bel_trans hB.out hb3)
          clear hb3 r6
          go_wp2_with fail
          go_loopg [18] (k - j) (fun gh jj wr => ∃ p : Nat, j ≤ p ∧ p + gh = k ∧ jj = .int .i64 (p : Int) ∧ Hid (((l.take p).drop j).any (fun b => brF b.m) = false) ∧ Hid (Below w.heap.size w wr))
          case atStart =>
            refine ⟨j, Nat.le_refl _, by omega, rfl, Lib.hid ?_, HB3⟩
            rw [List.drop_eq_nil_of_le (by rw [List.length_take]; omega)]; rfl
          case round =>
            clear hB
            obtain ⟨p, hjp, hpg, rfl, hany, hB⟩ := hrel
            cases gk with
            | succ gg =>
              have hlt : p < k := by omega
              obtain ⟨t, ht⟩ : ∃ t, l[p]? = some t := ⟨_, List.getElem?_eq_getElem (by rw [HL.out]; omega)⟩
              obtain ⟨b1, o1, e, d0, d1⟩ := (HA.out.below hB.out) p t ht
              injection e with e
              injection e with e1 e2
              subst e1 e2
              have HAS := Lib.hid (any_snoc ht hjp (fun b => brF b.m))
              have HST := Lib.hid (fun h => any_stop (e := k) (q := fun b => brF b.m) ht hjp hlt h)
              obtain ⟨br, hbr⟩ : ∃ br, brF t.m = br := ⟨_, rfl⟩
              rw [hbr] at HAS HST
              have r7 := fun w => rbreaks_any (v := t.v) hbr w
              obtain ⟨tm, tv⟩ := t
              dsimp only at d0 d1 r7
              have hwj : IntKind.i64.wrap ((p : Int) + 1) = (p : Int) + 1 := IntWalk.i64_in _ (by omega)
              have qn : (p : Int) < (n : Int) := by omega
              have qk : (p : Int) < (k : Int) := by omega
              clear ht hbr hlt
              go_wp2_with fail
              ((with_reducible refine (r7 _).mono ?_))
              rintro e w4 ⟨rfl, hb4⟩
              have HB4 := Lib.hid (bel_trans hB.out hb4)
              clear hb4 r7 d0 d1
              cases br with
              | true =>
                have hD2 := HD2.out
                rw [if_pos ⟨by omega, HST.out rfl⟩] at hD2
                subst hD2
                clear HD2
                go_wp2_with fail
                go_ret2
                exact ⟨rfl, HB4.out⟩
              | false =>
                go_wp2_with fail
                go_roundg gg
                case measure => omega
                case rel => exact ⟨p + 1, by omega, by omega, by go_num, Lib.hid (by rw [HAS.out, hany.out]; rfl), HB4⟩
            | zero =>
              obtain rfl : p = k := by omega
              have hD2 := HD2.out
              rw [if_neg (fun x => by have := x.2; rw [hany.out] at this; cases this)] at hD2
              subst hD2
              have qk : ¬ (p : Int) < (p : Int) := by omega
              clear HD2
              go_wp2_with fail
              go_ret2
              exact ⟨rfl, hB.out⟩
end Go.Proofs.Ytfcjihfnimefhaa

/- The document's own answers for layer 19 (copperplateref19): Flow. -/
namespace Go.Proofs.Ytfcjihfnimefhaa
open Go.RowKit
set_option linter.unusedVariables false
set_option maxRecDepth 100000

section
variable {w : World} {A : Option Addr} {n c : Nat} {l : List Bq} {W : Int}
set_option maxHeartbeats 1000000 in
theorem rflow_no {k : Int} (h : yesF l W k = false) (hA : Br w A l) (hn : l.length = n) (hz : n ≤ 100000) :
    Calls Try.prog 11 #[.slice A n c, .int .i64 W, .int .i64 k] w fun e w' => e = .returned (.tuple #[.string ⟨#[]⟩, .int .i64 0, .bool false]) ∧ Below w.heap.size w w' := by
  obtain ⟨r, hr⟩ : ∃ r, rmF l W = r := ⟨_, rfl⟩
  have r1 := fun w h => rroom_any (w := w) (A := A) (n := n) (c := c) hr h hn hz
  have HA := Lib.hid hA
  cases r with
  | false =>
    clear h hA hn hr
    go_enter Try.func11, Try.ntmps11
    go_wp2_with fail
    ((with_reducible refine (r1 _ HA.out).mono ?_))
    rintro e w1 ⟨rfl, rfl⟩
    clear r1
    go_wp2
    go_ret3
    exact ⟨rfl, Below.refl _ _⟩
  | true =>
    by_cases ha : k < 0
    · clear h hA hn hr
      go_enter Try.func11, Try.ntmps11
      go_wp2_with fail
      ((with_reducible refine (r1 _ HA.out).mono ?_))
      rintro e w1 ⟨rfl, rfl⟩
      clear r1
      go_wp2
      go_ret3
      exact ⟨rfl, Below.refl _ _⟩
    · have hb : (n : Int) < k := by
        rcases Int.lt_or_le (n : Int) k with hb | hb
        · exact hb
        · rw [yes_is.2 ⟨by omega, by omega, hr⟩] at h; cases h
      clear h hA hn hr
      go_enter Try.func11, Try.ntmps11
      go_wp2_with fail
      ((with_reducible refine (r1 _ HA.out).mono ?_))
      rintro e w1 ⟨rfl, rfl⟩
      clear r1
      go_wp2
      go_ret3
      exact ⟨rfl, Below.refl _ _⟩
set_option maxHeartbeats 4000000 in
theorem rflow_yes {k : Nat} (hr : rmF l W = true) (hA : Br w A l) (hn : l.length = n) (hc : n ≤ c) (hz : n ≤ 400) (hv : vS l ≤ 100000000) (hk : k ≤ n) :
    Calls Try.prog 11 #[.slice A n c, .int .i64 W, .int .i64 (k : Int)] w fun e w' => e = .returned (.tuple #[.string (mkb (flwF l W k)), .int .i64 ((hldN l W k : Nat) : Int), .bool true]) ∧ Below w.heap.size w w' := by
  have r1 := fun w h => rroom_any (w := w) (A := A) (n := n) (c := c) hr h hn (by omega)
  have hm := rm_may hr
  have hok := mayF_ok hm
  have hs : SzB l := fun b hb => by
    obtain ⟨j, hj⟩ := List.mem_iff_getElem?.1 hb
    have h1 := vS_next hj
    have h2 := vS_le l (j + 1)
    omega
  have HI := Lib.hid (pgs_inv W hm (by omega : l.length ≤ 400))
  have HA := Lib.hid hA
  have HL := Lib.hid hn
  have HM := Lib.hid hm
  have HV := Lib.hid hv
  have HOK := Lib.hid hok
  have HS := Lib.hid hs
  have q1 : ¬ (k : Int) < 0 := by omega
  have q2 : ¬ (n : Int) < (k : Int) := by omega
  have q3 : ¬ n < k := by omega
  have q4 : decide (n < k) = false := decide_eq_false q3
  have K1 := Lib.hid (show B5 (w.alloc (.cells #[.string ⟨#[]⟩, .int .i64 0, .int .i64 0, .int .i64 0, .int .i64 (-1)] 41)) w.heap.size _ _ _ _ _ from B5.new w _ _ _ _ _ _)
  have K4 := Lib.hid (bel_alloc (Below.refl _ w) (.cells #[.string ⟨#[]⟩, .int .i64 0, .int .i64 0, .int .i64 0, .int .i64 (-1)] 41))
  clear hr hA hn hv hok hs hm
  go_enter Try.func11, Try.ntmps11
  go_wp2_with fail
  ((with_reducible refine (r1 _ HA.out).mono ?_))
  rintro e w1 ⟨rfl, hw1⟩
  subst hw1
  clear r1
  obtain ⟨g, hg⟩ : ∃ g, w.heap.size = g := ⟨_, rfl⟩
  have HG := Lib.hid hg
  clear hg
  go_wp2_with fail
  generalize w.alloc (.cells #[.string ⟨#[]⟩, .int .i64 0, .int .i64 0, .int .i64 0, .int .i64 (-1)] 41) = W0 at K1 K4 ⊢
  rw [HG.out] at K1 ⊢
  go_loopg [11] k (fun gh i wr => ∃ a : Nat, a + gh = k ∧ i = .int .i64 (a : Int) ∧ Hid (a ≤ stF l W k) ∧ Hid (B5 wr g (.string (mkb (pgs l W a).out)) (.int .i64 (pgs l W a).ind) (.int .i64 (pgs l W a).col) (.int .i64 (pgs l W a).due) (.int .i64 (pgs l W a).fl)) ∧ Hid (Below w.heap.size w wr))
  case atStart => exact ⟨0, by omega, rfl, Lib.hid (Nat.zero_le _), K1, K4⟩
  case round =>
    obtain ⟨a, hag, rfl, hAS, kp, kb⟩ := hrel
    clear K1 K4
    cases gk with
    | zero =>
      obtain rfl : a = k := by omega
      have hE := st_end hAS.out
      have HE := Lib.hid (show flwF l W a = (pgs l W a).out ∧ hldN l W a = 0 by
        unfold flwF hldN; rw [hE]; exact ⟨rfl, Nat.sub_self a⟩)
      generalize pgs l W a = p at kp HE ⊢
      obtain ⟨c0, c1, c2, c3, c4, f0, f1, f2, f3, f4⟩ := kp.out
      have qe : ¬ (a : Int) < (a : Int) := by omega
      clear hE c1 c2 c3 c4 f0 f1 f2 f3 f4 q3 q4
      go_wp2_with fail
      go_ret3
      exact ⟨by rw [HE.out.1, HE.out.2]; rfl, kb.out⟩
    | succ gg =>
      have hak : a < k := by omega
      obtain ⟨t, ht⟩ : ∃ t, l[a]? = some t := ⟨_, List.getElem?_eq_getElem (by rw [HL.out]; omega)⟩
      have hpi := HI.out a (by rw [HL.out]; omega)
      have hnx := pgs_next (w := W) ht
      have hokt := HOK.out t (List.mem_of_getElem? ht)
      have hun := fun h6 hfl hd => st_und (c := k) (w := W) hAS.out ht h6 hfl hd
      have hnu := fun h => st_more (c := k) (w := W) hAS.out hak ht h
      have hfit := fun (q : Bool) h6 hd => dec_fits (w := W) (col := (pgs l W a).col) (k := k) (q := q) HM.out ht h6 hak (by rw [HL.out]; omega) hd
      generalize hp : pgs l W a = p at kp hpi hnx hun hnu hfit ⊢
      have rP := fun V (q : Bool) (h : Br V A l) hq => rprint_any (w := V) (c := c) (q := q) (W := W) h HL.out hz HV.out ht hpi hq hokt
      rw [← hnx] at rP
      have i3 := hpi.col0
      have i4 := hpi.colk
      have hvl := vS_le l a
      have hv2 := HV.out
      have hfl1 : p.fl = -1 ∨ 0 ≤ p.fl := by
        rcases hpi.fl with e | ⟨o, m, -, -, e, -⟩
        · exact .inl e
        · exact .inr (by omega)
      have b1 : p.col ≤ 200000000 := by omega
      have rD := fun V (D : Option Bool) (hD : decF l W k a p.col = D) (h : Br V A l) => rdec_any (w := V) (c := c) hD h HL.out hc hz HS.out hak hk i3 (by omega)
      have hPP := Lib.hid (show p = pgs l W a from hp.symm)
      obtain ⟨b0, o0, rfl, d0, d1⟩ := (HA.out.below kb.out) a t ht
      obtain ⟨c0, c1, c2, c3, c4, f0, f1, f2, f3, f4⟩ := kp.out
      have HNX := Lib.hid hnx
      obtain ⟨tm, tv⟩ := t
      obtain ⟨out, ind, col, due, f⟩ := p
      unfold pgV at rP
      dsimp only at d0 d1 c0 c1 c2 c3 c4 i3 i4 hfl1 b1 rP rD kp hnx hun hnu hfit
      have HUN := Lib.hid hun
      have HNU := Lib.hid hnu
      have HFIT := Lib.hid hfit
      clear hpi hokt ht hvl hnx i4 hp hun hnu hfit hv2
      have qlt : (a : Int) < (k : Int) := by omega
      have qan : (a : Int) < (n : Int) := by omega
      have hwj : IntKind.i64.wrap ((a : Int) + 1) = (a : Int) + 1 := IntWalk.i64_in _ (by omega)
      by_cases h6 : tm = 6 ∧ f = -1
      · obtain ⟨rfl, rfl⟩ := h6
        cases hd : decF l W k a col with
        | none =>
          have hst := HUN.out rfl rfl hd
          have HST := Lib.hid (show flwF l W k = out ∧ hldN l W k = k - a by
            unfold flwF hldN; rw [hst, ← hPP.out]; exact ⟨rfl, rfl⟩)
          have rD' := rD wr none hd (HA.out.below kb.out)
          have hwk : IntKind.i64.wrap ((k : Int) - (a : Int)) = ((k - a : Nat) : Int) := by rw [IntWalk.i64_in _ (by omega)]; omega
          clear hst hd rP rD HNU HFIT
          go_wp2_with fail
          ((with_reducible refine rD'.mono ?_))
          rintro e w4 ⟨rfl, hb4⟩
          have kp' := Lib.hid (kp.out.below hb4)
          have kb' := Lib.hid (bel_trans kb.out hb4)
          clear hb4 rD' c0 c1 c2 c3 c4 f0 f1 f2 f3 f4
          obtain ⟨c0, c1, c2, c3, c4, f0, f1, f2, f3, f4⟩ := kp'.out
          clear c1 c2 c3 c4 f0 f1 f2 f3 f4
          go_wp2_with fail
          go_ret3
          exact ⟨by rw [HST.out.1, HST.out.2]; rfl, kb'.out⟩
        | some q =>
          have HST := Lib.hid (HNU.out (fun x => by have y := x.2.2; rw [hd] at y; cases y))
          have HQ := Lib.hid (HFIT.out q rfl hd)
          have rD' := rD wr (some q) hd (HA.out.below kb.out)
          clear hd HUN HNU HFIT
          go_wp2_with fail
          ((with_reducible refine rD'.mono ?_))
          rintro e w3 ⟨rfl, hb3⟩
          have kp2 := Lib.hid (kp.out.below hb3)
          have kb2 := Lib.hid (bel_trans kb.out hb3)
          clear hb3 rD' c0 c1 c2 c3 c4 f0 f1 f2 f3 f4 d0 d1
          obtain ⟨c0, c1, c2, c3, c4, f0, f1, f2, f3, f4⟩ := kp2.out
          obtain ⟨d0, d1⟩ : True ∧ True := ⟨trivial, trivial⟩
          have qq : (some q == some true) = q := by cases q <;> rfl
          go_wp2_with fail
          ((with_reducible refine (rP _ q (HA.out.below kb2.out) (fun _ _ => HQ.out)).mono ?_))
          rintro e w4 ⟨rfl, hb4⟩
          have kp' := Lib.hid (kp2.out.below hb4)
          have kb' := Lib.hid (bel_trans kb2.out hb4)
          clear hb4 rP rD c0 c1 c2 c3 c4 f0 f1 f2 f3 f4 d0 d1
          obtain ⟨c0, c1, c2, c3, c4, f0, f1, f2, f3, f4⟩ := kp'.out
          go_wp2
          go_roundg gg
          case measure => omega
          case rel => exact ⟨a + 1, by omega, by go_num, HST, Lib.hid (kp'.out.set _ _ _ _ _), Lib.hid (bel_set5 kb'.out (by rw [HG.out]; exact Nat.le_refl _) _ _ _ _ _)⟩
      · have HST := Lib.hid (HNU.out (fun x => h6 ⟨x.1, x.2.1⟩))
        clear HUN HNU HFIT
        by_cases e6 : tm = 6
        · subst e6
          have hf : ¬ f = -1 := fun e => h6 ⟨rfl, e⟩
          have k1 : ¬ f < 0 := by omega
          go_wp2_with fail
          ((with_reducible refine (rP _ false (HA.out.below kb.out) (fun _ e => absurd e hf)).mono ?_))
          rintro e w4 ⟨rfl, hb4⟩
          have kp' := Lib.hid (kp.out.below hb4)
          have kb' := Lib.hid (bel_trans kb.out hb4)
          clear hb4 rP rD c0 c1 c2 c3 c4 f0 f1 f2 f3 f4 d0 d1
          obtain ⟨c0, c1, c2, c3, c4, f0, f1, f2, f3, f4⟩ := kp'.out
          go_wp2
          go_roundg gg
          case measure => omega
          case rel => exact ⟨a + 1, by omega, by go_num, HST, Lib.hid (kp'.out.set _ _ _ _ _), Lib.hid (bel_set5 kb'.out (by rw [HG.out]; exact Nat.le_refl _) _ _ _ _ _)⟩
        · have g6 : (tm == 6) = false := beq_eq_false_iff_ne.2 e6
          go_wp2_with fail
          ((with_reducible refine (rP _ false (HA.out.below kb.out) (fun e => absurd e e6)).mono ?_))
          rintro e w4 ⟨rfl, hb4⟩
          have kp' := Lib.hid (kp.out.below hb4)
          have kb' := Lib.hid (bel_trans kb.out hb4)
          clear hb4 rP rD c0 c1 c2 c3 c4 f0 f1 f2 f3 f4 d0 d1
          obtain ⟨c0, c1, c2, c3, c4, f0, f1, f2, f3, f4⟩ := kp'.out
          go_wp2
          go_roundg gg
          case measure => omega
          case rel => exact ⟨a + 1, by omega, by go_num, HST, Lib.hid (kp'.out.set _ _ _ _ _), Lib.hid (bel_set5 kb'.out (by rw [HG.out]; exact Nat.le_refl _) _ _ _ _ _)⟩
end
end Go.Proofs.Ytfcjihfnimefhaa

/- The document's own answers for layer 19: Held, All; the law FlowTells. -/
namespace Go.Proofs.Ytfcjihfnimefhaa
open Go.RowKit
set_option linter.unusedVariables false
set_option maxRecDepth 100000

theorem mostN_each (l : List Bq) (w : Int) (j : Nat) : mostN l w j = max (mostN l w (j - 1)) (hldN l w j) := by
  cases j with
  | zero => have h : hldN l w 0 = 0 := by unfold hldN; omega
            rw [h]; rfl
  | succ j => exact mostN_stop (Nat.succ_pos j)
section
variable {w : World} {A : Option Addr} {n c : Nat} {l : List Bq} {W : Int}
set_option maxHeartbeats 1000000 in
theorem rheld_no {k : Int} (h : yesF l W k = false) (hA : Br w A l) (hn : l.length = n) (hz : n ≤ 100000) :
    Calls Try.prog 15 #[.slice A n c, .int .i64 W, .int .i64 k] w fun e w' => e = .returned (.int .i64 (-1)) ∧ Below w.heap.size w w' := by
  have r1 := fun w h2 => rflow_no (w := w) (A := A) (n := n) (c := c) h h2 hn hz
  have HA := Lib.hid hA
  clear h hA hn
  go_enter Try.func15, Try.ntmps15
  go_wp2_with fail
  ((with_reducible refine (r1 _ HA.out).mono ?_))
  rintro e w1 ⟨rfl, hb1⟩
  have HB1 := Lib.hid hb1
  clear hb1 r1
  go_wp2
  go_ret
  exact ⟨rfl, HB1.out⟩
set_option maxHeartbeats 1000000 in
theorem rheld_yes {k : Nat} (hr : rmF l W = true) (hA : Br w A l) (hn : l.length = n) (hc : n ≤ c) (hz : n ≤ 400) (hv : vS l ≤ 100000000) (hk : k ≤ n) :
    Calls Try.prog 15 #[.slice A n c, .int .i64 W, .int .i64 (k : Int)] w fun e w' => e = .returned (.int .i64 ((mostN l W k : Nat) : Int)) ∧ Below w.heap.size w w' := by
  have r1 := fun w (j : Nat) (hj : j ≤ n) h2 => rflow_yes (w := w) (A := A) (n := n) (c := c) (k := j) hr h2 hn hc hz hv hj
  have HA := Lib.hid hA
  have HR := Lib.hid r1
  have r1 := fun w h => r1 w k hk h
  clear hA hn hr hv
  go_enter Try.func15, Try.ntmps15
  go_wp2_with fail
  ((with_reducible refine (r1 _ HA.out).mono ?_))
  rintro e w1 ⟨rfl, hb1⟩
  have HB1 := Lib.hid hb1
  clear hb1 r1
  generalize mkb (flwF l W k) = S0
  generalize hldN l W k = x0
  go_wp2_with fail
  go_loopg [10, 11] (k + 1) (fun gh mm jj wr => ∃ j : Nat, j + gh = k + 1 ∧ jj = .int .i64 (j : Int) ∧ mm = .int .i64 ((mostN l W (j - 1) : Nat) : Int) ∧ Hid (Below w.heap.size w wr))
  case atStart => exact ⟨0, by omega, rfl, rfl, HB1⟩
  case round =>
    obtain ⟨j, hjg, rfl, rfl, hB⟩ := hrel
    cases gk with
    | zero =>
      obtain rfl : j = k + 1 := by omega
      rw [Nat.add_sub_cancel]
      have q1 : ¬ ((k + 1 : Nat) : Int) ≤ (k : Int) := by omega
      go_wp2_with fail
      go_ret
      exact ⟨rfl, hB.out⟩
    | succ gg =>
      have q1 : (j : Int) ≤ (k : Int) := by omega
      have r1 := fun w h => HR.out w j (by omega) h
      have HE := Lib.hid (mostN_each l W j)
      have hx := mostN_le l W (j - 1)
      generalize hldN l W j = x at r1 HE
      generalize mostN l W (j - 1) = M at HE hx ⊢
      have hwj : IntKind.i64.wrap ((j : Int) + 1) = (j : Int) + 1 := IntWalk.i64_in _ (by omega)
      clear hx HR
      by_cases hlt : M < x
      · have q2 : (M : Int) < (x : Int) := by omega
        have HE2 := Lib.hid (show mostN l W j = x by rw [HE.out]; omega)
        clear hlt
        go_wp2_with fail
        ((with_reducible refine (r1 _ (HA.out.below hB.out)).mono ?_))
        rintro e w2 ⟨rfl, hb2⟩
        have HB2 := Lib.hid (bel_trans hB.out hb2)
        clear hb2 r1
        go_wp2_with fail
        go_roundg gg
        case measure => omega
        case rel => exact ⟨j + 1, by omega, by go_num, by rw [Nat.add_sub_cancel, HE2.out], HB2⟩
      · have q2 : ¬ (M : Int) < (x : Int) := by omega
        have HE2 := Lib.hid (show mostN l W j = M by rw [HE.out]; omega)
        clear hlt
        go_wp2_with fail
        ((with_reducible refine (r1 _ (HA.out.below hB.out)).mono ?_))
        rintro e w2 ⟨rfl, hb2⟩
        have HB2 := Lib.hid (bel_trans hB.out hb2)
        clear hb2 r1
        go_wp2_with fail
        go_roundg gg
        case measure => omega
        case rel => exact ⟨j + 1, by omega, by go_num, by rw [Nat.add_sub_cancel, HE2.out], HB2⟩
set_option maxHeartbeats 1000000 in
theorem rall_no (hr : rmF l W = false) (hA : Br w A l) (hn : l.length = n) (h0 : A = none → n = 0 ∧ c = 0) (hz : n ≤ 399) :
    Calls Try.prog 13 #[.slice A n c, .int .i64 W] w fun e w' => e = .returned (.tuple #[.string ⟨#[]⟩, .bool false]) ∧ Below w.heap.size w w' := by
  have hlen : (l ++ [(⟨5, noV⟩ : Bq)]).length = n + 1 := by rw [List.length_append, hn]; rfl
  have r2 := fun {w : World} {A : Option Addr} {c : Nat} (h1 : Br w A (l ++ [⟨5, noV⟩])) (h2 : A = none → n + 1 = 0 ∧ c = 0) (h3 : n + 1 ≤ c) => rflow_no (w := w) (A := A) (n := n + 1) (c := c) (k := (n : Int) + 1) (W := W) (by rw [yesF, rm_hard W (by omega), hr, Bool.and_false]) h1 hlen (by omega)
  have HA := Lib.hid hA
  have HL := Lib.hid hn
  have H0 := Lib.hid h0
  have HLN := Lib.hid hlen
  clear hA hn h0 hlen
  go_enter Try.func13, Try.ntmps13
  go_wp2_with (at_builtin; refine app_bns rfl _ _ rfl _ [] rfl (Bn.start w) rfl HA.out HL.out H0.out (by simp; omega) ?_)
  intro v1 w1 h1
  have H1 := Lib.hid (h1.alloc (.cells #[.int .i64 5, .string ⟨#[]⟩] 34))
  have HN := Lib.hid (br_one (heap_alloc_new w1 (.cells #[.int .i64 5, .string ⟨#[]⟩] 34)))
  have HLL := Lib.hid (show l.length + 1 ≤ 1000000 by rw [HL.out]; omega)
  clear h1
  go_wp2_with (at_builtin; refine app_bns rfl _ _ rfl _ l rfl H1.out rfl HN.out rfl (fun e => by cases e) HLL.out ?_)
  intro v3 w3 h3
  obtain ⟨A3, c3, rfl, k1, k2, k3⟩ := Bn.row (show Bn w (l ++ [⟨5, noV⟩]) v3 w3 from h3)
  rw [HLN.out] at k2 k3 ⊢
  have R2 := Lib.hid (r2 k1 k2 k3)
  have HB3 := Lib.hid h3.bel
  clear r2 k1 k2 k3 h3 H1 HN HLL
  go_wp2_with fail
  ((with_reducible refine R2.out.mono ?_))
  rintro e w4 ⟨rfl, hb4⟩
  have HB4 := Lib.hid (bel_trans HB3.out hb4)
  clear hb4 R2 HB3
  go_wp2
  go_ret2
  exact ⟨rfl, HB4.out⟩
set_option maxHeartbeats 1000000 in
theorem rall_yes (hr : rmF l W = true) (hA : Br w A l) (hn : l.length = n) (h0 : A = none → n = 0 ∧ c = 0) (hz : n ≤ 399) (hv : vS l ≤ 100000000) :
    Calls Try.prog 13 #[.slice A n c, .int .i64 W] w fun e w' => e = .returned (.tuple #[.string (mkb (layF l W)), .bool true]) ∧ Below w.heap.size w w' := by
  have hlen : (l ++ [(⟨5, noV⟩ : Bq)]).length = n + 1 := by rw [List.length_append, hn]; rfl
  have hv2 : vS (l ++ [⟨5, noV⟩]) ≤ 100000000 := by rw [vS_app]; exact hv
  obtain ⟨hm1, hm2⟩ := all_math (w := W) (rm_may hr) (by omega : l.length ≤ 399)
  have hout := (pgs_inv W (rm_may hr) (by omega) l.length (Nat.le_refl _)).outk
  have hvl := vS_le l l.length
  have hlay : layF l W = (pgs l W l.length).out := if_pos hr
  rw [hlay]
  obtain ⟨x, hx⟩ : ∃ x, (pgs l W l.length).out = x := ⟨_, rfl⟩
  rw [hx] at hm1 hout ⊢
  rw [hn] at hm1
  have hxl : x.length ≤ 200000000 := by omega
  have r2 := fun {w : World} {A : Option Addr} {c : Nat} (h1 : Br w A (l ++ [⟨5, noV⟩])) (h2 : A = none → n + 1 = 0 ∧ c = 0) (h3 : n + 1 ≤ c) => rflow_yes (w := w) (A := A) (n := n + 1) (c := c) (k := n + 1) (W := W) (by rw [rm_hard W (by omega), hr]) h1 hlen h3 (by omega) hv2 (Nat.le_refl _)
  rw [hm1] at r2
  have e1 : ((n + 1 : Nat) : Int) = (n : Int) + 1 := by omega
  simp only [e1] at r2
  have hsz : (mkb (x ++ [10])).size = x.length + 1 := by rw [mkb_size, List.length_append]; rfl
  have hin := mkb_init x 10
  generalize mkb (x ++ [10]) = S at hsz hin r2
  generalize mkb x = T at hin ⊢
  obtain ⟨m, hm⟩ : ∃ m, x.length = m := ⟨_, rfl⟩
  rw [hm] at hsz hin hxl
  clear hx hout hvl hlay hm1 hm2 hv2 hm e1
  have q1 : IntKind.i64.wrap ((m : Int) + 1 - 1) = (m : Int) := by rw [IntWalk.i64_in _ (by omega)]; omega
  have HA := Lib.hid hA
  have HL := Lib.hid hn
  have H0 := Lib.hid h0
  have HLN := Lib.hid hlen
  clear hA hn h0 hlen
  go_enter Try.func13, Try.ntmps13
  go_wp2_with (at_builtin; refine app_bns rfl _ _ rfl _ [] rfl (Bn.start w) rfl HA.out HL.out H0.out (by simp; omega) ?_)
  intro v1 w1 h1
  have H1 := Lib.hid (h1.alloc (.cells #[.int .i64 5, .string ⟨#[]⟩] 34))
  have HN := Lib.hid (br_one (heap_alloc_new w1 (.cells #[.int .i64 5, .string ⟨#[]⟩] 34)))
  have HLL := Lib.hid (show l.length + 1 ≤ 1000000 by rw [HL.out]; omega)
  clear h1
  go_wp2_with (at_builtin; refine app_bns rfl _ _ rfl _ l rfl H1.out rfl HN.out rfl (fun e => by cases e) HLL.out ?_)
  intro v3 w3 h3
  obtain ⟨A3, c3, rfl, k1, k2, k3⟩ := Bn.row (show Bn w (l ++ [⟨5, noV⟩]) v3 w3 from h3)
  rw [HLN.out] at k2 k3 ⊢
  have R2 := Lib.hid (r2 k1 k2 k3)
  have HB3 := Lib.hid h3.bel
  clear r2 k1 k2 k3 h3 H1 HN HLL
  go_wp2_with fail
  ((with_reducible refine R2.out.mono ?_))
  rintro e w4 ⟨rfl, hb4⟩
  have HB4 := Lib.hid (bel_trans HB3.out hb4)
  clear hb4 R2 HB3
  go_wp2
  go_ret2
  exact ⟨rfl, HB4.out⟩
end
end Go.Proofs.Ytfcjihfnimefhaa

/- The law FlowTells: its walk. -/
namespace Go.Proofs.Ytfcjihfnimefhaa
open Go.RowKit
set_option linter.unusedVariables false
set_option maxRecDepth 100000

set_option maxHeartbeats 4000000 in
theorem tells_law {w : World} {A : Option Addr} {n c : Nat} {l : List Bq} {W k : Int} (hA : Br w A l) (hn : l.length = n) (h0 : A = none → n = 0 ∧ c = 0) (hc : n ≤ c) (hv : vS l ≤ 1048576) :
    Calls Try.prog 3 #[.slice A n c, .int .i64 W, .int .i64 k] w fun e w' => e = .returned (.bool true) ∧ Below w.heap.size w w' := by
  have r1 := fun w => awake_any w
  have HA := Lib.hid hA
  have HL := Lib.hid hn
  have H0 := Lib.hid h0
  have HV := Lib.hid (Nat.le_trans hv (by decide) : vS l ≤ 100000000)
  clear hA hn h0 hv
  go_enter Try.func3, Try.ntmps3
  go_wp2_with fail
  ((with_reducible refine (r1 _).mono ?_))
  rintro e w1 ⟨rfl, hb1⟩
  have HB1 := Lib.hid hb1
  clear hb1 r1
  by_cases h3 : 60 < n
  · have q3 : (60 : Int) < (n : Int) := by omega
    go_wp2
    go_ret
    exact ⟨rfl, HB1.out⟩
  have q3 : ¬ (60 : Int) < (n : Int) := by omega
  cases hr : rmF l W with
  | false =>
    have hno := yes_rm k hr
    have r2 := fun w h => flow_no (w := w) (A := A) (n := n) (c := c) (k := k) (W := W) hno h HL.out (by omega)
    have r3 := fun w h => rflow_no (w := w) (A := A) (n := n) (c := c) (k := k) (W := W) hno h HL.out (by omega)
    have r4 := fun w h => all_no (w := w) (A := A) (n := n) (c := c) hr h HL.out H0.out (by omega)
    have r5 := fun w h => rall_no (w := w) (A := A) (n := n) (c := c) hr h HL.out H0.out (by omega)
    have r6 := fun w h => held_no (w := w) (A := A) (n := n) (c := c) (k := k) (W := W) hno h HL.out (by omega)
    have r7 := fun w h => rheld_no (w := w) (A := A) (n := n) (c := c) (k := k) (W := W) hno h HL.out (by omega)
    clear hr h3 hno
    go_wp2_with fail
    ((with_reducible refine (r2 _ (HA.out.below HB1.out)).mono ?_))
    rintro e w2 ⟨rfl, hb2⟩
    have HB2 := Lib.hid (bel_trans HB1.out hb2)
    clear hb2 r2
    go_wp2_with fail
    ((with_reducible refine (r3 _ (HA.out.below HB2.out)).mono ?_))
    rintro e w3 ⟨rfl, hb3⟩
    have HB3 := Lib.hid (bel_trans HB2.out hb3)
    clear hb3 r3
    go_wp2_with fail
    ((with_reducible refine (r4 _ (HA.out.below HB3.out)).mono ?_))
    rintro e w4 ⟨rfl, hb4⟩
    have HB4 := Lib.hid (bel_trans HB3.out hb4)
    clear hb4 r4
    go_wp2_with fail
    ((with_reducible refine (r5 _ (HA.out.below HB4.out)).mono ?_))
    rintro e w5 ⟨rfl, hb5⟩
    have HB5 := Lib.hid (bel_trans HB4.out hb5)
    clear hb5 r5
    go_wp2_with fail
    ((with_reducible refine (r6 _ (HA.out.below HB5.out)).mono ?_))
    rintro e w6 ⟨rfl, hb6⟩
    have HB6 := Lib.hid (bel_trans HB5.out hb6)
    clear hb6 r6
    go_wp2_with fail
    ((with_reducible refine (r7 _ (HA.out.below HB6.out)).mono ?_))
    rintro e w7 ⟨rfl, hb7⟩
    have HB7 := Lib.hid (bel_trans HB6.out hb7)
    clear hb7 r7
    go_wp2_with fail
    go_ret
    exact ⟨rfl, HB7.out⟩
  | true =>
    by_cases hk : 0 ≤ k ∧ k ≤ n
    · obtain ⟨K, rfl⟩ : ∃ K : Nat, k = K := ⟨k.toNat, by omega⟩
      have hK : K ≤ n := by omega
      have r2 := fun w h => flow_yes (w := w) (A := A) (n := n) (c := c) (k := K) hr h HL.out H0.out hc (by omega) HV.out hK
      have r3 := fun w h => rflow_yes (w := w) (A := A) (n := n) (c := c) (k := K) hr h HL.out hc (by omega) HV.out hK
      have r4 := fun w h => all_yes (w := w) (A := A) (n := n) (c := c) hr h HL.out H0.out (by omega) HV.out
      have r5 := fun w h => rall_yes (w := w) (A := A) (n := n) (c := c) hr h HL.out H0.out (by omega) HV.out
      have r6 := fun w h => held_yes (w := w) (A := A) (n := n) (c := c) (k := K) hr h HL.out H0.out hc (by omega) HV.out hK
      have r7 := fun w h => rheld_yes (w := w) (A := A) (n := n) (c := c) (k := K) hr h HL.out hc (by omega) HV.out hK
      generalize mkb (flwF l W K) = S at r2 r3
      generalize hldN l W K = x at r2 r3
      generalize mostN l W K = M at r6 r7
      generalize mkb (layF l W) = T at r4 r5
      clear hr h3 hk
      go_wp2_with fail
      ((with_reducible refine (r2 _ (HA.out.below HB1.out)).mono ?_))
      rintro e w2 ⟨rfl, hb2⟩
      have HB2 := Lib.hid (bel_trans HB1.out hb2)
      clear hb2 r2
      go_wp2_with fail
      ((with_reducible refine (r3 _ (HA.out.below HB2.out)).mono ?_))
      rintro e w3 ⟨rfl, hb3⟩
      have HB3 := Lib.hid (bel_trans HB2.out hb3)
      clear hb3 r3
      go_wp2_with fail
      ((with_reducible refine (r4 _ (HA.out.below HB3.out)).mono ?_))
      rintro e w4 ⟨rfl, hb4⟩
      have HB4 := Lib.hid (bel_trans HB3.out hb4)
      clear hb4 r4
      go_wp2_with fail
      ((with_reducible refine (r5 _ (HA.out.below HB4.out)).mono ?_))
      rintro e w5 ⟨rfl, hb5⟩
      have HB5 := Lib.hid (bel_trans HB4.out hb5)
      clear hb5 r5
      go_wp2_with fail
      ((with_reducible refine (r6 _ (HA.out.below HB5.out)).mono ?_))
      rintro e w6 ⟨rfl, hb6⟩
      have HB6 := Lib.hid (bel_trans HB5.out hb6)
      clear hb6 r6
      go_wp2_with fail
      ((with_reducible refine (r7 _ (HA.out.below HB6.out)).mono ?_))
      rintro e w7 ⟨rfl, hb7⟩
      have HB7 := Lib.hid (bel_trans HB6.out hb7)
      clear hb7 r7
      go_wp2_with fail
      go_ret
      exact ⟨rfl, HB7.out⟩
    · have hno : yesF l W k = false := yes_out (by rw [HL.out]; exact hk)
      have r2 := fun w h => flow_no (w := w) (A := A) (n := n) (c := c) (k := k) (W := W) hno h HL.out (by omega)
      have r3 := fun w h => rflow_no (w := w) (A := A) (n := n) (c := c) (k := k) (W := W) hno h HL.out (by omega)
      have r4 := fun w h => all_yes (w := w) (A := A) (n := n) (c := c) hr h HL.out H0.out (by omega) HV.out
      have r5 := fun w h => rall_yes (w := w) (A := A) (n := n) (c := c) hr h HL.out H0.out (by omega) HV.out
      have r6 := fun w h => held_no (w := w) (A := A) (n := n) (c := c) (k := k) (W := W) hno h HL.out (by omega)
      have r7 := fun w h => rheld_no (w := w) (A := A) (n := n) (c := c) (k := k) (W := W) hno h HL.out (by omega)
      generalize mkb (layF l W) = T at r4 r5
      clear hr h3 hno hk
      go_wp2_with fail
      ((with_reducible refine (r2 _ (HA.out.below HB1.out)).mono ?_))
      rintro e w2 ⟨rfl, hb2⟩
      have HB2 := Lib.hid (bel_trans HB1.out hb2)
      clear hb2 r2
      go_wp2_with fail
      ((with_reducible refine (r3 _ (HA.out.below HB2.out)).mono ?_))
      rintro e w3 ⟨rfl, hb3⟩
      have HB3 := Lib.hid (bel_trans HB2.out hb3)
      clear hb3 r3
      go_wp2_with fail
      ((with_reducible refine (r4 _ (HA.out.below HB3.out)).mono ?_))
      rintro e w4 ⟨rfl, hb4⟩
      have HB4 := Lib.hid (bel_trans HB3.out hb4)
      clear hb4 r4
      go_wp2_with fail
      ((with_reducible refine (r5 _ (HA.out.below HB4.out)).mono ?_))
      rintro e w5 ⟨rfl, hb5⟩
      have HB5 := Lib.hid (bel_trans HB4.out hb5)
      clear hb5 r5
      go_wp2_with fail
      ((with_reducible refine (r6 _ (HA.out.below HB5.out)).mono ?_))
      rintro e w6 ⟨rfl, hb6⟩
      have HB6 := Lib.hid (bel_trans HB5.out hb6)
      clear hb6 r6
      go_wp2_with fail
      ((with_reducible refine (r7 _ (HA.out.below HB6.out)).mono ?_))
      rintro e w7 ⟨rfl, hb7⟩
      have HB7 := Lib.hid (bel_trans HB6.out hb7)
      clear hb7 r7
      go_wp2_with fail
      go_ret
      exact ⟨rfl, HB7.out⟩
end Go.Proofs.Ytfcjihfnimefhaa
