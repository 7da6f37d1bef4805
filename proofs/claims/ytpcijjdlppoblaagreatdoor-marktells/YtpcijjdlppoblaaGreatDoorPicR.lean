/- The reference (copperplateref12): Empty, Fits, Begins, First, Pick. -/
import Derived.Test.YtpcijjdlppoblaaGreatDoorPicC
import Derived.Test.YtpcijjdlppoblaaGreatDoorKinQ
import Derived.Test.YtpcijjdlppoblaaGreatDoorRulW
import Derived.Test.YtpcijjdlppoblaaGreatDoorRulX
namespace Go.Proofs.YtpcijjdlppoblaaGreatDoor
open Go.RowKit
set_option linter.unusedVariables false
set_option maxRecDepth 100000

theorem rgetp_any (i : Int) {n : Nat} {v : Int} {b : Bool} {L : List Sq} (hL : symI i = L) (hn : L.length = n) (hv : varI i = v) (hb : isI i = b) (w : World) :
    Calls Tryz.prog 45 #[.int .i64 i] w fun e w' => GpE v n L b w e w' := by
  subst hL hn hv hb
  by_cases h : 0 ≤ i ∧ i < 90
  · obtain ⟨a, rfl⟩ := Int.eq_ofNat_of_zero_le h.1
    have ha : a < 90 := by omega
    refine (rget_yes ha w).mono ?_
    rintro e w' ⟨A, c, rfl, hb, hs, -⟩
    have e1 : symI (a : Int) = symR a := by unfold symI; rw [if_pos h.1]; rfl
    have e2 : varI (a : Int) = (varR a : Nat) := by unfold varI; rw [if_pos h]; rfl
    have e3 : isI (a : Int) = true := by unfold isI; exact decide_eq_true h
    exact ⟨A, c, by rw [e1, e2, e3], hb, by rw [e1]; exact hs⟩
  · have e1 : symI i = [] := symI_over (by omega)
    have e2 : varI i = 0 := by unfold varI; rw [if_neg h]
    have e3 : isI i = false := by unfold isI; exact decide_eq_false h
    refine (rget_no (by omega) w).mono ?_
    rintro e w' ⟨rfl, hb⟩
    exact ⟨none, 0, by rw [e1, e2, e3]; rfl, hb, by rw [e1]; exact Sr.nil _ _⟩
theorem rofp_any {w : World} (v : Int) {L : List Int} {n : Nat} (hL : ofR v = L) (hn : L.length = n) : Calls Tryz.prog 96 #[.int .i64 v] w fun e w' => OpE n L w e w' :=
  (rulof_any v hL).mono (by rintro e w' ⟨A, c, rfl, hb, hs, -⟩; exact ⟨A, c, by rw [hn], hb, hs⟩)

set_option maxHeartbeats 1000000 in
theorem rempty_any {v r : Int} (hr : empR v = r) (w : World) :
    Calls Tryz.prog 114 #[.int .i64 v] w fun e w' => e = .returned (.int .i64 r) ∧ Below w.heap.size w w' := by
  obtain ⟨O, hO⟩ : ∃ O, ofR v = O := ⟨_, rfl⟩
  obtain ⟨m, hm⟩ : ∃ n, O.length = n := ⟨_, rfl⟩
  have hm2 : m ≤ 90 := by rw [← hm, ← hO]; exact ofR_len v
  have r1 := rofp_any (w := w) v hO hm
  rw [empR, hO] at hr
  have HR := Lib.hid hr
  have HM := Lib.hid hm
  clear hO hr hm
  go_enter Tryz.func114, Tryz.ntmps114
  go_wp2_with fail
  ((with_reducible refine r1.mono ?_))
  rintro e w1 ⟨A, c, rfl, hb1, hs1⟩
  have HB1 := Lib.hid hb1
  have HS1 := Lib.hid hs1
  clear hb1 hs1 r1
  go_wp2_with fail
  go_loopw [4] (fun i wr => ∃ k : Nat, i = .int .i64 k ∧ k ≤ m ∧ Hid (fstN empB (O.drop k) = r) ∧ Below w1.heap.size w1 wr) (fun i _ => m - (intOf i).toNat)
  case atStart => exact ⟨0, rfl, Nat.zero_le _, by rw [List.drop_zero]; exact HR, Below.refl _ _⟩
  case round =>
    obtain ⟨k, rfl, hk, hf, hB⟩ := hrel
    by_cases hlt : k < m
    · obtain ⟨x, hx⟩ : ∃ x, O[k]? = some x := ⟨_, List.getElem?_eq_getElem (by rw [HM.out]; exact hlt)⟩
      obtain ⟨b, o, rfl, c0⟩ := (HS1.out.below hB) k x hx
      have hf' := hf.out
      rw [fstN_drop hx] at hf'
      have q1 : (k : Int) < (m : Int) := by omega
      obtain ⟨L, hL⟩ : ∃ L, symI x = L := ⟨_, rfl⟩
      obtain ⟨n, hn⟩ : ∃ n, L.length = n := ⟨_, rfl⟩
      obtain ⟨vv, hv⟩ : ∃ v, varI x = v := ⟨_, rfl⟩
      obtain ⟨bb, hbb⟩ : ∃ v, isI x = v := ⟨_, rfl⟩
      have r2 := rgetp_any x hL hn hv hbb
      have he : empB x = (n == 0) := by unfold empB; rw [hL, hn]
      rw [he] at hf'
      have HBr := Lib.hid (bel_trans HB1.out hB)
      have HBB := Lib.hid hB
      have HC0 := Lib.hid c0
      clear hx hL hn hv hbb he hf hB
      by_cases h0 : n = 0
      · subst h0
        rw [if_pos (by rfl)] at hf'
        have HF := Lib.hid hf'
        clear hf'
        go_wp2_with fail
        ((with_reducible refine (r2 _).mono ?_))
        rintro e w2 ⟨B, d, rfl, hb2, hs2⟩
        have HB2 := Lib.hid (bel_trans HBr.out hb2)
        have d0 := bel_cell (bel_alloc hb2 (.cells #[.int .i64 vv, .slice B 0 d] 78)) HC0.out
        clear hb2 r2 hs2
        go_wp2_with fail
        go_ret
        exact ⟨by rw [HF.out]; rfl, bel_alloc HB2.out _⟩
      · have q2 : ((n : Int) == 0) = false := by simpa using h0
        have q3 : (n == 0) = false := by simpa using h0
        rw [q3, if_neg (by simp)] at hf'
        have HF := Lib.hid hf'
        clear hf' h0 q3
        go_wp2_with fail
        ((with_reducible refine (r2 _).mono ?_))
        rintro e w2 ⟨B, d, rfl, hb2, hs2⟩
        have HB2 := Lib.hid (bel_trans HBB.out hb2)
        clear hb2 r2 hs2
        go_wp2_with fail
        go_roundw
        case rel => exact ⟨k + 1, by go_num, by omega, HF, bel_alloc HB2.out _⟩
        case measure => simp [intOf]; omega
    · obtain rfl : k = m := by omega
      have hf' := hf.out
      rw [List.drop_eq_nil_of_le (by rw [HM.out]; exact Nat.le_refl _), fstN] at hf'
      have HF := Lib.hid hf'
      have HBr := Lib.hid (bel_trans HB1.out hB)
      clear hf hf' hB
      go_wp2_with fail
      go_ret
      exact ⟨by rw [← HF.out]; rfl, HBr.out⟩
theorem plS_drop {l : List Sq} {k : Nat} {t : Sq} (h : l[k]? = some t) : plS (l.drop k) = if t.k = 3 then plS (l.drop (k + 1)) else t :: plS (l.drop (k + 1)) := by
  obtain ⟨h1, rfl⟩ := List.getElem?_eq_some_iff.1 h
  rw [List.drop_eq_getElem_cons h1]
  by_cases h3 : l[k].k = 3
  · rw [if_pos h3, plS, plS, List.filter_cons_of_neg (by simp [h3])]
  · rw [if_neg h3, plS, plS, List.filter_cons_of_pos (by simp [h3])]
/-- What the reference's Fits answers, asked of symbols that want d questions at most. -/
def AnsR (d : Nat) (te : Int) : Prop := ∀ (t : Sq) (w : World), depB d t = true →
  Calls Tryz.prog 43 #[.agg #[.int .i64 t.k, .int .i64 t.n], .int .i64 te] w fun e w' => e = .returned (.bool (fitK te t)) ∧ Below w.heap.size w w'
set_option maxHeartbeats 2000000 in
theorem rbegins_of {d : Nat} {te : Int} (hd : AnsR d te) {i : Int} (hi : okS (depB d) (plR i) = true) (w : World) :
    Calls Tryz.prog 97 #[.int .i64 i, .int .i64 te] w fun e w' => e = .returned (.bool (begK te i)) ∧ Below w.heap.size w w' := by
  obtain ⟨r, hr⟩ : ∃ r, begK te i = r := ⟨_, rfl⟩
  rw [hr]
  have HD := Lib.hid hd
  obtain ⟨L, hL⟩ : ∃ L, symI i = L := ⟨_, rfl⟩
  obtain ⟨m, hm⟩ : ∃ n, L.length = n := ⟨_, rfl⟩
  obtain ⟨vv, hv⟩ : ∃ v, varI i = v := ⟨_, rfl⟩
  obtain ⟨bb, hbb⟩ : ∃ v, isI i = v := ⟨_, rfl⟩
  have hn10 : m ≤ 10 := by rw [← hm, ← hL]; exact symI_len i
  have r1 := rgetp_any i hL hm hv hbb w
  have hpl : plR i = plS L := by rw [plR, hL]
  rw [begK, hpl] at hr
  rw [hpl] at hi
  have HR := Lib.hid hr
  have HI := Lib.hid hi
  have HM := Lib.hid hm
  clear hd hL hm hv hbb hpl hr hi
  go_enter Tryz.func97, Tryz.ntmps97
  go_wp2_with fail
  ((with_reducible refine r1.mono ?_))
  rintro e w1 ⟨A, c, rfl, hb1, hs1⟩
  have HS1 := Lib.hid (hs1.below (bel_alloc (Below.refl _ _) (.cells #[.int .i64 vv, .slice A m c] 78)))
  have HB1 := Lib.hid (bel_alloc hb1 (.cells #[.int .i64 vv, .slice A m c] 78))
  have HP1 := Lib.hid (B2.new w1 (.int .i64 vv) (.slice A m c) 78)
  clear hb1 hs1 r1
  obtain ⟨W1, hW1⟩ : ∃ W, w1.alloc (.cells #[.int .i64 vv, .slice A m c] 78) = W := ⟨_, rfl⟩
  have HW1 := Lib.hid hW1
  rw [hW1] at HS1 HB1 HP1
  clear hW1
  go_wp2_with fail
  go_loopw [7] (fun j wr => ∃ k : Nat, j = .int .i64 k ∧ k ≤ m ∧ Hid (goB (fitK te) (plS (L.drop k)) = r ∧ okS (depB d) (plS (L.drop k)) = true) ∧ Below W1.heap.size W1 wr) (fun j _ => m - (intOf j).toNat)
  case atStart => exact ⟨0, rfl, Nat.zero_le _, Lib.hid (by rw [List.drop_zero]; exact ⟨HR.out, HI.out⟩), by rw [HW1.out]; exact Below.refl _ _⟩
  case round =>
    obtain ⟨k, rfl, hk, hg, hB⟩ := hrel
    have HPr := Lib.hid (HP1.out.below hB)
    obtain ⟨p0, p1, -, -⟩ := HPr.out
    have lp := World.block_lt_of_cell? _ _ p0
    by_cases hlt : k < m
    · obtain ⟨t, htt⟩ : ∃ t, L[k]? = some t := ⟨_, List.getElem?_eq_getElem (by rw [HM.out]; exact hlt)⟩
      obtain ⟨b, o, rfl, c0, c1⟩ := (HS1.out.below hB) k t htt
      obtain ⟨hg1, hg2⟩ := hg.out
      rw [plS_drop htt] at hg1 hg2
      have q1 : (k : Int) < (m : Int) := by omega
      have hbo := bel_alloc (bel_trans HB1.out hB) (.cells #[.int .i64 t.k, .int .i64 t.n] 59)
      have HB3 := Lib.hid hbo
      have HBB := Lib.hid (bel_alloc hB (.cells #[.int .i64 t.k, .int .i64 t.n] 59))
      have hc0 : (wr.alloc (.cells #[.int .i64 t.k, .int .i64 t.n] 59)).cell? ⟨wr.heap.size, 0, none⟩ = some (.int .i64 t.k) := by simp [go_sem]
      have hc1 : (wr.alloc (.cells #[.int .i64 t.k, .int .i64 t.n] 59)).cell? ⟨wr.heap.size, 1, none⟩ = some (.int .i64 t.n) := by simp [go_sem]
      have HC0 := Lib.hid hc0
      have HC1 := Lib.hid hc1
      clear hc0 hc1
      by_cases h3 : t.k = 3
      · rw [if_pos h3] at hg1 hg2
        have HG1 := Lib.hid hg1
        have HG2 := Lib.hid hg2
        have q3 : (t.k == 3) = true := by simpa using h3
        clear htt hg hg1 hg2 hbo hB h3
        go_wp2_with fail
        go_roundw
        case rel => exact ⟨k + 1, by go_num, by omega, Lib.hid ⟨HG1.out, HG2.out⟩, HBB.out⟩
        case measure => simp [intOf]; omega
      · rw [if_neg h3] at hg1 hg2
        rw [goB] at hg1
        rw [okS, Bool.and_eq_true] at hg2
        obtain ⟨hdt, hg2⟩ := hg2
        have q3 : (t.k == 3) = false := by simpa using h3
        have r3 := HD.out t (wr.alloc (.cells #[.int .i64 t.k, .int .i64 t.n] 59)) hdt
        obtain ⟨x, hx⟩ : ∃ x, fitK te t = x := ⟨_, rfl⟩
        obtain ⟨y, hy⟩ : ∃ y, mayN t = y := ⟨_, rfl⟩
        obtain ⟨z, hz⟩ : ∃ z, empR t.n = z := ⟨_, rfl⟩
        have r4 := fun w => rempty_any hz w
        rw [hx] at r3
        rw [hx, hy] at hg1
        rw [hy] at hg2
        rw [mayN, hz] at hy
        have HG1 := Lib.hid hg1
        have HG2 := Lib.hid hg2
        have HY := Lib.hid hy
        clear htt hg hg1 hg2 hdt hbo hx hz hB h3 hy
        cases x
        · go_wp2_with fail
          ((with_reducible refine r3.mono ?_))
          rintro e w3 ⟨rfl, hb3⟩
          have d0 := bel_cell hb3 HC0.out
          have d1 := bel_cell hb3 HC1.out
          have HB4 := Lib.hid (bel_trans HB3.out hb3)
          have HBB4 := Lib.hid (bel_trans HBB.out hb3)
          have lt3 := World.block_lt_of_cell? _ _ d0
          clear hb3 r3
          by_cases h1 : t.k = 1
          · have q4 : (t.k != 1) = false := by simpa using h1
            by_cases hz0 : 0 ≤ z
            · have hy1 : true = y := by rw [← HY.out]; simp [h1, hz0]
              subst hy1
              have q5 : ¬ z < 0 := by omega
              have q6 : decide (z < 0) = false := decide_eq_false q5
              clear h1
              go_wp2_with fail
              ((with_reducible refine (r4 _).mono ?_))
              rintro e w4 ⟨rfl, hb4⟩
              have HBB5 := Lib.hid (bel_trans HBB4.out hb4)
              clear hb4 r4
              go_wp2_with fail
              go_roundw
              case rel => exact ⟨k + 1, by go_num, by omega, Lib.hid ⟨by have := HG1.out; simpa using this, by have := HG2.out; simpa using this⟩, HBB5.out⟩
              case measure => simp [intOf]; omega
            · have hy1 : false = y := by rw [← HY.out]; simp [h1]; omega
              subst hy1
              have hr2 : false = r := by have := HG1.out; simpa using this
              subst hr2
              have q5 : z < 0 := by omega
              have q6 : decide (z < 0) = true := decide_eq_true q5
              clear h1 hz0
              go_wp2_with fail
              ((with_reducible refine (r4 _).mono ?_))
              rintro e w4 ⟨rfl, hb4⟩
              have HB5 := Lib.hid (bel_trans HB4.out hb4)
              clear hb4 r4
              go_wp2_with fail
              go_ret
              exact ⟨rfl, HB5.out⟩
          · have q4 : (t.k != 1) = true := by simpa using h1
            have hy1 : false = y := by rw [← HY.out]; simp [h1]
            subst hy1
            have hr2 : false = r := by have := HG1.out; simpa using this
            subst hr2
            clear h1
            go_wp2_with fail
            go_ret
            exact ⟨rfl, HB4.out⟩
        · have hr2 : true = r := by have := HG1.out; simpa using this
          subst hr2
          go_wp2_with fail
          ((with_reducible refine r3.mono ?_))
          rintro e w3 ⟨rfl, hb3⟩
          have HB4 := Lib.hid (bel_trans HB3.out hb3)
          clear hb3 r3
          go_wp2_with fail
          go_ret
          exact ⟨rfl, HB4.out⟩
    · obtain rfl : k = m := by omega
      have hg' := hg.out.1
      rw [List.drop_eq_nil_of_le (by rw [HM.out]; exact Nat.le_refl _)] at hg'
      have hr2 : false = r := hg'
      subst hr2
      have HB3 := Lib.hid (bel_trans HB1.out hB)
      clear hg hg' hB
      go_wp2_with fail
      go_ret
      exact ⟨rfl, HB3.out⟩
/-- What First wants of Begins. -/
def AnsRB (te v : Int) : Prop := ∀ (i : Int) (w : World), i ∈ ofR v →
  Calls Tryz.prog 97 #[.int .i64 i, .int .i64 te] w fun e w' => e = .returned (.bool (begK te i)) ∧ Below w.heap.size w w'
theorem any_drop {p : Int → Bool} {l : List Int} {k : Nat} {x : Int} (h : l[k]? = some x) : (l.drop k).any p = (p x || (l.drop (k + 1)).any p) := by
  obtain ⟨h1, rfl⟩ := List.getElem?_eq_some_iff.1 h
  rw [List.drop_eq_getElem_cons h1, List.any_cons]
set_option maxHeartbeats 1000000 in
theorem rfirst_of {te v : Int} (hd : AnsRB te v) {r : Bool} (hr : fstK te v = r) (w : World) :
    Calls Tryz.prog 65 #[.int .i64 v, .int .i64 te] w fun e w' => e = .returned (.bool r) ∧ Below w.heap.size w w' := by
  have HD := Lib.hid hd
  obtain ⟨O, hO⟩ : ∃ O, ofR v = O := ⟨_, rfl⟩
  obtain ⟨m, hm⟩ : ∃ n, O.length = n := ⟨_, rfl⟩
  have hm2 : m ≤ 90 := by rw [← hm, ← hO]; exact ofR_len v
  have r1 := rofp_any (w := w) v hO hm
  rw [fstK, hO] at hr
  have HR := Lib.hid hr
  have HM := Lib.hid hm
  have HO := Lib.hid hO
  clear hd hO hr hm
  go_enter Tryz.func65, Tryz.ntmps65
  go_wp2_with fail
  ((with_reducible refine r1.mono ?_))
  rintro e w1 ⟨A, c, rfl, hb1, hs1⟩
  have HB1 := Lib.hid hb1
  have HS1 := Lib.hid hs1
  clear hb1 hs1 r1
  go_wp2_with fail
  go_loopw [6] (fun i wr => ∃ k : Nat, i = .int .i64 k ∧ k ≤ m ∧ Hid ((O.drop k).any (begK te) = r) ∧ Below w1.heap.size w1 wr) (fun i _ => m - (intOf i).toNat)
  case atStart => exact ⟨0, rfl, Nat.zero_le _, by rw [List.drop_zero]; exact HR, Below.refl _ _⟩
  case round =>
    obtain ⟨k, rfl, hk, hg, hB⟩ := hrel
    by_cases hlt : k < m
    · obtain ⟨x, hx⟩ : ∃ x, O[k]? = some x := ⟨_, List.getElem?_eq_getElem (by rw [HM.out]; exact hlt)⟩
      obtain ⟨b, o, rfl, c0⟩ := (HS1.out.below hB) k x hx
      have hg' := hg.out
      rw [any_drop hx] at hg'
      have q1 : (k : Int) < (m : Int) := by omega
      have HBr := Lib.hid (bel_trans HB1.out hB)
      have HBB := Lib.hid hB
      have r2 := HD.out x wr (by rw [HO.out]; exact List.mem_of_getElem? hx)
      obtain ⟨y, hy⟩ : ∃ y, begK te x = y := ⟨_, rfl⟩
      rw [hy] at r2
      rw [hy] at hg'
      clear hx hg hy hB
      cases y
      · rw [Bool.false_or] at hg'
        have HG := Lib.hid hg'
        clear hg'
        go_wp2_with fail
        ((with_reducible refine r2.mono ?_))
        rintro e w2 ⟨rfl, hb2⟩
        have HB2 := Lib.hid (bel_trans HBB.out hb2)
        clear hb2 r2
        go_wp2_with fail
        go_roundw
        case rel => exact ⟨k + 1, by go_num, by omega, HG, HB2.out⟩
        case measure => simp [intOf]; omega
      · rw [Bool.true_or] at hg'
        subst hg'
        go_wp2_with fail
        ((with_reducible refine r2.mono ?_))
        rintro e w2 ⟨rfl, hb2⟩
        have HB2 := Lib.hid (bel_trans HBr.out hb2)
        clear hb2 r2
        go_wp2_with fail
        go_ret
        exact ⟨rfl, HB2.out⟩
    · obtain rfl : k = m := by omega
      have hg' := hg.out
      rw [List.drop_eq_nil_of_le (by rw [HM.out]; exact Nat.le_refl _)] at hg'
      have hr2 : false = r := hg'
      subst hr2
      have HBr := Lib.hid (bel_trans HB1.out hB)
      clear hg hg' hB
      go_wp2_with fail
      go_ret
      exact ⟨rfl, HBr.out⟩
set_option maxHeartbeats 1000000 in
theorem rfits_leaf {te : Int} {t : Sq} (hk : t.k ≠ 1) (w : World) :
    Calls Tryz.prog 43 #[.agg #[.int .i64 t.k, .int .i64 t.n], .int .i64 te] w fun e w' => e = .returned (.bool (fitK te t)) ∧ Below w.heap.size w w' := by
  obtain ⟨k, n⟩ := t
  change k ≠ 1 at hk
  have HBo := Lib.hid (bel_alloc (Below.refl _ w) (.cells #[.int .i64 k, .int .i64 n] 59))
  obtain ⟨x, hx⟩ : ∃ x, inK n te = x := ⟨_, rfl⟩
  have r1 := rin_any hx
  have HX := Lib.hid hx
  clear hx
  by_cases h0 : k = 0
  · subst h0
    rw [fitK_term]
    clear hk
    by_cases hn : n = te
    · subst hn
      by_cases hz : n = 0
      · subst hz
        go_enter Tryz.func43, Tryz.ntmps43
        go_wp2_with fail
        ((with_reducible refine (r1 _).mono ?_))
        rintro e w2 ⟨rfl, rfl⟩
        go_wp2_with fail
        go_ret
        exact ⟨by simp, HBo.out⟩
      · have q2 : (n != 0) = true := by simpa using hz
        have q3 : (n == 0) = false := by simpa using hz
        clear hz
        go_enter Tryz.func43, Tryz.ntmps43
        go_wp2_with fail
        ((with_reducible refine (r1 _).mono ?_))
        rintro e w2 ⟨rfl, rfl⟩
        go_wp2_with fail
        go_ret
        exact ⟨by first | (simp; done) | (simp [q2]; done) | (simp [q3]; done), HBo.out⟩
    · have q2 : (n == te) = false := by simpa using hn
      rw [q2]
      clear hn
      go_enter Tryz.func43, Tryz.ntmps43
      go_wp2_with fail
      ((with_reducible refine (r1 _).mono ?_))
      rintro e w2 ⟨rfl, rfl⟩
      go_wp2_with fail
      go_ret
      exact ⟨by first | (simp; done) | (simp [q2]; done), HBo.out⟩
  · have q0 : (k == 0) = false := by simpa using h0
    have q1 : (k == 1) = false := by simpa using hk
    by_cases h2 : k = 2
    · subst h2
      rw [fitK_class, HX.out]
      clear hk h0 q0 q1
      go_enter Tryz.func43, Tryz.ntmps43
      go_wp2_with fail
      ((with_reducible refine (r1 _).mono ?_))
      rintro e w2 ⟨rfl, rfl⟩
      go_wp2_with fail
      go_ret
      exact ⟨rfl, HBo.out⟩
    · have q2 : (k == 2) = false := by simpa using h2
      rw [fitK_other te h0 hk h2]
      clear h0 hk h2
      go_enter Tryz.func43, Tryz.ntmps43
      go_wp2_with fail
      ((with_reducible refine (r1 _).mono ?_))
      rintro e w2 ⟨rfl, rfl⟩
      go_wp2_with fail
      go_ret
      exact ⟨rfl, HBo.out⟩
set_option maxHeartbeats 1000000 in
theorem rfits_var {te n : Int} (hd : AnsRB te n) (w : World) :
    Calls Tryz.prog 43 #[.agg #[.int .i64 1, .int .i64 n], .int .i64 te] w fun e w' => e = .returned (.bool (fstK te n)) ∧ Below w.heap.size w w' := by
  have HBo := Lib.hid (bel_alloc (Below.refl _ w) (.cells #[.int .i64 1, .int .i64 n] 59))
  obtain ⟨x, hx⟩ : ∃ x, inK n te = x := ⟨_, rfl⟩
  obtain ⟨r, hr⟩ : ∃ r, fstK te n = r := ⟨_, rfl⟩
  have r1 := rin_any hx
  have r2 := fun w => rfirst_of hd hr w
  rw [hr]
  clear hx hr hd
  go_enter Tryz.func43, Tryz.ntmps43
  go_wp2_with fail
  ((with_reducible refine (r1 _).mono ?_))
  rintro e w2 ⟨rfl, rfl⟩
  go_wp2_with fail
  ((with_reducible refine (r2 _).mono ?_))
  rintro e w3 ⟨rfl, hb3⟩
  have HB3 := Lib.hid (bel_trans HBo.out hb3)
  clear hb3
  go_wp2_with fail
  go_ret
  exact ⟨rfl, HB3.out⟩
theorem ansR_all (te : Int) : ∀ d, AnsR d te
  | 0 => fun t w hd => rfits_leaf (by simpa [depB] using hd) w
  | d + 1 => fun t w hd => by
    by_cases h1 : t.k = 1
    · obtain ⟨k, n⟩ := t
      change k = 1 at h1
      subst h1
      rw [fitK_var]
      refine rfits_var (fun i w' hi => rbegins_of (ansR_all te d) ?_ w') w
      have : (ofR n).all (fun i => okS (depB d) (plR i)) = true := by simpa [depB] using hd
      exact List.all_eq_true.1 this i hi
    · exact rfits_leaf h1 w
theorem okS_every (p : Sq → Bool) (h : ∀ t, p t = true) : ∀ l, okS p l = true
  | [] => rfl
  | t :: l => by rw [okS, h t, okS_every p h l]; simp
theorem rfits_any {te : Int} {t : Sq} {r : Bool} (hr : fitK te t = r) (w : World) :
    Calls Tryz.prog 43 #[.agg #[.int .i64 t.k, .int .i64 t.n], .int .i64 te] w fun e w' => e = .returned (.bool r) ∧ Below w.heap.size w w' := by
  subst hr; exact ansR_all te 6 t w (dep_all t)
theorem rbegins_any {te i : Int} {r : Bool} (hr : begK te i = r) (w : World) :
    Calls Tryz.prog 97 #[.int .i64 i, .int .i64 te] w fun e w' => e = .returned (.bool r) ∧ Below w.heap.size w w' := by
  subst hr; exact rbegins_of (ansR_all te 6) (okS_every _ dep_all _) w
theorem rfirst_any {te v : Int} {r : Bool} (hr : fstK te v = r) (w : World) :
    Calls Tryz.prog 65 #[.int .i64 v, .int .i64 te] w fun e w' => e = .returned (.bool r) ∧ Below w.heap.size w w' :=
  rfirst_of (fun i w' _ => rbegins_any rfl w') hr w
end Go.Proofs.YtpcijjdlppoblaaGreatDoor
