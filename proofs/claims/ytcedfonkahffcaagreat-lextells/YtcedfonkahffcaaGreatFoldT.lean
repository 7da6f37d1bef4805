/- The document's own answers for layer 7 (copperplateref07): Fold. -/
import Derived.Test.YtcedfonkahffcaaGreatFoldS
namespace Go.Proofs.YtcedfonkahffcaaGreat.Fo
open Go.RowKit
set_option linter.unusedVariables false
set_option maxRecDepth 100000

/-- A slice's length. -/
def sLen : Value → Nat
  | .slice _ n _ => n
  | _ => 0
theorem Rs.nil {w : World} {B : Nat} {A : Option Addr} {ls : List (List UInt8)} (h : ls.length = 0) : Rs w B A ls := by
  obtain rfl := List.eq_nil_of_length_eq_zero h
  intro j x hx; simp at hx
theorem add_add (ad : Addr) (i j : Nat) : (ad.add i).add j = ad.add (i + j) := by
  unfold Addr.add
  by_cases hi : i = 0 <;> by_cases hj : j = 0 <;> simp [hi, hj, Nat.add_assoc]
theorem Rs.tail {w : World} {B : Nat} {ad : Addr} {x : List UInt8} {ls : List (List UInt8)} (h : Rs w B (some ad) (x :: ls)) : Rs w B (some (ad.add 1)) ls := by
  intro j y hy
  obtain ⟨ad', e, hb, hc⟩ := h (j + 1) y (by simpa using hy)
  injection e with e; subst e
  exact ⟨_, rfl, by rw [addB]; exact hb, by rw [add_add, Nat.add_comm]; exact hc⟩
theorem Rs.cut1 {w : World} {B c : Nat} {ad : Addr} {x : List UInt8} {ls : List (List UInt8)} (h : Rs w B (some ad) (x :: ls)) (hc : ls.length + 1 ≤ c) : Rs w B (if c = 1 then some ad else some (ad.add 1)) ls := by
  by_cases h1 : c = 1
  · rw [if_pos h1]; exact Rs.nil (by omega)
  · rw [if_neg h1]; exact h.tail
theorem Rs.init {w : World} {B : Nat} {A : Option Addr} {x : List UInt8} {ls : List (List UInt8)} (h : Rs w B A (ls ++ [x])) : Rs w B A ls := by
  intro j y hy
  have hl := (List.getElem?_eq_some_iff.1 hy).1
  exact h j y (by rw [List.getElem?_append_left hl]; exact hy)
theorem join_first {ls : List (List UInt8)} {x : List UInt8} (h : ls[0]? = some x) : Lib.join (ls.take (0 + 1)) [10] = x := by
  rw [List.take_add_one, h]; exact Lib.join_one x [10]
theorem join_next {ls : List (List UInt8)} {k : Nat} {x : List UInt8} (h : ls[k + 1]? = some x) : Lib.join (ls.take (k + 1 + 1)) [10] = Lib.join (ls.take (k + 1)) [10] ++ [10] ++ x := by
  cases ls with
  | nil => simp at h
  | cons a t =>
    rw [List.take_succ_cons, List.take_succ_cons, Lib.join_cons, Lib.join_cons, Lib.joinTail_take_succ [10] t k x (by simpa using h)]
    simp
theorem bel_trans2' {a b : World} (h : Below a.heap.size a b) : Below a.heap.size a b := h
theorem cut_get {p : Int} {ls : List (List UInt8)} {k : Nat} {x : List UInt8} (h : ls[k]? = some x) : (cutL p ls)[k]? = some (if k = 0 then x else x.drop p.toNat) := by
  cases ls with
  | nil => simp at h
  | cons a t =>
    cases k with
    | zero => simp at h; subst h; rfl
    | succ k => simp at h; simp [cutL, h]

set_option maxHeartbeats 4000000 in
theorem rfold_any (s : ByteArray) (hs : s.size ≤ 100000) (w : World) :
    Calls Tryz.prog 43 #[.string s] w fun e w' => e = .returned (.string (mkb (fld s.data.toList))) ∧ Below w.heap.size w w' := by
  have hct := lns_count s.data.toList
  rw [← Lib.size_eq] at hct
  have hln : ∀ x ∈ lns s.data.toList, x.length ≤ 100000 := fun x hx => by have := lnA_len false s.data.toList x hx; rw [← Lib.size_eq] at this; omega
  obtain ⟨m, hm⟩ : ∃ m, (lns s.data.toList).length = m + 1 := ⟨(lns s.data.toList).length - 1, by have := lns_pos s.data.toList; omega⟩
  have hwg := lnA_wgt false s.data.toList
  change wgt (lns s.data.toList) ≤ _ at hwg
  rw [← Lib.size_eq] at hwg
  have r1 := rlines_n s (by omega) m hm
  obtain ⟨ls, hls⟩ : ∃ ls, ls = lns s.data.toList := ⟨_, rfl⟩
  have hfl : fld s.data.toList = Lib.join (trm (cutL (ind ls) ls)) [10] := by rw [hls]; rfl
  rw [hfl]
  rw [← hls] at hct hm r1 hln hwg
  rw [hm] at hct
  clear hls hfl
  obtain ⟨p, hp⟩ : ∃ p, p = ind ls := ⟨_, rfl⟩
  have hpl := ind_bd ls
  have hpu := indP_up (ls := ls) (fun x hx => by have := hln x hx; omega) (m + 1)
  rw [indP_end (by omega)] at hpu
  have r2 := fun (w : World) (c : Nat) (A : Option Addr) (hr : Rs w w.heap.size A ls) => rindent_any (c := c) hr hm (fun x hx => by have := hln x hx; omega) (by omega)
  rw [← hp] at r2 hpl hpu ⊢
  clear hp
  obtain ⟨L, hL⟩ : ∃ L, L = cutL p ls := ⟨_, rfl⟩
  have HLl := Lib.hid (show ∀ x ∈ L, x.length ≤ 100000 by rw [hL]; exact cut_mem hln)
  have HZL := Lib.hid (show L.length = m + 1 by rw [hL, cut_len, hm])
  have HLw := Lib.hid (show wgt L ≤ 200000 by rw [hL]; have := cut_wgt p ls; omega)
  rw [← hL]
  have HM := Lib.hid hm
  have HN := Lib.hid hln
  have HL := Lib.hid hL
  obtain ⟨i0, hi, hz0, hz1, hz2⟩ := info_parts infoS
  have HI := Lib.hid hi
  have HI0 := Lib.hid hz0
  have HI1 := Lib.hid hz1
  have HI2 := Lib.hid hz2
  clear hm hln hL hwg hi hz0 hz1 hz2
  go_enter Tryz.func43, Tryz.ntmps43
  go_wp2_with fail
  (with_reducible refine (r1 _).mono ?_)
  rintro e w1 ⟨g, cap, rfl, hcap, hrow, hB1⟩
  have HR := Lib.hid hrow
  clear r1 hrow
  go_wp2_with fail
  (with_reducible refine (r2 _ _ _ HR.out.rs).mono ?_)
  rintro e w' ⟨rfl, rfl⟩
  clear r2
  go_wp2_with fail
  go_loopw [5, 6] (fun o i wr => ∃ k : Nat, k ≤ m + 1 ∧ i = .int .i64 k ∧ wr.ownsRow w1.heap.size 9 1 o k ((L.take k).map sv) ∧ Below w1.heap.size w1 wr) (fun _ i _ => m + 1 - (intOf i).toNat)
  case atStart => exact ⟨0, by omega, rfl, World.ownsRow_nil _ _ _ _, Below.refl _ _⟩
  case round =>
    obtain ⟨k, hk, rfl, hown, hB⟩ := hrel
    have HO := Lib.hid hown
    clear hown
    by_cases hlt : k < m + 1
    · obtain ⟨x, hx, hxm⟩ := get_of (ls := ls) (k := k) (by rw [HM.out]; exact hlt)
      have hxl := HN.out x hxm
      have hc := (HR.out.below hB).cell k x hx
      have hLk := cut_get (p := p) hx
      rw [← HL.out] at hLk
      have hmz : (mkb x).size = x.length := mkb_size x
      by_cases hk0 : k = 0
      · subst hk0
        rw [if_pos rfl] at hLk
        have HX := Lib.hid hLk
        have d0 : decide ((0 : Int) < ((0 : Nat) : Int)) = false := rfl
        clear hx hLk
        go_wp2_with (at_builtin; refine wpList_append_own _ rfl _ _ 69 rfl w1.heap.size 9 i0 (.string ⟨#[]⟩) 1 16 Tryz.underlying69 HI.out HI0.out HI1.out HI2.out rfl (by decide) _ _ _ rfl (HO.out.alloc _) ⟨wr.heap.size, 0, none⟩ 1 1 [.string (mkb x)] rfl rfl (cell_one_new _ _ _) (by simp [Value.oneCell']) (by unfold maxLen; omega) (by omega) (by have := hB.size; simp; omega) ?_)
        intro v' w5 hown' hgrow _
        have hB5 : Below w1.heap.size w1 w5 := (bel_alloc hB _).grown hgrow (by have := hB.size; simp; omega) (fun k hk => (HO.out.lt k hk).1)
        have HO5 := Lib.hid (show w5.ownsRow w1.heap.size 9 1 v' (0 + 1) ((L.take (0 + 1)).map sv) by
          rw [List.take_add_one, HX.out, List.map_append]; first | exact hown' | (rw [← List.map_take] at hown'; exact hown'))
        clear hown' hgrow
        go_wp2
        go_roundw
        case rel => exact ⟨0 + 1, by omega, by go_num, HO5.out, hB5⟩
        case measure => first | (simp [intOf]; done) | (simp [intOf]; omega)
      rw [if_neg hk0] at hLk
      have d0 : decide ((0 : Int) < (k : Int)) = true := decide_eq_true (by omega)
      by_cases hp0 : 0 < p
      · have d1 : decide (0 < p) = true := decide_eq_true hp0
        obtain ⟨q, rfl⟩ := Int.eq_ofNat_of_zero_le (show 0 ≤ p by omega)
        rw [Int.toNat_natCast] at hLk
        have HX := Lib.hid hLk
        have rc := cut_any x q (by omega)
        clear hx hLk
        go_wp2_with fail
        (with_reducible refine (rc _).mono ?_)
        rintro e w' ⟨rfl, rfl⟩

        go_wp2_with (at_builtin; refine wpList_append_own _ rfl _ _ 69 rfl w1.heap.size 9 i0 (.string ⟨#[]⟩) 1 16 Tryz.underlying69 HI.out HI0.out HI1.out HI2.out rfl (by decide) _ _ _ rfl (HO.out.alloc _) ⟨wr.heap.size, 0, none⟩ 1 1 [.string (mkb (x.drop q))] rfl rfl (cell_one_new _ _ _) (by simp [Value.oneCell']) (by unfold maxLen; omega) (by omega) (by have := hB.size; simp; omega) ?_)
        intro v' w5 hown' hgrow _
        have hB5 : Below w1.heap.size w1 w5 := (bel_alloc hB _).grown hgrow (by have := hB.size; simp; omega) (fun k hk => (HO.out.lt k hk).1)
        have HO5 := Lib.hid (show w5.ownsRow w1.heap.size 9 1 v' (k + 1) ((L.take (k + 1)).map sv) by
          rw [List.take_add_one, HX.out, List.map_append]; first | exact hown' | (rw [← List.map_take] at hown'; exact hown'))
        clear hown' hgrow
        go_wp2
        go_roundw
        case rel => exact ⟨k + 1, by omega, by go_num, HO5.out, hB5⟩
        case measure => first | (simp [intOf]; done) | (simp [intOf]; omega)
      · have d1 : decide (0 < p) = false := decide_eq_false hp0
        rw [show p.toNat = 0 by omega, List.drop_zero] at hLk
        have HX := Lib.hid hLk
        clear hx hLk
        go_wp2_with (at_builtin; refine wpList_append_own _ rfl _ _ 69 rfl w1.heap.size 9 i0 (.string ⟨#[]⟩) 1 16 Tryz.underlying69 HI.out HI0.out HI1.out HI2.out rfl (by decide) _ _ _ rfl (HO.out.alloc _) ⟨wr.heap.size, 0, none⟩ 1 1 [.string (mkb x)] rfl rfl (cell_one_new _ _ _) (by simp [Value.oneCell']) (by unfold maxLen; omega) (by omega) (by have := hB.size; simp; omega) ?_)
        intro v' w5 hown' hgrow _
        have hB5 : Below w1.heap.size w1 w5 := (bel_alloc hB _).grown hgrow (by have := hB.size; simp; omega) (fun k hk => (HO.out.lt k hk).1)
        have HO5 := Lib.hid (show w5.ownsRow w1.heap.size 9 1 v' (k + 1) ((L.take (k + 1)).map sv) by
          rw [List.take_add_one, HX.out, List.map_append]; first | exact hown' | (rw [← List.map_take] at hown'; exact hown'))
        clear hown' hgrow
        go_wp2
        go_roundw
        case rel => exact ⟨k + 1, by omega, by go_num, HO5.out, hB5⟩
        case measure => first | (simp [intOf]; done) | (simp [intOf]; omega)
    · obtain rfl : k = m + 1 := by omega
      have hown := HO.out
      rw [List.take_of_length_le (Nat.le_of_eq HZL.out)] at hown
      obtain ⟨g2, c2, rfl⟩ := ownsRow_succ hown
      have hrow4 := Row.of_own (by omega) hown
      have hc2 := own_cap hown
      have HR4 := Lib.hid hrow4
      have hB4 := bel_trans hB1 hB
      clear hown hrow4 HO HR
      obtain ⟨w4, hw4⟩ : ∃ w4, w4 = wr := ⟨_, rfl⟩
      subst hw4
      go_wp2_with fail
      go_loopw [5] (fun o wr => ∃ (T : List (List UInt8)) (A : Option Addr) (c : Nat), o = .slice A T.length c ∧ T.length ≤ c ∧ Rs w4 w4.heap.size A T ∧ T.dropWhile blk = L.dropWhile blk ∧ T.length ≤ m + 1 ∧ (∀ x ∈ T, x.length ≤ 100000) ∧ wgt T ≤ 200000 ∧ Below w4.heap.size w4 wr) (fun o _ => sLen o)
      case atStart => exact ⟨L, some ⟨g2, 0, none⟩, c2, by rw [HZL.out], by rw [HZL.out]; exact hc2, HR4.out.rs, rfl, Nat.le_of_eq HZL.out, HLl.out, HLw.out, Below.refl _ _⟩
      case round =>
        obtain ⟨T, A, c, rfl, hTc, hRT, hTL, hTm, hTl, hTw, hBT⟩ := hrel
        have HRT := Lib.hid hRT
        have HTL := Lib.hid hTL
        have HTl := Lib.hid hTl
        clear hRT hTL hTl
        by_cases hT0 : T = []
        · have hT : trm L = rtr (T) := by unfold trm; rw [← HTL.out, hT0]; rfl
          have hz0 : T.length = 0 := by rw [hT0]; rfl
          have HTZ := Lib.hid hz0
          rw [hz0] at hTc hTm ⊢
          clear hT0 HTL hz0
          go_wp2_with fail
          go_quiet (fail)
          have hBC := below_drewN hBT nq
          clear hBT
          generalize wr.drewN nq = wB at *
          have HT := Lib.hid hT
          clear hT
          go_wp2_with fail
          go_loopw [5] (fun o wr => ∃ (U : List (List UInt8)) (A : Option Addr) (c : Nat), o = .slice A U.length c ∧ U.length ≤ c ∧ Rs w4 w4.heap.size A U ∧ rtr U = rtr (T) ∧ U.length ≤ m + 1 ∧ (∀ x ∈ U, x.length ≤ 100000) ∧ wgt U ≤ 200000 ∧ Below w4.heap.size w4 wr) (fun o _ => sLen o)
          case atStart => exact ⟨T, A, c, by rw [HTZ.out], by rw [HTZ.out]; exact hTc, HRT.out, rfl, by rw [HTZ.out]; exact hTm, HTl.out, hTw, hBC⟩
          case round =>
            clear hTc hTw hTm hBC HRT HTl
            obtain ⟨U, A, c, rfl, hUc, hRU, hUT, hUm, hUl, hUw, hBU⟩ := hrel
            have HRU := Lib.hid hRU
            have HUT := Lib.hid hUT
            have HUl := Lib.hid hUl
            clear hRU hUT hUl
            rcases List.eq_nil_or_concat U with hU0 | ⟨U', x, hUU⟩
            · have hU : Lib.join (trm L) [10] = Lib.join U [10] := by rw [HT.out, ← HUT.out, hU0]; rfl
              have hUlen : U.length = 0 := by rw [hU0]; rfl
              have HUL := Lib.hid hUlen
              rw [hUlen]
              clear hU0 HUT hUlen hUc hUm
              go_wp2_with fail
              go_quiet (fail)
              have hBC := below_drewN hBU nq
              clear hBU
              generalize wr.drewN nq = wC at *
              have HU := Lib.hid hU
              clear hU
              go_wp2_with fail
              go_loop [8, 9] (fun t i => ∃ k : Nat, k ≤ 0 ∧ i = .int .i64 k ∧ t = .string (mkb (Lib.join (U.take k) [10]))) (fun _ i => 0 - (intOf i).toNat)
              case atStart => exact ⟨0, by omega, rfl, rfl⟩
              case round =>
                obtain ⟨k, hk, rfl, rfl⟩ := hrel
                by_cases hlt : k < 0
                · omega
                · have HF := Lib.hid (show Lib.join (U.take k) [10] = Lib.join (trm L) [10] by rw [HU.out, List.take_of_length_le (by rw [HUL.out]; omega)])
                  go_wp2
                  go_ret
                  refine ⟨?_, bel_trans hB4 hBC⟩
                  rw [← HF.out]; rfl
            · rw [List.concat_eq_append] at hUU
              have hx : U[U'.length]? = some x := by rw [hUU]; simp
              have hxm : x ∈ U := by rw [hUU]; simp
              have hUlen : U.length = U'.length + 1 := by rw [hUU]; simp
              have HUL := Lib.hid hUlen
              rw [hUlen] at hUc hUm ⊢
              obtain ⟨ad, hA, _, hc⟩ := (HRU.out.below hBU) U'.length x hx
              subst hA
              have hxl := HUl.out x hxm
              have hmz : (mkb x).size = x.length := mkb_size x
              have r1 : ∀ w : World, Calls Tryz.prog 67 #[.string (mkb x)] w fun e w' => e = .returned (.int .i64 (mg x : Nat)) ∧ w' = w := fun w => (margin_any (mkb x) w (by rw [hmz]; omega)).mono fun _ _ h => ⟨h.1, h.2.symm⟩
              have hbq := blk_beq x
              rw [← hmz] at hbq
              have d0 : decide ((0 : Int) < (U'.length : Int) + 1) = true := decide_eq_true (by omega)
              have w0 : IntKind.i64.wrap (U'.length : Int) = (U'.length : Int) := IntWalk.i64_in _ (by omega)
              clear hUlen hx
              cases hb : blk x
              · rw [hb] at hbq
                have hU : Lib.join (trm L) [10] = Lib.join U [10] := by rw [HT.out, ← HUT.out, hUU, rtr_n hb]
                clear hb hmz hUU
                generalize mkb x = X at *
                go_wp2_with fail
                go_quiet ((go_at_call 67; exact Calls.quiet_of_same (r1 _)))
                have hBC := below_drewN hBU nq
                clear hBU hc r1 hbq w0 d0
                generalize wr.drewN nq = wC at *
                have HU := Lib.hid hU
                clear hU
                go_wp2_with fail
                go_loop [8, 9] (fun t i => ∃ k : Nat, k ≤ (U'.length + 1) ∧ i = .int .i64 k ∧ t = .string (mkb (Lib.join (U.take k) [10]))) (fun _ i => (U'.length + 1) - (intOf i).toNat)
                case atStart => exact ⟨0, by omega, rfl, rfl⟩
                case round =>
                  obtain ⟨k, hk, rfl, rfl⟩ := hrel
                  by_cases hlt : k < (U'.length + 1)
                  · obtain ⟨x, hx, hxm⟩ := get_of (ls := U) (k := k) (by rw [HUL.out]; exact hlt)
                    obtain ⟨ad, hA, _, hc⟩ := (HRU.out.below hBC) k x hx
                    (try subst hA)
                    (try (injection hA with hA; subst hA))
                    have hwx := wgt_sub (List.singleton_sublist.2 hxm)
                    rw [wgt_cons, wgt_nil] at hwx
                    have hj := (join_wgt (U.take k)).1
                    have hwk := wgt_sub (List.take_sublist k U)
                    cases k with
                    | zero =>
                      have a1 := sadd [] x (by simp; omega)
                      have a1' : ∀ w : World, (Op.stringOp .add ⟨#[]⟩ (mkb x)).run Tryz.prog w = .ok (.string (mkb x)) w := a1
                      have hc' : wC.cell? ad = some (.string (mkb x)) := hc
                      have HJ := Lib.hid (join_first hx)
                      have e0 : mkb (Lib.join (U.take 0) [10]) = ⟨#[]⟩ := rfl
                      rw [e0]
                      clear a1 hx hc e0
                      go_wp2
                      go_round
                      case rel => exact ⟨0 + 1, by omega, by go_num, by rw [HJ.out]⟩
                      case measure => first | (simp [intOf]; done) | (simp [intOf]; omega)
                    | succ k =>
                      have a1 := sadd (Lib.join (U.take (k + 1)) [10]) [10] (by simp; omega)
                      have a1' : ∀ w : World, (Op.stringOp .add (mkb (Lib.join (U.take (k + 1)) [10])) ⟨#[10]⟩).run Tryz.prog w = .ok (.string (mkb (Lib.join (U.take (k + 1)) [10] ++ [10]))) w := a1
                      have a2 := sadd (Lib.join (U.take (k + 1)) [10] ++ [10]) x (by simp; omega)
                      have HJ := Lib.hid (join_next hx)
                      have hc' : wC.cell? ⟨ad.block, ad.off + (k + 1), none⟩ = some (.string (mkb x)) := hc
                      clear a1 hx hj hwk
                      generalize Lib.join (U.take (k + 1)) [10] = y at *
                      obtain ⟨Y, hY⟩ : ∃ Y, Y = mkb (y ++ [10]) := ⟨_, rfl⟩
                      obtain ⟨Z, hZ⟩ : ∃ Z, Z = mkb (y ++ [10] ++ x) := ⟨_, rfl⟩
                      rw [← hY] at a1' a2
                      rw [← hZ] at a2
                      have HZZ := Lib.hid hZ
                      clear hY hZ
                      go_wp2
                      go_round
                      case rel => exact ⟨k + 1 + 1, by omega, by go_num, by rw [HJ.out, HZZ.out]⟩
                      case measure => first | (simp [intOf]; done) | (simp [intOf]; omega)
                  · have HF := Lib.hid (show Lib.join (U.take k) [10] = Lib.join (trm L) [10] by rw [HU.out, List.take_of_length_le (by rw [HUL.out]; omega)])
                    go_wp2
                    go_ret
                    refine ⟨?_, bel_trans hB4 hBC⟩
                    rw [← HF.out]; rfl
              · rw [hb] at hbq
                have HNX := Lib.hid (show rtr U' = rtr (T) by rw [← HUT.out, hUU, rtr_y hb])
                have HRI := HRU.out
                rw [hUU] at HRI
                have HR2 := Lib.hid HRI.init
                have HUl2 := Lib.hid (fun y (hy : y ∈ U') => HUl.out y (by rw [hUU]; simp [hy]))
                have hUw2 : wgt U' ≤ 200000 := by rw [hUU] at hUw; have := wgt_sub (List.sublist_append_left U' [x]); omega
                clear hb hmz hUU HRI
                generalize mkb x = X at *
                go_wp2_with fail
                go_quiet ((go_at_call 67; exact Calls.quiet_of_same (r1 _)))
                go_wp2
                go_roundw
                case rel => exact ⟨U', _, _, rfl, by omega, HR2.out, HNX.out, by omega, HUl2.out, hUw2, below_drewN hBU _⟩
                case measure => simp [sLen]
        · obtain ⟨x0, T0, rfl⟩ := List.exists_cons_of_ne_nil hT0
          obtain ⟨ad, hA, _, hc⟩ := (HRT.out.below hBT) 0 x0 rfl
          have hc' : wr.cell? ad = some (.string (mkb x0)) := hc
          subst hA
          have hxl := HTl.out x0 (by simp)
          have hmz : (mkb x0).size = x0.length := mkb_size x0
          have r1 : ∀ w : World, Calls Tryz.prog 67 #[.string (mkb x0)] w fun e w' => e = .returned (.int .i64 (mg x0 : Nat)) ∧ w' = w := fun w => (margin_any (mkb x0) w (by rw [hmz]; omega)).mono fun _ _ h => ⟨h.1, h.2.symm⟩
          have hbq := blk_beq x0
          rw [← hmz] at hbq
          have d0 : decide ((0 : Int) < (T0.length : Int) + 1) = true := decide_eq_true (by omega)
          have hlen : (x0 :: T0).length = T0.length + 1 := rfl
          rw [hlen] at hTc hTm ⊢
          clear hc hlen hT0
          cases hb : blk x0
          · rw [hb] at hbq
            have hT : trm L = rtr (x0 :: T0) := by unfold trm; rw [← HTL.out, List.dropWhile_cons, if_neg (by simp [hb])]
            clear hb hmz
            generalize mkb x0 = X0 at *
            go_wp2_with fail
            go_quiet ((go_at_call 67; exact Calls.quiet_of_same (r1 _)))
            have hBC := below_drewN hBT nq
            clear hBT hc' r1 hbq d0
            generalize wr.drewN nq = wB at *
            have HT := Lib.hid hT
            clear hT
            go_wp2_with fail
            go_loopw [5] (fun o wr => ∃ (U : List (List UInt8)) (A : Option Addr) (c : Nat), o = .slice A U.length c ∧ U.length ≤ c ∧ Rs w4 w4.heap.size A U ∧ rtr U = rtr (x0 :: T0) ∧ U.length ≤ m + 1 ∧ (∀ x ∈ U, x.length ≤ 100000) ∧ wgt U ≤ 200000 ∧ Below w4.heap.size w4 wr) (fun o _ => sLen o)
            case atStart => exact ⟨x0 :: T0, some ad, c, rfl, hTc, HRT.out, rfl, hTm, HTl.out, hTw, hBC⟩
            case round =>
              clear hTc hTw hTm hBC HRT HTl
              obtain ⟨U, A, c, rfl, hUc, hRU, hUT, hUm, hUl, hUw, hBU⟩ := hrel
              have HRU := Lib.hid hRU
              have HUT := Lib.hid hUT
              have HUl := Lib.hid hUl
              clear hRU hUT hUl
              rcases List.eq_nil_or_concat U with hU0 | ⟨U', x, hUU⟩
              · have hU : Lib.join (trm L) [10] = Lib.join U [10] := by rw [HT.out, ← HUT.out, hU0]; rfl
                have hUlen : U.length = 0 := by rw [hU0]; rfl
                have HUL := Lib.hid hUlen
                rw [hUlen]
                clear hU0 HUT hUlen hUc hUm
                go_wp2_with fail
                go_quiet (fail)
                have hBC := below_drewN hBU nq
                clear hBU
                generalize wr.drewN nq = wC at *
                have HU := Lib.hid hU
                clear hU
                go_wp2_with fail
                go_loop [8, 9] (fun t i => ∃ k : Nat, k ≤ 0 ∧ i = .int .i64 k ∧ t = .string (mkb (Lib.join (U.take k) [10]))) (fun _ i => 0 - (intOf i).toNat)
                case atStart => exact ⟨0, by omega, rfl, rfl⟩
                case round =>
                  obtain ⟨k, hk, rfl, rfl⟩ := hrel
                  by_cases hlt : k < 0
                  · omega
                  · have HF := Lib.hid (show Lib.join (U.take k) [10] = Lib.join (trm L) [10] by rw [HU.out, List.take_of_length_le (by rw [HUL.out]; omega)])
                    go_wp2
                    go_ret
                    refine ⟨?_, bel_trans hB4 hBC⟩
                    rw [← HF.out]; rfl
              · rw [List.concat_eq_append] at hUU
                have hx : U[U'.length]? = some x := by rw [hUU]; simp
                have hxm : x ∈ U := by rw [hUU]; simp
                have hUlen : U.length = U'.length + 1 := by rw [hUU]; simp
                have HUL := Lib.hid hUlen
                rw [hUlen] at hUc hUm ⊢
                obtain ⟨ad, hA, _, hc⟩ := (HRU.out.below hBU) U'.length x hx
                subst hA
                have hxl := HUl.out x hxm
                have hmz : (mkb x).size = x.length := mkb_size x
                have r1 : ∀ w : World, Calls Tryz.prog 67 #[.string (mkb x)] w fun e w' => e = .returned (.int .i64 (mg x : Nat)) ∧ w' = w := fun w => (margin_any (mkb x) w (by rw [hmz]; omega)).mono fun _ _ h => ⟨h.1, h.2.symm⟩
                have hbq := blk_beq x
                rw [← hmz] at hbq
                have d0 : decide ((0 : Int) < (U'.length : Int) + 1) = true := decide_eq_true (by omega)
                have w0 : IntKind.i64.wrap (U'.length : Int) = (U'.length : Int) := IntWalk.i64_in _ (by omega)
                clear hUlen hx
                cases hb : blk x
                · rw [hb] at hbq
                  have hU : Lib.join (trm L) [10] = Lib.join U [10] := by rw [HT.out, ← HUT.out, hUU, rtr_n hb]
                  clear hb hmz hUU
                  generalize mkb x = X at *
                  go_wp2_with fail
                  go_quiet ((go_at_call 67; exact Calls.quiet_of_same (r1 _)))
                  have hBC := below_drewN hBU nq
                  clear hBU hc r1 hbq w0 d0
                  generalize wr.drewN nq = wC at *
                  have HU := Lib.hid hU
                  clear hU
                  go_wp2_with fail
                  go_loop [8, 9] (fun t i => ∃ k : Nat, k ≤ (U'.length + 1) ∧ i = .int .i64 k ∧ t = .string (mkb (Lib.join (U.take k) [10]))) (fun _ i => (U'.length + 1) - (intOf i).toNat)
                  case atStart => exact ⟨0, by omega, rfl, rfl⟩
                  case round =>
                    obtain ⟨k, hk, rfl, rfl⟩ := hrel
                    by_cases hlt : k < (U'.length + 1)
                    · obtain ⟨x, hx, hxm⟩ := get_of (ls := U) (k := k) (by rw [HUL.out]; exact hlt)
                      obtain ⟨ad, hA, _, hc⟩ := (HRU.out.below hBC) k x hx
                      (try subst hA)
                      (try (injection hA with hA; subst hA))
                      have hwx := wgt_sub (List.singleton_sublist.2 hxm)
                      rw [wgt_cons, wgt_nil] at hwx
                      have hj := (join_wgt (U.take k)).1
                      have hwk := wgt_sub (List.take_sublist k U)
                      cases k with
                      | zero =>
                        have a1 := sadd [] x (by simp; omega)
                        have a1' : ∀ w : World, (Op.stringOp .add ⟨#[]⟩ (mkb x)).run Tryz.prog w = .ok (.string (mkb x)) w := a1
                        have hc' : wC.cell? ad = some (.string (mkb x)) := hc
                        have HJ := Lib.hid (join_first hx)
                        have e0 : mkb (Lib.join (U.take 0) [10]) = ⟨#[]⟩ := rfl
                        rw [e0]
                        clear a1 hx hc e0
                        go_wp2
                        go_round
                        case rel => exact ⟨0 + 1, by omega, by go_num, by rw [HJ.out]⟩
                        case measure => first | (simp [intOf]; done) | (simp [intOf]; omega)
                      | succ k =>
                        have a1 := sadd (Lib.join (U.take (k + 1)) [10]) [10] (by simp; omega)
                        have a1' : ∀ w : World, (Op.stringOp .add (mkb (Lib.join (U.take (k + 1)) [10])) ⟨#[10]⟩).run Tryz.prog w = .ok (.string (mkb (Lib.join (U.take (k + 1)) [10] ++ [10]))) w := a1
                        have a2 := sadd (Lib.join (U.take (k + 1)) [10] ++ [10]) x (by simp; omega)
                        have HJ := Lib.hid (join_next hx)
                        have hc' : wC.cell? ⟨ad.block, ad.off + (k + 1), none⟩ = some (.string (mkb x)) := hc
                        clear a1 hx hj hwk
                        generalize Lib.join (U.take (k + 1)) [10] = y at *
                        obtain ⟨Y, hY⟩ : ∃ Y, Y = mkb (y ++ [10]) := ⟨_, rfl⟩
                        obtain ⟨Z, hZ⟩ : ∃ Z, Z = mkb (y ++ [10] ++ x) := ⟨_, rfl⟩
                        rw [← hY] at a1' a2
                        rw [← hZ] at a2
                        have HZZ := Lib.hid hZ
                        clear hY hZ
                        go_wp2
                        go_round
                        case rel => exact ⟨k + 1 + 1, by omega, by go_num, by rw [HJ.out, HZZ.out]⟩
                        case measure => first | (simp [intOf]; done) | (simp [intOf]; omega)
                    · have HF := Lib.hid (show Lib.join (U.take k) [10] = Lib.join (trm L) [10] by rw [HU.out, List.take_of_length_le (by rw [HUL.out]; omega)])
                      go_wp2
                      go_ret
                      refine ⟨?_, bel_trans hB4 hBC⟩
                      rw [← HF.out]; rfl
                · rw [hb] at hbq
                  have HNX := Lib.hid (show rtr U' = rtr (x0 :: T0) by rw [← HUT.out, hUU, rtr_y hb])
                  have HRI := HRU.out
                  rw [hUU] at HRI
                  have HR2 := Lib.hid HRI.init
                  have HUl2 := Lib.hid (fun y (hy : y ∈ U') => HUl.out y (by rw [hUU]; simp [hy]))
                  have hUw2 : wgt U' ≤ 200000 := by rw [hUU] at hUw; have := wgt_sub (List.sublist_append_left U' [x]); omega
                  clear hb hmz hUU HRI
                  generalize mkb x = X at *
                  go_wp2_with fail
                  go_quiet ((go_at_call 67; exact Calls.quiet_of_same (r1 _)))
                  go_wp2
                  go_roundw
                  case rel => exact ⟨U', _, _, rfl, by omega, HR2.out, HNX.out, by omega, HUl2.out, hUw2, below_drewN hBU _⟩
                  case measure => simp [sLen]
          · rw [hb] at hbq
            have HN := Lib.hid (show T0.dropWhile blk = L.dropWhile blk by rw [← HTL.out, List.dropWhile_cons, if_pos hb])
            have HTl2 := Lib.hid (fun y (hy : y ∈ T0) => HTl.out y (by simp [hy]))
            have hTw2 : wgt T0 ≤ 200000 := by rw [wgt_cons] at hTw; omega
            clear hb hmz
            generalize mkb x0 = X0 at *
            go_wp2_with fail
            go_quiet ((go_at_call 67; exact Calls.quiet_of_same (r1 _)))
            go_wp2
            go_roundw
            case rel => exact ⟨T0, _, _, rfl, by omega, Rs.cut1 HRT.out (by omega), HN.out, by omega, HTl2.out, hTw2, below_drewN hBT _⟩
            case measure => simp [sLen]
end Go.Proofs.YtcedfonkahffcaaGreat.Fo
