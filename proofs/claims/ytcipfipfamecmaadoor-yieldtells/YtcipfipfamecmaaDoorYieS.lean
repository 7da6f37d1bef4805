/- The reference (copperplateref14): Yield, Derives. -/
import Derived.Test.YtcipfipfamecmaaDoorYieR
import Derived.StillTailTactics
namespace Go.Proofs.YtcipfipfamecmaaDoor
open Go.RowKit
set_option linter.unusedVariables false
set_option maxRecDepth 100000

/-- The reference's Plain, its answer's length under a name of its own. -/
theorem rplain_n {w : World} {A : Option Addr} {n m c : Nat} {ts L : List Sq} (hL : plS ts = L) (hm : L.length = m) (ha : Sr w A ts) (hn : ts.length = n) (hz : n ≤ 1000000) :
    Calls Tryd.prog 25 #[.slice A n c] w fun e w' => PnE m L w e w' := by
  exact (rplain_lies hL hm ha hn hz).mono (by rintro e w' ⟨A, c, rfl, hb, hs, h0, -⟩; exact ⟨A, c, rfl, hb, hs, h0⟩)
set_option maxHeartbeats 1000000 in
theorem ryield_any {w : World} {A : Option Addr} {n m c : Nat} {R : List Int} {X Y : List Sq} {is : Bool} (hf : Ful R X is) (hY : plS X = Y) (hm : Y.length = m) (hl : R.length = n) (hn : n ≤ 1000) (hA : Ri w A R) :
    Calls Tryd.prog 14 #[.slice A n c] w fun e w' => YiE is m Y w e w' := by
  obtain ⟨k, hk⟩ : ∃ k, X.length = k := ⟨_, rfl⟩
  have hk2 : k ≤ 10001 := by have := ful_len hf; omega
  have r1 := rfull_any (c := c) hf hk hl hn hA
  have r2 := fun {w A c} h => rplain_n (w := w) (A := A) (c := c) hY hm h hk (by omega)
  cases is
  · have hX := hf.no
    subst hX
    obtain rfl : Y = [] := hY.symm
    obtain rfl : m = 0 := hm.symm
    clear hf hY hm hl hA hk
    go_enter Tryd.func14, Tryd.ntmps14
    go_wp2_with fail
    ((with_reducible refine r1.mono ?_))
    rintro e w1 ⟨B, d, rfl, hb1, hs1, -⟩
    have HB1 := Lib.hid hb1
    clear hb1 hs1 r1 r2
    go_wp2_with fail
    go_ret2
    exact ⟨none, 0, rfl, HB1.out, Sr.nil _ _, fun _ => ⟨rfl, rfl⟩⟩
  · clear hf hY hm hl hA hk
    go_enter Tryd.func14, Tryd.ntmps14
    go_wp2_with fail
    ((with_reducible refine r1.mono ?_))
    rintro e w1 ⟨B, d, rfl, hb1, hs1, -⟩
    have HB1 := Lib.hid hb1
    have r3 := r2 (c := d) hs1
    clear hb1 hs1 r1
    go_wp2_with fail
    ((with_reducible refine r3.mono ?_))
    rintro e w2 ⟨B2, d2, rfl, hb2, hs2, hn2⟩
    have HB2 := Lib.hid (bel_trans HB1.out hb2)
    have HS2 := Lib.hid hs2
    have HN2 := Lib.hid hn2
    clear hb2 hs2 hn2 r3
    go_wp2_with fail
    go_ret2
    exact ⟨B2, d2, rfl, HB2.out, HS2.out, HN2.out⟩
set_option maxHeartbeats 1000000 in
theorem rderives_any {w : World} {A A2 : Option Addr} {n c n2 c2 : Nat} {R L : List Int} {X : List Sq} {is r : Bool} (hf : Ful R X is) (hr : derB is X L = r) (hl : R.length = n) (hn : n ≤ 1000) (hA : Ri w A R) (hl2 : L.length = n2) (hn2 : n2 ≤ 1000) (hA2 : Ri w A2 L) :
    Calls Tryd.prog 16 #[.slice A n c, .slice A2 n2 c2] w fun e w' => e = .returned (.bool r) ∧ Below w.heap.size w w' := by
  obtain ⟨Y, hY⟩ : ∃ Y, plS X = Y := ⟨_, rfl⟩
  obtain ⟨m, hm⟩ : ∃ m, Y.length = m := ⟨_, rfl⟩
  have r1 := ryield_any (c := c) hf hY hm hl hn hA
  have hm2 : m ≤ 10001 := by have h1 := ful_len hf; have h2 := plS_le X; rw [hY] at h2; omega
  rw [derB, hY] at hr
  have HA2 := Lib.hid hA2
  clear hf hY hl hn hA hA2
  cases is
  · have hr : false = r := hr
    subst hr
    clear hm hl2 hm2
    go_enter Tryd.func16, Tryd.ntmps16
    go_wp2_with fail
    ((with_reducible refine r1.mono ?_))
    rintro e w1 ⟨B, d, rfl, hb1, hs1, -⟩
    have HB1 := Lib.hid hb1
    clear hb1 hs1 r1
    go_wp2_with fail
    go_ret
    exact ⟨rfl, HB1.out⟩
  · by_cases hmn : m = n2
    · subst hmn
      have q1 : ((m : Int) != (m : Int)) = false := by simp
      rw [Bool.true_and, hm, hl2, decide_eq_true rfl, Bool.true_and] at hr
      have HR := Lib.hid hr
      have HM := Lib.hid hm
      have HL := Lib.hid hl2
      clear hr hm hl2
      go_enter Tryd.func16, Tryd.ntmps16
      go_wp2_with fail
      ((with_reducible refine r1.mono ?_))
      rintro e w1 ⟨B, d, rfl, hb1, hs1, -⟩
      have HB1 := Lib.hid hb1
      have HS1 := Lib.hid hs1
      clear hb1 hs1 r1
      go_wp2_with fail
      go_loopw [7] (fun q wr => ∃ k : Nat, q = .int .i64 k ∧ k ≤ m ∧ Hid (fitA (hdL L) k (Y.drop k) = r) ∧ Below w1.heap.size w1 wr) (fun q _ => m - (intOf q).toNat)
      case atStart => exact ⟨0, rfl, Nat.zero_le _, by rw [List.drop_zero]; exact HR, Below.refl _ _⟩
      case round =>
        obtain ⟨k, rfl, hk, hg, hB⟩ := hrel
        by_cases hlt : k < m
        · obtain ⟨t, htt⟩ : ∃ t, Y[k]? = some t := ⟨_, List.getElem?_eq_getElem (by rw [HM.out]; exact hlt)⟩
          obtain ⟨x, hx⟩ : ∃ x, L[k]? = some x := ⟨_, List.getElem?_eq_getElem (by rw [HL.out]; exact hlt)⟩
          obtain ⟨b, o, rfl, c0, c1⟩ := (HS1.out.below hB) k t htt
          have hbw := bel_trans HB1.out hB
          obtain ⟨b2, o2, rfl, e0⟩ := (HA2.out.below hbw) k x hx
          have hg' := hg.out
          rw [fitA_drop htt, hdL_some hx] at hg'
          have q2 : (k : Int) < (m : Int) := by omega
          obtain ⟨y, hy⟩ : ∃ y, fitK x t = y := ⟨_, rfl⟩
          rw [hy] at hg'
          have r2 := rfits_any (t := t) hy wr.drew
          have HB3 := Lib.hid (bel_trans hbw (Below.refl _ wr).drew)
          have HBB3 := Lib.hid (bel_trans hB (Below.refl _ wr).drew)
          clear htt hx hg hbw hy hB
          cases y
          · have hr2 : false = r := hg'
            subst hr2
            clear hg'
            go_wp2_with fail
            go_still_tail 8, (by kernel_rfl)
            change wpList _ _ _ _ _ wr.drew
            go_wp2_with fail
            ((with_reducible refine r2.mono ?_))
            rintro e w3 ⟨rfl, hb4⟩
            have HB4 := Lib.hid (bel_trans HB3.out hb4)
            clear hb4 r2
            go_wp2_with fail
            go_ret
            exact ⟨rfl, HB4.out⟩
          · have HG := Lib.hid (show fitA (hdL L) (k + 1) (Y.drop (k + 1)) = r from hg')
            clear hg'
            go_wp2_with fail
            go_still_tail 8, (by kernel_rfl)
            change wpList _ _ _ _ _ wr.drew
            go_wp2_with fail
            ((with_reducible refine r2.mono ?_))
            rintro e w3 ⟨rfl, hb4⟩
            have HB4 := Lib.hid (bel_trans HBB3.out hb4)
            clear hb4 r2
            go_wp2_with fail
            go_roundw
            case rel => exact ⟨k + 1, by go_num, by omega, HG, HB4.out⟩
            case measure => simp [intOf]; omega
        · obtain rfl : k = m := by omega
          have hg' := hg.out
          rw [List.drop_eq_nil_of_le (by rw [HM.out]; exact Nat.le_refl _), fitA] at hg'
          subst hg'
          have HB3 := Lib.hid (bel_trans HB1.out hB)
          clear hg hB
          go_wp2_with fail
          go_ret
          exact ⟨rfl, HB3.out⟩
    · have q1 : ((m : Int) != (n2 : Int)) = true := by simp; omega
      rw [Bool.true_and, hm, hl2, decide_eq_false hmn, Bool.false_and] at hr
      subst hr
      clear hm hl2 hmn
      go_enter Tryd.func16, Tryd.ntmps16
      go_wp2_with fail
      ((with_reducible refine r1.mono ?_))
      rintro e w1 ⟨B, d, rfl, hb1, hs1, -⟩
      have HB1 := Lib.hid hb1
      clear hb1 hs1 r1
      go_wp2_with fail
      go_ret
      exact ⟨rfl, HB1.out⟩
end Go.Proofs.YtcipfipfamecmaaDoor
