/- The law YieldFirst: its walk. -/
import Derived.Test.YtcipfipfamecmaaDoorYieG
namespace Go.Proofs.YtcipfipfamecmaaDoor
open Go.RowKit
set_option linter.unusedVariables false
set_option maxRecDepth 100000

/-- Get of a rule that is there. -/
def GhE (w : World) (e : Ending) (w' : World) : Prop := ∃ v A n c, e = .returned (.tuple #[.agg #[.int .i64 v, .slice A n c], .bool true]) ∧ Below w.heap.size w w'
theorem get_there {i : Int} (h : 0 ≤ i ∧ i < 90) {w : World} (ht : TabR w) : Calls Tryd.prog 21 #[.int .i64 i] w fun e w' => GhE w e w' := by
  refine (getp_any i rfl rfl rfl (show isI i = true from decide_eq_true h) ht).mono ?_
  rintro e w' ⟨A, c, rfl, hb, -⟩
  exact ⟨_, _, _, _, rfl, hb⟩
set_option maxHeartbeats 4000000 in
theorem first_law (i : Int) {w : World} {A : Option Addr} {n c : Nat} {R : List Int} (hl : R.length = n) (hc : n ≤ c) (hA : Ri w A R) (ht : TabR w) :
    Calls Tryd.prog 8 #[.slice A n c, .int .i64 i] w fun e w' => e = .returned (.bool true) ∧ Below w.heap.size w w' := by
  have HT := Lib.hid ht
  by_cases h600 : 600 < n
  · have q1 : (600 : Int) < (n : Int) := by omega
    clear h600 hl hA ht
    go_enter Tryd.func8, Tryd.ntmps8
    go_wp2_with fail
    ((with_reducible refine (awake_any _ HT.out).mono ?_))
    rintro e w1 ⟨rfl, hb1⟩
    have HB1 := Lib.hid hb1
    clear hb1
    go_wp2_with fail
    go_ret
    exact ⟨rfl, HB1.out⟩
  have q1 : ¬ (600 : Int) < (n : Int) := by omega
  obtain ⟨X, is, hf⟩ := ful_ex R
  obtain ⟨m, hm⟩ : ∃ m, X.length = m := ⟨_, rfl⟩
  have r1 := fun w h h' => full_any (w := w) (A := A) (c := c) hf hm hl hc (by omega) h h'
  have HA := Lib.hid hA
  cases is
  · clear hl hA ht h600 hf hm
    go_enter Tryd.func8, Tryd.ntmps8
    go_wp2_with fail
    ((with_reducible refine (awake_any _ HT.out).mono ?_))
    rintro e w1 ⟨rfl, hb1⟩
    have HB1 := Lib.hid hb1
    clear hb1
    go_wp2_with fail
    ((with_reducible refine (r1 _ (HA.out.below HB1.out) (HT.out.below HB1.out)).mono ?_))
    rintro e w2 ⟨B2, d2, rfl, hb2, -, -⟩
    have HB2 := Lib.hid (bel_trans HB1.out hb2)
    clear hb2
    go_wp2_with fail
    go_ret
    exact ⟨by simp, HB2.out⟩
  · obtain ⟨R', rfl, hless⟩ := ful_first hf
    have hth := hf.yes.there rfl rfl
    obtain ⟨b, o, rfl, c0⟩ := hA 0 0 rfl
    rw [Nat.add_zero] at c0
    obtain ⟨N, hN⟩ : ∃ N, R'.length = N := ⟨_, rfl⟩
    obtain rfl : N + 1 = n := by rw [← hN]; exact hl
    obtain ⟨X2, is2, hf2⟩ := ful_ex R'
    obtain rfl : is2 = false := hless hf2
    obtain rfl : X2 = [] := hf2.no
    have hcc : (c = 1 ∧ N = 0) ∨ ∃ c', c = c' + 2 := by
      by_cases e : c = 1
      · exact .inl ⟨e, by omega⟩
      · exact .inr ⟨c - 2, by omega⟩
    have q0 : ((N : Int) + 1 == 0) = false := by simp; omega
    have q3 : (0 : Int) < (N : Int) + 1 := by omega
    have q4 : (1 : Int) ≤ (N : Int) + 1 := by omega
    have hget : ∀ j : Nat, j < N + 1 → ∃ x, 0 ≤ x ∧ x < 90 ∧ w.cell? ⟨b, o + j, none⟩ = some (.int .i64 x) := by
      intro j hjn
      obtain ⟨x, hx⟩ : ∃ x, (0 :: R')[j]? = some x := ⟨_, List.getElem?_eq_getElem (by rw [hl]; exact hjn)⟩
      obtain ⟨b', o', e, cx⟩ := HA.out j x hx
      obtain ⟨rfl, rfl⟩ : b = b' ∧ o = o' := by simpa using e
      have h2 := hth x (List.mem_of_getElem? hx)
      exact ⟨x, h2.1, h2.2, cx⟩
    have r3 := fun w h => get_there (i := 0) (w := w) (by omega) h
    have HTL := Lib.hid (ri_tail hA)
    have HG := Lib.hid hget
    have HC0 := Lib.hid c0
    have HN := Lib.hid hN
    have HF2 := Lib.hid hf2
    have hin : (0 ≤ i ∧ i < (N : Int) + 1) ∨ (i < 0) ∨ (0 ≤ i ∧ ¬ i < (N : Int) + 1) := by omega
    clear hl hA ht hf hm hless hth hf2 hget c0 hN
    rcases hcc with ⟨rfl, rfl⟩ | ⟨c', rfl⟩
    all_goals
      have r2 := by
        first
          | exact fun w' (hb : Below w.heap.size w w') => full_any (w := w') (A := some ⟨b, o, none⟩) (c := 0) (n := 0) (m := 0) HF2.out rfl HN.out (by omega) (by omega) (by rw [List.eq_nil_of_length_eq_zero HN.out]; exact Ri.nil _ _) (HT.out.below hb)
          | exact fun w' (hb : Below w.heap.size w w') => full_any (w := w') (A := some ⟨b, o + 1, none⟩) (c := c' + 1) (n := N) (m := 0) HF2.out rfl HN.out (by omega) (by omega) (HTL.out.below hb) (HT.out.below hb)
      clear HTL HF2 HN
      rcases hin with ⟨q5, q6⟩ | hin
      · obtain ⟨j, rfl⟩ := Int.eq_ofNat_of_zero_le q5
        obtain ⟨x, x0, x9, cx⟩ := HG.out j (by omega)
        have r4 := fun w h => get_there (i := x) (w := w) ⟨x0, x9⟩ h
        have HCX := Lib.hid cx
        clear cx x0 x9
        go_enter Tryd.func8, Tryd.ntmps8
        go_wp2_with fail
        ((with_reducible refine (awake_any _ HT.out).mono ?_))
        rintro e w1 ⟨rfl, hb1⟩
        have HB1 := Lib.hid hb1
        clear hb1
        go_wp2_with fail
        ((with_reducible refine (r1 _ (HA.out.below HB1.out) (HT.out.below HB1.out)).mono ?_))
        rintro e w2 ⟨B2, d2, rfl, hb2, -, -⟩
        have HB2 := Lib.hid (bel_trans HB1.out hb2)
        have c2 := bel_cell HB2.out HC0.out
        clear hb2
        go_wp2_with fail
        ((with_reducible refine (r2 _ HB2.out).mono ?_))
        rintro e w3 ⟨B3, d3, rfl, hb3, -, -⟩
        have HB3 := Lib.hid (bel_trans HB2.out hb3)
        have c3 := bel_cell HB3.out HC0.out
        clear hb3 c2
        go_wp2_with fail
        ((with_reducible refine (r3 _ (HT.out.below HB3.out)).mono ?_))
        rintro e w4 ⟨v4, B4, n4, d4, rfl, hb4⟩
        have HB4 := Lib.hid (bel_alloc (bel_trans HB3.out hb4) (.cells #[.int .i64 v4, .slice B4 n4 d4] 37))
        have c4 := bel_cell HB4.out HCX.out
        have l4 := World.block_lt_of_cell? _ _ (bel_cell (bel_trans HB3.out hb4) HCX.out)
        have c5 := bel_cell (bel_trans HB3.out hb4) HCX.out
        clear hb4 c3
        go_wp2_with fail
        ((with_reducible refine (r4 _ (HT.out.below HB4.out)).mono ?_))
        rintro e w5 ⟨v5, B5, n5, d5, rfl, hb5⟩
        have HB5 := Lib.hid (bel_alloc (bel_trans HB4.out hb5) (.cells #[.int .i64 v5, .slice B5 n5 d5] 37))
        clear hb5 c4 c5
        go_wp2_with fail
        go_ret
        exact ⟨by simp, HB5.out⟩
      · rcases hin with q5 | ⟨q5, q6⟩
        · have q7 : ¬ 0 ≤ i := by omega
          go_enter Tryd.func8, Tryd.ntmps8
          go_wp2_with fail
          ((with_reducible refine (awake_any _ HT.out).mono ?_))
          rintro e w1 ⟨rfl, hb1⟩
          have HB1 := Lib.hid hb1
          clear hb1
          go_wp2_with fail
          ((with_reducible refine (r1 _ (HA.out.below HB1.out) (HT.out.below HB1.out)).mono ?_))
          rintro e w2 ⟨B2, d2, rfl, hb2, -, -⟩
          have HB2 := Lib.hid (bel_trans HB1.out hb2)
          have c2 := bel_cell HB2.out HC0.out
          clear hb2
          go_wp2_with fail
          ((with_reducible refine (r2 _ HB2.out).mono ?_))
          rintro e w3 ⟨B3, d3, rfl, hb3, -, -⟩
          have HB3 := Lib.hid (bel_trans HB2.out hb3)
          have c3 := bel_cell HB3.out HC0.out
          clear hb3 c2
          go_wp2_with fail
          ((with_reducible refine (r3 _ (HT.out.below HB3.out)).mono ?_))
          rintro e w4 ⟨v4, B4, n4, d4, rfl, hb4⟩
          have HB4 := Lib.hid (bel_alloc (bel_trans HB3.out hb4) (.cells #[.int .i64 v4, .slice B4 n4 d4] 37))
          clear hb4 c3
          go_wp2_with fail
          go_ret
          exact ⟨by simp, HB4.out⟩
        · skip
          go_enter Tryd.func8, Tryd.ntmps8
          go_wp2_with fail
          ((with_reducible refine (awake_any _ HT.out).mono ?_))
          rintro e w1 ⟨rfl, hb1⟩
          have HB1 := Lib.hid hb1
          clear hb1
          go_wp2_with fail
          ((with_reducible refine (r1 _ (HA.out.below HB1.out) (HT.out.below HB1.out)).mono ?_))
          rintro e w2 ⟨B2, d2, rfl, hb2, -, -⟩
          have HB2 := Lib.hid (bel_trans HB1.out hb2)
          have c2 := bel_cell HB2.out HC0.out
          clear hb2
          go_wp2_with fail
          ((with_reducible refine (r2 _ HB2.out).mono ?_))
          rintro e w3 ⟨B3, d3, rfl, hb3, -, -⟩
          have HB3 := Lib.hid (bel_trans HB2.out hb3)
          have c3 := bel_cell HB3.out HC0.out
          clear hb3 c2
          go_wp2_with fail
          ((with_reducible refine (r3 _ (HT.out.below HB3.out)).mono ?_))
          rintro e w4 ⟨v4, B4, n4, d4, rfl, hb4⟩
          have HB4 := Lib.hid (bel_alloc (bel_trans HB3.out hb4) (.cells #[.int .i64 v4, .slice B4 n4 d4] 37))
          clear hb4 c3
          go_wp2_with fail
          go_ret
          exact ⟨by simp, HB4.out⟩
end Go.Proofs.YtcipfipfamecmaaDoor
