/- The law RuleUsed: its walk. -/
import Derived.Test.YtgjinkekepfnnaaDoorRulD
namespace Go.Proofs.YtgjinkekepfnnaaDoor
open Go.RowKit
set_option linter.unusedVariables false
set_option maxRecDepth 100000

/-- How often variable v stands in a row of symbols. -/
def cntV (v : Int) (l : List Sq) : Nat := (l.filter fun t => t.k == 1 && t.n == v).length
theorem cntV_le (v : Int) (l : List Sq) : cntV v l ≤ l.length := List.length_filter_le _ _
theorem cntV_take {v : Int} {l : List Sq} {k : Nat} {t : Sq} (h : l[k]? = some t) : cntV v (l.take (k + 1)) = cntV v (l.take k) + (if t.k = 1 ∧ t.n = v then 1 else 0) := by
  unfold cntV
  rw [List.take_add_one, h, Option.toList_some, List.filter_append, List.length_append]
  by_cases g : t.k = 1 ∧ t.n = v
  · simp [g]
  · rw [if_neg g]
    have : (t.k == 1 && t.n == v) = false := by
      by_cases g1 : t.k = 1 <;> by_cases g2 : t.n = v <;> simp_all
    simp [this]
/-- And in the rules below i. -/
def usdV (v : Int) : Nat → Nat
  | 0 => 0
  | i + 1 => usdV v i + cntV v (symR i)
theorem usdV_le (v : Int) : ∀ i, i ≤ 90 → usdV v i ≤ i * 10
  | 0, _ => Nat.le_refl _
  | i + 1, h => by
    have := usdV_le v i (by omega)
    have h2 := cntV_le v (symR i)
    have h3 := tlR_len i (by omega)
    rw [symR_len] at h2
    rw [usdV]; omega
theorem usdV_all : ∀ v : Nat, v < 43 → (decide (0 < usdV v 90) = decide (0 < v)) := by decide +kernel

set_option maxHeartbeats 4000000 in
theorem used_law (v : Int) {w : World} (ht : TabR w) : Calls Tryd.prog 8 #[.int .i64 v] w fun e w' => e = .returned (.bool true) ∧ Below w.heap.size w w' := by
  have HT := Lib.hid ht
  clear ht
  by_cases h0 : v < 0
  · go_enter Tryd.func8, Tryd.ntmps8
    go_wp2_with fail
    refine (awake_any _ HT.out).mono ?_
    rintro e w1 ⟨rfl, hb1⟩
    go_wp2
    go_ret
    exact ⟨by simp, hb1⟩
  by_cases h1 : 43 ≤ v
  · go_enter Tryd.func8, Tryd.ntmps8
    go_wp2_with fail
    refine (awake_any _ HT.out).mono ?_
    rintro e w1 ⟨rfl, hb1⟩
    go_wp2_with fail
    refine (vars_any _).mono ?_
    rintro e w' ⟨rfl, rfl⟩
    go_wp2_with fail
    go_ret
    exact ⟨by simp, hb1⟩
  have hall := usdV_all v.toNat (by omega)
  obtain ⟨N, hN⟩ : ∃ N, usdV v 90 = N := ⟨_, rfl⟩
  rw [show ((v.toNat : Nat) : Int) = v by omega, hN] at hall
  have hN2 : (decide (0 < N) = true ∧ 0 < v) ∨ (N = 0 ∧ v = 0) := by
    by_cases g : 0 < N
    · left; rw [decide_eq_true g] at hall; have := of_decide_eq_true hall.symm; exact ⟨by simpa using g, by omega⟩
    · right; rw [decide_eq_false g] at hall; have := of_decide_eq_false hall.symm; exact ⟨by omega, by omega⟩
  have HN := Lib.hid hN
  have HN2 := Lib.hid hN2
  clear hall hN hN2
  go_enter Tryd.func8, Tryd.ntmps8
  go_wp2_with fail
  refine (awake_any _ HT.out).mono ?_
  rintro e w1 ⟨rfl, hb1⟩
  have HB1 := Lib.hid hb1
  clear hb1
  go_wp2_with fail
  refine (vars_any _).mono ?_
  rintro e w' ⟨rfl, rfl⟩
  go_wp2_with fail
  go_loopw [4, 5] (fun n i wr => ∃ k : Nat, i = .int .i64 k ∧ k ≤ 90 ∧ n = .int .i64 (usdV v k : Nat) ∧ Below w.heap.size w wr) (fun _ i _ => 90 - (intOf i).toNat)
  case atStart => exact ⟨0, rfl, by decide, rfl, HB1.out⟩
  case round =>
    obtain ⟨k, rfl, hk, rfl, hB⟩ := hrel
    have HB := Lib.hid hB
    clear hB
    by_cases hlt : k < 90
    · have q1 : (k : Int) < 90 := by omega
      have q2 : (k : Int) < 200 := by omega
      have hu := usdV_le v k hk
      have hun : usdV v (k + 1) = usdV v k + cntV v (symR k) := rfl
      have HUN := Lib.hid hun
      obtain ⟨U, hU⟩ : ∃ U, usdV v k = U := ⟨_, rfl⟩
      rw [hU] at HUN hu ⊢
      obtain ⟨vv, hvv⟩ : ∃ x, (varR k : Int) = x := ⟨_, rfl⟩
      obtain ⟨sy, hsy⟩ : ∃ x, symR k = x := ⟨_, rfl⟩
      obtain ⟨m, hm⟩ : ∃ x, sy.length = x := ⟨_, rfl⟩
      have rg := fun (w : World) (h : TabR w) => get_as hlt hvv hsy hm h
      have hm10 : m ≤ 10 := by rw [← hm, ← hsy, symR_len]; exact tlR_len k hlt
      rw [hsy] at HUN
      have HM := Lib.hid hm
      clear hun hU hvv hsy hm
      go_wp2_with fail
      refine (count_any _).mono ?_
      rintro e w' ⟨rfl, rfl⟩
      go_wp2_with fail
      ((with_reducible refine (rg _ (HT.out.below HB.out)).mono ?_))
      rintro e w2 ⟨X, cx, rfl, hb2, hX, -⟩
      have hbo := bel_alloc (Below.refl _ w2) (.cells #[.int .i64 vv, .slice X m cx] 25)
      have HX := Lib.hid (hX.below hbo)
      obtain ⟨p0, p1, -, -⟩ := B2.new w2 (.int .i64 vv) (.slice X m cx) 25
      have HB2 := Lib.hid (bel_trans (bel_trans HB.out hb2) hbo)
      clear hb2 hX rg hbo
      go_wp2_with fail
      go_loop [4, 8] (fun n i => ∃ j : Nat, i = .int .i64 j ∧ j ≤ m ∧ n = .int .i64 ((U + cntV v (sy.take j) : Nat) : Int)) (fun _ i => m - (intOf i).toNat)
      case atStart => exact ⟨0, rfl, Nat.zero_le _, rfl⟩
      case round =>
        obtain ⟨j, rfl, hj, rfl⟩ := hrel
        by_cases hlt2 : j < m
        · obtain ⟨t, ht⟩ : ∃ t, sy[j]? = some t := ⟨_, List.getElem?_eq_getElem (by rw [HM.out]; exact hlt2)⟩
          obtain ⟨b, o, rfl, c0, c1⟩ := HX.out j t ht
          have hc := cntV_take (v := v) ht
          have hle := cntV_le v (sy.take j)
          have hle2 : (sy.take j).length ≤ j := by rw [List.length_take]; omega
          generalize cntV v (sy.take j) = C at *
          have z1 : U + C ≤ 1000 := by omega
          clear ht hle hle2
          by_cases e1 : t.k = 1
          · by_cases e2 : t.n = v
            · rw [if_pos ⟨e1, e2⟩] at hc
              have HC := Lib.hid hc
              have q3 : (t.k == 1) = true := by simpa using e1
              have q4 : (t.n == v) = true := by simpa using e2
              clear hc e1 e2
              go_wp2_with fail
              go_round
              case rel => exact ⟨j + 1, by go_num, by omega, by rw [HC.out]; go_num⟩
              case measure => simp [intOf]; omega
            · rw [if_neg (fun h => e2 h.2)] at hc
              have HC := Lib.hid hc
              have q3 : (t.k == 1) = true := by simpa using e1
              have q4 : (t.n == v) = false := by simpa using e2
              clear hc e1 e2
              go_wp2_with fail
              go_round
              case rel => exact ⟨j + 1, by go_num, by omega, by rw [HC.out]; rfl⟩
              case measure => simp [intOf]; omega
          · rw [if_neg (fun h => e1 h.1)] at hc
            have HC := Lib.hid hc
            have q3 : (t.k == 1) = false := by simpa using e1
            clear hc e1
            go_wp2_with fail
            go_round
            case rel => exact ⟨j + 1, by go_num, by omega, by rw [HC.out]; rfl⟩
            case measure => simp [intOf]; omega
        · obtain rfl : j = m := by omega
          have he : U + cntV v (sy.take j) = usdV v (k + 1) := by rw [List.take_of_length_le (by rw [HM.out]; exact Nat.le_refl _), HUN.out]
          have HE := Lib.hid he
          generalize U + cntV v (sy.take j) = C at *
          clear he
          go_wp2_with fail
          go_roundw
          case rel => exact ⟨k + 1, by go_num, by omega, by rw [HE.out], HB2.out⟩
          case measure => simp [intOf]; omega
    · obtain rfl : k = 90 := by omega
      rw [HN.out]
      rcases HN2.out with ⟨g1, g2⟩ | ⟨rfl, rfl⟩
      · have g3 := of_decide_eq_true g1
        have g4 : (0 : Int) < (N : Int) := by omega
        go_wp2_with fail
        refine (count_any _).mono ?_
        rintro e w' ⟨rfl, rfl⟩
        go_wp2_with fail
        go_ret
        exact ⟨by simp, HB.out⟩
      · go_wp2_with fail
        refine (count_any _).mono ?_
        rintro e w' ⟨rfl, rfl⟩
        go_wp2_with fail
        go_ret
        exact ⟨by simp, HB.out⟩
end Go.Proofs.YtgjinkekepfnnaaDoor
