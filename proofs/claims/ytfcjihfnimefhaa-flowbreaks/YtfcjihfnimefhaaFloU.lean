/- The law FlowBreaks: its walk. -/
import Derived.Test.YtfcjihfnimefhaaFloQ
import Derived.Deep.LoopGhost
namespace Go.Proofs.Ytfcjihfnimefhaa
open Go.RowKit
set_option linter.unusedVariables false
set_option maxRecDepth 100000

/-- Behind the first i: how many are open, how many groups there were, where the last one breaks outside. -/
structure BrI (l : List Bq) (i : Nat) (o g la : Int) : Prop where
  op : o = oS (l.take i)
  g0 : 0 ≤ g ∧ g ≤ i
  gn : g = 0 → ∀ b ∈ l.take i, b.m ≠ 6
  la : la = -1 ∨ ∃ (j : Nat) (c : Bq), la = j ∧ j < i ∧ l[j]? = some c ∧ brF c.m = true ∧ oS (l.take j) = 0 ∧ ∀ i' b, j < i' → i' < i → l[i']? = some b → b.m ≠ 6
theorem BrI.start (l : List Bq) : BrI l 0 0 0 (-1) := ⟨rfl, ⟨Int.le_refl _, Int.le_refl _⟩, fun _ b hb => by simp at hb, .inl rfl⟩
theorem BrI.six {l : List Bq} {i : Nat} {o g la : Int} {t : Bq} (h : BrI l i o g la) (ht : l[i]? = some t) (h6 : t.m = 6) : BrI l (i + 1) (o + 1) (g + 1) (-1) := by
  obtain ⟨h1, h2, h3, h4⟩ := h
  have hn := oS_next ht
  have d : dO t.m = 1 := by rw [h6]; decide
  exact ⟨by rw [hn, d, h1], ⟨by omega, by omega⟩, fun e => by omega, .inl rfl⟩
theorem take_more {l : List Bq} {i : Nat} {t b : Bq} (ht : l[i]? = some t) (hb : b ∈ l.take (i + 1)) : b ∈ l.take i ∨ b = t := by
  obtain ⟨j, hj⟩ := List.mem_iff_getElem?.1 hb
  rw [List.getElem?_take] at hj
  split at hj
  · rcases Nat.lt_or_ge j i with h | h
    · exact .inl (List.mem_iff_getElem?.2 ⟨j, by rw [List.getElem?_take, if_pos h]; exact hj⟩)
    · obtain rfl : j = i := by omega
      rw [ht] at hj
      exact .inr (Option.some.inj hj).symm
  · cases hj
theorem BrI.seven {l : List Bq} {i : Nat} {o g la : Int} {t : Bq} (h : BrI l i o g la) (ht : l[i]? = some t) (h7 : t.m = 7) : BrI l (i + 1) (o - 1) g (-1) := by
  obtain ⟨h1, h2, h3, h4⟩ := h
  have hn := oS_next ht
  have d : dO t.m = -1 := by rw [h7]; decide
  refine ⟨by rw [hn, d, h1]; omega, ⟨by omega, by omega⟩, fun e b hb => ?_, .inl rfl⟩
  rcases take_more ht hb with h | rfl
  · exact h3 e b h
  · omega
theorem BrI.other {l : List Bq} {i : Nat} {o g la : Int} {t : Bq} (h : BrI l i o g la) (ht : l[i]? = some t) (h6 : t.m ≠ 6) (h7 : t.m ≠ 7) : BrI l (i + 1) o g la := by
  obtain ⟨h1, h2, h3, h4⟩ := h
  have hn := oS_next ht
  have d : dO t.m = 0 := by rcases dO_cases t.m with ⟨e, _⟩ | ⟨e, _⟩ | ⟨_, _, d⟩; exact absurd e h6; exact absurd e h7; exact d
  refine ⟨by rw [hn, d, h1]; omega, ⟨by omega, by omega⟩, fun e b hb => ?_, ?_⟩
  · rcases take_more ht hb with h | rfl
    · exact h3 e b h
    · exact h6
  · rcases h4 with h4 | ⟨j, c, e1, e2, e3, e4, e5, e6⟩
    · exact .inl h4
    · refine .inr ⟨j, c, e1, by omega, e3, e4, e5, fun i' b p1 p2 hb => ?_⟩
      rcases Nat.lt_or_ge i' i with h | h
      · exact e6 i' b p1 h hb
      · obtain rfl : i' = i := by omega
        rw [ht] at hb
        obtain rfl := Option.some.inj hb
        exact h6
theorem BrI.here {l : List Bq} {i : Nat} {o g la : Int} {t : Bq} (h : BrI l i o g la) (ht : l[i]? = some t) (hb : brF t.m = true) (h0 : o = 0) : BrI l (i + 1) o g i := by
  have hm := (brF_iff _).1 hb
  have h' := h.other ht (by omega) (by omega)
  exact { h' with la := .inr ⟨i, t, rfl, by omega, ht, hb, by rw [← h.op]; exact h0, fun i' b p1 p2 => by omega⟩ }
theorem BrI.tells {l : List Bq} {w : Int} {k : Nat} {o g la : Int} (h : BrI l k o g la) (hm : mayF 0 0 l = true) (hk : k ≤ l.length) : (0 < g ∨ hldN l w k = 0) ∧ (la = -1 ∨ hldN l w k = 0) := by
  obtain ⟨h1, h2, h3, h4⟩ := h
  refine ⟨?_, ?_⟩
  · by_cases e : g = 0
    · exact .inr (held_none (h3 e))
    · exact .inl (by omega)
  · rcases h4 with h4 | ⟨j, c, e1, e2, e3, e4, e5, e6⟩
    · exact .inl h4
    · exact .inr (held_break hm hk e2 e3 e4 e5 e6)
set_option maxHeartbeats 4000000 in
theorem breaks_law {w : World} {A : Option Addr} {n c : Nat} {l : List Bq} {W k : Int} (hA : Br w A l) (hn : l.length = n) (h0 : A = none → n = 0 ∧ c = 0) (hc : n ≤ c) (hv : vS l ≤ 1048576) :
    Calls Try.prog 6 #[.slice A n c, .int .i64 W, .int .i64 k] w fun e w' => e = .returned (.bool true) ∧ Below w.heap.size w w' := by
  have r1 := fun w => awake_any w
  have HA := Lib.hid hA
  have HL := Lib.hid hn
  have H0 := Lib.hid h0
  have HV := Lib.hid (Nat.le_trans hv (by decide) : vS l ≤ 100000000)
  clear hA hn h0 hv
  go_enter Try.func6, Try.ntmps6
  go_wp2_with fail
  ((with_reducible refine (r1 _).mono ?_))
  rintro e w1 ⟨rfl, hb1⟩
  have HB1 := Lib.hid hb1
  clear hb1 r1
  by_cases h3 : 60 < n
  · have q3 : (60 : Int) < (n : Int) := by omega
    go_wp2
    go_ret
    exact ⟨rfl, HB1.out⟩
  have q3 : ¬ (60 : Int) < (n : Int) := by omega
  obtain ⟨r, hr⟩ : ∃ r, rmF l W = r := ⟨_, rfl⟩
  have r5 := fun w h => wroom_any (w := w) (A := A) (n := n) (c := c) hr h HL.out (by omega)
  go_wp2_with fail
  ((with_reducible refine (r5 _ (HA.out.below HB1.out)).mono ?_))
  rintro e w2 ⟨rfl, hb2⟩
  have HB2 := Lib.hid (bel_trans HB1.out hb2)
  clear hb2 r5
  cases r with
  | false =>
    go_wp2
    go_ret
    exact ⟨rfl, HB2.out⟩
  | true =>
  by_cases ha : k < 0
  · go_wp2
    go_ret
    exact ⟨rfl, HB2.out⟩
  obtain ⟨K, rfl⟩ : ∃ K : Nat, k = K := ⟨k.toNat, by omega⟩
  by_cases hb : n < K
  · have qb : (n : Int) < (K : Int) := by omega
    go_wp2
    go_ret
    exact ⟨rfl, HB2.out⟩
  have qb : ¬ (n : Int) < (K : Int) := by omega
  have r2 := fun w h => flow_yes (w := w) (A := A) (n := n) (c := c) (k := K) hr h HL.out H0.out hc (by omega) HV.out (by omega)
  have HTE := Lib.hid (fun (o g la : Int) (h : BrI l K o g la) => h.tells (w := W) (rm_may hr) (by rw [HL.out]; omega))
  have HOS := Lib.hid (fun (i : Nat) => (show 0 ≤ oS (l.take i) from by
    rcases (mayF_sum (rm_may hr)).2 i with h | h
    · omega
    · rw [h]; simp [oS]))
  have HOK := Lib.hid (mayF_ok (rm_may hr))
  obtain ⟨x, hx⟩ : ∃ x, hldN l W K = x := ⟨_, rfl⟩
  rw [hx] at r2 HTE
  have qb2 : ¬ n < K := by omega
  have qb3 : decide (n < K) = false := decide_eq_false qb2
  clear hr h3 hx hb ha
  go_wp2_with fail
  go_loopg [8, 9, 10, 11] K (fun gh o g la i wr => ∃ (j : Nat) (O G L : Int), j + gh = K ∧ i = .int .i64 j ∧ o = .int .i64 O ∧ g = .int .i64 G ∧ la = .int .i64 L ∧ Hid (BrI l j O G L) ∧ Hid (Below w.heap.size w wr))
  case atStart => exact ⟨0, 0, 0, -1, by omega, rfl, rfl, rfl, rfl, Lib.hid (BrI.start l), HB2⟩
  case round =>
    obtain ⟨j, O, G, L, hjK, rfl, rfl, rfl, rfl, hI, hB⟩ := hrel
    cases gk with
    | succ gg =>
      have hlt : j < K := by omega
      obtain ⟨t, ht⟩ : ∃ t, l[j]? = some t := ⟨_, List.getElem?_eq_getElem (by rw [HL.out]; omega)⟩
      obtain ⟨b0, o0, rfl, d0, d1⟩ := (HA.out.below hB.out) j t ht
      have hmk := (ok_marks (HOK.out t (List.mem_of_getElem? ht))).2.2
      have HO := Lib.hid hI.out.op
      have hO0 : 0 ≤ O := by rw [HO.out]; exact HOS.out j
      have hOb := oS_bd (l.take j)
      rw [← HO.out, List.length_take] at hOb
      have hG := hI.out.g0
      obtain ⟨br, hbr⟩ : ∃ br, brF t.m = br := ⟨_, rfl⟩
      have r4 := fun w => sbreaks_any (w := w) (v := t.v) hmk hbr
      have H6 := Lib.hid (fun e => hI.out.six ht e)
      have H7 := Lib.hid (fun e => hI.out.seven ht e)
      have H8 := Lib.hid (fun e e2 => hI.out.other ht e e2)
      have H9 := Lib.hid (fun e e2 => hI.out.here ht e e2)
      obtain ⟨tm, tv⟩ := t
      dsimp only at d0 d1 hbr r4 H6 H7 H8 H9
      have hwO : IntKind.i64.wrap (O + 1) = O + 1 := IntWalk.i64_in _ (by omega)
      have hwM : IntKind.i64.wrap (O - 1) = O - 1 := IntWalk.i64_in _ (by omega)
      have hwG : IntKind.i64.wrap (G + 1) = G + 1 := IntWalk.i64_in _ (by omega)
      have hwj : IntKind.i64.wrap ((j : Int) + 1) = (j : Int) + 1 := IntWalk.i64_in _ (by omega)
      have qn : (j : Int) < (n : Int) := by omega
      clear ht hmk hOb hG hI
      by_cases e6 : tm = 6
      · subst e6
        obtain rfl : br = false := hbr.symm
        have qz : (O + 1 == 0) = false := beq_eq_false_iff_ne.2 (by omega)
        have H6' := Lib.hid (H6.out rfl)
        clear hbr hO0 H6 H7 H8 H9
        go_wp2_with fail
        ((with_reducible refine (r4 _).mono ?_))
        rintro e w3 ⟨rfl, hb3⟩
        have HB3 := Lib.hid (bel_trans hB.out hb3)
        clear hb3 r4 d0 d1
        go_wp2_with fail
        go_roundg gg
        case rel => exact ⟨j + 1, O + 1, G + 1, -1, by omega, by go_num, rfl, rfl, rfl, Lib.hid (H6'.out), HB3⟩
        case measure => omega
      have q6 : (tm == 6) = false := beq_eq_false_iff_ne.2 e6
      by_cases e7 : tm = 7
      · subst e7
        obtain rfl : br = false := hbr.symm
        have H7' := Lib.hid (H7.out rfl)
        clear hbr hO0 H6 H7 H8 H9 e6
        by_cases hz : O - 1 = 0
        · have qz : (O - 1 == 0) = true := beq_iff_eq.2 hz
          clear hz
          go_wp2_with fail
          ((with_reducible refine (r4 _).mono ?_))
          rintro e w3 ⟨rfl, hb3⟩
          have HB3 := Lib.hid (bel_trans hB.out hb3)
          clear hb3 r4 d0 d1
          go_wp2_with fail
          go_roundg gg
          case rel => exact ⟨j + 1, O - 1, G, -1, by omega, by go_num, rfl, rfl, rfl, Lib.hid (H7'.out), HB3⟩
          case measure => omega
        · have qz : (O - 1 == 0) = false := beq_eq_false_iff_ne.2 hz
          clear hz
          go_wp2_with fail
          ((with_reducible refine (r4 _).mono ?_))
          rintro e w3 ⟨rfl, hb3⟩
          have HB3 := Lib.hid (bel_trans hB.out hb3)
          clear hb3 r4 d0 d1
          go_wp2_with fail
          go_roundg gg
          case rel => exact ⟨j + 1, O - 1, G, -1, by omega, by go_num, rfl, rfl, rfl, Lib.hid (H7'.out), HB3⟩
          case measure => omega
      have q7 : (tm == 7) = false := beq_eq_false_iff_ne.2 e7
      have H8' := Lib.hid (H8.out e6 e7)
      by_cases hz : O = 0
      · subst hz
        cases br with
        | true =>
          have H9' := Lib.hid (H9.out hbr rfl)
          clear hbr hO0 H6 H7 H8 H9 e6 e7
          go_wp2_with fail
          ((with_reducible refine (r4 _).mono ?_))
          rintro e w3 ⟨rfl, hb3⟩
          have HB3 := Lib.hid (bel_trans hB.out hb3)
          clear hb3 r4 d0 d1
          go_wp2_with fail
          go_roundg gg
          case rel => exact ⟨j + 1, 0, G, (j : Int), by omega, by go_num, rfl, rfl, rfl, Lib.hid (H9'.out), HB3⟩
          case measure => omega
        | false =>
          clear hbr hO0 H6 H7 H8 H9 e6 e7
          go_wp2_with fail
          ((with_reducible refine (r4 _).mono ?_))
          rintro e w3 ⟨rfl, hb3⟩
          have HB3 := Lib.hid (bel_trans hB.out hb3)
          clear hb3 r4 d0 d1
          go_wp2_with fail
          go_roundg gg
          case rel => exact ⟨j + 1, 0, G, L, by omega, by go_num, rfl, rfl, rfl, Lib.hid (H8'.out), HB3⟩
          case measure => omega
      · have qz : (O == 0) = false := beq_eq_false_iff_ne.2 hz
        clear hbr hO0 H6 H7 H8 H9 e6 e7 hz
        go_wp2_with fail
        ((with_reducible refine (r4 _).mono ?_))
        rintro e w3 ⟨rfl, hb3⟩
        have HB3 := Lib.hid (bel_trans hB.out hb3)
        clear hb3 r4 d0 d1
        go_wp2_with fail
        go_roundg gg
        case rel => exact ⟨j + 1, O, G, L, by omega, by go_num, rfl, rfl, rfl, Lib.hid (H8'.out), HB3⟩
        case measure => omega
    | zero =>
      obtain rfl : j = K := by omega
      obtain ⟨t1, t2⟩ := HTE.out O G L hI.out
      clear hI
      by_cases hx0 : x = 0
      · subst hx0
        have e0 : ((0 : Nat) : Int) = 0 := rfl
        simp only [e0] at r2
        clear t1 t2 e0
        by_cases hg : 0 < G
        · by_cases hL : L = -1
          · subst hL
            go_wp2_with fail
            ((with_reducible refine (r2 _ (HA.out.below hB.out)).mono ?_))
            rintro e w3 ⟨rfl, hb3⟩
            have HB3 := Lib.hid (bel_trans hB.out hb3)
            clear hb3 r2
            go_wp2_with fail
            go_ret
            exact ⟨rfl, HB3.out⟩
          · have qL : (L == -1) = false := beq_eq_false_iff_ne.2 hL
            clear hL
            go_wp2_with fail
            ((with_reducible refine (r2 _ (HA.out.below hB.out)).mono ?_))
            rintro e w3 ⟨rfl, hb3⟩
            have HB3 := Lib.hid (bel_trans hB.out hb3)
            clear hb3 r2
            go_wp2_with fail
            go_ret
            exact ⟨rfl, HB3.out⟩
        · by_cases hL : L = -1
          · subst hL
            go_wp2_with fail
            ((with_reducible refine (r2 _ (HA.out.below hB.out)).mono ?_))
            rintro e w3 ⟨rfl, hb3⟩
            have HB3 := Lib.hid (bel_trans hB.out hb3)
            clear hb3 r2
            go_wp2_with fail
            go_ret
            exact ⟨rfl, HB3.out⟩
          · have qL : (L == -1) = false := beq_eq_false_iff_ne.2 hL
            clear hL
            go_wp2_with fail
            ((with_reducible refine (r2 _ (HA.out.below hB.out)).mono ?_))
            rintro e w3 ⟨rfl, hb3⟩
            have HB3 := Lib.hid (bel_trans hB.out hb3)
            clear hb3 r2
            go_wp2_with fail
            go_ret
            exact ⟨rfl, HB3.out⟩
      · have hg : 0 < G := t1.resolve_right hx0
        obtain rfl : L = -1 := t2.resolve_right hx0
        clear t1 t2 hx0
        go_wp2_with fail
        ((with_reducible refine (r2 _ (HA.out.below hB.out)).mono ?_))
        rintro e w3 ⟨rfl, hb3⟩
        have HB3 := Lib.hid (bel_trans hB.out hb3)
        clear hb3 r2
        go_wp2_with fail
        go_ret
        exact ⟨rfl, HB3.out⟩
end Go.Proofs.Ytfcjihfnimefhaa
