/- The law RuleApart: its walk. -/
import Derived.Test.YtgjinkekepfnnaaDoorRulD
import Derived.Test.YtgjinkekepfnnaaDoorSymF
namespace Go.Proofs.YtgjinkekepfnnaaDoor
open Go.RowKit
set_option linter.unusedVariables false
set_option maxRecDepth 100000

theorem apart : ∀ i, i < 90 → ∀ k, k < 90 → i ≠ k → varR i = varR k → sameS (plS (symR i)) (plS (symR k)) = false := by decide +kernel
set_option maxHeartbeats 4000000 in
theorem apart_law (i k : Int) {w : World} (ht : TabR w) : Calls Tryd.prog 7 #[.int .i64 i, .int .i64 k] w fun e w' => e = .returned (.bool true) ∧ Below w.heap.size w w' := by
  have HT := Lib.hid ht
  clear ht
  by_cases hi : 0 ≤ i ∧ i < 90
  · obtain ⟨a, rfl⟩ := Int.eq_ofNat_of_zero_le hi.1
    have ha : a < 90 := by omega
    clear hi
    obtain ⟨va, hva⟩ : ∃ v, (varR a : Int) = v := ⟨_, rfl⟩
    obtain ⟨sa, hsa⟩ : ∃ v, symR a = v := ⟨_, rfl⟩
    obtain ⟨na, hna⟩ : ∃ n, sa.length = n := ⟨_, rfl⟩
    have ra := fun (w : World) (h : TabR w) => get_as ha hva hsa hna h
    by_cases hk : 0 ≤ k ∧ k < 90
    · obtain ⟨b, rfl⟩ := Int.eq_ofNat_of_zero_le hk.1
      have hb : b < 90 := by omega
      clear hk
      obtain ⟨vb, hvb⟩ : ∃ v, (varR b : Int) = v := ⟨_, rfl⟩
      obtain ⟨sb, hsb⟩ : ∃ v, symR b = v := ⟨_, rfl⟩
      obtain ⟨nb, hnb⟩ : ∃ n, sb.length = n := ⟨_, rfl⟩
      have rb := fun (w : World) (h : TabR w) => get_as hb hvb hsb hnb h
      by_cases hgo : a ≠ b ∧ va = vb
      · obtain ⟨hab, hv⟩ := hgo
        have qab : ((a : Int) == (b : Int)) = false := by simp; omega
        have hap := apart a ha b hb hab (by omega)
        rw [hsa, hsb] at hap
        obtain ⟨la, hla⟩ : ∃ l, plS sa = l := ⟨_, rfl⟩
        obtain ⟨lb, hlb⟩ : ∃ l, plS sb = l := ⟨_, rfl⟩
        obtain ⟨ma, hma⟩ : ∃ n, la.length = n := ⟨_, rfl⟩
        obtain ⟨mb, hmb⟩ : ∃ n, lb.length = n := ⟨_, rfl⟩
        rw [hla, hlb] at hap
        have ta := tlR_len a ha
        have tb := tlR_len b hb
        rw [← symR_len, hsa, hna] at ta
        rw [← symR_len, hsb, hnb] at tb
        have pa := plS_le sa
        rw [hla, hma, hna] at pa
        have r1 := fun {w : World} {A : Option Addr} {c : Nat} (h : Sr w A sa) => plain_as (c := c) hla hma h hna (by omega)
        have r2 := fun {w : World} {A : Option Addr} {c : Nat} (h : Sr w A sb) => plain_as (c := c) hlb hmb h hnb (by omega)
        have r3 := fun {w : World} {A B : Option Addr} {c d : Nat} (h : Sr w A la) (h' : Sr w B lb) => syms_any (c := c) (d := d) hap h h' hma hmb (by omega)
        subst hv
        clear hap hla hlb hma hmb hva hsa hna hvb hsb hnb
        go_enter Tryd.func7, Tryd.ntmps7
        go_wp2_with fail
        refine (awake_any _ HT.out).mono ?_
        rintro e w1 ⟨rfl, hb1⟩
        have HB1 := Lib.hid hb1
        clear hb1
        go_wp2_with fail
        refine (ra _ (HT.out.below HB1.out)).mono ?_
        rintro e w2 ⟨A, c, rfl, hb2, hA, -⟩
        have HA := Lib.hid hA
        have HB2 := Lib.hid (bel_alloc (bel_trans HB1.out hb2) (.cells #[.int .i64 va, .slice A na c] 25))
        have HX := Lib.hid (B2.new w2 (.int .i64 va) (.slice A na c) 25)
        clear hb2 hA
        go_wp2_with fail
        refine (rb _ (HT.out.below HB2.out)).mono ?_
        rintro e w3 ⟨B, d, rfl, hb3, hB, -⟩
        have hX := HX.out.below hb3
        have hY := B2.new w3 (.int .i64 va) (.slice B nb d) 25
        have hbo := bel_alloc (Below.refl _ w3) (.cells #[.int .i64 va, .slice B nb d] 25)
        obtain ⟨c0, c1, -, -⟩ := hX.below hbo
        obtain ⟨d0, d1, -, -⟩ := hY
        have hSA := ((HA.out.below (bel_alloc (Below.refl _ w2) (.cells #[.int .i64 va, .slice A na c] 25))).below hb3).below hbo
        have hSB := hB.below hbo
        have HB3 := Lib.hid (bel_trans (bel_trans HB2.out hb3) hbo)
        have HSA := Lib.hid hSA
        have HSB := Lib.hid hSB
        clear hb3 hB hbo hX hSA hSB
        go_wp2_with fail
        go_region_held3 (fun w' => w'.cell? ⟨w2.heap.size, 1, none⟩ = some (.slice A na c) ∧ w'.cell? ⟨w3.heap.size, 1, none⟩ = some (.slice B nb d))
          (first | (exact ⟨c1, d1⟩) | (go_split_ands; refine ⟨?_, ?_⟩ <;> exact bel_cell hq (by assumption)))
          (first
            | (go_at_call 16; ((with_reducible refine (r1 HSA.out.drew).mono ?_)); rintro e w4 ⟨X, cx, rfl, hq, hX, -⟩; have hq4 := hq)
            | (go_at_call 16; ((with_reducible refine (r2 (HSB.out.drew.below hq4)).mono ?_)); rintro e w5 ⟨Y, cy, rfl, hq, hY, -⟩; have hq5 := hq)
            | (go_at_call 12; ((with_reducible refine (r3 (hX.below hq5) hY).mono ?_)); rintro e w6 ⟨rfl, hq⟩; have hq6 := hq))
        go_wp2
        go_ret
        exact ⟨by simp, bel_trans HB3.out (bel_trans (bel_undrew hq4) (bel_trans hq5 hq6))⟩
      · have hq : ((a : Int) == (b : Int)) = true ∨ (((a : Int) == (b : Int)) = false ∧ (va == vb) = false) := by
          by_cases h : a = b
          · subst h; exact .inl (by simp)
          · refine .inr ⟨by simp; omega, ?_⟩
            have : va ≠ vb := fun e => hgo ⟨h, e⟩
            simpa using this
        clear hgo hva hsa hna hvb hsb hnb
        rcases hq with q1 | ⟨q1, q2⟩
        all_goals
          go_enter Tryd.func7, Tryd.ntmps7
          go_wp2_with fail
          refine (awake_any _ HT.out).mono ?_
          rintro e w1 ⟨rfl, hb1⟩
          have HB1 := Lib.hid hb1
          clear hb1
          go_wp2_with fail
          refine (ra _ (HT.out.below HB1.out)).mono ?_
          rintro e w2 ⟨A, c, rfl, hb2, -, -⟩
          have HB2 := Lib.hid (bel_alloc (bel_trans HB1.out hb2) (.cells #[.int .i64 va, .slice A na c] 25))
          have HX := Lib.hid (B2.new w2 (.int .i64 va) (.slice A na c) 25)
          clear hb2
          go_wp2_with fail
          refine (rb _ (HT.out.below HB2.out)).mono ?_
          rintro e w3 ⟨B, d, rfl, hb3, -, -⟩
          have HB3 := Lib.hid (bel_alloc (bel_trans HB2.out hb3) (.cells #[.int .i64 vb, .slice B nb d] 25))
          obtain ⟨c0, c1, -, -⟩ := (HX.out.below hb3).below (bel_alloc (Below.refl _ w3) (.cells #[.int .i64 vb, .slice B nb d] 25))
          clear hb3
          go_wp2_with fail
          go_ret
          exact ⟨by simp, HB3.out⟩
    · have rb := get_no (i := k) (by omega)
      unfold GnE at rb
      clear hk hva hsa hna
      go_enter Tryd.func7, Tryd.ntmps7
      go_wp2_with fail
      refine (awake_any _ HT.out).mono ?_
      rintro e w1 ⟨rfl, hb1⟩
      have HB1 := Lib.hid hb1
      clear hb1
      go_wp2_with fail
      refine (ra _ (HT.out.below HB1.out)).mono ?_
      rintro e w2 ⟨A, c, rfl, hb2, -, -⟩
      have HB2 := Lib.hid (bel_alloc (bel_trans HB1.out hb2) (.cells #[.int .i64 va, .slice A na c] 25))
      clear hb2
      go_wp2_with fail
      refine (rb _).mono ?_
      rintro e w3 ⟨rfl, hb3⟩
      have HB3 := Lib.hid (bel_alloc (bel_trans HB2.out hb3) (.cells #[.int .i64 0, .slice none 0 0] 25))
      clear hb3
      go_wp2_with fail
      go_ret
      exact ⟨by simp, HB3.out⟩
  · have ra := get_no (i := i) (by omega)
    unfold GnE at ra
    have rb := fun (w : World) (h : TabR w) => get_all k h
    clear hi
    go_enter Tryd.func7, Tryd.ntmps7
    go_wp2_with fail
    refine (awake_any _ HT.out).mono ?_
    rintro e w1 ⟨rfl, hb1⟩
    have HB1 := Lib.hid hb1
    clear hb1
    go_wp2_with fail
    refine (ra _).mono ?_
    rintro e w2 ⟨rfl, hb2⟩
    have HB2 := Lib.hid (bel_alloc (bel_trans HB1.out hb2) (.cells #[.int .i64 0, .slice none 0 0] 25))
    clear hb2
    go_wp2_with fail
    refine (rb _ (HT.out.below HB2.out)).mono ?_
    rintro e w3 ⟨v, A, n, c, b, rfl, hb3⟩
    have HB3 := Lib.hid (bel_alloc (bel_trans HB2.out hb3) (.cells #[.int .i64 v, .slice A n c] 25))
    clear hb3
    go_wp2_with fail
    go_ret
    exact ⟨by simp, HB3.out⟩
end Go.Proofs.YtgjinkekepfnnaaDoor
