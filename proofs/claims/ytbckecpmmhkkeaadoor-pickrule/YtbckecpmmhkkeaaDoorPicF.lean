/- The law PickRule: its walk. -/
import Derived.Test.YtbckecpmmhkkeaaDoorPicD
import Derived.Test.YtbckecpmmhkkeaaDoorPicO
namespace Go.Proofs.YtbckecpmmhkkeaaDoor
open Go.RowKit
set_option linter.unusedVariables false
set_option maxRecDepth 100000

theorem fstN_cases {p : Int → Bool} : ∀ (l : List Int), fstN p l = -1 ∨ (fstN p l ∈ l ∧ p (fstN p l) = true)
  | [] => .inl rfl
  | i :: l => by
    rw [fstN]
    by_cases h : p i = true
    · rw [if_pos h]; exact .inr ⟨List.mem_cons_self, h⟩
    · rw [if_neg h]
      rcases fstN_cases (p := p) l with h2 | ⟨h2, h3⟩
      · exact .inl h2
      · exact .inr ⟨List.mem_cons_of_mem _ h2, h3⟩
theorem varI_of {v i : Int} (h : i ∈ ofR v) : varI i = v ∧ isI i = true ∧ 0 ≤ i ∧ i < 90 := by
  obtain ⟨a, h1, h2, rfl⟩ := ofR_mem.1 h
  refine ⟨?_, ?_, by omega, by omega⟩
  · unfold varI; rw [if_pos (by omega)]; exact h2
  · unfold isI; exact decide_eq_true (by omega)
/-- What is picked: nothing, or a rule of the variable, that begins with the terminal, or has no symbols. -/
theorem pick_cases (te v : Int) : (pickK te v = -1 ∧ fstK te v = false ∧ empR v = -1) ∨ (varI (pickK te v) = v ∧ isI (pickK te v) = true ∧ 0 ≤ pickK te v ∧ (begK te (pickK te v) = true ∨ (symI (pickK te v)).length = 0)) := by
  have hb := begN_ge te v
  have c1 := fstN_cases (p := begK te) (ofR v)
  have c2 := fstN_cases (p := empB) (ofR v)
  change begN te v = -1 ∨ _ at c1
  change empR v = -1 ∨ _ at c2
  by_cases h : 0 ≤ begN te v
  · rcases c1 with c1 | ⟨c1, c3⟩
    · omega
    · have e : pickK te v = begN te v := if_pos h
      obtain ⟨v1, v2, v3, -⟩ := varI_of c1
      exact .inr (by rw [e]; exact ⟨v1, v2, h, .inl c3⟩)
  · have e : pickK te v = empR v := if_neg h
    rw [decide_eq_false h] at hb
    rcases c2 with c2 | ⟨c2, c3⟩
    · exact .inl ⟨by rw [e, c2], hb.symm, c2⟩
    · obtain ⟨v1, v2, v3, -⟩ := varI_of c2
      rw [e]
      refine .inr ⟨v1, v2, v3, .inr ?_⟩
      exact beq_iff_eq.1 (show ((symI (empR v)).length == 0) = true from c3)
set_option maxHeartbeats 4000000 in
theorem rule_law (v te : Int) {w : World} (ht : TabR w) : Calls Tryd.prog 8 #[.int .i64 v, .int .i64 te] w fun e w' => e = .returned (.bool true) ∧ Below w.heap.size w w' := by
  have hc := pick_cases te v
  have hfr := free_all v te
  obtain ⟨p, hp⟩ : ∃ p, pickK te v = p := ⟨_, rfl⟩
  have r1 := fun {w} h => ppick_any (w := w) hp h
  rw [hp] at hc
  obtain ⟨L, hL⟩ : ∃ L, symI p = L := ⟨_, rfl⟩
  obtain ⟨n, hn⟩ : ∃ n, L.length = n := ⟨_, rfl⟩
  have HT := Lib.hid ht
  rcases hc with ⟨hc, hf, he⟩ | ⟨hv, hi, h0, hbg⟩
  · subst hc
    have e0 : L = [] := by rw [← hL]; rfl
    subst e0
    obtain rfl : 0 = n := hn
    have r2 := fun {w} h => getp_any (-1) (n := 0) (v := 0) (b := false) (L := []) rfl rfl rfl rfl (w := w) h
    have r3 := fun {w} h => pfirst_any hf (w := w) h
    have r4 := fun {w} h => empty_any he (w := w) h
    clear hfr hp hL hf he ht
    go_enter Tryd.func8, Tryd.ntmps8
    go_wp2_with fail
    ((with_reducible refine (awake_any _ HT.out).mono ?_))
    rintro e w1 ⟨rfl, hb1⟩
    have HB1 := Lib.hid hb1
    clear hb1
    go_wp2_with fail
    ((with_reducible refine (r1 (HT.out.below HB1.out)).mono ?_))
    rintro e w2 ⟨rfl, hb2⟩
    have HB2 := Lib.hid (bel_trans HB1.out hb2)
    clear hb2
    go_wp2_with fail
    ((with_reducible refine (r2 (HT.out.below HB2.out)).mono ?_))
    rintro e w3 ⟨A, c, rfl, hb3, -⟩
    have HB3 := Lib.hid (bel_alloc (bel_trans HB2.out hb3) (.cells #[.int .i64 0, .slice A 0 c] 35))
    clear hb3
    go_wp2_with fail
    ((with_reducible refine (r3 (HT.out.below HB3.out)).mono ?_))
    rintro e w4 ⟨rfl, hb4⟩
    have HB4 := Lib.hid (bel_trans HB3.out hb4)
    clear hb4
    go_wp2_with fail
    ((with_reducible refine (r4 (HT.out.below HB4.out)).mono ?_))
    rintro e w5 ⟨rfl, hb5⟩
    have HB5 := Lib.hid (bel_trans HB4.out hb5)
    clear hb5
    go_wp2_with fail
    go_ret
    exact ⟨by simp, HB5.out⟩
  · have r2 := fun {w} h => getp_any p hL hn hv hi (w := w) h
    obtain ⟨x, hx⟩ : ∃ x, fstK 18 v = x := ⟨_, rfl⟩
    obtain ⟨y, hy⟩ : ∃ y, inK 1 te = y := ⟨_, rfl⟩
    obtain ⟨z, hz⟩ : ∃ z, fstK te v = z := ⟨_, rfl⟩
    obtain ⟨g, hg⟩ : ∃ g, begK te p = g := ⟨_, rfl⟩
    have r3 := fun {w} h => pfirst_any hx (w := w) h
    have r4 := fun {w} h => pbegins_any hg (w := w) h
    have r5 := fun w => in_any hy w
    have r6 := fun {w} h => pfirst_any hz (w := w) h
    rw [hx, hy, hz] at hfr
    rw [hg, hL, hn] at hbg
    have q1 : (p == -1) = false := by simp; omega
    have HF := Lib.hid hfr
    have HG := Lib.hid hbg
    clear hx hy hz hg hfr hbg hL hn hv hi hp h0 ht
    go_enter Tryd.func8, Tryd.ntmps8
    go_wp2_with fail
    ((with_reducible refine (awake_any _ HT.out).mono ?_))
    rintro e w1 ⟨rfl, hb1⟩
    have HB1 := Lib.hid hb1
    clear hb1
    go_wp2_with fail
    ((with_reducible refine (r1 (HT.out.below HB1.out)).mono ?_))
    rintro e w2 ⟨rfl, hb2⟩
    have HB2 := Lib.hid (bel_trans HB1.out hb2)
    clear hb2
    go_wp2_with fail
    ((with_reducible refine (r2 (HT.out.below HB2.out)).mono ?_))
    rintro e w3 ⟨A, c, rfl, hb3, -⟩
    have HB3 := Lib.hid (bel_alloc (bel_trans HB2.out hb3) (.cells #[.int .i64 v, .slice A n c] 35))
    obtain ⟨b0, b1, -, -⟩ := B2.new w3 (.int .i64 v) (.slice A n c) 35
    have B0 := Lib.hid b0
    have B1 := Lib.hid b1
    clear hb3 b0 b1
    go_wp2_with fail
    ((with_reducible refine (r3 (HT.out.below HB3.out)).mono ?_))
    rintro e w4 ⟨rfl, hb4⟩
    have HB4 := Lib.hid (bel_trans HB3.out hb4)
    have c0 := bel_cell hb4 B0.out
    have c1 := bel_cell hb4 B1.out
    have l0 := World.block_lt_of_cell? _ _ c0
    clear hb4
    cases g
    · obtain rfl : n = 0 := by simpa using HG.out
      cases x
      · go_wp2_with fail
        ((with_reducible refine (r4 (HT.out.below HB4.out)).mono ?_))
        rintro e w5 ⟨rfl, hb5⟩
        have HB5 := Lib.hid (bel_trans HB4.out hb5)
        have d1 := bel_cell hb5 c1
        have l1 := World.block_lt_of_cell? _ _ d1
        clear hb5
        go_wp2_with fail
        go_ret
        exact ⟨by simp, HB5.out⟩
      · cases y
        · go_wp2_with fail
          ((with_reducible refine (r4 (HT.out.below HB4.out)).mono ?_))
          rintro e w5 ⟨rfl, hb5⟩
          have HB5 := Lib.hid (bel_trans HB4.out hb5)
          have d1 := bel_cell hb5 c1
          have l1 := World.block_lt_of_cell? _ _ d1
          clear hb5
          go_wp2_with fail
          ((with_reducible refine (r5 _).mono ?_))
          rintro e w' ⟨rfl, rfl⟩
          go_wp2_with fail
          go_ret
          exact ⟨by simp, HB5.out⟩
        · obtain rfl : z = true := HF.out rfl rfl
          go_wp2_with fail
          ((with_reducible refine (r4 (HT.out.below HB4.out)).mono ?_))
          rintro e w5 ⟨rfl, hb5⟩
          have HB5 := Lib.hid (bel_trans HB4.out hb5)
          have d1 := bel_cell hb5 c1
          have l1 := World.block_lt_of_cell? _ _ d1
          clear hb5
          go_wp2_with fail
          ((with_reducible refine (r5 _).mono ?_))
          rintro e w' ⟨rfl, rfl⟩
          go_wp2_with fail
          ((with_reducible refine (r6 (HT.out.below HB5.out)).mono ?_))
          rintro e w6 ⟨rfl, hb6⟩
          have HB6 := Lib.hid (bel_trans HB5.out hb6)
          clear hb6
          go_wp2_with fail
          go_ret
          exact ⟨by simp, HB6.out⟩
    · cases x
      · go_wp2_with fail
        ((with_reducible refine (r4 (HT.out.below HB4.out)).mono ?_))
        rintro e w5 ⟨rfl, hb5⟩
        have HB5 := Lib.hid (bel_trans HB4.out hb5)
        have d1 := bel_cell hb5 c1
        have l1 := World.block_lt_of_cell? _ _ d1
        clear hb5
        go_wp2_with fail
        go_ret
        exact ⟨by simp, HB5.out⟩
      · cases y
        · go_wp2_with fail
          ((with_reducible refine (r4 (HT.out.below HB4.out)).mono ?_))
          rintro e w5 ⟨rfl, hb5⟩
          have HB5 := Lib.hid (bel_trans HB4.out hb5)
          have d1 := bel_cell hb5 c1
          have l1 := World.block_lt_of_cell? _ _ d1
          clear hb5
          go_wp2_with fail
          ((with_reducible refine (r5 _).mono ?_))
          rintro e w' ⟨rfl, rfl⟩
          go_wp2_with fail
          go_ret
          exact ⟨by simp, HB5.out⟩
        · obtain rfl : z = true := HF.out rfl rfl
          go_wp2_with fail
          ((with_reducible refine (r4 (HT.out.below HB4.out)).mono ?_))
          rintro e w5 ⟨rfl, hb5⟩
          have HB5 := Lib.hid (bel_trans HB4.out hb5)
          have d1 := bel_cell hb5 c1
          have l1 := World.block_lt_of_cell? _ _ d1
          clear hb5
          go_wp2_with fail
          ((with_reducible refine (r5 _).mono ?_))
          rintro e w' ⟨rfl, rfl⟩
          go_wp2_with fail
          ((with_reducible refine (r6 (HT.out.below HB5.out)).mono ?_))
          rintro e w6 ⟨rfl, hb6⟩
          have HB6 := Lib.hid (bel_trans HB5.out hb6)
          clear hb6
          go_wp2_with fail
          go_ret
          exact ⟨by simp, HB6.out⟩
end Go.Proofs.YtbckecpmmhkkeaaDoor
