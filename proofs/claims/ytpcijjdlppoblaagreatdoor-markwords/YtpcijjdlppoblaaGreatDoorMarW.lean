/- The law MarkWords: its walk. -/
import Derived.Test.YtpcijjdlppoblaaGreatDoorMarE
import Derived.Test.YtpcijjdlppoblaaGreatDoorMarV
namespace Go.Proofs.YtpcijjdlppoblaaGreatDoor
open Go.RowKit
set_option linter.unusedVariables false
set_option maxRecDepth 100000

set_option maxHeartbeats 4000000 in
theorem words_law {w : World} {s : ByteArray} (k : Int) (hz : s.size ≤ 9223372036854775807) (ht : TabR w) (hk : TabK w) (hq : Tab w) :
    Calls Tryz.prog 6 #[.string s, .int .i64 k] w fun e w' => e = .returned (.bool true) ∧ Below w.heap.size w w' := by
  have HTR := Lib.hid ht
  have HTK := Lib.hid hk
  have HTQ := Lib.hid hq
  clear ht hk hq
  by_cases h6 : 600 < s.size
  · have q6 : (600 : Int) < (s.size : Int) := by omega
    clear h6
    go_enter Tryz.func6, Tryz.ntmps6
    go_wp2_with fail
    ((with_reducible refine (awm_any _ HTR.out HTK.out HTQ.out).mono ?_))
    rintro e w1 ⟨rfl, hb1⟩
    have HB1 := Lib.hid hb1
    clear hb1
    go_wp2_with fail
    go_ret
    exact ⟨rfl, HB1.out⟩
  have q6 : ¬ (600 : Int) < (s.size : Int) := by omega
  have hs6 : s.size ≤ 600 := by omega
  -- the source: bad, an error, tokens
  have hlex : (∃ er p, er ≠ 0 ∧ ∀ w, Calls Tryz.prog 24 #[.string s] w fun e w' => e = .returned (.tuple #[.slice none 0 0, .int .i64 er, .int .i64 p]) ∧ Below w.heap.size w w') ∨
      (allOk (ylds s.data.toList 0) = true ∧ thru s.data.toList = s.data.toList.length) := by
    by_cases hm : thru s.data.toList = s.data.toList.length
    · cases ho : allOk (ylds s.data.toList 0) with
      | true => exact .inr ⟨rfl, hm⟩
      | false =>
        obtain ⟨⟨er, p⟩, he⟩ : ∃ x, errOf (ylds s.data.toList 0) = x := ⟨_, rfl⟩
        exact .inl ⟨er, p, by have := errOf_neM ho; rw [he] at this; exact this, fun w => lex_no (by omega) hm rfl ho he w⟩
    · refine .inl ⟨2, badI s.data.toList, by decide, fun w => lex_bad (by omega) rfl ?_ w⟩
      rw [badI, if_neg hm]; omega
  rcases hlex with ⟨er, p, hne, r1⟩ | ⟨ho, hm⟩
  · have q7 : (er != 0) = true := by simpa using hne
    clear h6 hne
    go_enter Tryz.func6, Tryz.ntmps6
    go_wp2_with fail
    ((with_reducible refine (awm_any _ HTR.out HTK.out HTQ.out).mono ?_))
    rintro e w1 ⟨rfl, hb1⟩
    have HB1 := Lib.hid hb1
    clear hb1
    go_wp2_with fail
    ((with_reducible refine (r1 _).mono ?_))
    rintro e w2 ⟨rfl, hb2⟩
    have HB2 := Lib.hid (bel_trans HB1.out hb2)
    clear hb2
    go_wp2_with fail
    go_ret
    exact ⟨rfl, HB2.out⟩
  obtain ⟨Y, hY⟩ : ∃ Y, ylds s.data.toList 0 = Y := ⟨_, rfl⟩
  rw [hY] at ho
  obtain ⟨n, hn⟩ : ∃ n, Y.length = n := ⟨_, rfl⟩
  have r1 := fun w => lex_cap (s := s) (Y := Y) (by omega) hm hY ho w
  rw [hn] at r1
  have HY := Lib.hid hY
  have HO := Lib.hid ho
  have HN := Lib.hid hn
  clear hY ho hn hm h6
  by_cases hk0 : k < 0
  · clear hs6
    go_enter Tryz.func6, Tryz.ntmps6
    go_wp2_with fail
    ((with_reducible refine (awm_any _ HTR.out HTK.out HTQ.out).mono ?_))
    rintro e w1 ⟨rfl, hb1⟩
    have HB1 := Lib.hid hb1
    clear hb1
    go_wp2_with fail
    ((with_reducible refine (r1 _).mono ?_))
    rintro e w2 ⟨B2, d2, rfl, hb2, -, -⟩
    have HB2 := Lib.hid (bel_trans HB1.out hb2)
    clear hb2
    go_wp2_with fail
    go_ret
    exact ⟨rfl, HB2.out⟩
  by_cases hkn : (n : Int) ≤ k
  · clear hs6
    go_enter Tryz.func6, Tryz.ntmps6
    go_wp2_with fail
    ((with_reducible refine (awm_any _ HTR.out HTK.out HTQ.out).mono ?_))
    rintro e w1 ⟨rfl, hb1⟩
    have HB1 := Lib.hid hb1
    clear hb1
    go_wp2_with fail
    ((with_reducible refine (r1 _).mono ?_))
    rintro e w2 ⟨B2, d2, rfl, hb2, -, -⟩
    have HB2 := Lib.hid (bel_trans HB1.out hb2)
    clear hb2
    go_wp2_with fail
    go_ret
    exact ⟨rfl, HB2.out⟩
  obtain ⟨j, rfl⟩ := Int.eq_ofNat_of_zero_le (show 0 ≤ k by omega)
  have hjn : j < n := by omega
  obtain ⟨y, hy⟩ : ∃ y, Y[j]? = some y := ⟨_, List.getElem?_eq_getElem (by rw [HN.out]; exact hjn)⟩
  have hye : y.t.e = 0 := by
    have := HO.out
    rw [allOk, List.all_eq_true] at this
    simpa using this y (List.mem_of_getElem? hy)
  obtain ⟨q, hyq, hq0, -, hql⟩ := ylds_at s.data.toList 0 y (by rw [HY.out]; exact List.mem_of_getElem? hy)
  rw [hyq] at hye
  obtain ⟨sv, t, h1, h2, h3, h4, h5, h6, h7⟩ := shown_alone hye hq0 (by rw [← Lib.size_eq] at hql; omega)
  obtain ⟨V, hV⟩ : ∃ V, mkb sv = V := ⟨_, rfl⟩
  have hvz : y.q.v.size ≤ 1000000 := by
    show (mkb y.t.v).size ≤ _
    rw [mkb_size, hyq]
    have := tok_lenM q
    rw [← Lib.size_eq] at hql
    omega
  have hsh : shQ ⟨y.q.k, y.q.v, y.q.a, y.q.z⟩ = some V := by
    show (if y.t.k = 5 then (qtA (mkb y.t.v).data.toList).map (fun cs => mkb (quo cs)) else some (mkb y.t.v)) = _
    rw [hyq, ← hV]
    exact h1
  have r2 := fun w h => msh_any (k := y.q.k) (v := y.q.v) (a := y.q.a) (z := y.q.z) (S := V) (is := true) (w := w) (by rw [hsh]; rfl) (by rw [hsh]; rfl) hvz h
  have r3 := fun w => lex_cap (s := V) (Y := [⟨t, 0⟩]) (by rw [← hV, mkb_size]; omega) (by rw [← hV, mkb_data]; exact h3) (by rw [← hV, mkb_data]; exact h4) (by rw [allOk, List.all_cons, h5]; rfl) w
  have hq1 : t.k = y.q.k := by rw [h6, ← hyq]; rfl
  have hq2 : mkb t.v = y.q.v := by rw [h7, ← hyq]; rfl
  have hrow : (Y.map Yl.q)[j]? = some y.q := by rw [List.getElem?_map, hy]; rfl
  obtain ⟨z, hzz⟩ : ∃ z, y.q = z := ⟨_, rfl⟩
  rw [hzz] at r2 hq1 hq2 hrow
  have hone : Yl.q ⟨t, 0⟩ = ⟨z.k, z.v, (Yl.q ⟨t, 0⟩).a, (Yl.q ⟨t, 0⟩).z⟩ := by
    rw [← hq1, ← hq2]; rfl
  have HONE := Lib.hid hone
  have HROW := Lib.hid hrow
  have t2 : (z.v.toList == z.v.toList) = true := by simp
  clear hy hye hyq hq0 hql h1 h2 h3 h4 h5 h6 h7 hV hvz hsh hq1 hq2 hrow hzz hone hs6 HY HO
  go_enter Tryz.func6, Tryz.ntmps6
  go_wp2_with fail
  ((with_reducible refine (awm_any _ HTR.out HTK.out HTQ.out).mono ?_))
  rintro e w1 ⟨rfl, hb1⟩
  have HB1 := Lib.hid hb1
  clear hb1
  go_wp2_with fail
  ((with_reducible refine (r1 _).mono ?_))
  rintro e w2 ⟨B2, d2, rfl, hb2, ht2, -⟩
  have HB2 := Lib.hid (bel_trans HB1.out hb2)
  obtain ⟨g, o, rfl, c0, c1, c2, c3⟩ := ht2 j z HROW.out
  have lg := World.block_lt_of_cell? _ _ c0
  clear hb2 ht2
  go_wp2_with fail
  ((with_reducible refine (r2 _ (HTQ.out.below HB2.out)).mono ?_))
  rintro e w3 ⟨rfl, hb3⟩
  have HB3 := Lib.hid (bel_trans HB2.out hb3)
  have d0 := bel_cell hb3 c0
  have d1 := bel_cell hb3 c1
  clear hb3 c0 c1 c2 c3
  go_wp2_with fail
  ((with_reducible refine (r3 _).mono ?_))
  rintro e w4 ⟨B4, d4, rfl, hb4, ht4, -⟩
  have HB4 := Lib.hid (bel_trans HB3.out hb4)
  have e0 := bel_cell hb4 d0
  have e1 := bel_cell hb4 d1
  have lg4 := World.block_lt_of_cell? _ _ e0
  obtain ⟨g2, o2, rfl, x0, x1, -, -⟩ := ht4 0 _ (show ([(⟨t, 0⟩ : Yl)].map Yl.q)[0]? = some (Yl.q ⟨t, 0⟩) from rfl)
  rw [HONE.out, Nat.zero_mul, Nat.add_zero] at x0 x1
  have y0 : w4.cell? ⟨g2, o2, none⟩ = some (.int .i64 z.k) := x0
  have y1 : w4.cell? ⟨g2, o2 + 1, none⟩ = some (.string z.v) := x1
  have lg2 := World.block_lt_of_cell? _ _ y0
  clear hb4 ht4 x0 x1 d0 d1
  go_wp2_with fail
  go_quiet (fail)
  go_wp2_with fail
  go_ret
  exact ⟨by simp, below_drewNM' HB4.out _⟩
end Go.Proofs.YtpcijjdlppoblaaGreatDoor
