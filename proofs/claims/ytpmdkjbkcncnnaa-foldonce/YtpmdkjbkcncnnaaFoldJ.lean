/- The law FoldOnce: its mathematics and its walk. -/
import Derived.Test.YtpmdkjbkcncnnaaFoldI
namespace Go.Proofs.Ytpmdkjbkcncnnaa
open Go.RowKit
set_option linter.unusedVariables false

theorem once_end {l : List UInt8} (h : (lns l).length = 1) : fld l = l ∨ (fld l = [] ∧ mg l = l.length) := by
  have hn := lns_one (lns_len1 h)
  have e : fls l = trm [l] := by unfold fls; rw [hn]; simp [cutL]
  cases hb : blk l
  · left
    unfold fld; rw [e, trm_id (ls := [l]) rfl hb rfl hb, Lib.join_one]
  · right
    refine ⟨?_, (blk_mg l).1 hb⟩
    rw [trm_y hb] at e
    exact fld_nil e
theorem once_ends {l : List UInt8} (h : fld l ≠ []) {n : Nat} (hn : (lns (fld l)).length = n + 1) : ∃ x y, (lns (fld l))[0]? = some x ∧ (lns (fld l))[n]? = some y ∧ mg x ≠ x.length ∧ mg y ≠ y.length := by
  have h0 : fls l ≠ [] := fun e => h (fld_nil e)
  rw [fls_join h0] at *
  rcases trm_ends (cutL (ind (lns l)) (lns l)) with h1 | ⟨⟨x, hx, hb⟩, ⟨y, hy, hb2⟩⟩
  · exact absurd h1 h0
  · change (fls l).head? = some x at hx
    change (fls l).getLast? = some y at hy
    rw [List.getLast?_eq_getElem?, hn] at hy
    rw [List.head?_eq_getElem?] at hx
    have h3 := blk_no hb
    have h4 := blk_no hb2
    exact ⟨x, y, hx, hy, by omega, by omega⟩

set_option maxHeartbeats 1000000 in
set_option maxRecDepth 100000 in
theorem once_law (s : ByteArray) (w : World) (zs : s.size ≤ 9223372036854775807) :
    Calls Try.prog 6 #[.string s] w fun e w' => e = .returned (.bool true) ∧ Below w.heap.size w w' := by
  by_cases hs : 600 < s.size
  · have gs : (600 : Int) < (s.size : Int) := by omega
    clear hs
    go_enter Try.func6, Try.ntmps6
    (try simp only [List.append_eq, List.cons_append, List.nil_append])
    go_wp2_with fail
    (with_reducible refine (awake_any _).mono ?_)
    rintro e w1 ⟨rfl, hb1⟩
    go_wp2_with fail
    go_ret
    exact ⟨by first | (simp; done) | (simp; omega), hb1⟩
  have gs : ¬ (600 : Int) < (s.size : Int) := by omega
  have ls : s.data.toList.length = s.size := (Lib.size_eq s).symm
  obtain ⟨v, hv⟩ : ∃ v, fld s.data.toList = v := ⟨_, rfl⟩
  have hvl := fld_len s.data.toList
  rw [hv, ls] at hvl
  have r0 := fold_b (s := s) (mkb_of s).symm hv (by omega)
  obtain ⟨V, hV⟩ : ∃ V, mkb v = V := ⟨_, rfl⟩
  have hVl : V.data.toList = v := by rw [← hV]; rfl
  have hVz : V.size = v.length := by rw [← hV, mkb_size]
  obtain ⟨n, hn⟩ : ∃ n, (lns v).length = n + 1 := ⟨(lns v).length - 1, by have := lns_pos v; omega⟩
  have hct := lns_count v
  have r1 := lines_n V (by omega) n (by rw [hVl]; exact hn)
  rw [hVl] at r1
  rw [hV] at r0
  obtain ⟨m, hm⟩ : ∃ m, (lns s.data.toList).length = m + 1 := ⟨(lns s.data.toList).length - 1, by have := lns_pos s.data.toList; omega⟩
  have hct2 := lns_count s.data.toList
  have r2 := lines_n s (by omega) m hm
  have hln := lnA_len false v
  change ∀ x ∈ lns v, x.length ≤ v.length at hln
  have h13 : ∀ k (h : k < V.size), (((V[k]'h).toNat : Int) == 13) = false := by
    intro k h
    obtain ⟨c, hc1, hc2⟩ := at_byte h
    rw [hVl] at hc1
    have := fld_13 s.data.toList c (by rw [hv]; exact List.mem_of_getElem? hc1)
    rw [hc2]; simp only [beq_eq_false_iff_ne, ne_eq]; intro h; exact this (UInt8.toNat_inj.1 (by exact_mod_cast h))
  have hone : m = 0 → v = s.data.toList ∨ (v = [] ∧ mg s.data.toList = s.data.toList.length) := by
    intro h; subst h; rw [← hv]; exact once_end hm
  have hend : v ≠ [] → ∃ x y, (lns v)[0]? = some x ∧ (lns v)[n]? = some y ∧ mg x ≠ x.length ∧ mg y ≠ y.length := by
    intro h; subst hv; exact once_ends h hn
  have r3 : ∀ w : World, Calls Try.prog 20 #[.string s] w fun e w' => e = .returned (.int .i64 (mg s.data.toList : Nat)) ∧ w = w' := fun w => margin_any s w zs
  have hg0 := get_of (ls := lns v) (k := 0) (by omega)
  have hgn := get_of (ls := lns v) (k := n) (by omega)
  have hve : V.toList = v := by rw [← hV, mkb_toList]
  have hse : s.toList = s.data.toList := by rw [Lib.toList_data]
  have hVz' : V.size ≤ 600 := by omega
  have hVs : V.size ≤ s.size := by omega
  have hn3 : n ≤ 600 := by omega
  have hm3 : m ≤ 600 := by omega
  have HV := Lib.hid hve
  have HS := Lib.hid hse
  have H13 := Lib.hid h13
  have HE := Lib.hid hend
  have HO := Lib.hid hone
  have HG0 := Lib.hid hg0
  have HGn := Lib.hid hgn
  have HL := Lib.hid hln
  have HZ := Lib.hid ls
  have HVZ := Lib.hid hVz
  clear hv hV hVl hn ls hln hend hone h13 hg0 hgn hve hse hct hct2 hm hVz hvl
  go_enter Try.func6, Try.ntmps6
  (try simp only [List.append_eq, List.cons_append, List.nil_append])
  go_wp2_with fail
  (with_reducible refine (awake_any _).mono ?_)
  rintro e w1 ⟨rfl, hb1⟩
  go_wp2_with fail
  (with_reducible refine (r0 _).mono ?_)
  rintro e w2 ⟨rfl, hb2⟩
  go_wp2_with fail
  (with_reducible refine (r1 _).mono ?_)
  rintro e w3 ⟨g, c, rfl, hgc, hrow, hb3⟩
  clear r0 r1
  have HR := Lib.hid hrow
  have hB3 := bel_trans (bel_trans hb1 hb2) hb3
  have t1 : ¬ (s.size : Int) < (V.size : Int) := by omega
  have t2 : ((n : Int) + 1 == 0) = false := by simp; omega
  clear hrow hb1 hb2 hb3
  go_wp2_with fail
  go_loop [6] (fun i => ∃ k : Nat, k ≤ V.size ∧ i = .int .i64 k) (fun i => V.size - (intOf i).toNat)
  case atStart => exact ⟨0, by omega, rfl⟩
  case round =>
    obtain ⟨k, hk, rfl⟩ := hrel
    by_cases hlt : k < V.size
    · have b1 := H13.out k hlt
      go_wp2
      go_round
      case rel => exact ⟨k + 1, by omega, by go_num⟩
      case measure => simp [intOf]; omega
    · have hlt' : ¬ (k : Int) < (V.size : Int) := by omega
      clear hlt
      -- what the last line answers
      by_cases h0 : v = []
      · obtain ⟨x, hx, hxm⟩ := HG0.out
        obtain ⟨y, hy, hym⟩ := HGn.out
        have hxl := HL.out x hxm
        have hyl := HL.out y hym
        have hzv := HVZ.out
        have c0 := HR.out.cell 0 x hx
        have cn := HR.out.cell n y hy
        have ra : ∀ w : World, Calls Try.prog 20 #[.string (mkb x)] w fun e w' => e = .returned (.int .i64 (mg x : Nat)) ∧ w = w' := fun w => margin_any (mkb x) w (by rw [mkb_size]; omega)
        have rb : ∀ w : World, Calls Try.prog 20 #[.string (mkb y)] w fun e w' => e = .returned (.int .i64 (mg y : Nat)) ∧ w = w' := fun w => margin_any (mkb y) w (by rw [mkb_size]; omega)
        have u1 : (V.toList != []) = false := by rw [HV.out, h0]; rfl
        have u2 : V.toList = [] := by rw [HV.out, h0]
        have u3 : V.toList.isEmpty = true := by rw [u2]; rfl
        have u4 : (V.toList == []) = true := by rw [u2]; rfl
        generalize mkb x = X at *
        generalize mkb y = Y at *
        by_cases hm0 : m = 0
        · have u5 : (((m : Nat) : Int) + 1 != 1) = false := by subst hm0; rfl
          by_cases hvs : v = s.data.toList
          · have u6 : (V.toList == s.toList) = true := by rw [HV.out, HS.out, hvs]; simp
            clear hx hy hzv u2 hm0 hvs h0 u3
            go_wp2_with fail
            (with_reducible refine (ra _).mono ?_)
            rintro e w' ⟨rfl, rfl⟩
            go_wp2_with fail
            (with_reducible refine (rb _).mono ?_)
            rintro e w' ⟨rfl, rfl⟩
            go_wp2_with fail
            (with_reducible refine (r2 _).mono ?_)
            rintro e w4 ⟨g4, c4, rfl, hgc4, hrow4, hb4⟩
            clear hrow4
            go_wp2
            go_ret
            exact ⟨by first | rfl | (simp; done), bel_trans hB3 hb4⟩
          · have u6 : (V.toList == s.toList) = false := by rw [HV.out, HS.out]; simpa using hvs
            have hmg := ((HO.out hm0).resolve_left hvs).2
            have u7 : (((mg s.data.toList : Nat) : Int) == (s.size : Int)) = true := by rw [hmg, HZ.out]; simp
            clear hx hy hzv u2 hm0 hvs h0 u3 hmg
            go_wp2_with fail
            (with_reducible refine (ra _).mono ?_)
            rintro e w' ⟨rfl, rfl⟩
            go_wp2_with fail
            (with_reducible refine (rb _).mono ?_)
            rintro e w' ⟨rfl, rfl⟩
            go_wp2_with fail
            (with_reducible refine (r2 _).mono ?_)
            rintro e w4 ⟨g4, c4, rfl, hgc4, hrow4, hb4⟩
            clear hrow4
            go_wp2_with fail
            (with_reducible refine (r3 _).mono ?_)
            rintro e w' ⟨rfl, rfl⟩
            go_wp2
            go_ret
            exact ⟨by first | rfl | (simp; done), bel_trans hB3 hb4⟩
        · have u5 : (((m : Nat) : Int) + 1 != 1) = true := by simp only [bne_iff_ne, ne_eq]; omega
          clear hx hy hzv u2 hm0 h0 u3
          go_wp2_with fail
          (with_reducible refine (ra _).mono ?_)
          rintro e w' ⟨rfl, rfl⟩
          go_wp2_with fail
          (with_reducible refine (rb _).mono ?_)
          rintro e w' ⟨rfl, rfl⟩
          go_wp2_with fail
          (with_reducible refine (r2 _).mono ?_)
          rintro e w4 ⟨g4, c4, rfl, hgc4, hrow4, hb4⟩
          clear hrow4
          go_wp2
          go_ret
          exact ⟨by first | rfl | (simp; done), bel_trans hB3 hb4⟩
      · obtain ⟨x, y, hx, hy, hmx, hmy⟩ := HE.out h0
        have hxl := HL.out x (List.mem_of_getElem? hx)
        have hyl := HL.out y (List.mem_of_getElem? hy)
        have hzv := HVZ.out
        have c0 := HR.out.cell 0 x hx
        have cn := HR.out.cell n y hy
        have ra : ∀ w : World, Calls Try.prog 20 #[.string (mkb x)] w fun e w' => e = .returned (.int .i64 (mg x : Nat)) ∧ w = w' := fun w => margin_any (mkb x) w (by rw [mkb_size]; omega)
        have rb : ∀ w : World, Calls Try.prog 20 #[.string (mkb y)] w fun e w' => e = .returned (.int .i64 (mg y : Nat)) ∧ w = w' := fun w => margin_any (mkb y) w (by rw [mkb_size]; omega)
        have u1 : (V.toList != []) = true := by rw [HV.out]; simpa using h0
        have u2 : ¬ V.toList = [] := by rw [HV.out]; exact h0
        have u3 : V.toList.isEmpty = false := by rw [HV.out]; simpa using h0
        have u4 : (V.toList == []) = false := by rw [HV.out]; simpa using h0
        have u8 : (((mg x : Nat) : Int) == ((mkb x).size : Int)) = false := by rw [mkb_size]; simp only [beq_eq_false_iff_ne, ne_eq]; omega
        have u9 : (((mg y : Nat) : Int) == ((mkb y).size : Int)) = false := by rw [mkb_size]; simp only [beq_eq_false_iff_ne, ne_eq]; omega
        generalize mkb x = X at *
        generalize mkb y = Y at *
        by_cases hm0 : m = 0
        · have u5 : (((m : Nat) : Int) + 1 != 1) = false := by subst hm0; rfl
          have hvs := (HO.out hm0).resolve_right (fun h => h0 h.1)
          have u6 : (V.toList == s.toList) = true := by rw [HV.out, HS.out, hvs]; simp
          clear hx hy hzv u2 hm0 hvs h0 u3 hmx hmy
          go_wp2_with fail
          (with_reducible refine (ra _).mono ?_)
          rintro e w' ⟨rfl, rfl⟩
          go_wp2_with fail
          (with_reducible refine (rb _).mono ?_)
          rintro e w' ⟨rfl, rfl⟩
          go_wp2_with fail
          (with_reducible refine (r2 _).mono ?_)
          rintro e w4 ⟨g4, c4, rfl, hgc4, hrow4, hb4⟩
          clear hrow4
          go_wp2
          go_ret
          exact ⟨by first | rfl | (simp; done), bel_trans hB3 hb4⟩
        · have u5 : (((m : Nat) : Int) + 1 != 1) = true := by simp only [bne_iff_ne, ne_eq]; omega
          clear hx hy hzv u2 hm0 h0 u3 hmx hmy
          go_wp2_with fail
          (with_reducible refine (ra _).mono ?_)
          rintro e w' ⟨rfl, rfl⟩
          go_wp2_with fail
          (with_reducible refine (rb _).mono ?_)
          rintro e w' ⟨rfl, rfl⟩
          go_wp2_with fail
          (with_reducible refine (r2 _).mono ?_)
          rintro e w4 ⟨g4, c4, rfl, hgc4, hrow4, hb4⟩
          clear hrow4
          go_wp2
          go_ret
          exact ⟨by first | rfl | (simp; done), bel_trans hB3 hb4⟩
end Go.Proofs.Ytpmdkjbkcncnnaa
