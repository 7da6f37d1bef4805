/- The law MarkMay: its walk. -/
import Derived.Test.YtpcijjdlppoblaaGreatDoorMarH
import Derived.Test.YtpcijjdlppoblaaGreatDoorMarC
import Derived.Laws.Concat
namespace Go.Proofs.YtpcijjdlppoblaaGreatDoor
open Go.RowKit
set_option linter.unusedVariables false
set_option maxRecDepth 100000

theorem cap_orY (N c : Nat) (h : N + 1 ≤ c) : (c = 1 ∧ N = 0) ∨ ∃ c', c = c' + 2 := cap_orM N c h
set_option maxHeartbeats 8000000 in
theorem may_law {w : World} {A A2 : Option Addr} {n c n2 c2 : Nat} {us vs : List Bq} {s : ByteArray} (hz : s.size ≤ 140737488351232) (hl : us.length = n) (hA : Br w A us) (hc : n ≤ c) (h0 : A = none → n = 0 ∧ c = 0) (hl2 : vs.length = n2) (hA2 : Br w A2 vs) (h02 : A2 = none → n2 = 0 ∧ c2 = 0) (ht : TabR w) (hk : TabK w) (hq : Tab w) :
    Calls Tryz.prog 5 #[.slice A n c, .slice A2 n2 c2, .string s] w fun e w' => e = .returned (.bool true) ∧ Below w.heap.size w w' := by
  have HTR := Lib.hid ht
  have HTK := Lib.hid hk
  have HTQ := Lib.hid hq
  have HA := Lib.hid hA
  have HA2 := Lib.hid hA2
  have HL := Lib.hid hl
  have HL2 := Lib.hid hl2
  have H0 := Lib.hid h0
  have H02 := Lib.hid h02
  obtain ⟨ya, hya⟩ : ∃ y, mayL us = y := ⟨_, rfl⟩
  obtain ⟨yb, hyb⟩ : ∃ y, mayL vs = y := ⟨_, rfl⟩
  obtain ⟨bb, hbb⟩ : ∃ bb, us ++ vs = bb := ⟨_, rfl⟩
  obtain ⟨yc, hyc⟩ : ∃ y, mayL bb = y := ⟨_, rfl⟩
  have hlb : bb.length = n + n2 := by rw [← hbb, List.length_append, hl, hl2]
  obtain ⟨V, hV⟩ : ∃ V, s ++ (⟨#[120]⟩ : ByteArray) = V := ⟨_, rfl⟩
  have hVz : V.size = s.size + 1 := by rw [← hV, ByteArray.size_append]; rfl
  have s1 : ∀ w : World, (Op.stringOp .add s ⟨#[120]⟩).run Tryz.prog w = .ok (.string V) w := fun w => by
    rw [← hV]; exact run_string_add_sum w s ⟨#[120]⟩ (by show s.size + 1 ≤ _; omega)
  have hsp : mayL (us ++ [⟨1, V⟩]) = false := mayL_spoilt (by
    show (decide ((0 : Int) ≤ 1) && decide ((1 : Int) < 10) && (decide (V.size = 0) || decide ((1 : Int) = 0))) = false
    rw [decide_eq_false (show ¬ V.size = 0 by omega)]; rfl) us
  obtain ⟨sp, hspp⟩ : ∃ sp, us ++ [(⟨1, V⟩ : Bq)] = sp := ⟨_, rfl⟩
  rw [hspp] at hsp
  have hlsp : sp.length = n + 1 := by rw [← hspp, List.length_append, hl]; rfl
  have HYA := Lib.hid hya
  have HYB := Lib.hid hyb
  have HYC := Lib.hid hyc
  have HLB := Lib.hid hlb
  have HBB := Lib.hid hbb
  have HSP := Lib.hid hsp
  have HSPP := Lib.hid hspp
  have HLSP := Lib.hid hlsp
  clear ht hk hq hA hA2 hl hl2 h0 h02 hya hyb hyc hlb hbb hV hVz hsp hspp hlsp hz
  go_enter Tryz.func5, Tryz.ntmps5
  go_wp2_with fail
  ((with_reducible refine (awm_any _ HTR.out HTK.out HTQ.out).mono ?_))
  rintro e w1 ⟨rfl, hb1⟩
  have HB1 := Lib.hid hb1
  clear hb1
  by_cases h3 : 2000 < n
  · have q3 : (2000 : Int) < (n : Int) := by omega
    clear h3
    go_wp2_with fail
    go_ret
    exact ⟨rfl, HB1.out⟩
  have q3 : ¬ (2000 : Int) < (n : Int) := by omega
  by_cases h4 : 2000 < n2
  · have q4 : (2000 : Int) < (n2 : Int) := by omega
    clear h4
    go_wp2_with fail
    go_ret
    exact ⟨rfl, HB1.out⟩
  have q4 : ¬ (2000 : Int) < (n2 : Int) := by omega
  have r1 := fun w B d h => mmay_any (w := w) (A := B) (n := n + n2) (c := d) HYC.out h HLB.out (by omega)
  have r2 := fun w h => mmay_any (w := w) (A := A) (c := c) HYA.out h HL.out (by omega)
  have r3 := fun w h => mmay_any (w := w) (A := A2) (c := c2) HYB.out h HL2.out (by omega)
  have r5 := fun w B d h => mmay_any (w := w) (A := B) (n := n + 1) (c := d) HSP.out h HLSP.out (by omega)
  have r6 := fun w => mmay_any (w := w) (A := none) (n := 0) (c := 0) mayL_nil (Br.nil _ _) rfl (by decide)
  have hlu : us.length + n2 ≤ 1000000 := by rw [HL.out]; omega
  have hlu1 : us.length + 1 ≤ 1000000 := by rw [HL.out]; omega
  have hcab : ya = true → yc = yb := fun e => by
    rw [← HYC.out, ← HYB.out, ← HBB.out]
    exact mayL_app vs (HYA.out.trans e) (by rw [HBB.out, HLB.out]; omega)
  have HCAB := Lib.hid hcab
  have hnn : n ≤ 2000 := by omega
  clear h3 h4 hcab
  go_wp2_with (at_builtin; refine app_bns rfl _ _ rfl (.slice none 0 0) [] rfl (Bn.start w1) rfl (HA.out.below HB1.out) HL.out H0.out (by simp; omega) ?_)
  intro v5 w5 hn5
  have HN5 := Lib.hid hn5
  clear hn5
  go_wp2_with (at_builtin; refine app_bns rfl _ _ rfl v5 us rfl HN5.out rfl (HA2.out.below (bel_trans HB1.out HN5.out.bel)) HL2.out H02.out hlu ?_)
  intro v6 w6 hn6
  rw [HBB.out] at hn6
  obtain ⟨E, cE, rfl, hE, -, -⟩ := hn6.row
  have HE := Lib.hid hE
  have HB6 := Lib.hid (bel_trans HB1.out hn6.bel)
  rw [HLB.out]
  clear hn6 hE HN5 hlu
  go_wp2_with fail
  ((with_reducible refine (r1 _ _ _ HE.out).mono ?_))
  rintro e w7 ⟨rfl, hb7⟩
  have HB7 := Lib.hid (bel_trans HB6.out hb7)
  clear hb7 HE
  go_wp2_with fail
  ((with_reducible refine (r2 _ (HA.out.below HB7.out)).mono ?_))
  rintro e w8 ⟨rfl, hb8⟩
  have HB8 := Lib.hid (bel_trans HB7.out hb8)
  clear hb8
  -- the first one: none, or t
  have hsh : n = 0 ∨ ∃ (t : Bq) (us' : List Bq), us = t :: us' ∧ 1 ≤ n := by
    have h := HL.out
    cases us with
    | nil => exact .inl h.symm
    | cons t us' => exact .inr ⟨t, us', rfl, by rw [← h, List.length_cons]; omega⟩
  clear r1
  cases ya with
  | false =>
    have HB9 := HB8
    rcases hsh with hn0 | ⟨t, us', hus, hn1⟩
    · have qn : ¬ (0 : Int) < (n : Int) := by omega
      clear hn0
      go_wp2_with fail
      ((with_reducible refine (r2 _ (HA.out.below HB9.out)).mono ?_))
      rintro e w10 ⟨rfl, hb10⟩
      have HB10 := Lib.hid (bel_trans HB9.out hb10)
      clear hb10
      go_wp2_with (at_builtin; refine app_bns rfl _ _ rfl (.slice none 0 0) [] rfl (Bn.start w10) rfl (HA.out.below HB10.out) HL.out H0.out (by simp; omega) ?_)
      intro v11 w11 hn11
      have HN11 := Lib.hid (hn11.alloc (.cells #[.int .i64 1, .string V] 47))
      clear hn11
      go_wp2_with (at_builtin; refine app_bn rfl _ _ rfl v11 us ⟨1, V⟩ rfl HN11.out (ad := ⟨w11.heap.size, 0, none⟩) (c := 1) (by simp [go_sem]) (br_one (heap_alloc_new w11 _)) hlu1 ?_)
      intro v12 w12 hn12
      rw [HSPP.out] at hn12
      obtain ⟨E2, cE2, rfl, hE2, -, -⟩ := hn12.row
      have HE2 := Lib.hid hE2
      have HB12 := Lib.hid (bel_trans HB10.out hn12.bel)
      rw [HLSP.out]
      clear hn12 hE2 HN11
      go_wp2_with fail
      ((with_reducible refine (r5 _ _ _ HE2.out).mono ?_))
      rintro e w13 ⟨rfl, hb13⟩
      have HB13 := Lib.hid (bel_trans HB12.out hb13)
      clear hb13 HE2
      go_wp2_with fail
      ((with_reducible refine (r6 _).mono ?_))
      rintro e w14 ⟨rfl, hb14⟩
      have HB14 := Lib.hid (bel_trans HB13.out hb14)
      clear hb14
      go_wp2_with fail
      ((with_reducible refine (r2 _ (HA.out.below HB14.out)).mono ?_))
      rintro e w15 ⟨rfl, hb15⟩
      have HB15 := Lib.hid (bel_trans HB14.out hb15)
      clear hb15
      go_wp2_with fail
      go_ret
      exact ⟨by simp, HB15.out⟩
    · have qn : (0 : Int) < (n : Int) := by omega
      obtain ⟨g, o, rfl, x0, -⟩ := (HA.out.below HB9.out) 0 t (by rw [hus]; rfl)
      have lg := World.block_lt_of_cell? _ _ x0
      rw [Nat.zero_mul, Nat.add_zero] at x0
      have HUS := Lib.hid hus
      clear hus
      by_cases h6 : t.m = 6
      · have p6 : (t.m == 6) = true := by simpa using h6
        go_wp2_with fail
        ((with_reducible refine (r2 _ (HA.out.below HB9.out)).mono ?_))
        rintro e w10 ⟨rfl, hb10⟩
        have HB10 := Lib.hid (bel_trans HB9.out hb10)
        clear hb10
        go_wp2_with (at_builtin; refine app_bns rfl _ _ rfl (.slice none 0 0) [] rfl (Bn.start w10) rfl (HA.out.below HB10.out) HL.out H0.out (by simp; omega) ?_)
        intro v11 w11 hn11
        have HN11 := Lib.hid (hn11.alloc (.cells #[.int .i64 1, .string V] 47))
        clear hn11
        go_wp2_with (at_builtin; refine app_bn rfl _ _ rfl v11 us ⟨1, V⟩ rfl HN11.out (ad := ⟨w11.heap.size, 0, none⟩) (c := 1) (by simp [go_sem]) (br_one (heap_alloc_new w11 _)) hlu1 ?_)
        intro v12 w12 hn12
        rw [HSPP.out] at hn12
        obtain ⟨E2, cE2, rfl, hE2, -, -⟩ := hn12.row
        have HE2 := Lib.hid hE2
        have HB12 := Lib.hid (bel_trans HB10.out hn12.bel)
        rw [HLSP.out]
        clear hn12 hE2 HN11
        go_wp2_with fail
        ((with_reducible refine (r5 _ _ _ HE2.out).mono ?_))
        rintro e w13 ⟨rfl, hb13⟩
        have HB13 := Lib.hid (bel_trans HB12.out hb13)
        clear hb13 HE2
        go_wp2_with fail
        ((with_reducible refine (r6 _).mono ?_))
        rintro e w14 ⟨rfl, hb14⟩
        have HB14 := Lib.hid (bel_trans HB13.out hb14)
        clear hb14
        go_wp2_with fail
        ((with_reducible refine (r2 _ (HA.out.below HB14.out)).mono ?_))
        rintro e w15 ⟨rfl, hb15⟩
        have HB15 := Lib.hid (bel_trans HB14.out hb15)
        clear hb15
        go_wp2_with fail
        go_ret
        exact ⟨by simp, HB15.out⟩
      · have p6 : (t.m == 6) = false := by simpa using h6
        by_cases h8 : t.m = 8
        · have p8 : (t.m == 8) = true := by simpa using h8
          go_wp2_with fail
          ((with_reducible refine (r2 _ (HA.out.below HB9.out)).mono ?_))
          rintro e w10 ⟨rfl, hb10⟩
          have HB10 := Lib.hid (bel_trans HB9.out hb10)
          clear hb10
          go_wp2_with (at_builtin; refine app_bns rfl _ _ rfl (.slice none 0 0) [] rfl (Bn.start w10) rfl (HA.out.below HB10.out) HL.out H0.out (by simp; omega) ?_)
          intro v11 w11 hn11
          have HN11 := Lib.hid (hn11.alloc (.cells #[.int .i64 1, .string V] 47))
          clear hn11
          go_wp2_with (at_builtin; refine app_bn rfl _ _ rfl v11 us ⟨1, V⟩ rfl HN11.out (ad := ⟨w11.heap.size, 0, none⟩) (c := 1) (by simp [go_sem]) (br_one (heap_alloc_new w11 _)) hlu1 ?_)
          intro v12 w12 hn12
          rw [HSPP.out] at hn12
          obtain ⟨E2, cE2, rfl, hE2, -, -⟩ := hn12.row
          have HE2 := Lib.hid hE2
          have HB12 := Lib.hid (bel_trans HB10.out hn12.bel)
          rw [HLSP.out]
          clear hn12 hE2 HN11
          go_wp2_with fail
          ((with_reducible refine (r5 _ _ _ HE2.out).mono ?_))
          rintro e w13 ⟨rfl, hb13⟩
          have HB13 := Lib.hid (bel_trans HB12.out hb13)
          clear hb13 HE2
          go_wp2_with fail
          ((with_reducible refine (r6 _).mono ?_))
          rintro e w14 ⟨rfl, hb14⟩
          have HB14 := Lib.hid (bel_trans HB13.out hb14)
          clear hb14
          go_wp2_with fail
          ((with_reducible refine (r2 _ (HA.out.below HB14.out)).mono ?_))
          rintro e w15 ⟨rfl, hb15⟩
          have HB15 := Lib.hid (bel_trans HB14.out hb15)
          clear hb15
          go_wp2_with fail
          go_ret
          exact ⟨by simp, HB15.out⟩
        · have p8 : (t.m == 8) = false := by simpa using h8
          go_wp2_with fail
          ((with_reducible refine (r2 _ (HA.out.below HB9.out)).mono ?_))
          rintro e w10 ⟨rfl, hb10⟩
          have HB10 := Lib.hid (bel_trans HB9.out hb10)
          clear hb10
          go_wp2_with (at_builtin; refine app_bns rfl _ _ rfl (.slice none 0 0) [] rfl (Bn.start w10) rfl (HA.out.below HB10.out) HL.out H0.out (by simp; omega) ?_)
          intro v11 w11 hn11
          have HN11 := Lib.hid (hn11.alloc (.cells #[.int .i64 1, .string V] 47))
          clear hn11
          go_wp2_with (at_builtin; refine app_bn rfl _ _ rfl v11 us ⟨1, V⟩ rfl HN11.out (ad := ⟨w11.heap.size, 0, none⟩) (c := 1) (by simp [go_sem]) (br_one (heap_alloc_new w11 _)) hlu1 ?_)
          intro v12 w12 hn12
          rw [HSPP.out] at hn12
          obtain ⟨E2, cE2, rfl, hE2, -, -⟩ := hn12.row
          have HE2 := Lib.hid hE2
          have HB12 := Lib.hid (bel_trans HB10.out hn12.bel)
          rw [HLSP.out]
          clear hn12 hE2 HN11
          go_wp2_with fail
          ((with_reducible refine (r5 _ _ _ HE2.out).mono ?_))
          rintro e w13 ⟨rfl, hb13⟩
          have HB13 := Lib.hid (bel_trans HB12.out hb13)
          clear hb13 HE2
          go_wp2_with fail
          ((with_reducible refine (r6 _).mono ?_))
          rintro e w14 ⟨rfl, hb14⟩
          have HB14 := Lib.hid (bel_trans HB13.out hb14)
          clear hb14
          go_wp2_with fail
          ((with_reducible refine (r2 _ (HA.out.below HB14.out)).mono ?_))
          rintro e w15 ⟨rfl, hb15⟩
          have HB15 := Lib.hid (bel_trans HB14.out hb15)
          clear hb15
          go_wp2_with fail
          go_ret
          exact ⟨by simp, HB15.out⟩
  | true =>
    obtain rfl := HCAB.out rfl
    have t1 : (yc != yc) = false := by simp
    go_wp2_with fail
    ((with_reducible refine (r3 _ (HA2.out.below HB8.out)).mono ?_))
    rintro e w9 ⟨rfl, hb9⟩
    have HB9 := Lib.hid (bel_trans HB8.out hb9)
    clear hb9
    rcases hsh with hn0 | ⟨t, us', hus, hn1⟩
    · have qn : ¬ (0 : Int) < (n : Int) := by omega
      clear hn0
      go_wp2_with fail
      ((with_reducible refine (r2 _ (HA.out.below HB9.out)).mono ?_))
      rintro e w10 ⟨rfl, hb10⟩
      have HB10 := Lib.hid (bel_trans HB9.out hb10)
      clear hb10
      go_wp2_with (at_builtin; refine app_bns rfl _ _ rfl (.slice none 0 0) [] rfl (Bn.start w10) rfl (HA.out.below HB10.out) HL.out H0.out (by simp; omega) ?_)
      intro v11 w11 hn11
      have HN11 := Lib.hid (hn11.alloc (.cells #[.int .i64 1, .string V] 47))
      clear hn11
      go_wp2_with (at_builtin; refine app_bn rfl _ _ rfl v11 us ⟨1, V⟩ rfl HN11.out (ad := ⟨w11.heap.size, 0, none⟩) (c := 1) (by simp [go_sem]) (br_one (heap_alloc_new w11 _)) hlu1 ?_)
      intro v12 w12 hn12
      rw [HSPP.out] at hn12
      obtain ⟨E2, cE2, rfl, hE2, -, -⟩ := hn12.row
      have HE2 := Lib.hid hE2
      have HB12 := Lib.hid (bel_trans HB10.out hn12.bel)
      rw [HLSP.out]
      clear hn12 hE2 HN11
      go_wp2_with fail
      ((with_reducible refine (r5 _ _ _ HE2.out).mono ?_))
      rintro e w13 ⟨rfl, hb13⟩
      have HB13 := Lib.hid (bel_trans HB12.out hb13)
      clear hb13 HE2
      go_wp2_with fail
      ((with_reducible refine (r6 _).mono ?_))
      rintro e w14 ⟨rfl, hb14⟩
      have HB14 := Lib.hid (bel_trans HB13.out hb14)
      clear hb14
      go_wp2_with fail
      ((with_reducible refine (r2 _ (HA.out.below HB14.out)).mono ?_))
      rintro e w15 ⟨rfl, hb15⟩
      have HB15 := Lib.hid (bel_trans HB14.out hb15)
      clear hb15
      by_cases h19 : 1998 < n
      · have q19 : (1998 : Int) < (n : Int) := by omega
        clear h19
        go_wp2_with fail
        go_ret
        exact ⟨by simp, HB15.out⟩
      · have q19 : ¬ (1998 : Int) < (n : Int) := by omega
        obtain ⟨u7, hu7⟩ : ∃ u7, us ++ [(⟨7, noV⟩ : Bq)] = u7 := ⟨_, rfl⟩
        obtain ⟨g7, hg7⟩ : ∃ g7, [(⟨6, noV⟩ : Bq)] ++ u7 = g7 := ⟨_, rfl⟩
        have hgr := Lib.hid (show mayL g7 = true by rw [← hg7, ← hu7]; exact mayL_group HYA.out (by rw [HL.out]; omega))
        have HL18 := Lib.hid (show u7.length = n + 1 by rw [← hu7, List.length_append, HL.out]; rfl)
        have HL19 := Lib.hid (show g7.length = n + 2 by rw [← hg7, List.length_append, HL18.out]; show 1 + (n + 1) = _; omega)
        have HU7 := Lib.hid hu7
        have HG7 := Lib.hid hg7
        clear hu7 hg7
        have HO := Lib.hid (show Bn w15 [⟨6, noV⟩] (.slice (some ⟨w15.heap.size, 0, none⟩) 1 1) (w15.alloc (.cells #[.int .i64 6, .string ⟨#[]⟩] 47)) from ⟨own_bits w15 _ (Nat.le_refl _) [⟨6, noV⟩] rfl (by decide), bel_alloc (Below.refl _ _) _⟩)
        have HB16 := Lib.hid (bel_alloc HB15.out (.cells #[.int .i64 6, .string ⟨#[]⟩] 47))
        go_wp2_with (at_builtin; refine app_bns_g (by simp [Region.wanted, yielded]; omega) _ _ rfl (.slice none 0 0) [] rfl (Bn.start _) rfl (HA.out.below HB16.out) HL.out H0.out (by simp; omega) ?_)
        intro v17 w17 hn17
        have HN17 := Lib.hid (hn17.alloc (.cells #[.int .i64 7, .string ⟨#[]⟩] 47))
        clear hn17
        go_wp2_with (at_builtin; refine app_bns_g (by simp [Region.wanted, yielded]; omega) _ _ rfl v17 us rfl HN17.out (A := some ⟨w17.heap.size, 0, none⟩) (m := 1) (c := 1) (by simp [go_sem]) (br_one (heap_alloc_new w17 _)) rfl (fun e => by cases e) hlu1 ?_)
        intro v18 w18 hn18
        have hn18' : Bn (w15.alloc (.cells #[.int .i64 6, .string ⟨#[]⟩] 47)) u7 v18 w18 := by rw [← HU7.out]; exact hn18
        obtain ⟨E3, cE3, rfl, hE3, hE30, -⟩ := hn18'.row
        have HN18 := Lib.hid (HO.out.below hn18'.bel)
        rw [HL18.out] at hE30 ⊢
        have HE3 := Lib.hid hE3
        have HE30 := Lib.hid hE30
        clear hn18 hn18' hE3 hE30 HN17 HO
        go_wp2_with (at_builtin; refine app_bns_g (by simp [Region.wanted, yielded]; omega) _ _ rfl _ [⟨6, noV⟩] rfl HN18.out rfl HE3.out HL18.out HE30.out (by simp; omega) ?_)
        intro v19 w19 hn19
        have hn19' : Bn w15 g7 v19 w19 := by rw [← HG7.out]; exact hn19
        obtain ⟨E4, cE4, rfl, hE4, -, -⟩ := hn19'.row
        rw [HL19.out]
        have HE4 := Lib.hid hE4
        have HB19 := Lib.hid (bel_trans HB15.out hn19'.bel)
        have r7 := fun w B d h => mmay_any (w := w) (A := B) (n := n + 2) (c := d) (bs := g7) hgr.out h HL19.out (by omega)
        clear hn19 hn19' hE4 HN18
        go_wp2_with fail
        ((with_reducible refine (r7 _ _ _ HE4.out).mono ?_))
        rintro e w20 ⟨rfl, hb20⟩
        have HB20 := Lib.hid (bel_trans HB19.out hb20)
        clear hb20
        go_wp2_with fail
        go_ret
        exact ⟨by simp, HB20.out⟩
    · have qn : (0 : Int) < (n : Int) := by omega
      obtain ⟨g, o, rfl, x0, -⟩ := (HA.out.below HB9.out) 0 t (by rw [hus]; rfl)
      have lg := World.block_lt_of_cell? _ _ x0
      rw [Nat.zero_mul, Nat.add_zero] at x0
      have HUS := Lib.hid hus
      clear hus
      by_cases h6 : t.m = 6
      · have p6 : (t.m == 6) = true := by simpa using h6
        by_cases hc1 : c = 1
        · subst hc1
          have HNL := Lib.hid (show us' = [] from List.length_eq_zero_iff.1 (by have := HL.out; rw [HUS.out] at this; simp at this; omega))
          exact absurd (mayL_first (b := t) (l := us') (by rw [← HUS.out]; exact HYA.out) (.inl h6)) (by rw [HNL.out, mayL_nil]; simp)
        · obtain ⟨c', rfl⟩ : ∃ c', c = c' + 2 := ⟨c - 2, by omega⟩
          go_wp2_with fail
          ((with_reducible refine (r2 _ (HA.out.below HB9.out)).mono ?_))
          rintro e w10 ⟨rfl, hb10⟩
          have HB10 := Lib.hid (bel_trans HB9.out hb10)
          clear hb10
          have hno := Lib.hid (mayL_first (b := t) (l := us') (by rw [← HUS.out]; exact HYA.out) (.inl h6))
          have HD := Lib.hid (show Br w10 (some ⟨g, o + 2, none⟩) us' from by
            have h1 := br_drop (HA.out.below HB10.out) 1
            rw [HUS.out] at h1
            exact h1)
          have HLT := Lib.hid (show us'.length = n - 1 by rw [← HL.out, HUS.out]; rfl)
          have r4 := fun w B d h => mmay_any (w := w) (A := B) (n := n - 1) (c := d) (bs := us') hno.out h HLT.out (by omega)
          go_wp2_with fail
          ((with_reducible refine (r4 _ _ _ HD.out).mono ?_))
          rintro e w10b ⟨rfl, hb10b⟩
          have HB10b := Lib.hid (bel_trans HB10.out hb10b)
          clear hb10b HB10 HD
          go_wp2_with (at_builtin; refine app_bns rfl _ _ rfl (.slice none 0 0) [] rfl (Bn.start w10b) rfl (HA.out.below HB10b.out) HL.out H0.out (by simp; omega) ?_)
          intro v11 w11 hn11
          have HN11 := Lib.hid (hn11.alloc (.cells #[.int .i64 1, .string V] 47))
          clear hn11
          go_wp2_with (at_builtin; refine app_bn rfl _ _ rfl v11 us ⟨1, V⟩ rfl HN11.out (ad := ⟨w11.heap.size, 0, none⟩) (c := 1) (by simp [go_sem]) (br_one (heap_alloc_new w11 _)) hlu1 ?_)
          intro v12 w12 hn12
          rw [HSPP.out] at hn12
          obtain ⟨E2, cE2, rfl, hE2, -, -⟩ := hn12.row
          have HE2 := Lib.hid hE2
          have HB12 := Lib.hid (bel_trans HB10b.out hn12.bel)
          rw [HLSP.out]
          clear hn12 hE2 HN11
          go_wp2_with fail
          ((with_reducible refine (r5 _ _ _ HE2.out).mono ?_))
          rintro e w13 ⟨rfl, hb13⟩
          have HB13 := Lib.hid (bel_trans HB12.out hb13)
          clear hb13 HE2
          go_wp2_with fail
          ((with_reducible refine (r6 _).mono ?_))
          rintro e w14 ⟨rfl, hb14⟩
          have HB14 := Lib.hid (bel_trans HB13.out hb14)
          clear hb14
          go_wp2_with fail
          ((with_reducible refine (r2 _ (HA.out.below HB14.out)).mono ?_))
          rintro e w15 ⟨rfl, hb15⟩
          have HB15 := Lib.hid (bel_trans HB14.out hb15)
          clear hb15
          by_cases h19 : 1998 < n
          · have q19 : (1998 : Int) < (n : Int) := by omega
            clear h19
            go_wp2_with fail
            go_ret
            exact ⟨by simp, HB15.out⟩
          · have q19 : ¬ (1998 : Int) < (n : Int) := by omega
            obtain ⟨u7, hu7⟩ : ∃ u7, us ++ [(⟨7, noV⟩ : Bq)] = u7 := ⟨_, rfl⟩
            obtain ⟨g7, hg7⟩ : ∃ g7, [(⟨6, noV⟩ : Bq)] ++ u7 = g7 := ⟨_, rfl⟩
            have hgr := Lib.hid (show mayL g7 = true by rw [← hg7, ← hu7]; exact mayL_group HYA.out (by rw [HL.out]; omega))
            have HL18 := Lib.hid (show u7.length = n + 1 by rw [← hu7, List.length_append, HL.out]; rfl)
            have HL19 := Lib.hid (show g7.length = n + 2 by rw [← hg7, List.length_append, HL18.out]; show 1 + (n + 1) = _; omega)
            have HU7 := Lib.hid hu7
            have HG7 := Lib.hid hg7
            clear hu7 hg7
            have HO := Lib.hid (show Bn w15 [⟨6, noV⟩] (.slice (some ⟨w15.heap.size, 0, none⟩) 1 1) (w15.alloc (.cells #[.int .i64 6, .string ⟨#[]⟩] 47)) from ⟨own_bits w15 _ (Nat.le_refl _) [⟨6, noV⟩] rfl (by decide), bel_alloc (Below.refl _ _) _⟩)
            have HB16 := Lib.hid (bel_alloc HB15.out (.cells #[.int .i64 6, .string ⟨#[]⟩] 47))
            go_wp2_with (at_builtin; refine app_bns_g (by simp [Region.wanted, yielded]; omega) _ _ rfl (.slice none 0 0) [] rfl (Bn.start _) rfl (HA.out.below HB16.out) HL.out H0.out (by simp; omega) ?_)
            intro v17 w17 hn17
            have HN17 := Lib.hid (hn17.alloc (.cells #[.int .i64 7, .string ⟨#[]⟩] 47))
            clear hn17
            go_wp2_with (at_builtin; refine app_bns_g (by simp [Region.wanted, yielded]; omega) _ _ rfl v17 us rfl HN17.out (A := some ⟨w17.heap.size, 0, none⟩) (m := 1) (c := 1) (by simp [go_sem]) (br_one (heap_alloc_new w17 _)) rfl (fun e => by cases e) hlu1 ?_)
            intro v18 w18 hn18
            have hn18' : Bn (w15.alloc (.cells #[.int .i64 6, .string ⟨#[]⟩] 47)) u7 v18 w18 := by rw [← HU7.out]; exact hn18
            obtain ⟨E3, cE3, rfl, hE3, hE30, -⟩ := hn18'.row
            have HN18 := Lib.hid (HO.out.below hn18'.bel)
            rw [HL18.out] at hE30 ⊢
            have HE3 := Lib.hid hE3
            have HE30 := Lib.hid hE30
            clear hn18 hn18' hE3 hE30 HN17 HO
            go_wp2_with (at_builtin; refine app_bns_g (by simp [Region.wanted, yielded]; omega) _ _ rfl _ [⟨6, noV⟩] rfl HN18.out rfl HE3.out HL18.out HE30.out (by simp; omega) ?_)
            intro v19 w19 hn19
            have hn19' : Bn w15 g7 v19 w19 := by rw [← HG7.out]; exact hn19
            obtain ⟨E4, cE4, rfl, hE4, -, -⟩ := hn19'.row
            rw [HL19.out]
            have HE4 := Lib.hid hE4
            have HB19 := Lib.hid (bel_trans HB15.out hn19'.bel)
            have r7 := fun w B d h => mmay_any (w := w) (A := B) (n := n + 2) (c := d) (bs := g7) hgr.out h HL19.out (by omega)
            clear hn19 hn19' hE4 HN18
            go_wp2_with fail
            ((with_reducible refine (r7 _ _ _ HE4.out).mono ?_))
            rintro e w20 ⟨rfl, hb20⟩
            have HB20 := Lib.hid (bel_trans HB19.out hb20)
            clear hb20
            go_wp2_with fail
            go_ret
            exact ⟨by simp, HB20.out⟩
      · have p6 : (t.m == 6) = false := by simpa using h6
        by_cases h8 : t.m = 8
        · have p8 : (t.m == 8) = true := by simpa using h8
          by_cases hc1 : c = 1
          · subst hc1
            have HNL := Lib.hid (show us' = [] from List.length_eq_zero_iff.1 (by have := HL.out; rw [HUS.out] at this; simp at this; omega))
            exact absurd (mayL_first (b := t) (l := us') (by rw [← HUS.out]; exact HYA.out) (.inr h8)) (by rw [HNL.out, mayL_nil]; simp)
          · obtain ⟨c', rfl⟩ : ∃ c', c = c' + 2 := ⟨c - 2, by omega⟩
            go_wp2_with fail
            ((with_reducible refine (r2 _ (HA.out.below HB9.out)).mono ?_))
            rintro e w10 ⟨rfl, hb10⟩
            have HB10 := Lib.hid (bel_trans HB9.out hb10)
            clear hb10
            have hno := Lib.hid (mayL_first (b := t) (l := us') (by rw [← HUS.out]; exact HYA.out) (.inr h8))
            have HD := Lib.hid (show Br w10 (some ⟨g, o + 2, none⟩) us' from by
              have h1 := br_drop (HA.out.below HB10.out) 1
              rw [HUS.out] at h1
              exact h1)
            have HLT := Lib.hid (show us'.length = n - 1 by rw [← HL.out, HUS.out]; rfl)
            have r4 := fun w B d h => mmay_any (w := w) (A := B) (n := n - 1) (c := d) (bs := us') hno.out h HLT.out (by omega)
            go_wp2_with fail
            ((with_reducible refine (r4 _ _ _ HD.out).mono ?_))
            rintro e w10b ⟨rfl, hb10b⟩
            have HB10b := Lib.hid (bel_trans HB10.out hb10b)
            clear hb10b HB10 HD
            go_wp2_with (at_builtin; refine app_bns rfl _ _ rfl (.slice none 0 0) [] rfl (Bn.start w10b) rfl (HA.out.below HB10b.out) HL.out H0.out (by simp; omega) ?_)
            intro v11 w11 hn11
            have HN11 := Lib.hid (hn11.alloc (.cells #[.int .i64 1, .string V] 47))
            clear hn11
            go_wp2_with (at_builtin; refine app_bn rfl _ _ rfl v11 us ⟨1, V⟩ rfl HN11.out (ad := ⟨w11.heap.size, 0, none⟩) (c := 1) (by simp [go_sem]) (br_one (heap_alloc_new w11 _)) hlu1 ?_)
            intro v12 w12 hn12
            rw [HSPP.out] at hn12
            obtain ⟨E2, cE2, rfl, hE2, -, -⟩ := hn12.row
            have HE2 := Lib.hid hE2
            have HB12 := Lib.hid (bel_trans HB10b.out hn12.bel)
            rw [HLSP.out]
            clear hn12 hE2 HN11
            go_wp2_with fail
            ((with_reducible refine (r5 _ _ _ HE2.out).mono ?_))
            rintro e w13 ⟨rfl, hb13⟩
            have HB13 := Lib.hid (bel_trans HB12.out hb13)
            clear hb13 HE2
            go_wp2_with fail
            ((with_reducible refine (r6 _).mono ?_))
            rintro e w14 ⟨rfl, hb14⟩
            have HB14 := Lib.hid (bel_trans HB13.out hb14)
            clear hb14
            go_wp2_with fail
            ((with_reducible refine (r2 _ (HA.out.below HB14.out)).mono ?_))
            rintro e w15 ⟨rfl, hb15⟩
            have HB15 := Lib.hid (bel_trans HB14.out hb15)
            clear hb15
            by_cases h19 : 1998 < n
            · have q19 : (1998 : Int) < (n : Int) := by omega
              clear h19
              go_wp2_with fail
              go_ret
              exact ⟨by simp, HB15.out⟩
            · have q19 : ¬ (1998 : Int) < (n : Int) := by omega
              obtain ⟨u7, hu7⟩ : ∃ u7, us ++ [(⟨7, noV⟩ : Bq)] = u7 := ⟨_, rfl⟩
              obtain ⟨g7, hg7⟩ : ∃ g7, [(⟨6, noV⟩ : Bq)] ++ u7 = g7 := ⟨_, rfl⟩
              have hgr := Lib.hid (show mayL g7 = true by rw [← hg7, ← hu7]; exact mayL_group HYA.out (by rw [HL.out]; omega))
              have HL18 := Lib.hid (show u7.length = n + 1 by rw [← hu7, List.length_append, HL.out]; rfl)
              have HL19 := Lib.hid (show g7.length = n + 2 by rw [← hg7, List.length_append, HL18.out]; show 1 + (n + 1) = _; omega)
              have HU7 := Lib.hid hu7
              have HG7 := Lib.hid hg7
              clear hu7 hg7
              have HO := Lib.hid (show Bn w15 [⟨6, noV⟩] (.slice (some ⟨w15.heap.size, 0, none⟩) 1 1) (w15.alloc (.cells #[.int .i64 6, .string ⟨#[]⟩] 47)) from ⟨own_bits w15 _ (Nat.le_refl _) [⟨6, noV⟩] rfl (by decide), bel_alloc (Below.refl _ _) _⟩)
              have HB16 := Lib.hid (bel_alloc HB15.out (.cells #[.int .i64 6, .string ⟨#[]⟩] 47))
              go_wp2_with (at_builtin; refine app_bns_g (by simp [Region.wanted, yielded]; omega) _ _ rfl (.slice none 0 0) [] rfl (Bn.start _) rfl (HA.out.below HB16.out) HL.out H0.out (by simp; omega) ?_)
              intro v17 w17 hn17
              have HN17 := Lib.hid (hn17.alloc (.cells #[.int .i64 7, .string ⟨#[]⟩] 47))
              clear hn17
              go_wp2_with (at_builtin; refine app_bns_g (by simp [Region.wanted, yielded]; omega) _ _ rfl v17 us rfl HN17.out (A := some ⟨w17.heap.size, 0, none⟩) (m := 1) (c := 1) (by simp [go_sem]) (br_one (heap_alloc_new w17 _)) rfl (fun e => by cases e) hlu1 ?_)
              intro v18 w18 hn18
              have hn18' : Bn (w15.alloc (.cells #[.int .i64 6, .string ⟨#[]⟩] 47)) u7 v18 w18 := by rw [← HU7.out]; exact hn18
              obtain ⟨E3, cE3, rfl, hE3, hE30, -⟩ := hn18'.row
              have HN18 := Lib.hid (HO.out.below hn18'.bel)
              rw [HL18.out] at hE30 ⊢
              have HE3 := Lib.hid hE3
              have HE30 := Lib.hid hE30
              clear hn18 hn18' hE3 hE30 HN17 HO
              go_wp2_with (at_builtin; refine app_bns_g (by simp [Region.wanted, yielded]; omega) _ _ rfl _ [⟨6, noV⟩] rfl HN18.out rfl HE3.out HL18.out HE30.out (by simp; omega) ?_)
              intro v19 w19 hn19
              have hn19' : Bn w15 g7 v19 w19 := by rw [← HG7.out]; exact hn19
              obtain ⟨E4, cE4, rfl, hE4, -, -⟩ := hn19'.row
              rw [HL19.out]
              have HE4 := Lib.hid hE4
              have HB19 := Lib.hid (bel_trans HB15.out hn19'.bel)
              have r7 := fun w B d h => mmay_any (w := w) (A := B) (n := n + 2) (c := d) (bs := g7) hgr.out h HL19.out (by omega)
              clear hn19 hn19' hE4 HN18
              go_wp2_with fail
              ((with_reducible refine (r7 _ _ _ HE4.out).mono ?_))
              rintro e w20 ⟨rfl, hb20⟩
              have HB20 := Lib.hid (bel_trans HB19.out hb20)
              clear hb20
              go_wp2_with fail
              go_ret
              exact ⟨by simp, HB20.out⟩
        · have p8 : (t.m == 8) = false := by simpa using h8
          go_wp2_with fail
          ((with_reducible refine (r2 _ (HA.out.below HB9.out)).mono ?_))
          rintro e w10 ⟨rfl, hb10⟩
          have HB10 := Lib.hid (bel_trans HB9.out hb10)
          clear hb10
          go_wp2_with (at_builtin; refine app_bns rfl _ _ rfl (.slice none 0 0) [] rfl (Bn.start w10) rfl (HA.out.below HB10.out) HL.out H0.out (by simp; omega) ?_)
          intro v11 w11 hn11
          have HN11 := Lib.hid (hn11.alloc (.cells #[.int .i64 1, .string V] 47))
          clear hn11
          go_wp2_with (at_builtin; refine app_bn rfl _ _ rfl v11 us ⟨1, V⟩ rfl HN11.out (ad := ⟨w11.heap.size, 0, none⟩) (c := 1) (by simp [go_sem]) (br_one (heap_alloc_new w11 _)) hlu1 ?_)
          intro v12 w12 hn12
          rw [HSPP.out] at hn12
          obtain ⟨E2, cE2, rfl, hE2, -, -⟩ := hn12.row
          have HE2 := Lib.hid hE2
          have HB12 := Lib.hid (bel_trans HB10.out hn12.bel)
          rw [HLSP.out]
          clear hn12 hE2 HN11
          go_wp2_with fail
          ((with_reducible refine (r5 _ _ _ HE2.out).mono ?_))
          rintro e w13 ⟨rfl, hb13⟩
          have HB13 := Lib.hid (bel_trans HB12.out hb13)
          clear hb13 HE2
          go_wp2_with fail
          ((with_reducible refine (r6 _).mono ?_))
          rintro e w14 ⟨rfl, hb14⟩
          have HB14 := Lib.hid (bel_trans HB13.out hb14)
          clear hb14
          go_wp2_with fail
          ((with_reducible refine (r2 _ (HA.out.below HB14.out)).mono ?_))
          rintro e w15 ⟨rfl, hb15⟩
          have HB15 := Lib.hid (bel_trans HB14.out hb15)
          clear hb15
          by_cases h19 : 1998 < n
          · have q19 : (1998 : Int) < (n : Int) := by omega
            clear h19
            go_wp2_with fail
            go_ret
            exact ⟨by simp, HB15.out⟩
          · have q19 : ¬ (1998 : Int) < (n : Int) := by omega
            obtain ⟨u7, hu7⟩ : ∃ u7, us ++ [(⟨7, noV⟩ : Bq)] = u7 := ⟨_, rfl⟩
            obtain ⟨g7, hg7⟩ : ∃ g7, [(⟨6, noV⟩ : Bq)] ++ u7 = g7 := ⟨_, rfl⟩
            have hgr := Lib.hid (show mayL g7 = true by rw [← hg7, ← hu7]; exact mayL_group HYA.out (by rw [HL.out]; omega))
            have HL18 := Lib.hid (show u7.length = n + 1 by rw [← hu7, List.length_append, HL.out]; rfl)
            have HL19 := Lib.hid (show g7.length = n + 2 by rw [← hg7, List.length_append, HL18.out]; show 1 + (n + 1) = _; omega)
            have HU7 := Lib.hid hu7
            have HG7 := Lib.hid hg7
            clear hu7 hg7
            have HO := Lib.hid (show Bn w15 [⟨6, noV⟩] (.slice (some ⟨w15.heap.size, 0, none⟩) 1 1) (w15.alloc (.cells #[.int .i64 6, .string ⟨#[]⟩] 47)) from ⟨own_bits w15 _ (Nat.le_refl _) [⟨6, noV⟩] rfl (by decide), bel_alloc (Below.refl _ _) _⟩)
            have HB16 := Lib.hid (bel_alloc HB15.out (.cells #[.int .i64 6, .string ⟨#[]⟩] 47))
            go_wp2_with (at_builtin; refine app_bns_g (by simp [Region.wanted, yielded]; omega) _ _ rfl (.slice none 0 0) [] rfl (Bn.start _) rfl (HA.out.below HB16.out) HL.out H0.out (by simp; omega) ?_)
            intro v17 w17 hn17
            have HN17 := Lib.hid (hn17.alloc (.cells #[.int .i64 7, .string ⟨#[]⟩] 47))
            clear hn17
            go_wp2_with (at_builtin; refine app_bns_g (by simp [Region.wanted, yielded]; omega) _ _ rfl v17 us rfl HN17.out (A := some ⟨w17.heap.size, 0, none⟩) (m := 1) (c := 1) (by simp [go_sem]) (br_one (heap_alloc_new w17 _)) rfl (fun e => by cases e) hlu1 ?_)
            intro v18 w18 hn18
            have hn18' : Bn (w15.alloc (.cells #[.int .i64 6, .string ⟨#[]⟩] 47)) u7 v18 w18 := by rw [← HU7.out]; exact hn18
            obtain ⟨E3, cE3, rfl, hE3, hE30, -⟩ := hn18'.row
            have HN18 := Lib.hid (HO.out.below hn18'.bel)
            rw [HL18.out] at hE30 ⊢
            have HE3 := Lib.hid hE3
            have HE30 := Lib.hid hE30
            clear hn18 hn18' hE3 hE30 HN17 HO
            go_wp2_with (at_builtin; refine app_bns_g (by simp [Region.wanted, yielded]; omega) _ _ rfl _ [⟨6, noV⟩] rfl HN18.out rfl HE3.out HL18.out HE30.out (by simp; omega) ?_)
            intro v19 w19 hn19
            have hn19' : Bn w15 g7 v19 w19 := by rw [← HG7.out]; exact hn19
            obtain ⟨E4, cE4, rfl, hE4, -, -⟩ := hn19'.row
            rw [HL19.out]
            have HE4 := Lib.hid hE4
            have HB19 := Lib.hid (bel_trans HB15.out hn19'.bel)
            have r7 := fun w B d h => mmay_any (w := w) (A := B) (n := n + 2) (c := d) (bs := g7) hgr.out h HL19.out (by omega)
            clear hn19 hn19' hE4 HN18
            go_wp2_with fail
            ((with_reducible refine (r7 _ _ _ HE4.out).mono ?_))
            rintro e w20 ⟨rfl, hb20⟩
            have HB20 := Lib.hid (bel_trans HB19.out hb20)
            clear hb20
            go_wp2_with fail
            go_ret
            exact ⟨by simp, HB20.out⟩
end Go.Proofs.YtpcijjdlppoblaaGreatDoor
