/- Contracts of package wide: printed. -/
import Derived.Test.YtfcjihfnimefhaaWidC
import Derived.Test.YtfcjihfnimefhaaBytes
namespace Go.Proofs.Ytfcjihfnimefhaa
open Go.RowKit
set_option linter.unusedVariables false
set_option maxRecDepth 100000

/-- What one bit needs, as it is asked of the bits that were cut. -/
theorem fits_cut {l : List Bq} {W : Nat} {k : Nat} {b : Bq} (hm : mayF 0 0 l = true) (hb : l[k]? = some b) (h6 : b.m = 6) :
    ∃ m : Nat, Mt l k m ∧ NeA (cutL W l) k (ndF (cutL W l) k m) ∧ mtc l k = m ∧ nec l k = ndF l k m ∧ ∀ c : Int, 0 ≤ c → (0 ≤ ndF (cutL W l) k m ∧ ndF (cutL W l) k m ≤ (W : Int) - c ↔ 0 ≤ nec l k ∧ c + nec l k ≤ W) := by
  obtain ⟨m, hmt⟩ := may_mt hm hb h6
  have e := (nec_spec l k).is hmt
  refine ⟨m, hmt, NeA.mk (mt_cut hmt), (mtc_spec l k).is hmt, e, fun c hc => ?_⟩
  rw [ndF_cut W l k m _ (by omega), e]
  omega
theorem putF_fl (p : Pg) (s : ByteArray) : (putF p s).fl = p.fl := by unfold putF; split <;> rfl
theorem ok_marks {b : Bq} (h : okB b = true) : 0 ≤ b.m ∧ b.m ≤ 9 ∧ (Lit.int .i64 b.m).wf = true := by
  rw [okB, Bool.and_eq_true, Bool.and_eq_true, decide_eq_true_eq, decide_eq_true_eq] at h
  obtain ⟨⟨h1, h2⟩, -⟩ := h
  refine ⟨h1, by omega, ?_⟩
  simp only [Lit.wf, IntKind.min, IntKind.max, IntKind.bits, IntKind.signed, Bool.and_eq_true, decide_eq_true_eq]
  have e1 : -(2 : Int) ^ (64 - 1) ≤ 0 := by decide
  have e2 : (9 : Int) ≤ 2 ^ (64 - 1) - 1 := by decide
  simp only [if_true]
  omega
/-- A row's block, kept. -/
theorem bn_keep {w0 w : World} {X : List Bq} {A : Option Addr} {n c : Nat} (h : Bn w0 X (.slice A n c) w) :
    ∃ (g : Nat) (gc : Array Value), (gc = #[] ∨ ∃ fr, w.heap[g]? = some (Obj.cells gc 34 fr)) ∧ ∀ W' : World, (gc = #[] ∨ ∃ fr, W'.heap[g]? = some (Obj.cells gc 34 fr)) → Br W' A X := by
  rcases h.own.2 with ⟨h1, h2⟩ | ⟨g, cap, cur, h1, -, h3, h4, h5, h6, h7⟩
  · obtain rfl : X = [] := List.length_eq_zero_iff.1 h2
    exact ⟨0, #[], .inl rfl, fun W' _ => Br.nil _ _⟩
  · injection h1 with e1 e2 e3
    subst e1
    refine ⟨g, cur, .inr ⟨_, h3⟩, fun W' hW j t ht => ?_⟩
    have hat : ∀ i u, (clb X)[i]? = some u → cur[i]? = some u := fun i u hi => by
      rw [← h7, List.getElem?_take] at hi
      split at hi
      · rw [← Array.getElem?_toList]; exact hi
      · cases hi
    obtain ⟨g0, g1⟩ := clb_at ht
    have k0 := hat _ _ g0
    have k1 := hat _ _ g1
    rcases hW with e | ⟨fr, e⟩
    · rw [e] at k0; simp at k0
    · refine ⟨g, 0, rfl, ?_, ?_⟩ <;> simp [World.cell?, e, k0, k1]
theorem three_boxes {W : World} {b : Nat} (h : W.heap.size = b + 1) (o1 o2 o3 : Obj) :
    (((W.alloc o1).alloc o2).alloc o3).heap[b + 1]? = some o1 ∧ (((W.alloc o1).alloc o2).alloc o3).heap[b + 2]? = some o2 ∧ (((W.alloc o1).alloc o2).alloc o3).heap[b + 3]? = some o3 := by
  have s1 : (W.alloc o1).heap.size = b + 2 := by rw [World.alloc]; simp [h]
  have s2 : ((W.alloc o1).alloc o2).heap.size = b + 3 := by rw [World.alloc]; simp [s1]
  refine ⟨?_, ?_, ?_⟩
  · rw [Lib.alloc_old _ _ _ (by rw [s2]; omega), Lib.alloc_old _ _ _ (by rw [s1]; omega), ← h]; exact heap_alloc_new _ _
  · rw [Lib.alloc_old _ _ _ (by rw [s2]; omega), ← s1]; exact heap_alloc_new _ _
  · rw [← s2]; exact heap_alloc_new _ _
theorem Pr.start (w : World) : Pr w w.heap.size 0 #[] pg0 ((((w.alloc (.cells #[.pointer none, .slice none 0 0] 59)).alloc (.cells #[.int .i64 0] 3)).alloc (.cells #[.int .i64 0] 3)).alloc (.cells #[.int .i64 0] 3)) := by
  obtain ⟨h1, h2, h3⟩ := three_boxes (W := w.alloc (.cells #[.pointer none, .slice none 0 0] 59)) (b := w.heap.size) (by rw [World.alloc]; simp) (.cells #[.int .i64 0] 3) (.cells #[.int .i64 0] 3) (.cells #[.int .i64 0] 3)
  exact ⟨(((Lib.IsBuilderF.of (Lib.fresh_isBuilder 59 5 w)).alloc _).alloc _).alloc _, h1, h2, h3, .inl rfl, Nat.le_refl _, bel_alloc (bel_alloc (bel_alloc (bel_alloc (Below.refl _ _) _) _) _) _⟩
set_option maxHeartbeats 4000000 in
theorem printed_any {w : World} {A : Option Addr} {n c : Nat} {l : List Bq} {W k : Nat} (hA : Br w A l) (hn : l.length = n) (h0 : A = none → n = 0 ∧ c = 0) (hc : n ≤ c) (hz : n ≤ 400) (hm : mayF 0 0 l = true) (hv : vS l ≤ 100000000) (hW : W ≤ 65535) (hk : k ≤ n) :
    Calls Try.prog 29 #[.slice A n c, .int .i64 (W : Int), .int .i64 (k : Int)] w fun e w' => e = .returned (.tuple #[.string (mkb (pgs l W k).out), .int .i64 (pgs l W k).col]) ∧ Below w.heap.size w w' := by
  have hok := mayF_ok hm
  have hvs : ∀ b ∈ l, b.v.size ≤ 100000000 := fun b hb => by
    obtain ⟨j, hj⟩ := List.mem_iff_getElem?.1 hb
    have h1 := vS_next hj
    have h2 := vS_le l (j + 1)
    omega
  have hs : SzB l := fun b hb => Nat.le_trans (hvs b hb) (by decide)
  obtain ⟨us, hus⟩ := bz_ex l (fun t ht => (ok_marks (hok t ht)).2.2) hs
  obtain ⟨vs, hvv⟩ := bz_ex (cutL W l) (fun t ht => by obtain ⟨x, hx, rfl⟩ := List.mem_map.1 ht; exact (ok_marks (hok x hx)).2.2) (szB_cut hs)
  have hlu : us.length = n := by rw [← hn, ← hus, List.length_map]
  have hlv : vs.length = n := by rw [← hn, ← cutL_len W l, ← hvv, List.length_map]
  have hinv := pgs_inv (W : Int) hm (by omega : l.length ≤ 400)
  have r1 := fun w h => cut_any (w := w) (A := A) (n := n) (c := c) (W := W) h hn h0 (by omega) hs hW
  have HA := Lib.hid hA
  have HL := Lib.hid hn
  have H0 := Lib.hid h0
  have HV := Lib.hid hv
  have HVS := Lib.hid hvs
  have HOK := Lib.hid hok
  have HM := Lib.hid hm
  have HUS := Lib.hid hus
  have HVV := Lib.hid hvv
  have HLU := Lib.hid hlu
  have HLV := Lib.hid hlv
  have HI := Lib.hid hinv
  clear hA hn h0 hv hvs hok hm hus hvv hlu hlv hinv hs
  have HP0 := Lib.hid (Pr.start w)
  obtain ⟨b, hbb⟩ : ∃ b, w.heap.size = b := ⟨_, rfl⟩
  have HBB := Lib.hid hbb
  clear hbb
  go_enter Try.func29, Try.ntmps29
  go_wp2_with fail
  generalize (((w.alloc (.cells #[.pointer none, .slice none 0 0] 59)).alloc (.cells #[.int .i64 0] 3)).alloc (.cells #[.int .i64 0] 3)).alloc (.cells #[.int .i64 0] 3) = W4 at HP0 ⊢
  simp only [Nat.add_assoc, Nat.reduceAdd]
  rw [HBB.out] at HP0 ⊢
  have HB4 := Lib.hid HP0.out.bel
  ((with_reducible refine (r1 _ (HA.out.below HB4.out)).mono ?_))
  rintro e w1 ⟨v1, rfl, h1⟩
  clear r1
  obtain ⟨A1, c1, rfl, -, -, hc1⟩ := h1.row
  obtain ⟨g, gc, hgc, hgr⟩ := bn_keep h1
  have HP1 := Lib.hid (show Pr w b g gc pg0 w1 from { HP0.out.below h1.bel with gr := hgc })
  have HGR := Lib.hid hgr
  rw [cutL_len, HL.out] at hc1 ⊢
  clear h1 hgc hgr HP0
  go_wp2_with fail
  go_loopw [15, 29] (fun e i wr => ∃ j : Nat, j ≤ k ∧ i = .int .i64 j ∧ e = .int .i64 (pgs l W j).fl ∧ Hid (Pr w b g gc (pgs l W j) wr)) (fun _ i _ => k - (intOf i).toNat)
  case atStart => exact ⟨0, Nat.zero_le _, rfl, rfl, HP1⟩
  case round =>
    obtain ⟨j, hj, rfl, rfl, hP⟩ := hrel
    have hpi := HI.out j (by rw [HL.out]; omega)
    have hvl := HV.out
    have hvj := vS_le l j
    by_cases hlt : j < k
    · obtain ⟨t, ht⟩ : ∃ t, l[j]? = some t := ⟨_, List.getElem?_eq_getElem (by rw [HL.out]; omega)⟩
      have hnx := pgs_next (w := (W : Int)) ht
      generalize pgs l W j = p at hP hpi hnx ⊢
      have hokt := HOK.out t (List.mem_of_getElem? ht)
      have hvt := HVS.out t (List.mem_of_getElem? ht)
      have hfz := flV_le t
      have hhard := fun h5 => hpi.hard ht h5
      have hclose := fun he => hpi.close ht he
      have hways := bitF_ways (W : Int) (nec l j) (mtc l j) j t p
      have hfit := fun h6 => fits_cut (W := W) HM.out ht h6
      obtain ⟨b0, o0, rfl, d0, d1⟩ := (HA.out.below hP.out.bel) j t ht
      have hmk := (ok_marks hokt).2.2
      have hm0 := (ok_marks hokt).1
      have hm9 := (ok_marks hokt).2.1
      obtain ⟨S, hS⟩ : ∃ S, flV t = S := ⟨_, rfl⟩
      obtain ⟨is, his⟩ : ∃ is, flI t = is := ⟨_, rfl⟩
      have i1 := hpi.ind0
      have i2 := hpi.indk
      have i3 := hpi.col0
      have i4 := hpi.colk
      have i5 := hpi.due0
      have i6 := hpi.duek
      have i7 := hpi.outk
      rw [hS] at hfz hways
      have HX := Lib.hid (hP.out.below (bel_alloc (Below.refl _ _) (.cells #[.int .i64 t.m, .string t.v] 34)))
      have lb := hP.out.lt
      have lb0 := World.block_lt_of_cell? _ _ d0
      obtain ⟨tm, tv⟩ := t
      obtain ⟨out, ind, col, due, f⟩ := p
      dsimp only at d0 d1 hokt hvt hfz hhard hclose hways hmk hm0 hm9 i1 i2 i3 i4 i5 i6 i7 hfit HX
      have r2 := fun w => sflat_any (w := w) hmk hS his
      have rp := fun V (h : Pr w b g gc ⟨out, ind, col, due, f⟩ V) => pput_any h (s := S) (by omega) (by show out.length ≤ _; omega) i5 (by show due ≤ _; omega) i3 (by show col ≤ _; omega)
      have rl := fun V (h : Pr w b g gc ⟨out, ind, col, due, f⟩ V) => pline_any h (by show out.length ≤ _; omega)
      have b1 : col ≤ 200000000 := by omega
      have HNX := Lib.hid hnx
      have HW := Lib.hid hways
      have HFIT := Lib.hid hfit
      have HS := Lib.hid hS
      obtain ⟨x, hx⟩ : ∃ x, wr.heap.size = x := ⟨_, rfl⟩
      have HSZ := Lib.hid hx
      have x0 := Lib.hid (show (wr.alloc (.cells #[.int .i64 tm, .string tv] 34)).cell? ⟨wr.heap.size, 0, none⟩ = some (.int .i64 tm) by simp [go_sem])
      have x1 := Lib.hid (show (wr.alloc (.cells #[.int .i64 tm, .string tv] 34)).cell? ⟨wr.heap.size, 1, none⟩ = some (.string tv) by simp [go_sem])
      have xb := Lib.hid (show (wr.alloc (.cells #[.int .i64 tm, .string tv] 34)).heap.size = wr.heap.size + 1 by rw [World.alloc]; simp)
      clear ht hnx hways hfit hS his hx hokt hpi hvl hvj hP
      have hjf := fun (e : f = (j : Int)) => hclose e
      clear hclose
      rcases HW.out with ⟨e, q, h⟩ | ⟨e, q, h⟩ | ⟨e, q, h⟩ | ⟨e, q, h⟩ | ⟨e, h⟩ | ⟨e, h⟩ | ⟨e, q, h⟩ | ⟨e6, e7, e8, e9, q, h⟩
      · subst e
        obtain rfl : f = -1 := q.1
        obtain ⟨m, hmt, hne, hmc, hnc, hcc⟩ := HFIT.out rfl
        have hqq := hcc col i3
        have r4 := fun w (h : Br w A1 (cutL W l)) => fits_any (w := w) (A := A1) (n := n) (c := c1) (us := vs) (i := (j : Int)) (d := (W : Int) - col) (q := true) (by rw [decide_eq_true_eq]; exact hqq.2 q.2) (by rw [HVV.out]; exact hne) HLV.out (by omega) hc1 (by rw [HVV.out]; exact h)
        have hwr : IntKind.i64.wrap ((W : Int) - col) = (W : Int) - col := IntWalk.i64_in _ (by omega)
        have r5 := fun w (h : Br w (some ⟨b0, o0, none⟩) l) => smatch_any (w := w) (A := some ⟨b0, o0, none⟩) (n := n) (c := c) (us := us) (i := (j : Int)) (r := m) (by rw [HUS.out]; exact MtA.mk hmt) HLU.out (by omega) (by rw [HUS.out]; exact h)
        have HQ := Lib.hid (HNX.out.trans (h.trans (by rw [hmc])))
        clear hmt hne hmc hnc hcc hqq
        clear HNX HW HFIT h q hfz hhard hjf hvt hm0 hm9 hmk HS rp rl
        go_wp2_with fail
        ((with_reducible refine (r2 _).mono ?_))
        rintro e w2 ⟨rfl, hb2⟩
        have P2 := Lib.hid (HX.out.below hb2)
        have y0 := bel_cell hb2 x0.out
        have y1 := bel_cell hb2 x1.out
        obtain ⟨ci, fi⟩ := box_cell P2.out.bi
        obtain ⟨cc, fc⟩ := box_cell P2.out.bc
        have l2 := P2.out.lt
        dsimp only at ci cc
        clear hb2 r2
        go_wp2_with fail
        ((with_reducible refine (r4 _ (HGR.out _ P2.out.gr)).mono ?_))
        rintro e w3 ⟨rfl, hb3⟩
        have P3 := Lib.hid (P2.out.below hb3)
        clear hb3 r4 y0 y1 ci cc fi fc
        go_wp2_with fail
        ((with_reducible refine (r5 _ (HA.out.below P3.out.bel)).mono ?_))
        rintro e w4 ⟨rfl, hb4⟩
        have P4 := Lib.hid (P3.out.below hb4)
        clear hb4 r5
        go_wp2
        go_roundw
        case rel => exact ⟨j + 1, by omega, by go_num, by rw [HQ.out], by rw [HQ.out]; exact Lib.hid (P4.out.fl _)⟩
        case measure => simp [intOf]; omega
      · subst e
        have hS0 : S.size = 0 := by rw [← HS.out]; rfl
        have r3 := fun w => sbreaks_any (w := w) (t := 6) (v := tv) (r := false) hmk rfl
        have hpS : putF ⟨out, ind, col, due, f⟩ S = ⟨out, ind, col, due, f⟩ := by rw [putF, if_pos hS0]
        have HQ := Lib.hid (HNX.out.trans (h.trans hpS.symm))
        clear hpS hS0
        by_cases hf : f = -1
        · subst hf
          obtain ⟨m, hmt, hne, hmc, hnc, hcc⟩ := HFIT.out rfl
          have hqq := hcc col i3
          have r4 := fun w (h : Br w A1 (cutL W l)) => fits_any (w := w) (A := A1) (n := n) (c := c1) (us := vs) (i := (j : Int)) (d := (W : Int) - col) (q := false) (by rw [decide_eq_false_iff_not]; exact fun hh => q ⟨rfl, hqq.1 hh⟩) (by rw [HVV.out]; exact hne) HLV.out (by omega) hc1 (by rw [HVV.out]; exact h)
          have hwr : IntKind.i64.wrap ((W : Int) - col) = (W : Int) - col := IntWalk.i64_in _ (by omega)
          have q5 : ((j : Int) == -1) = false := beq_eq_false_iff_ne.2 (by omega)
          clear hmt hne hmc hnc hcc hqq
          clear HNX HW HFIT h q hfz hhard hjf hvt hm0 hm9 hmk HS rl
          go_wp2_with fail
          ((with_reducible refine (r2 _).mono ?_))
          rintro e w2 ⟨rfl, hb2⟩
          have P2 := Lib.hid (HX.out.below hb2)
          have y0 := bel_cell hb2 x0.out
          have y1 := bel_cell hb2 x1.out
          obtain ⟨ci, fi⟩ := box_cell P2.out.bi
          obtain ⟨cc, fc⟩ := box_cell P2.out.bc
          have l2 := P2.out.lt
          dsimp only at ci cc
          clear hb2 r2
          go_wp2_with fail
          ((with_reducible refine (r4 _ (HGR.out _ P2.out.gr)).mono ?_))
          rintro e w3 ⟨rfl, hb3⟩
          have P3 := Lib.hid (P2.out.below hb3)
          have z0 := bel_cell hb3 y0
          have z1 := bel_cell hb3 y1
          clear hb3 r4 y0 y1 ci cc fi fc
          go_wp2_with fail
          ((with_reducible refine (r3 _).mono ?_))
          rintro e w4 ⟨rfl, hb4⟩
          have P4 := Lib.hid (P3.out.below hb4)
          clear hb4 r3 z0 z1
          go_wp2_with fail
          ((with_reducible refine (rp _ P4.out).mono ?_))
          rintro e w5 ⟨rfl, k5⟩
          have P5 := Lib.hid k5
          clear k5 rp
          go_wp2
          go_roundw
          case rel => exact ⟨j + 1, by omega, by go_num, by rw [HQ.out, putF_fl], by rw [HQ.out]; exact Lib.hid (P5.out.fl _)⟩
          case measure => simp [intOf]; omega
        · have q4 : (f == -1) = false := by simpa using hf
          have q5 : ((j : Int) == f) = false := by
            rw [beq_eq_false_iff_ne]
            exact fun e => absurd (hjf e.symm) (by decide)
          clear HNX HW HFIT h q hfz hhard hjf hvt hm0 hm9 hmk HS rl hf
          go_wp2_with fail
          ((with_reducible refine (r2 _).mono ?_))
          rintro e w2 ⟨rfl, hb2⟩
          have P2 := Lib.hid (HX.out.below hb2)
          have y0 := bel_cell hb2 x0.out
          have y1 := bel_cell hb2 x1.out
          obtain ⟨ci, fi⟩ := box_cell P2.out.bi
          obtain ⟨cc, fc⟩ := box_cell P2.out.bc
          have l2 := P2.out.lt
          dsimp only at ci cc
          clear hb2 r2
          go_wp2_with fail
          ((with_reducible refine (r3 _).mono ?_))
          rintro e w4 ⟨rfl, hb4⟩
          have P4 := Lib.hid (P2.out.below hb4)
          clear hb4 r3 y0 y1 ci cc fi fc
          go_wp2_with fail
          ((with_reducible refine (rp _ P4.out).mono ?_))
          rintro e w5 ⟨rfl, k5⟩
          have P5 := Lib.hid k5
          clear k5 rp
          go_wp2
          go_roundw
          case rel => exact ⟨j + 1, by omega, by go_num, by rw [HQ.out, putF_fl], by rw [HQ.out]; exact Lib.hid (P5.out.fl _)⟩
          case measure => simp [intOf]; omega
      · subst e
        subst q
        have HQ := Lib.hid (HNX.out.trans h)
        clear HNX HW HFIT h hfz hhard hjf hvt hm0 hm9 hmk HS rp rl
        go_wp2_with fail
        ((with_reducible refine (r2 _).mono ?_))
        rintro e w2 ⟨rfl, hb2⟩
        have P2 := Lib.hid (HX.out.below hb2)
        have y0 := bel_cell hb2 x0.out
        have y1 := bel_cell hb2 x1.out
        obtain ⟨ci, fi⟩ := box_cell P2.out.bi
        obtain ⟨cc, fc⟩ := box_cell P2.out.bc
        have l2 := P2.out.lt
        dsimp only at ci cc
        clear hb2 r2
        go_wp2
        go_roundw
        case rel => exact ⟨j + 1, by omega, by go_num, by rw [HQ.out], by rw [HQ.out]; exact Lib.hid (P2.out.fl _)⟩
        case measure => simp [intOf]; omega
      · subst e
        have hS0 : S.size = 0 := by rw [← HS.out]; rfl
        have r3 := fun w => sbreaks_any (w := w) (t := 7) (v := tv) (r := false) hmk rfl
        have hpS : putF ⟨out, ind, col, due, f⟩ S = ⟨out, ind, col, due, f⟩ := by rw [putF, if_pos hS0]
        have HQ := Lib.hid (HNX.out.trans (h.trans hpS.symm))
        have q5 : ((j : Int) == f) = false := by simpa using fun e : (j : Int) = f => q e.symm
        clear hpS hS0
        clear HNX HW HFIT h q hfz hhard hjf hvt hm0 hm9 hmk HS rl
        go_wp2_with fail
        ((with_reducible refine (r2 _).mono ?_))
        rintro e w2 ⟨rfl, hb2⟩
        have P2 := Lib.hid (HX.out.below hb2)
        have y0 := bel_cell hb2 x0.out
        have y1 := bel_cell hb2 x1.out
        obtain ⟨ci, fi⟩ := box_cell P2.out.bi
        obtain ⟨cc, fc⟩ := box_cell P2.out.bc
        have l2 := P2.out.lt
        dsimp only at ci cc
        clear hb2 r2
        go_wp2_with fail
        ((with_reducible refine (r3 _).mono ?_))
        rintro e w4 ⟨rfl, hb4⟩
        have P4 := Lib.hid (P2.out.below hb4)
        clear hb4 r3 y0 y1 ci cc fi fc
        go_wp2_with fail
        ((with_reducible refine (rp _ P4.out).mono ?_))
        rintro e w5 ⟨rfl, k5⟩
        have P5 := Lib.hid k5
        clear k5 rp
        go_wp2
        go_roundw
        case rel => exact ⟨j + 1, by omega, by go_num, by rw [HQ.out, putF_fl], by rw [HQ.out]; exact Lib.hid (P5.out.fl _)⟩
        case measure => simp [intOf]; omega
      · subst e
        have q5 : ((j : Int) == f) = false := by
          rw [beq_eq_false_iff_ne]
          exact fun e => absurd (hjf e.symm) (by decide)
        have hwr : IntKind.i64.wrap (ind + 2) = ind + 2 := IntWalk.i64_in _ (by omega)
        have HQ := Lib.hid (HNX.out.trans h)
        clear HNX HW HFIT h hfz hhard hjf hvt hm0 hm9 hmk HS rp rl
        go_wp2_with fail
        ((with_reducible refine (r2 _).mono ?_))
        rintro e w2 ⟨rfl, hb2⟩
        have P2 := Lib.hid (HX.out.below hb2)
        have y0 := bel_cell hb2 x0.out
        have y1 := bel_cell hb2 x1.out
        obtain ⟨ci, fi⟩ := box_cell P2.out.bi
        obtain ⟨cc, fc⟩ := box_cell P2.out.bc
        have l2 := P2.out.lt
        dsimp only at ci cc
        clear hb2 r2
        go_wp2
        go_roundw
        case rel => exact ⟨j + 1, by omega, by go_num, by rw [HQ.out], by rw [HQ.out]; exact Lib.hid ((P2.out.setI _).fl _)⟩
        case measure => simp [intOf]; omega
      · subst e
        have q5 : ((j : Int) == f) = false := by
          rw [beq_eq_false_iff_ne]
          exact fun e => absurd (hjf e.symm) (by decide)
        have hwr : IntKind.i64.wrap (ind - 2) = ind - 2 := IntWalk.i64_in _ (by omega)
        have HQ := Lib.hid (HNX.out.trans h)
        clear HNX HW HFIT h hfz hhard hjf hvt hm0 hm9 hmk HS rp rl
        go_wp2_with fail
        ((with_reducible refine (r2 _).mono ?_))
        rintro e w2 ⟨rfl, hb2⟩
        have P2 := Lib.hid (HX.out.below hb2)
        have y0 := bel_cell hb2 x0.out
        have y1 := bel_cell hb2 x1.out
        obtain ⟨ci, fi⟩ := box_cell P2.out.bi
        obtain ⟨cc, fc⟩ := box_cell P2.out.bc
        have l2 := P2.out.lt
        dsimp only at ci cc
        clear hb2 r2
        go_wp2
        go_roundw
        case rel => exact ⟨j + 1, by omega, by go_num, by rw [HQ.out], by rw [HQ.out]; exact Lib.hid ((P2.out.setI _).fl _)⟩
        case measure => simp [intOf]; omega
      · obtain rfl : f = -1 := q.elim id hhard
        have hbi := (brF_iff _).1 e
        have g6 : (tm == 6) = false := beq_eq_false_iff_ne.2 (by omega)
        have g8 : (tm == 8) = false := beq_eq_false_iff_ne.2 (by omega)
        have g9 : (tm == 9) = false := beq_eq_false_iff_ne.2 (by omega)
        have q5 : ((j : Int) == -1) = false := beq_eq_false_iff_ne.2 (by omega)
        have r3 := fun w => sbreaks_any (w := w) (t := tm) (v := tv) (r := true) hmk e
        have HQ := Lib.hid (HNX.out.trans h)
        clear hbi e
        clear HNX HW HFIT h q hfz hhard hjf hvt hm0 hm9 hmk HS rp
        go_wp2_with fail
        ((with_reducible refine (r2 _).mono ?_))
        rintro e w2 ⟨rfl, hb2⟩
        have P2 := Lib.hid (HX.out.below hb2)
        have y0 := bel_cell hb2 x0.out
        have y1 := bel_cell hb2 x1.out
        obtain ⟨ci, fi⟩ := box_cell P2.out.bi
        obtain ⟨cc, fc⟩ := box_cell P2.out.bc
        have l2 := P2.out.lt
        dsimp only at ci cc
        clear hb2 r2
        go_wp2_with fail
        ((with_reducible refine (r3 _).mono ?_))
        rintro e w4 ⟨rfl, hb4⟩
        have P4 := Lib.hid (P2.out.below hb4)
        clear hb4 r3 y0 y1 ci cc fi fc
        go_wp2_with fail
        ((with_reducible refine (rl _ P4.out).mono ?_))
        rintro e w5 ⟨rfl, k5⟩
        have P5 := Lib.hid k5
        clear k5 rl
        go_wp2
        go_roundw
        case rel => exact ⟨j + 1, by omega, by go_num, by rw [HQ.out]; rfl, by rw [HQ.out]; exact Lib.hid (P5.out.fl _)⟩
        case measure => simp [intOf]; omega
      · have g6 : (tm == 6) = false := by simpa using e6
        have g8 : (tm == 8) = false := by simpa using e8
        have g9 : (tm == 9) = false := by simpa using e9
        have q5 : ((j : Int) == f) = false := by
          rw [beq_eq_false_iff_ne]
          exact fun e => e7 (hjf e.symm)
        have HQ := Lib.hid (HNX.out.trans h)
        cases hbr : brF tm
        · have r3 := fun w => sbreaks_any (w := w) (t := tm) (v := tv) (r := false) hmk hbr
          clear hbr e6 e7 e8 e9
          clear HNX HW HFIT h q hfz hhard hjf hvt hm0 hm9 hmk HS rl
          go_wp2_with fail
          ((with_reducible refine (r2 _).mono ?_))
          rintro e w2 ⟨rfl, hb2⟩
          have P2 := Lib.hid (HX.out.below hb2)
          have y0 := bel_cell hb2 x0.out
          have y1 := bel_cell hb2 x1.out
          obtain ⟨ci, fi⟩ := box_cell P2.out.bi
          obtain ⟨cc, fc⟩ := box_cell P2.out.bc
          have l2 := P2.out.lt
          dsimp only at ci cc
          clear hb2 r2
          go_wp2_with fail
          ((with_reducible refine (r3 _).mono ?_))
          rintro e w4 ⟨rfl, hb4⟩
          have P4 := Lib.hid (P2.out.below hb4)
          clear hb4 r3 y0 y1 ci cc fi fc
          go_wp2_with fail
          ((with_reducible refine (rp _ P4.out).mono ?_))
          rintro e w5 ⟨rfl, k5⟩
          have P5 := Lib.hid k5
          clear k5 rp
          go_wp2
          go_roundw
          case rel => exact ⟨j + 1, by omega, by go_num, by rw [HQ.out, putF_fl], by rw [HQ.out]; exact Lib.hid (P5.out.fl _)⟩
          case measure => simp [intOf]; omega
        · have q4 : (f == -1) = false := by simpa using fun e : f = -1 => q ⟨hbr, .inl e⟩
          have r3 := fun w => sbreaks_any (w := w) (t := tm) (v := tv) (r := true) hmk hbr
          clear hbr e6 e7 e8 e9
          clear HNX HW HFIT h q hfz hhard hjf hvt hm0 hm9 hmk HS rl
          go_wp2_with fail
          ((with_reducible refine (r2 _).mono ?_))
          rintro e w2 ⟨rfl, hb2⟩
          have P2 := Lib.hid (HX.out.below hb2)
          have y0 := bel_cell hb2 x0.out
          have y1 := bel_cell hb2 x1.out
          obtain ⟨ci, fi⟩ := box_cell P2.out.bi
          obtain ⟨cc, fc⟩ := box_cell P2.out.bc
          have l2 := P2.out.lt
          dsimp only at ci cc
          clear hb2 r2
          go_wp2_with fail
          ((with_reducible refine (r3 _).mono ?_))
          rintro e w4 ⟨rfl, hb4⟩
          have P4 := Lib.hid (P2.out.below hb4)
          clear hb4 r3 y0 y1 ci cc fi fc
          go_wp2_with fail
          ((with_reducible refine (rp _ P4.out).mono ?_))
          rintro e w5 ⟨rfl, k5⟩
          have P5 := Lib.hid k5
          clear k5 rp
          go_wp2
          go_roundw
          case rel => exact ⟨j + 1, by omega, by go_num, by rw [HQ.out, putF_fl], by rw [HQ.out]; exact Lib.hid (P5.out.fl _)⟩
          case measure => simp [intOf]; omega
    · obtain rfl : j = k := by omega
      obtain ⟨cc, fc⟩ := box_cell hP.out.bc
      have lb := hP.out.lt
      have r6 := fun w h => bstr_k b b (pgs l W j).out w h
      obtain ⟨S, hS⟩ : ∃ S : ByteArray, (⟨(pgs l W j).out.toArray⟩ : ByteArray) = S := ⟨_, rfl⟩
      rw [hS] at r6
      have HS := Lib.hid hS
      obtain ⟨C, hC⟩ : ∃ C, (pgs l W j).col = C := ⟨_, rfl⟩
      rw [hC] at cc
      have HC := Lib.hid hC
      have HO := Lib.hid (show Below w.heap.size w wr from hP.out.bel)
      have HB := Lib.hid hP.out.hb
      have hbe : b ≤ wr.heap.size := by omega
      have HPP := Lib.hid (hP.out.below (Below.refl _ wr).drew)
      clear hP hpi hvl hvj hS hC
      go_wp2_with fail
      go_region_law (go_simp; go_at_call 36; refine (r6 _ HPP.out.bu hbe).mono ?_; rintro e w6 ⟨rfl, h6, k6, o6⟩; have P6 := Lib.hid (HPP.out.told h6 k6 o6); have c6 := (box_cell P6.out.bc).1; rw [HC.out] at c6; clear h6 k6 o6)
      all_goals go_wp2
      all_goals go_ret2
      all_goals exact ⟨by rw [← HS.out, HC.out]; rfl, P6.out.bel⟩
end Go.Proofs.Ytfcjihfnimefhaa
