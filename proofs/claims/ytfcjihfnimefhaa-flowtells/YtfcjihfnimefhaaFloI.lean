/- Contracts of package flow: printed. -/
import Derived.Test.YtfcjihfnimefhaaFloH
import Derived.Test.YtfcjihfnimefhaaWidD
import Derived.Deep.LoopGhost
namespace Go.Proofs.Ytfcjihfnimefhaa
open Go.RowKit Go.Shelf
set_option linter.unusedVariables false
set_option maxRecDepth 100000

/-- A page, and what is told of each place. -/
structure FpI (w : World) (b : Nat) (l : List Bq) (k : Nat) (W : Int) (t3 t5 t6 t7 t8 : Nat) (p : Pg) (wr : World) : Prop where
  pg : Pq w.heap.size b p.out p.ind p.col p.due wr
  dc : DcB (l.take k) k W t3 t5 t6 t7 t8 wr
  bel : Below w.heap.size w wr
section
variable {w : World} {b : Nat} {l : List Bq} {k : Nat} {W : Int} {t3 t5 t6 t7 t8 : Nat} {p : Pg} {wr w' : World}
theorem FpI.below (h : FpI w b l k W t3 t5 t6 t7 t8 p wr) (hb : Below wr.heap.size wr w') : FpI w b l k W t3 t5 t6 t7 t8 p w' :=
  ⟨h.pg.below hb, h.dc.below hb, bel_trans h.bel hb⟩
theorem FpI.next {q : Pg} (h : FpI w b l k W t3 t5 t6 t7 t8 p wr) (h2 : Pq w.heap.size b q.out q.ind q.col q.due w') (hk : Kq w.heap.size b wr w') : FpI w b l k W t3 t5 t6 t7 t8 q w' :=
  ⟨h2, h.dc.kq h.pg hk, h.bel.trans hk.bel⟩
theorem FpI.same {q : Pg} (h : FpI w b l k W t3 t5 t6 t7 t8 p wr) (h1 : q.out = p.out) (h2 : q.ind = p.ind) (h3 : q.col = p.col) (h4 : q.due = p.due) : FpI w b l k W t3 t5 t6 t7 t8 q wr :=
  ⟨by rw [h1, h2, h3, h4]; exact h.pg, h.dc, h.bel⟩
end
set_option maxHeartbeats 8000000 in
theorem fprinted_any {w : World} {A : Option Addr} {n c : Nat} {l : List Bq} {W k : Nat} (hA : Br w A l) (hn : l.length = n) (hz : n ≤ 400) (hm : mayF 0 0 l = true) (hv : vS l ≤ 100000000) (hW : W ≤ 65535) (hk : k ≤ n) :
    Calls Try.prog 23 #[.slice A k c, .int .i64 (W : Int)] w fun e w' => e = .returned (.tuple #[.string (mkb (flwF l W k)), .int .i64 ((hldN l W k : Nat) : Int), .int .i64 ((mostN l W k : Nat) : Int)]) ∧ Below w.heap.size w w' := by
  have hok := mayF_ok hm
  have hvs : ∀ b ∈ l, b.v.size ≤ 100000000 := fun b hb => by
    obtain ⟨j, hj⟩ := List.mem_iff_getElem?.1 hb
    have h1 := vS_next hj
    have h2 := vS_le l (j + 1)
    omega
  have hs : SzB l := fun b hb => Nat.le_trans (hvs b hb) (by decide)
  have hokT : ∀ t ∈ l.take k, (Lit.int .i64 t.m).wf = true := fun t ht => (ok_marks (hok t (List.mem_of_mem_take ht))).2.2
  have hsT : SzB (l.take k) := hs.take k
  obtain ⟨us, hus⟩ := bz_ex (l.take k) hokT hsT
  have hlT : (l.take k).length = k := by rw [List.length_take]; omega
  have hlu : us.length = k := by rw [← hlT, ← hus, List.length_map]
  have hinv := pgs_inv (W : Int) hm (by omega : l.length ≤ 400)
  have r1 := fun w (h : Br w A l) => fdec_any (w := w) (A := A) (n := k) (c := c) (us := us) (wd := (W : Int)) hlu (by omega) (by rw [hus]; exact br_take h k) (by rw [hus]; exact pre_of hm k) (by rw [hus]; exact hokT) (by rw [hus]; exact hsT)
  rw [hus] at r1
  have r2 := fun (W' : World) (t3 t5 t6 t7 t8 : Nat) (h : DcB (l.take k) k (W : Int) t3 t5 t6 t7 t8 W') (i come : Nat) (hi : i < come) (hc : come ≤ k) (col : Int) (h0 : 0 ≤ col) (h1 : col ≤ 1000000000) => fdec1_any h hlT (by omega) hsT hi hc h0 h1
  have HA := Lib.hid hA
  have HL := Lib.hid hn
  have HV := Lib.hid hv
  have HVS := Lib.hid hvs
  have HOK := Lib.hid hok
  have HM := Lib.hid hm
  have HI := Lib.hid hinv
  have HR2 := Lib.hid r2
  have HP0 := Lib.hid (Pq.new w)
  have HB0 := Lib.hid (bel_alloc (Below.refl _ w) (.cells #[.pointer none, .slice none 0 0, .int .i64 0, .int .i64 0, .int .i64 0] 61))
  clear hA hn hv hvs hok hm hinv hs hokT hsT hus hlT hlu r2
  go_enter Try.func23, Try.ntmps23
  go_wp2_with fail
  go_step3
  go_wp2_with fail
  ((with_reducible refine (r1 _ (HA.out.below HB0.out)).mono ?_))
  rintro e w1 ⟨t3, t5, t6, t7, t8, rfl, hd1, hb1⟩
  have H1 := Lib.hid (show FpI w w.heap.size l k (W : Int) t3 t5 t6 t7 t8 pg0 w1 from ⟨HP0.out.below hb1, hd1, bel_trans HB0.out hb1⟩)
  clear hd1 hb1 r1 HP0 HB0
  generalize w.heap.size = b at H1 ⊢
  go_wp2_with fail
  go_step3
  go_wp2_with fail
  go_loopg [5, 6, 9, 10, 20] (k + 1) (fun g x5 x6 x9 x10 x20 wr => ∃ cc : Nat, cc + g = k + 1 ∧ x20 = .int .i64 cc ∧ x5 = .int .i64 ((hldN l W (cc - 1) : Nat) : Int) ∧ x6 = .int .i64 ((mostN l W (cc - 1) : Nat) : Int) ∧ x9 = .int .i64 ((stF l W (cc - 1) : Nat) : Int) ∧ x10 = .int .i64 (pgs l W (stF l W (cc - 1))).fl ∧ Hid (FpI w b l k W t3 t5 t6 t7 t8 (pgs l W (stF l W (cc - 1))) wr))
  case atStart =>
    have h0 : stF l (W : Int) 0 = 0 := by have := (stF_spec l (W : Int) 0).le; omega
    refine ⟨0, by omega, rfl, by rw [Nat.zero_sub]; unfold hldN; rw [h0]; rfl, by rw [Nat.zero_sub]; rfl, by rw [Nat.zero_sub, h0]; rfl, ?_, ?_⟩
    · rw [Nat.zero_sub, h0]; rfl
    · rw [Nat.zero_sub, h0]; exact H1
  case round =>
    obtain ⟨cc, hcg, rfl, rfl, rfl, rfl, rfl, hP⟩ := hrel
    cases gk with
    | zero =>
      obtain rfl : cc = k + 1 := by omega
      rw [Nat.add_sub_cancel] at hP ⊢
      have q1 : ¬ ((k + 1 : Nat) : Int) < (k : Int) + 1 := by omega
      have r4 := fun w' (h : FpI w b l k (W : Int) t3 t5 t6 t7 t8 (pgs l (W : Int) (stF l (W : Int) k)) w') => pstr_any h.pg
      go_wp2_with fail
      ((with_reducible refine (r4 _ hP.out).mono ?_))
      rintro e w2 ⟨rfl, hb2⟩
      have HB := Lib.hid (hP.out.bel.trans hb2)
      clear hb2 r4 hP
      go_wp2_with fail
      (try rw [Exit.noGoto_ret])
      go_ret3
      exact ⟨rfl, HB.out⟩
    | succ g =>
      have hck : cc ≤ k := by omega
      have q1 : (cc : Int) < (k : Int) + 1 := by omega
      obtain ⟨S0, hS0⟩ : ∃ S0, stF l (W : Int) (cc - 1) = S0 := ⟨_, rfl⟩
      obtain ⟨M0, hM0⟩ : ∃ M0, mostN l (W : Int) (cc - 1) = M0 := ⟨_, rfl⟩
      have hS1 : S0 ≤ stF l (W : Int) cc := by rw [← hS0]; exact stF_more HM.out (by omega) (by rw [HL.out]; omega)
      have hS2 : S0 ≤ cc := by have := (stF_spec l (W : Int) (cc - 1)).le; omega
      have hMk : M0 ≤ 400 := by have := mostN_le l (W : Int) (cc - 1); omega
      rw [hS0] at hP ⊢
      rw [hM0]
      have HS1 := Lib.hid hS1
      have HM0 := Lib.hid hM0
      clear hS0 hM0 hS1
      go_wp2_with fail
      go_loopg [5, 6, 9, 10] (cc - S0) (fun g2 x5 x6 x9 x10 wy => ∃ a : Nat, a + g2 = cc ∧ x5 = .int .i64 0 ∧ x6 = .int .i64 (M0 : Int) ∧ x9 = .int .i64 (a : Int) ∧ Hid (a ≤ stF l W cc) ∧ x10 = .int .i64 (pgs l W a).fl ∧ Hid (FpI w b l k W t3 t5 t6 t7 t8 (pgs l W a) wy))
      case atStart => exact ⟨S0, by omega, rfl, rfl, rfl, HS1, rfl, hP⟩
      case round =>
        clear hP
        obtain ⟨a, hag, rfl, rfl, rfl, hAS, rfl, hP⟩ := hrel
        cases gk with
        | zero =>
          obtain rfl : a = cc := by omega
          have hE := st_end hAS.out
          have hM := mostN_end hE
          have hH : hldN l (W : Int) a = 0 := by unfold hldN; omega
          have HE := Lib.hid (And.intro hE (And.intro hM hH))
          generalize hf : (pgs l (W : Int) a).fl = f
          have HF := Lib.hid hf
          clear hE hM hH hf
          go_wp2_with fail
          go_roundg g
          case measure => omega
          case rel => exact ⟨a + 1, by omega, by go_num, by rw [Nat.add_sub_cancel, HE.out.2.2]; rfl, by rw [Nat.add_sub_cancel, HE.out.2.1, HM0.out], by rw [Nat.add_sub_cancel, HE.out.1], by rw [Nat.add_sub_cancel, HE.out.1, HF.out], by rw [Nat.add_sub_cancel, HE.out.1]; exact hP⟩
        | succ g2 =>
          have hac : a < cc := by omega
          have q2 : (a : Int) < (cc : Int) := by omega
          obtain ⟨t, ht⟩ : ∃ t, l[a]? = some t := ⟨_, List.getElem?_eq_getElem (by rw [HL.out]; omega)⟩
          have hpi := HI.out a (by rw [HL.out]; omega)
          have hvl := HV.out
          have hvj := vS_le l a
          have hnx := pgs_next (w := (W : Int)) ht
          have hvt := HVS.out t (List.mem_of_getElem? ht)
          have hokt := HOK.out t (List.mem_of_getElem? ht)
          have hmk := (ok_marks hokt).2.2
          have hun := fun h6 hfl hd => st_und (c := cc) (w := (W : Int)) hAS.out ht h6 hfl hd
          obtain ⟨b0, o0, rfl, d0, d1⟩ := (HA.out.below hP.out.bel) a t ht
          have i1 := hpi.ind0
          have i2 := hpi.indk
          have i3 := hpi.col0
          have i4 := hpi.colk
          have i5 := hpi.due0
          have i6 := hpi.duek
          have i7 := hpi.outk
          have hdc := fun h6 => dc_all (w := (W : Int)) (c := cc) (k := k) (col := (pgs l (W : Int) a).col) HM.out ht h6 hac hck (by rw [HL.out]; omega)
          have hpe := fun (n m : Int) hne => pr_else (w := (W : Int)) (n := n) (m := m) ht hpi hne
          have hpd := fun (q : Bool) (m' : Int) h6 hfl hd h1 h2 z => pr_dec (w := (W : Int)) (c := cc) (q := q) (m' := m') HM.out ht h6 hac (by rw [HL.out]; omega) hfl hd h1 h2 z (p := pgs l (W : Int) a)
          have hcl := fun he => hpi.close ht he
          have hnu : ¬ (t.m = 6 ∧ (pgs l (W : Int) a).fl = -1 ∧ decF l (W : Int) cc a (pgs l (W : Int) a).col = none) → a + 1 ≤ stF l (W : Int) cc := fun h => st_more hAS.out hac ht h
          have r3 := fun w' q (h : FpI w b l k (W : Int) t3 t5 t6 t7 t8 (pgs l (W : Int) a) w') => fprint_any (p := pgs l (W : Int) a) h.pg (t := t) hmk hvt q (by omega) i5 (by omega) i3 (by omega) i1 (by omega)
          generalize hp : pgs l (W : Int) a = p at hP hpi hnx hun hdc hpe hpd hcl hnu i1 i2 i3 i4 i5 i6 i7 r3 ⊢
          have lb := hP.out.pg.lt
          have hcell := hP.out.pg.cells.2.1
          obtain ⟨out, ind, col, due, f⟩ := p
          obtain ⟨tm, tv⟩ := t
          dsimp only at hP hpi hnx hun hdc hpe hpd hcl hnu hvt hmk i1 i2 i3 i4 i5 i6 i7 r3 d0 d1 hcell ⊢
          have HNX := Lib.hid hnx
          have HUN := Lib.hid hun
          have HDC := Lib.hid hdc
          have HPE := Lib.hid hpe
          have HPD := Lib.hid hpd
          have HNU := Lib.hid hnu
          have HPP := Lib.hid hp
          have HCL := Lib.hid hcl
          have hwr : IntKind.i64.wrap ((a : Int) + 1) = (a : Int) + 1 := IntWalk.i64_in _ (by omega)
          have r2 := fun w' (h : FpI w b l k (W : Int) t3 t5 t6 t7 t8 ⟨out, ind, col, due, f⟩ w') => HR2.out w' t3 t5 t6 t7 t8 h.dc a cc hac hck col i3 (by omega)
          clear hnx hun hdc hpe hpd hnu hp hpi hvl hvj hvt hokt hmk hcl i1 i2 i3 i4 i5 i6 i7 ht HR2
          by_cases h6 : tm = 6 ∧ f = -1
          · obtain ⟨rfl, rfl⟩ := h6
            obtain ⟨hd1, hd2⟩ := HDC.out rfl
            cases hd : decF l (W : Int) cc a col with
            | none =>
              have hM : dcM (l.take k) (W : Int) cc a col = -1 ∧ dcQ (l.take k) (W : Int) cc a col = false := by
                rw [dcM, dcQ, hd1, hd]; exact ⟨if_neg (fun e => by cases e), rfl⟩
              rw [hM.1, hM.2] at r2
              have hst := HUN.out rfl rfl hd
              have HST := Lib.hid hst
              have hwm : IntKind.i64.wrap ((cc : Int) - (a : Int)) = (cc : Int) - (a : Int) := IntWalk.i64_in _ (by omega)
              clear hd1 hd2 hM hst hd r3
              go_wp2_with fail
              ((with_reducible refine (r2 _ hP.out).mono ?_))
              rintro e w2 ⟨rfl, hb2⟩
              have H2 := Lib.hid (hP.out.below hb2)
              clear hb2 r2 d0 d1 hP lb hcell
              go_wp2_with fail
              go_roundg g
              case measure => omega
              case rel =>
                refine ⟨cc + 1, by omega, by go_num, ?_, ?_, ?_, ?_, ?_⟩
                · rw [Nat.add_sub_cancel]; unfold hldN; rw [HST.out]; congr 1; omega
                · rw [Nat.add_sub_cancel, mostN_stop (by omega), HM0.out]; unfold hldN; rw [HST.out]; congr 1; omega
                · rw [Nat.add_sub_cancel, HST.out]
                · rw [Nat.add_sub_cancel, HST.out, HPP.out]
                · rw [Nat.add_sub_cancel, HST.out, HPP.out]; exact H2
            | some q =>
              have HST := Lib.hid (HNU.out (fun x => by rw [hd] at x; cases x.2.2))
              cases q with
              | true =>
                have hM : dcM (l.take k) (W : Int) cc a col = ((mtN (l.take k) a : Nat) : Int) ∧ dcQ (l.take k) (W : Int) cc a col = true := by
                  rw [dcM, dcQ, hd1, hd]; exact ⟨if_pos rfl, rfl⟩
                rw [hM.1, hM.2] at r2
                obtain ⟨hq1, hq2⟩ := HPD.out true ((mtN (l.take k) a : Nat) : Int) rfl rfl hd (fun _ => hd2 hd) (fun e => by cases e) true
                have HQ := Lib.hid (HNX.out.trans hq1)
                generalize mtN (l.take k) a = m at r2 hq2 HQ
                have qm : ((m : Int) == -1) = false := beq_eq_false_iff_ne.2 (by omega)
                have qm2 : ((m : Int) != -1) = true := by rw [bne, qm]; rfl
                have qm3 : ((a : Int) == (m : Int)) = false := beq_eq_false_iff_ne.2 hq2
                clear hd1 hd2 hM hd hq1 hq2
                go_wp2_with fail
                ((with_reducible refine (r2 _ hP.out).mono ?_))
                rintro e w2 ⟨rfl, hb2⟩
                have H2 := Lib.hid (hP.out.below hb2)
                have e0 := bel_cell hb2 d0
                have e1 := bel_cell hb2 d1
                clear hb2 r2 d0 d1 hP lb hcell
                go_wp2_with fail
                ((with_reducible refine (r3 _ true H2.out).mono ?_))
                rintro e w3 ⟨rfl, hp3, hk3⟩
                have H3 := Lib.hid (H2.out.next hp3 hk3)
                clear hp3 hk3 r3
                go_wp2_with fail
                go_roundg g2
                case measure => omega
                case rel => exact ⟨a + 1, by omega, rfl, rfl, by go_num, HST, by rw [HQ.out], by rw [HQ.out]; exact Lib.hid (H3.out.same rfl rfl rfl rfl)⟩
              | false =>
                have hM : dcM (l.take k) (W : Int) cc a col = -1 ∧ dcQ (l.take k) (W : Int) cc a col = true := by
                  rw [dcM, dcQ, hd1, hd]; exact ⟨if_neg (fun e => by cases e), rfl⟩
                rw [hM.1, hM.2] at r2
                obtain ⟨hq1, hq2⟩ := HPD.out false (-1) rfl rfl hd (fun e => by cases e) (fun _ => rfl) false
                have HQ := Lib.hid (HNX.out.trans hq1)
                have qm3 : ((a : Int) == -1) = false := beq_eq_false_iff_ne.2 (by omega)
                clear hd1 hd2 hM hd hq1 hq2
                go_wp2_with fail
                ((with_reducible refine (r2 _ hP.out).mono ?_))
                rintro e w2 ⟨rfl, hb2⟩
                have H2 := Lib.hid (hP.out.below hb2)
                have e0 := bel_cell hb2 d0
                have e1 := bel_cell hb2 d1
                clear hb2 r2 d0 d1 hP lb hcell
                go_wp2_with fail
                ((with_reducible refine (r3 _ false H2.out).mono ?_))
                rintro e w3 ⟨rfl, hp3, hk3⟩
                have H3 := Lib.hid (H2.out.next hp3 hk3)
                clear hp3 hk3 r3
                go_wp2_with fail
                go_roundg g2
                case measure => omega
                case rel => exact ⟨a + 1, by omega, rfl, rfl, by go_num, HST, by rw [HQ.out], by rw [HQ.out]; exact Lib.hid (H3.out.same rfl rfl rfl rfl)⟩
          · have hq := HPE.out (nec l a) (mtc l a) (fun e e2 => h6 ⟨e, e2⟩)
            have HST := Lib.hid (HNU.out (fun x => h6 ⟨x.1, x.2.1⟩))
            have hq := HNX.out.trans hq
            clear r2
            by_cases e6 : tm = 6
            · subst e6
              have hf : f ≠ -1 := fun e => h6 ⟨rfl, e⟩
              have hna : (a : Int) ≠ f := fun e => by have := HCL.out e.symm; cases this
              rw [decide_eq_true hf, if_neg hna] at hq
              have HQ := Lib.hid hq
              have qf : (f == -1) = false := beq_eq_false_iff_ne.2 hf
              have qf2 : (f != -1) = true := by rw [bne, qf]; rfl
              have qf3 : ((a : Int) == f) = false := beq_eq_false_iff_ne.2 hna
              clear h6 hf hna hq
              go_wp2_with fail
              ((with_reducible refine (r3 _ true hP.out).mono ?_))
              rintro e w3 ⟨rfl, hp3, hk3⟩
              have H3 := Lib.hid (hP.out.next hp3 hk3)
              clear hp3 hk3 r3
              go_wp2_with fail
              go_roundg g2
              case measure => omega
              case rel => exact ⟨a + 1, by omega, rfl, rfl, by go_num, HST, by rw [HQ.out], by rw [HQ.out]; exact Lib.hid (H3.out.same rfl rfl rfl rfl)⟩
            · have q6 : (tm == 6) = false := beq_eq_false_iff_ne.2 e6
              by_cases hf : f = -1
              · subst hf
                have hna : (a : Int) ≠ -1 := by omega
                rw [decide_eq_false (by omega), if_neg hna] at hq
                have HQ := Lib.hid hq
                have qf3 : ((a : Int) == -1) = false := beq_eq_false_iff_ne.2 hna
                clear h6 hna hq e6
                go_wp2_with fail
                ((with_reducible refine (r3 _ false hP.out).mono ?_))
                rintro e w3 ⟨rfl, hp3, hk3⟩
                have H3 := Lib.hid (hP.out.next hp3 hk3)
                clear hp3 hk3 r3
                go_wp2_with fail
                go_roundg g2
                case measure => omega
                case rel => exact ⟨a + 1, by omega, rfl, rfl, by go_num, HST, by rw [HQ.out], by rw [HQ.out]; exact Lib.hid (H3.out.same rfl rfl rfl rfl)⟩
              · have qf : (f == -1) = false := beq_eq_false_iff_ne.2 hf
                have qf2 : (f != -1) = true := by rw [bne, qf]; rfl
                rw [decide_eq_true hf] at hq
                by_cases hna : (a : Int) = f
                · rw [if_pos hna] at hq
                  have HQ := Lib.hid hq
                  subst hna
                  clear h6 hq e6 hf
                  go_wp2_with fail
                  ((with_reducible refine (r3 _ true hP.out).mono ?_))
                  rintro e w3 ⟨rfl, hp3, hk3⟩
                  have H3 := Lib.hid (hP.out.next hp3 hk3)
                  clear hp3 hk3 r3
                  go_wp2_with fail
                  go_roundg g2
                  case measure => omega
                  case rel => exact ⟨a + 1, by omega, rfl, rfl, by go_num, HST, by rw [HQ.out], by rw [HQ.out]; exact Lib.hid (H3.out.same rfl rfl rfl rfl)⟩
                · rw [if_neg hna] at hq
                  have HQ := Lib.hid hq
                  have qf3 : ((a : Int) == f) = false := beq_eq_false_iff_ne.2 hna
                  clear h6 hq e6 hf hna
                  go_wp2_with fail
                  ((with_reducible refine (r3 _ true hP.out).mono ?_))
                  rintro e w3 ⟨rfl, hp3, hk3⟩
                  have H3 := Lib.hid (hP.out.next hp3 hk3)
                  clear hp3 hk3 r3
                  go_wp2_with fail
                  go_roundg g2
                  case measure => omega
                  case rel => exact ⟨a + 1, by omega, rfl, rfl, by go_num, HST, by rw [HQ.out], by rw [HQ.out]; exact Lib.hid (H3.out.same rfl rfl rfl rfl)⟩
end Go.Proofs.Ytfcjihfnimefhaa
