/- The document's own answers for layer 18 (copperplateref18): Print. -/
import Derived.Test.YtfcjihfnimefhaaWidR
namespace Go.Proofs.Ytfcjihfnimefhaa
open Go.RowKit
set_option linter.unusedVariables false
set_option maxRecDepth 100000

/-- What is told, as a string; the rest of a page. -/
def pgV (p : Pg) : Value := .agg #[.string (mkb p.out), .int .i64 p.ind, .int .i64 p.col, .int .i64 p.due, .int .i64 p.fl]
theorem mkb_no : mkb [] = ⟨#[]⟩ := rfl
/-- Put, in the mathematics' words. -/
theorem pgput_any {p : Pg} {S : ByteArray} (hS : S.size ≤ 1000000000) (ho : p.out.length ≤ 1000000000) (hd0 : 0 ≤ p.due) (hd : p.due ≤ 1000) (hc0 : 0 ≤ p.col) (hc : p.col ≤ 1000000000) (w : World) :
    Calls Try.prog 44 #[pgV p, .string S] w fun e w' => e = .returned (pgV (putF p S)) ∧ Below w.heap.size w w' := by
  by_cases h0 : S.size = 0
  · obtain rfl := size_0 h0
    have e : putF p ⟨#[]⟩ = p := by unfold putF; exact if_pos rfl
    rw [e]
    exact rput_none w
  · obtain ⟨N, hN⟩ : ∃ N : Nat, p.due = N := ⟨p.due.toNat, by omega⟩
    have a1 : ∀ w, (Op.stringOp .add (mkb p.out) (mkb (List.replicate N 32))).run Try.prog w = .ok (.string (mkb (p.out ++ List.replicate N 32))) w := fun w => by
      rw [← mkb_add]; exact run_string_add_sum w _ _ (by rw [mkb_size, mkb_size, List.length_replicate]; omega)
    have a2 : ∀ w, (Op.stringOp .add (mkb (p.out ++ List.replicate N 32)) S).run Try.prog w = .ok (.string (mkb ((p.out ++ List.replicate N 32) ++ S.data.toList))) w := fun w => by
      rw [← mkb_add (p.out ++ List.replicate N 32)]; exact run_string_add_sum w _ _ (by rw [mkb_size, List.length_append, List.length_replicate]; omega)
    have hzs := cols_le S.data.toList
    rw [← size_list] at hzs
    have := rput_some (i := p.ind) (f := p.fl) (by omega : N ≤ 1000) h0 (by omega) rfl hc0 hc (by omega) a1 a2 w
    rw [← hN] at this
    have e : putF p S = ⟨(p.out ++ List.replicate N 32) ++ S.data.toList, p.ind, p.col + cols S.data.toList, 0, p.fl⟩ := by rw [putF, if_neg h0, hN, List.append_assoc]; rfl
    rw [e]
    exact this
theorem rline_as {p : Pg} (ho : p.out.length ≤ 1000000000) (w : World) :
    Calls Try.prog 43 #[pgV p] w fun e w' => e = .returned (pgV (lineF p)) ∧ Below w.heap.size w w' := by
  refine rline_any (O := mkb p.out) (R := mkb (p.out ++ [10])) (fun w => ?_) w
  rw [← mkb_add]; exact run_string_add_sum w _ _ (by rw [mkb_size]; show _ + 1 ≤ _; omega)
set_option maxHeartbeats 4000000 in
/-- Print: one bit. -/
theorem rprint_any {w : World} {A : Option Addr} {n c : Nat} {l : List Bq} {W : Int} {j : Nat} {t : Bq} {p : Pg} {q : Bool} (hA : Br w A l) (hn : l.length = n) (hz : n ≤ 400) (hv : vS l ≤ 100000000) (ht : l[j]? = some t) (hp : PgI l j p)
    (hq : t.m = 6 → p.fl = -1 → (q = true ↔ 0 ≤ nec l j ∧ p.col + nec l j ≤ W)) (hok : okB t = true) :
    Calls Try.prog 26 #[pgV p, .slice A n c, .int .i64 (j : Int), .bool q] w fun e w' => e = .returned (pgV (bitF W (nec l j) (mtc l j) j t p)) ∧ Below w.heap.size w w' := by
  have hvl := vS_le l j
  have hvn := vS_le l (j + 1)
  have hvx := vS_next ht
  have hjn : j < n := by rw [← hn]; exact (List.getElem?_eq_some_iff.1 ht).1
  have hfz := flV_le t
  have hclose := fun he => hp.close ht he
  have i0 := hp.fl
  have i1 := hp.ind0
  have i2 := hp.indk
  have i3 := hp.col0
  have i4 := hp.colk
  have i5 := hp.due0
  have i6 := hp.duek
  have i7 := hp.outk
  have hways := bitF_ways W (nec l j) (mtc l j) j t p
  generalize bitF W (nec l j) (mtc l j) j t p = P' at hways ⊢
  obtain ⟨S, hS⟩ : ∃ S, flV t = S := ⟨_, rfl⟩
  obtain ⟨is, his⟩ : ∃ is, flI t = is := ⟨_, rfl⟩
  rw [hS] at hfz hways
  have hm0 : 0 ≤ t.m ∧ t.m < 10 := by
    rw [okB, Bool.and_eq_true, Bool.and_eq_true, decide_eq_true_eq, decide_eq_true_eq] at hok
    exact hok.1
  have hfl1 : p.fl = -1 ∨ 0 ≤ p.fl := by
    rcases i0 with e | ⟨o, m, -, -, e, -⟩
    · exact .inl e
    · exact .inr (by omega)
  have r1 := fun V (h : Br V A l) => rmatch_any (w := V) (A := A) (c := c) (mtc_spec l j) hn (by omega) h
  obtain ⟨out, ind, col, due, f⟩ := p
  obtain ⟨tm, tv⟩ := t
  obtain ⟨b0, o0, rfl, d0, d1⟩ := hA j _ ht
  dsimp only at d0 d1 hfz hclose hways hm0 hfl1 i1 i2 i3 i4 i5 i6 i7 hq hvx
  have r2 := fun w => rflat_any hS his w
  obtain ⟨br, hbr⟩ : ∃ br, brF tm = br := ⟨_, rfl⟩
  have r3 := fun w => rbreaks_any (v := tv) hbr w
  have rp := fun V => pgput_any (p := ⟨out, ind, col, due, f⟩) (S := S) (by omega) (by show out.length ≤ _; omega) i5 (by show due ≤ _; omega) i3 (by show col ≤ _; omega) V
  have rl := fun V => rline_as (p := ⟨out, ind, col, due, f⟩) (by show out.length ≤ _; omega) V
  unfold pgV at rp rl ⊢
  have lb0 := World.block_lt_of_cell? _ _ d0
  have HA := Lib.hid hA
  have HW := Lib.hid hways
  have HS := Lib.hid hS
  have HQ := Lib.hid hq
  have HB := Lib.hid hbr
  have HV := Lib.hid hn
  have HP := Lib.hid (And.intro i3 i4)
  obtain ⟨g, hg⟩ : ∃ g, w.heap.size = g := ⟨_, rfl⟩
  have HG := Lib.hid hg
  have K1 := Lib.hid (show B5 (w.alloc (.cells #[.string (mkb out), .int .i64 ind, .int .i64 col, .int .i64 due, .int .i64 f] 41)) w.heap.size _ _ _ _ _ from B5.new w _ _ _ _ _ _)
  have K2 := Lib.hid (K1.out.below (bel_alloc (Below.refl _ _) (.cells #[.string ⟨#[]⟩, .int .i64 0, .int .i64 0, .int .i64 0, .int .i64 0] 41)))
  have K3 := Lib.hid (show B5 ((w.alloc (.cells #[.string (mkb out), .int .i64 ind, .int .i64 col, .int .i64 due, .int .i64 f] 41)).alloc (.cells #[.string ⟨#[]⟩, .int .i64 0, .int .i64 0, .int .i64 0, .int .i64 0] 41)) (w.heap.size + 1) _ _ _ _ _ by simpa using B5.new (w.alloc (.cells #[.string (mkb out), .int .i64 ind, .int .i64 col, .int .i64 due, .int .i64 f] 41)) _ _ _ _ _ _)
  have K4 := Lib.hid (bel_alloc (bel_alloc (Below.refl _ w) (.cells #[.string (mkb out), .int .i64 ind, .int .i64 col, .int .i64 due, .int .i64 f] 41)) (.cells #[.string ⟨#[]⟩, .int .i64 0, .int .i64 0, .int .i64 0, .int .i64 0] 41))
  clear hA hways hS hq hbr hn hg K1 ht his hp hvl hvn hvx hok hv i4 i0
  go_enter Try.func26, Try.ntmps26
  go_wp2_with fail
  generalize (w.alloc (.cells #[.string (mkb out), .int .i64 ind, .int .i64 col, .int .i64 due, .int .i64 f] 41)).alloc (.cells #[.string ⟨#[]⟩, .int .i64 0, .int .i64 0, .int .i64 0, .int .i64 0] 41) = W0 at K2 K3 K4 ⊢
  rw [HG.out] at K2 K3 ⊢
  ((with_reducible refine (r2 _).mono ?_))
  rintro e w2 ⟨rfl, hb2⟩
  have M2 := Lib.hid (K2.out.below hb2)
  have M3 := Lib.hid (K3.out.below hb2)
  have M4 := Lib.hid (bel_trans K4.out hb2)
  have d20 := bel_cell M4.out d0
  have d21 := bel_cell M4.out d1
  clear hb2 r2 K2 K3 K4
  go_wp2_with fail
  ((with_reducible refine (r3 _).mono ?_))
  rintro e w3 ⟨rfl, hb3⟩
  have N2 := Lib.hid (M2.out.below hb3)
  have N3 := Lib.hid (M3.out.below hb3)
  have N4 := Lib.hid (bel_trans M4.out hb3)
  have d30 := bel_cell N4.out d0
  have d31 := bel_cell N4.out d1
  obtain ⟨c0, c1, c2, c3, c4, f0, f1, f2, f3, f4⟩ := N2.out
  obtain ⟨a0, a1, a2, a3, a4, e0, e1, e2, e3, e4⟩ := N3.out
  have gne : g + 1 ≠ g := Nat.succ_ne_self g
  clear hb3 r3 M2 M3 M4 d20 d21 d0 d1
  have HD := Lib.hid (show w.heap.size ≤ g + 1 by rw [HG.out]; exact Nat.le_succ _)
  rcases HW.out with ⟨e, k, h⟩ | ⟨e, k, h⟩ | ⟨e, k, h⟩ | ⟨e, k, h⟩ | ⟨e, h⟩ | ⟨e, h⟩ | ⟨e, k, h⟩ | ⟨e6, e7, e8, e9, k, h⟩
  · subst e h
    obtain rfl : f = -1 := k.1
    have hq2 : q = true := (HQ.out rfl rfl).2 k.2
    subst hq2
    clear HW HQ hfz hclose hm0 hfl1 k rp rl
    go_wp2_with fail
    ((with_reducible refine (r1 _ (HA.out.below N4.out)).mono ?_))
    rintro e w4 ⟨rfl, hb4⟩
    have N2' := N2.out.below hb4
    have N3' := N3.out.below hb4
    have N4' := bel_trans N4.out hb4
    clear c0 c1 c2 c3 c4 f0 f1 f2 f3 f4 a0 a1 a2 a3 a4 e0 e1 e2 e3 e4 d30 d31 hb4 r1
    obtain ⟨c0, c1, c2, c3, c4, f0, f1, f2, f3, f4⟩ := N2'
    obtain ⟨a0, a1, a2, a3, a4, e0, e1, e2, e3, e4⟩ := id N3'
    have R3 := Lib.hid N3'
    have R4 := Lib.hid N4'
    clear N3' N4'
    go_wp2
    refine body_box rfl (R3.out.other (p := ⟨g, 4, none⟩) (Nat.ne_of_lt (Nat.lt_succ_self g)) _) rfl rfl ?_
    exact ⟨rfl, bel_set5 (R4.out.setCell (p := ⟨g, 4, none⟩) (Nat.le_of_eq HG.out) _) HD.out _ _ _ _ _⟩
  · subst e h
    rcases hfl1 with hf | hf
    · subst hf
      have hq2 : q = false := by
        cases q
        · rfl
        · exact absurd ⟨rfl, (HQ.out rfl rfl).1 rfl⟩ k
      subst hq2
      clear HW HQ hfz hclose hm0 k rp rl r1
      go_wp2
      refine body_box rfl N3.out rfl rfl ?_
      exact ⟨rfl, bel_set5 N4.out HD.out _ _ _ _ _⟩
    · have k1 : ¬ f < 0 := by omega
      clear HW HQ hfz hclose hm0 k rp rl r1 hf
      go_wp2
      refine body_box rfl N3.out rfl rfl ?_
      exact ⟨rfl, bel_set5 N4.out HD.out _ _ _ _ _⟩
  · subst e h
    subst k
    clear HW HQ hfz hclose hm0 hfl1 rp rl r1
    go_wp2
    refine body_box rfl (N3.out.other (p := ⟨g, 4, none⟩) (Nat.ne_of_lt (Nat.lt_succ_self g)) _) rfl rfl ?_
    exact ⟨rfl, bel_set5 (N4.out.setCell (p := ⟨g, 4, none⟩) (Nat.le_of_eq HG.out) _) HD.out _ _ _ _ _⟩
  · subst e h
    have k2 : (f == (j : Int)) = false := beq_eq_false_iff_ne.2 k
    clear HW HQ hfz hclose hm0 hfl1 k rp rl r1
    go_wp2
    refine body_box rfl N3.out rfl rfl ?_
    exact ⟨rfl, bel_set5 N4.out HD.out _ _ _ _ _⟩
  · subst e h
    have hwr : IntKind.i64.wrap (ind + 2) = ind + 2 := IntWalk.i64_in _ (by omega)
    clear HW HQ hfz hclose hm0 hfl1 rp rl r1
    go_wp2
    refine body_box rfl (N3.out.other (p := ⟨g, 1, none⟩) (Nat.ne_of_lt (Nat.lt_succ_self g)) _) rfl rfl ?_
    exact ⟨rfl, bel_set5 (N4.out.setCell (p := ⟨g, 1, none⟩) (Nat.le_of_eq HG.out) _) HD.out _ _ _ _ _⟩
  · subst e h
    have hwr : IntKind.i64.wrap (ind - 2) = ind - 2 := IntWalk.i64_in _ (by omega)
    clear HW HQ hfz hclose hm0 hfl1 rp rl r1
    go_wp2
    refine body_box rfl (N3.out.other (p := ⟨g, 1, none⟩) (Nat.ne_of_lt (Nat.lt_succ_self g)) _) rfl rfl ?_
    exact ⟨rfl, bel_set5 (N4.out.setCell (p := ⟨g, 1, none⟩) (Nat.le_of_eq HG.out) _) HD.out _ _ _ _ _⟩
  · have hbi := (brF_iff _).1 e
    have g6 : (tm == 6) = false := beq_eq_false_iff_ne.2 (by omega)
    have g7 : (tm == 7) = false := beq_eq_false_iff_ne.2 (by omega)
    have g8 : (tm == 8) = false := beq_eq_false_iff_ne.2 (by omega)
    have g9 : (tm == 9) = false := beq_eq_false_iff_ne.2 (by omega)
    have hb2 : br = true := by rw [← HB.out]; exact e
    subst hb2 h
    clear e hbi
    by_cases hf : f = -1
    · subst hf
      clear HW HQ hfz hclose hm0 hfl1 k r1
      go_wp2_with fail
      ((with_reducible refine (rl _).mono ?_))
      rintro e w4 ⟨rfl, hb4⟩
      have N3' := N3.out.below hb4
      have R4 := Lib.hid (bel_trans N4.out hb4)
      clear c0 c1 c2 c3 c4 f0 f1 f2 f3 f4 a0 a1 a2 a3 a4 e0 e1 e2 e3 e4 d30 d31 hb4 rp rl
      have R3 := Lib.hid N3'
      obtain ⟨a0, a1, a2, a3, a4, e0, e1, e2, e3, e4⟩ := N3'
      go_wp2
      refine body_box rfl R3.out rfl rfl ?_
      exact ⟨rfl, bel_set5 R4.out HD.out _ _ _ _ _⟩
    · have h5 : tm = 5 := k.resolve_left hf
      have k1 : ¬ f < 0 := by omega
      subst h5
      clear HW HQ hfz hclose hm0 hfl1 k r1 hf g6 g7 g8 g9
      go_wp2_with fail
      ((with_reducible refine (rl _).mono ?_))
      rintro e w4 ⟨rfl, hb4⟩
      have N3' := N3.out.below hb4
      have R4 := Lib.hid (bel_trans N4.out hb4)
      clear c0 c1 c2 c3 c4 f0 f1 f2 f3 f4 a0 a1 a2 a3 a4 e0 e1 e2 e3 e4 d30 d31 hb4 rp rl
      have R3 := Lib.hid N3'
      obtain ⟨a0, a1, a2, a3, a4, e0, e1, e2, e3, e4⟩ := N3'
      go_wp2
      refine body_box rfl R3.out rfl rfl ?_
      exact ⟨rfl, bel_set5 R4.out HD.out _ _ _ _ _⟩
  · subst h
    have g6 : (tm == 6) = false := beq_eq_false_iff_ne.2 (by omega)
    have g7 : (tm == 7) = false := beq_eq_false_iff_ne.2 (by omega)
    have g8 : (tm == 8) = false := beq_eq_false_iff_ne.2 (by omega)
    have g9 : (tm == 9) = false := beq_eq_false_iff_ne.2 (by omega)
    cases hbr : br
    · subst hbr
      clear HW HQ hfz hclose hm0 hfl1 k r1 e6 e7 e8 e9
      go_wp2_with fail
      ((with_reducible refine (rp _).mono ?_))
      rintro e w4 ⟨rfl, hb4⟩
      have N3' := N3.out.below hb4
      have R4 := Lib.hid (bel_trans N4.out hb4)
      clear c0 c1 c2 c3 c4 f0 f1 f2 f3 f4 a0 a1 a2 a3 a4 e0 e1 e2 e3 e4 d30 d31 hb4 rp rl
      have R3 := Lib.hid N3'
      obtain ⟨a0, a1, a2, a3, a4, e0, e1, e2, e3, e4⟩ := N3'
      go_wp2
      refine body_box rfl R3.out rfl rfl ?_
      exact ⟨rfl, bel_set5 R4.out HD.out _ _ _ _ _⟩
    · subst hbr
      have hf : f ≠ -1 := fun e => k ⟨HB.out, .inl e⟩
      have k1 : ¬ f < 0 := by omega
      have g5 : (tm == 5) = false := beq_eq_false_iff_ne.2 (fun e => k ⟨HB.out, .inr e⟩)
      clear HW HQ hfz hclose hm0 hfl1 k r1 e6 e7 e8 e9 hf
      go_wp2_with fail
      ((with_reducible refine (rp _).mono ?_))
      rintro e w4 ⟨rfl, hb4⟩
      have N3' := N3.out.below hb4
      have R4 := Lib.hid (bel_trans N4.out hb4)
      clear c0 c1 c2 c3 c4 f0 f1 f2 f3 f4 a0 a1 a2 a3 a4 e0 e1 e2 e3 e4 d30 d31 hb4 rp rl
      have R3 := Lib.hid N3'
      obtain ⟨a0, a1, a2, a3, a4, e0, e1, e2, e3, e4⟩ := N3'
      go_wp2
      refine body_box rfl R3.out rfl rfl ?_
      exact ⟨rfl, bel_set5 R4.out HD.out _ _ _ _ _⟩
end Go.Proofs.Ytfcjihfnimefhaa
