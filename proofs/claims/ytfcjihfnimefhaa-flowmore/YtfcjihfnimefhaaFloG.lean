/- Contracts of package flow: next. -/
import Derived.Test.YtfcjihfnimefhaaFloF
import Derived.Sort.CutIn
namespace Go.Proofs.Ytfcjihfnimefhaa
open Go.RowKit Go.Shelf Go.Maps
set_option linter.unusedVariables false

/-- While next goes on: what tells, the row's box, the row. -/
structure NxI (w : World) (f : Nat) (us : List Bz) (n gA b3 b5 B : Nat) (q : Bq → Bool) (pre : List (Bp us)) (W : World) : Prop where
  fn : Boxed W b3 36 (.func (.func f) #[] #[])
  bx : Boxed W b5 81 (.slice (some ⟨gA, 0, none⟩) (n + 1) (n + 1))
  row : ∃ zs : List Int, zs.length = n + 1 ∧ W.ownsRow w.heap.size 3 1 (.slice (some ⟨gA, 0, none⟩) (n + 1) (n + 1)) (n + 1) (zs.map iv) ∧ ∀ k, k ≤ n → pre = rvS us k → zs.drop (n - k) = (nxL q (us.map (·.b))).drop (n - k)
  bel : Below w.heap.size w W
  sz : B ≤ W.heap.size
section
variable {w : World} {f : Nat} {us : List Bz} {n gA b3 b5 B : Nat} {q : Bq → Bool} {pre : List (Bp us)} {W W' : World}
theorem NxI.below (h : NxI w f us n gA b3 b5 B q pre W) (hb : Below W.heap.size W W') : NxI w f us n gA b3 b5 B q pre W' := by
  obtain ⟨h1, h2, ⟨zs, h3, h4, h5⟩, h6, h7⟩ := h
  exact ⟨bx_below h1 hb, bx_below h2 hb, ⟨zs, h3, row_below h4 hb, h5⟩, bel_trans h6 hb, Nat.le_trans h7 hb.size⟩
theorem NxI.own (hg : gA < B) (hB : w.heap.size ≤ B) : OwnFrom B (NxI w f us n gA b3 b5 B q) := fun s X Y row hs hgr hr => by
  obtain ⟨h1, h2, ⟨zs, h3, h4, h5⟩, h6, h7⟩ := hs
  exact ⟨bx_kept h1 hgr hr, bx_kept h2 hgr hr, ⟨zs, h3, h4.kept hgr (.inr (fun e => by have := (hr gA e.symm).1; omega)), h5⟩, bl_kept h6 (Nat.le_refl _) hB hgr hr, Nat.le_trans h7 hgr.size⟩
end
/-- The row, one place more told. -/
theorem nx_more {l : List Bq} {q : Bq → Bool} {n p : Nat} {b : Bq} {zs : List Int} {z : Int} (hl : l.length = n) (hb : l[p]? = some b) (hy : zs.length = n + 1) (h : zs.drop (p + 1) = (nxL q l).drop (p + 1)) (hz : zs[p + 1]? = some z) :
    (zs.set p (if q b = true then (p : Int) else z)).drop p = (nxL q l).drop p := by
  have hp := (List.getElem?_eq_some_iff.1 hb).1
  have hs := nxF_step (q := q) hb
  have e1 : (nxL q l)[p]? = some ((nxF q l p : Nat) : Int) := nxL_at q (by omega)
  have e2 : (nxL q l)[p + 1]? = some ((nxF q l (p + 1) : Nat) : Int) := nxL_at q (by omega)
  have e3 : zs[p + 1]? = (nxL q l)[p + 1]? := by
    have := congrArg (fun x : List Int => x[0]?) h
    simpa [List.getElem?_drop] using this
  rw [hz, e2] at e3
  have e4 := Option.some.inj e3
  obtain ⟨g1, g2⟩ := List.getElem?_eq_some_iff.1 e1
  have e5 : (if q b = true then (p : Int) else z) = ((nxF q l p : Nat) : Int) := by
    rw [hs, e4]
    split <;> rfl
  rw [e5, List.drop_eq_getElem_cons g1, g2, List.drop_eq_getElem_cons (by rw [List.length_set]; omega), List.getElem_set_self, List.drop_set_of_lt (by omega), h]
theorem nx_start {l : List Bq} (q : Bq → Bool) {n : Nat} (hl : l.length = n) : ((List.replicate (n + 1) (0 : Int)).set n (n : Int)).drop n = (nxL q l).drop n := by
  have e1 : (nxL q l)[n]? = some ((nxF q l n : Nat) : Int) := nxL_at q (by omega)
  obtain ⟨g1, g2⟩ := List.getElem?_eq_some_iff.1 e1
  rw [List.drop_eq_getElem_cons g1, g2, List.drop_eq_getElem_cons (by rw [List.length_set, List.length_replicate]; omega), List.getElem_set_self, List.drop_eq_nil_of_le (by rw [List.length_set, List.length_replicate]; omega), List.drop_eq_nil_of_le (by rw [nxL_len]; omega), ← hl, nxF_end]
theorem bx_setj {W : World} {b g : Nat} {t : TypeId} {v : Value} (h : Boxed W b t v) (hg : g ≠ b) (j : Nat) (u : Value) : Boxed (W.setCell ⟨g, j, none⟩ u) b t v :=
  (Below.heap_setCell _ _ _ _ (fun e => hg e.symm)).trans h
section
attribute [local go_sem] Oper.semAt_some
set_option maxRecDepth 100000
set_option maxHeartbeats 4000000 in
theorem fnext_any {w : World} {A : Option Addr} {n c f : Nat} {us : List Bz} {q : Bq → Bool} (hl : us.length = n) (hn : n ≤ 400) (hA : Br w A (us.map (·.b)))
    (hcf : ∀ (args : Array Value) (W : World), Sem.run Try.prog (callFunc f args) W = .ok (.enter f args) W)
    (hq : ∀ (u : Bz) (W : World), Calls Try.prog f #[.agg #[.int .i64 u.b.m, .string u.b.v]] W fun e W' => e = .returned (.bool (q u.b)) ∧ Below W.heap.size W W') :
    Calls Try.prog 56 #[.slice A n c, .func (.func f) #[] #[]] w fun e w' => ∃ g, e = .returned (.slice (some ⟨g, 0, none⟩) (n + 1) (n + 1)) ∧ w'.ownsRow w.heap.size 3 1 (.slice (some ⟨g, 0, none⟩) (n + 1) (n + 1)) (n + 1) ((nxL q (us.map (·.b))).map iv) ∧ Below w.heap.size w w' := by
  obtain ⟨i0, hi, hz0, hz1, hz2⟩ := info_parts infoI
  obtain ⟨wA, hwA⟩ : ∃ wA, w.alloc (.cells #[.func (.func f) #[] #[]] 36) = wA := ⟨_, rfl⟩
  have hbA : Below w.heap.size w wA := by rw [← hwA]; exact bel_alloc (Below.refl _ w) _
  have hsA : wA.heap.size = w.heap.size + 1 := by rw [← hwA]; simp
  have k3 : Boxed wA w.heap.size 36 (.func (.func f) #[] #[]) := by rw [← hwA]; exact Boxed.new w _ _
  obtain ⟨w1, hmk, hown, hgr⟩ := run_make_full (P := Try.prog) wA wA.heap.size 81 3 i0 (.int .i64 0) 1 Try.underlying81 hi hz0 hz1 .i64 .i64 (n + 1) (by rw [hz2]; omega) (by unfold maxLen; omega) (Nat.le_refl _)
  have hB1 : Below wA.heap.size wA w1 := (Below.refl _ wA).grown hgr (Nat.le_refl _) (fun k e => by cases e)
  have hgA := hown.lt wA.heap.size rfl
  rw [hsA] at hgA hmk hown
  have HL := Lib.hid hl
  have HA := Lib.hid hA
  have HB1 := Lib.hid (bel_trans hbA hB1)
  have HK3 := Lib.hid (bx_below k3 hB1)
  have e1 : ((n + 1 : Nat) : Int) = (n : Int) + 1 := by omega
  rw [e1] at hmk
  clear hl hA hbA hB1 hi hz0 hz1 hz2 hgr k3
  subst hwA
  obtain ⟨gA, hgA2⟩ : ∃ gA, w.heap.size + 1 = gA := ⟨_, rfl⟩
  rw [hgA2] at hmk hown hgA
  obtain ⟨b5, hb5⟩ : ∃ b5, w1.heap.size = b5 := ⟨_, rfl⟩
  obtain ⟨W1, hW1⟩ : ∃ W1, w1.alloc (.cells #[.slice (some ⟨gA, 0, none⟩) (n + 1) (n + 1)] 81) = W1 := ⟨_, rfl⟩
  have hbW1 : Below w1.heap.size w1 W1 := by rw [← hW1]; exact bel_alloc (Below.refl _ w1) _
  have ho1 : W1.ownsRow gA 3 1 (.slice (some ⟨gA, 0, none⟩) (n + 1) (n + 1)) (n + 1) (madeCells (Value.int .i64 0).cells ((n + 1) * 1)).toList := row_below hown hbW1
  have k5 : Boxed W1 b5 81 (.slice (some ⟨gA, 0, none⟩) (n + 1) (n + 1)) := by rw [← hW1, ← hb5]; exact Boxed.new w1 _ _
  have k3 := bx_below HK3.out hbW1
  have hyl : (madeCells (Value.int .i64 0).cells ((n + 1) * 1)).toList = (List.replicate (n + 1) (0 : Int)).map iv := by rw [Nat.mul_one, List.map_replicate]; exact toList_madeCells_one _ _
  rw [hyl] at ho1 hown
  obtain ⟨u, hu⟩ : ∃ u, W1.cell? ⟨gA, n, none⟩ = some u := by
    rw [ho1.cellAt n (by omega)]; exact ⟨_, List.getElem?_eq_getElem (by simp)⟩
  have hfz := ho1.frozenAt n
  have q1 : (n : Int) < (n : Int) + 1 := by omega
  have d5 := k5.cell
  have HB2 := Lib.hid (bel_trans HB1.out hbW1)
  have HO1 := Lib.hid ho1
  have HK5 := Lib.hid k5
  have HK3' := Lib.hid k3
  have hs1 : W1.heap.size = b5 + 1 := by rw [← hW1, ← hb5]; simp
  clear hown ho1 k5 k3 hyl HK3 hbW1
  subst hW1
  refine (callsIn_wide (n := 4)).1 ?_
  refine callsIn_of_wp_marks Try.func56 rfl trivial ?_ rfl
  simp only [Try.ntmps56, List.size_toArray, List.length_cons, List.length_nil, Nat.reduceAdd, Nat.reduceSub, Array.replicate_succ, Array.replicate_zero, List.push_toArray, List.append_toArray, List.nil_append, List.cons_append]
  gi_wp2_with fail
  refine ⟨trivial, ?_⟩
  refine (callsIn_wide.2 (back0_any _ _ _ _ (b5 + 1) (by simpa using hs1))).mono ?_
  rintro e w2 ⟨rfl, rfl⟩
  gi_wp2_with fail
  have hN0 : NxI w f us n gA w.heap.size b5 0 q [] ((w1.alloc (.cells #[.slice (some ⟨gA, 0, none⟩) (n + 1) (n + 1)] 81)).setCell ⟨gA, n, none⟩ (.int .i64 (n : Int))) := by
    obtain ⟨st1, -⟩ := HO1.out.stored n (iv (n : Int))
    refine ⟨bx_setj HK3'.out (by omega) _ _, bx_setj HK5.out (by omega) _ _, ⟨(List.replicate (n + 1) (0 : Int)).set n (n : Int), by simp, by rw [List.map_set]; exact own_mono st1 (by omega), fun k hk hpr => ?_⟩, HB2.out.setCell (p := ⟨gA, n, none⟩) (by show w.heap.size ≤ gA; omega) _, Nat.zero_le _⟩
    have hk0 : k = 0 := by
      have := rvS_len (us := us) k (by rw [HL.out]; exact hk)
      rw [← hpr] at this
      exact this.symm
    subst hk0
    rw [Nat.sub_zero]
    exact nx_start q (by rw [List.length_map, HL.out])
  obtain ⟨W0, hW0⟩ : ∃ W0, (((w1.alloc (.cells #[.slice (some ⟨gA, 0, none⟩) (n + 1) (n + 1)] 81)).setCell ⟨gA, n, none⟩ (.int .i64 (n : Int))).alloc (.cells #[.slice A n c] 22)) = W0 := ⟨_, rfl⟩
  have hs0 : W0.heap.size = b5 + 2 := by rw [← hW0]; simp; omega
  have kN : Boxed W0 (b5 + 1) 22 (.slice A n c) := by
    rw [← hW0]
    have := Boxed.new ((w1.alloc (.cells #[.slice (some ⟨gA, 0, none⟩) (n + 1) (n + 1)] 81)).setCell ⟨gA, n, none⟩ (.int .i64 (n : Int))) 22 (.slice A n c)
    rwa [show ((w1.alloc (.cells #[.slice (some ⟨gA, 0, none⟩) (n + 1) (n + 1)] 81)).setCell ⟨gA, n, none⟩ (.int .i64 (n : Int))).heap.size = b5 + 1 by simpa using hs1] at this
  have hI0 : NxI w f us n gA w.heap.size b5 W0.heap.size q [] W0 := by
    have h := hN0.below (bel_alloc (Below.refl _ _) (.cells #[.slice A n c] 22))
    rw [hW0] at h
    exact { h with sz := Nat.le_refl _ }
  rw [hW0]
  have HI0 := Lib.hid hI0
  have HN := Lib.hid kN
  clear hW0 hN0 hI0 kN hu hfz d5 HB2 HO1 HK5 HK3' hmk hs1
  refine wpIn_rangeFunc_ownH rfl (by omega) (gf := 88) (lb := #[.pointer (some ⟨b5 + 1, 0, none⟩)]) rfl trivial (enters_of Try.func88 (by kernel_rfl) rfl)
    (back_stops _ (by omega) (b5 + 1) w.heap.size HL.out (by omega) W0 (fun W' h => HA.out.below (HI0.out.bel.trans h)) (by omega) (by omega) HN.out.cell) kpD_t (kpD_b (by omega)) (Below.refl _ _) (fun _ => rfl)
    (NxI w f us n gA w.heap.size b5 W0.heap.size q) (fun _ _ _ => False) (NxI.own (by omega) (by omega)) (fun c => fun s X Y row hs _ _ => hs)
    HI0.out
    (fun x a' W => ∃ g, W0.heap.size ≤ g ∧ W.heap[g]? = some (.cells #[.int .i64 x.u.b.m, .string x.u.b.v] 34 (0, 0)) ∧ a' = { tmps := #[.slice A n c, .func (.func f) #[] #[], undef, .pointer (some ⟨w.heap.size, 0, none⟩), .slice none 0 0, .pointer (some ⟨b5, 0, none⟩), .int .i64 (x.p : Int), .pointer (some ⟨g, 0, none⟩), .slice A n c, .int .i64 (n : Int), .int .i64 ((n : Int) + 1), .slice (some ⟨gA, 0, none⟩) (n + 1) (n + 1), .slice (some ⟨gA, 0, none⟩) (n + 1) (n + 1), .slice A n c, .int .i64 (n : Int), .slice A n c, .int .i64 (n : Int), .pointer (some ⟨gA, n, none⟩), .slice A n c, .func (.func 88) #[] #[.pointer (some ⟨b5 + 1, 0, none⟩)], .int .i64 (x.p : Int), .agg #[.int .i64 x.u.b.m, .string x.u.b.v], undef, undef, undef, undef, undef, undef, undef, undef, undef, undef, undef, undef, undef, undef, undef, undef], defers := [] })
    (fun x a' s X Y row hs hg hr => by
      obtain ⟨g, h1, h2, h3⟩ := hs
      exact ⟨g, h1, (hg.block g (Array.getElem?_eq_some_iff.1 h2).1 (fun e' => by obtain ⟨o, ho, hc⟩ := (hr g e'.symm).2; rw [h2] at ho; cases ho; cases hc)).trans h2, h3⟩) ?assign ?body ?done ?stop
  case assign =>
    intro l pre x W K hI hK
    dsimp only [encP]
    gi_wp2
    have hbW : Below W.heap.size W (W.alloc (.cells #[.int .i64 x.u.b.m, .string x.u.b.v] 34)) := bel_alloc (Below.refl _ W) _
    have hsW : W0.heap.size ≤ W.heap.size := hI.sz
    exact hK _ _ ((ko_below hbW).from _) (kp_below (Nat.le_trans HI0.out.bel.size hsW) hbW) (hI.below hbW) ⟨W.heap.size, hsW, World.alloc_heap_new W _, rfl⟩
  case body =>
    rintro l pre x a' W hlD - hI ⟨g, hg8, hx, rfl⟩ hlt
    have x0 : W.cell? ⟨g, 0, none⟩ = some (.int .i64 x.u.b.m) := by rw [Lib.cell_of_heap hx]; rfl
    have x1 : W.cell? ⟨g, 1, none⟩ = some (.string x.u.b.v) := by rw [Lib.cell_of_heap hx]; rfl
    have hpn : x.p < n := by have := x.h; rw [HL.out] at this; exact this
    have hxb : (us.map (·.b))[x.p]? = some x.u.b := by rw [List.getElem?_map, x.at']; rfl
    have HPR := Lib.hid (show ∀ k, k ≤ n → pre ++ [x] = rvS us k → ∃ k', k = k' + 1 ∧ pre = rvS us k' ∧ x.p = n - 1 - k' by
      intro k hk h
      obtain ⟨k', h1, h2, h3⟩ := rvS_last (by rw [HL.out]; exact hk) h
      exact ⟨k', h1, h2, by rw [← HL.out]; exact h3⟩)
    have r1 := hq x.u
    obtain ⟨Q, hQ⟩ : ∃ Q, q x.u.b = Q := ⟨_, rfl⟩
    rw [hQ] at r1
    have HQ := Lib.hid hQ
    obtain ⟨d3, d5, ⟨zs, hz1, hz2, hz3⟩, qB, qs⟩ := hI
    obtain ⟨z, hz⟩ : ∃ z, zs[x.p + 1]? = some z := ⟨_, List.getElem?_eq_getElem (by omega)⟩
    have cz : W.cell? ⟨gA, x.p + 1, none⟩ = some (.int .i64 z) := by
      rw [hz2.cellAt _ (by omega), List.getElem?_map, hz]; rfl
    obtain ⟨v0, cp⟩ : ∃ v0, W.cell? ⟨gA, x.p, none⟩ = some v0 := by
      rw [hz2.cellAt _ (by omega)]; exact ⟨_, List.getElem?_eq_getElem (by simp; omega)⟩
    have fp := hz2.frozenAt x.p
    have e3 := d3.cell
    have e5 := d5.cell
    have HZ := Lib.hid (And.intro hz (And.intro hz1 hz3))
    have HROW := Lib.hid hz2
    have HB := Lib.hid (And.intro qB qs)
    have HD := Lib.hid (And.intro d3 d5)
    have HXB := Lib.hid hxb
    generalize x.p = p at *
    generalize x.u = xu at *
    obtain ⟨⟨tm, tv⟩, twf, tsz⟩ := xu
    dsimp only at x0 x1 r1 hx HXB HQ ⊢
    have q2 : (p : Int) + 1 < (n : Int) + 1 := by omega
    have q3 : (p : Int) < (n : Int) + 1 := by omega
    have q4 : IntKind.i64.wrap ((p : Int) + 1) = (p : Int) + 1 := IntWalk.i64_in _ (by omega)
    have hgne : gA ≠ g := by
      intro e
      have h1 := (HROW.out.lt gA rfl).2
      omega
    clear hQ hz hz1 hz2 hz3 d3 d5 qB qs hxb hq
    have hmx : Try.prog.follows .mixedOrders = true := by kernel_rfl
    gi_wp2_with fail
    gi_cut [] from 22 (fun V => V = (W.setCell ⟨gA, p, none⟩ (.int .i64 z)).drew)
    case first =>
      rename_i J K' hJ hK'
      clear r1 hcf x0 x1 hx HXB HQ HPR HZ
      gi_region_o
      all_goals refine hK' _ _ (hJ _ _ ?_)
      all_goals (repeat apply Exists.intro)
      all_goals exact ⟨rfl, rfl⟩
    case rest =>
      subst hcut
      gi_wp2_with fail
      refine ⟨trivial, ?_⟩
      refine (CallsIn.inRound l (callsIn_wide.2 (r1 _))).mono ?_
      rintro e W2 ⟨rfl, hb2⟩
      have hb2' : Below (W.setCell ⟨gA, p, none⟩ (.int .i64 z)).heap.size (W.setCell ⟨gA, p, none⟩ (.int .i64 z)) W2 := (Below.refl _ _).drew.trans hb2
      obtain ⟨st1, st2⟩ := HROW.out.stored p (iv z)
      rw [← List.map_set] at st1
      have k3 := bx_below (bx_setj HD.out.1 (by omega) p (.int .i64 z)) hb2'
      have k5 := bx_below (bx_setj HD.out.2 (by omega) p (.int .i64 z)) hb2'
      have hrow := row_below st1 hb2'
      have hbel : Below w.heap.size w W2 := (HB.out.1.setCell (p := ⟨gA, p, none⟩) (by show w.heap.size ≤ gA; omega) _).trans (hb2'.mono (Nat.le_trans HB.out.1.size (KeepsOthers.setCell W ⟨gA, p, none⟩ (.int .i64 z)).size))
      have hsz : W.heap.size ≤ W2.heap.size := Nat.le_trans (KeepsOthers.setCell W ⟨gA, p, none⟩ (.int .i64 z)).size hb2'.size
      have hko : KeepsOthers (W.setCell ⟨gA, p, none⟩ (.int .i64 z)) W2 := ko_below hb2'
      have hkp : KpD w.heap.size (b5 + 1) W W2 := kpD_t (kp_setj (by omega) (by omega) _) (kp_below (by have := HB.out.1.size; have := (KeepsOthers.setCell W ⟨gA, p, none⟩ (.int .i64 z)).size; omega) hb2')
      have e5 := k5.cell
      have cp : W2.cell? ⟨gA, p, none⟩ = some (.int .i64 z) := by
        rw [hrow.cellAt _ (by omega), List.getElem?_map, List.getElem?_set_self (by rw [HZ.out.2.1]; omega)]; rfl
      have fp := hrow.frozenAt p
      have hfin : ∀ k, k ≤ n → pre ++ [x] = rvS us k → (zs.set p (if Q = true then (p : Int) else z)).drop (n - k) = (nxL q (us.map (·.b))).drop (n - k) := fun k hk hpr => by
        obtain ⟨k', rfl, hpre, hp⟩ := HPR.out k hk hpr
        have h1 := HZ.out.2.2 k' (by omega) hpre
        have h2 : n - k' = p + 1 := by omega
        have h3 : n - (k' + 1) = p := by omega
        rw [h2] at h1
        rw [h3, ← HQ.out]
        exact nx_more (by rw [List.length_map, HL.out]) HXB.out HZ.out.2.1 h1 HZ.out.1
      have HK3 := Lib.hid k3
      have HK5 := Lib.hid k5
      have HR2 := Lib.hid hrow
      have HB2 := Lib.hid (And.intro hbel (And.intro hsz (And.intro hko hkp)))
      have HF := Lib.hid hfin
      clear st1 st2 k3 k5 hrow hbel hsz hko hkp hfin hb2 hb2' r1 hcf
      cases Q with
      | false =>
        gi_wp2_with fail
        exact ⟨((KeepsOthers.setCell _ _ _).trans HB2.out.2.2.1).from _, HB2.out.2.2.2, HK3.out, HK5.out, ⟨_, by rw [List.length_set]; exact HZ.out.2.1, HR2.out, HF.out⟩, HB2.out.1, Nat.le_trans HB.out.2 HB2.out.2.1⟩
      | true =>
        have HR3 := Lib.hid (show (W2.setCell ⟨gA, p, none⟩ (.int .i64 (p : Int))).ownsRow w.heap.size 3 1 (.slice (some ⟨gA, 0, none⟩) (n + 1) (n + 1)) (n + 1) ((zs.set p (p : Int)).map iv) by
          obtain ⟨t1, -⟩ := HR2.out.stored p (iv (p : Int))
          rw [← List.map_set, List.set_set] at t1
          exact t1)
        gi_wp2_with fail
        exact ⟨(((KeepsOthers.setCell _ _ _).trans HB2.out.2.2.1).trans (KeepsOthers.setCell _ _ _)).from _, kpD_t HB2.out.2.2.2 (kp_setj (by omega) (by omega) _), bx_setj HK3.out (by omega) _ _, bx_setj HK5.out (by omega) _ _, ⟨_, by rw [List.length_set]; exact HZ.out.2.1, HR3.out, HF.out⟩, HB2.out.1.setCell (p := ⟨gA, p, none⟩) (by show w.heap.size ≤ gA; omega) _, Nat.le_trans HB.out.2 (Nat.le_trans HB2.out.2.1 (KeepsOthers.setCell _ _ _).size)⟩
  case done =>
    rintro D ys W hD rfl hI hK
    obtain ⟨d3, d5, ⟨zs, hz1, hz2, hz3⟩, qB, qs⟩ := hI
    have e5 := d5.cell
    have hrow := hz3 n (Nat.le_refl _) rfl
    rw [Nat.sub_self, List.drop_zero, List.drop_zero] at hrow
    subst hrow
    have HR := Lib.hid hz2
    have HB := Lib.hid (And.intro qB qs)
    clear hz1 hz2 hz3 qB qs d3 d5 hq hcf
    gi_wp2
    refine ⟨by simp, .inl ⟨_, _, rfl, run_takeDeferred hK, ?_⟩⟩
    refine ⟨_, results_tmp rfl _ _ _, ⟨gA, rfl, HR.out.kept (grownBy_putObj' _ D (.deferred none)) (.inr (fun e => ?_)), HB.out.1.trans (belowK_b (w := w) (Nat.le_refl _) W D _ _ (by omega) hK rfl rfl)⟩⟩
    have e2 : some gA = some D := e
    cases e2
    omega
  case stop =>
    rintro D cc pre W hD hk hF hK
    exact hF.elim
end
end Go.Proofs.Ytfcjihfnimefhaa
