/- Contracts of package flow: deciding, and what it answers. -/
import Derived.Test.YtfcjihfnimefhaaFloP
import Derived.Test.YtfcjihfnimefhaaFloG
namespace Go.Proofs.Ytfcjihfnimefhaa
open Go.RowKit Go.Shelf
set_option linter.unusedVariables false
set_option maxRecDepth 100000

/-! ### Rows that are read -/
/-- A row of ints. -/
def Rh (W : World) (g : Nat) (zs : List Int) : Prop := ∃ cs fr, W.heap[g]? = some (.cells cs 3 fr) ∧ ∀ (j : Nat) (x : Int), zs[j]? = some x → cs[j]? = some (.int .i64 x)
theorem rh_of {W : World} {B g n c : Nat} {xs : List Int} (h : W.ownsRow B 3 1 (.slice (some ⟨g, 0, none⟩) n c) n (xs.map iv)) : Rh W g xs := by
  rcases h.2 with ⟨e, _⟩ | ⟨g', cap, cur, e, _, h3, _, _, _, h7⟩
  · cases e
  · injection e with e _ _
    injection e with e
    injection e with e
    subst e
    refine ⟨cur, _, h3, fun j x hj => ?_⟩
    have e1 : (xs.map iv)[j]? = some (iv x) := by rw [List.getElem?_map, hj]; rfl
    rw [← h7, List.getElem?_take] at e1
    split at e1
    · rw [← Array.getElem?_toList]; exact e1
    · cases e1
theorem Rh.cell {W : World} {g : Nat} {zs : List Int} (h : Rh W g zs) {j : Nat} {x : Int} (hj : zs[j]? = some x) : W.cell? ⟨g, j, none⟩ = some (.int .i64 x) := by
  obtain ⟨cs, fr, h1, h2⟩ := h
  rw [Lib.cell_of_heap h1]; exact h2 j x hj
theorem Rh.below {W W' : World} {g : Nat} {zs : List Int} (h : Rh W g zs) (hb : Below W.heap.size W W') : Rh W' g zs := by
  obtain ⟨cs, fr, h1, h2⟩ := h
  exact ⟨cs, fr, (hb.block g (Array.getElem?_eq_some_iff.1 h1).1).trans h1, h2⟩
theorem Rh.kq {W W' : World} {g B b : Nat} {zs : List Int} {out : List UInt8} {i c d : Int} (h : Rh W g zs) (hp : Pq B b out i c d W) (k : Kq B b W W') : Rh W' g zs := by
  obtain ⟨cs, fr, h1, h2⟩ := h
  refine ⟨cs, fr, k.oth g _ h1 (fun e => ?_) (fun c fz e => ?_), h2⟩
  · obtain ⟨ap, v, -, h3, -⟩ := hp.ex
    rw [Option.some.inj e, h3] at h1
    injection h1 with h1
    injection h1 with _ h1 _
    exact absurd h1 (by decide)
  · injection e with _ e _
    exact absurd e (by decide)
theorem bx_kq {W W' : World} {t B b : Nat} {ty : TypeId} {v : Value} {out : List UInt8} {i c d : Int} (h : Boxed W t ty v) (hp : Pq B b out i c d W) (k : Kq B b W W') (h1 : ty ≠ 61) (h2 : ty ≠ 5) : Boxed W' t ty v := by
  refine k.oth t _ h (fun e => ?_) (fun c fz e => ?_)
  · obtain ⟨ap, v, -, h3, -⟩ := hp.ex
    have h4 : W.heap[t]? = _ := h
    rw [Option.some.inj e, h3] at h4
    injection h4 with h4
    injection h4 with _ h4 _
    exact h1 h4.symm
  · injection e with _ e _
    exact h2 e
/-- What is told for each place. -/
structure DcB (l : List Bq) (n : Nat) (wd : Int) (t3 t5 t6 t7 t8 : Nat) (W : World) : Prop where
  bw : Boxed W t3 3 (.int .i64 wd)
  hd : ∃ g, Boxed W t5 81 (.slice (some ⟨g, 0, none⟩) (n + 1) (n + 1)) ∧ Rh W g (nxL (fun b => !flI b) l)
  br : ∃ g, Boxed W t6 81 (.slice (some ⟨g, 0, none⟩) (n + 1) (n + 1)) ∧ Rh W g (nxL (fun b => brF b.m) l)
  cl : ∃ g c, Boxed W t7 81 (.slice (some ⟨g, 0, none⟩) (n + 1) c) ∧ Rh W g (clL l)
  en : ∃ g, Boxed W t8 81 (.slice (some ⟨g, 0, none⟩) n n) ∧ Rh W g (mtL l)
section
variable {l : List Bq} {n : Nat} {wd : Int} {t3 t5 t6 t7 t8 : Nat} {W W' : World}
theorem DcB.below (h : DcB l n wd t3 t5 t6 t7 t8 W) (hb : Below W.heap.size W W') : DcB l n wd t3 t5 t6 t7 t8 W' := by
  obtain ⟨h0, ⟨g1, h1, k1⟩, ⟨g2, h2, k2⟩, ⟨g3, c, h3, k3⟩, ⟨g4, h4, k4⟩⟩ := h
  exact ⟨bx_below h0 hb, ⟨g1, bx_below h1 hb, k1.below hb⟩, ⟨g2, bx_below h2 hb, k2.below hb⟩, ⟨g3, c, bx_below h3 hb, k3.below hb⟩, ⟨g4, bx_below h4 hb, k4.below hb⟩⟩
theorem DcB.kq {B b : Nat} {out : List UInt8} {i c d : Int} (h : DcB l n wd t3 t5 t6 t7 t8 W) (hp : Pq B b out i c d W) (k : Kq B b W W') : DcB l n wd t3 t5 t6 t7 t8 W' := by
  obtain ⟨h0, ⟨g1, h1, k1⟩, ⟨g2, h2, k2⟩, ⟨g3, c, h3, k3⟩, ⟨g4, h4, k4⟩⟩ := h
  have e1 : (3 : TypeId) ≠ 61 := by decide
  have e2 : (3 : TypeId) ≠ 5 := by decide
  have e3 : (81 : TypeId) ≠ 61 := by decide
  have e4 : (81 : TypeId) ≠ 5 := by decide
  exact ⟨bx_kq h0 hp k e1 e2, ⟨g1, bx_kq h1 hp k e3 e4, k1.kq hp k⟩, ⟨g2, bx_kq h2 hp k e3 e4, k2.kq hp k⟩, ⟨g3, c, bx_kq h3 hp k e3 e4, k3.kq hp k⟩, ⟨g4, bx_kq h4 hp k e3 e4, k4.kq hp k⟩⟩
end
/-- The answer, as numbers. -/
noncomputable def dcM (l : List Bq) (w : Int) (come i : Nat) (col : Int) : Int := if dcF l w come i col = some true then ((mtN l i : Nat) : Int) else -1
noncomputable def dcQ (l : List Bq) (w : Int) (come i : Nat) (col : Int) : Bool := (dcF l w come i col).isSome
set_option maxHeartbeats 4000000 in
theorem fdec1_any {l : List Bq} {n : Nat} {wd : Int} {t3 t5 t6 t7 t8 : Nat} {W : World} (h : DcB l n wd t3 t5 t6 t7 t8 W) (hl : l.length = n) (hn : n ≤ 400) (hs : SzB l) {i come : Nat} (hi : i < come) (hc : come ≤ n) {col : Int} (hc0 : 0 ≤ col) (hc1 : col ≤ 1000000000) :
    Calls Try.prog 60 #[.int .i64 (i : Int), .int .i64 col, .int .i64 (come : Int), .pointer (some ⟨t8, 0, none⟩), .pointer (some ⟨t6, 0, none⟩), .pointer (some ⟨t5, 0, none⟩), .pointer (some ⟨t7, 0, none⟩), .pointer (some ⟨t3, 0, none⟩)] W fun e W' => e = .returned (.tuple #[.int .i64 (dcM l wd come i col), .bool (dcQ l wd come i col)]) ∧ Below W.heap.size W W' := by
  obtain ⟨h0, ⟨g1, h1, k1⟩, ⟨g2, h2, k2⟩, ⟨g3, c, h3, k3⟩, ⟨g4, h4, k4⟩⟩ := h
  obtain ⟨E, hE⟩ : ∃ E, mtN l i = E := ⟨_, rfl⟩
  have hEn : E ≤ n := by rw [← hE, ← hl]; exact mtN_le l i
  obtain ⟨S, hS⟩ : ∃ S, nxF (fun b => brF b.m) l E = S := ⟨_, rfl⟩
  have hSn : S ≤ n := by rw [← hS, ← hl]; exact nxF_le (by omega)
  obtain ⟨H, hH⟩ : ∃ H, nxF (fun b => !flI b) l i = H := ⟨_, rfl⟩
  have hHn : H ≤ n := by rw [← hH, ← hl]; exact nxF_le (by omega)
  obtain ⟨m, hm⟩ : ∃ m, min S come = m := ⟨_, rfl⟩
  obtain ⟨e0, he0⟩ : ∃ e0, min E come = e0 := ⟨_, rfl⟩
  obtain ⟨C1, hC1⟩ : ∃ C, colS (l.take i) = C := ⟨_, rfl⟩
  obtain ⟨C2, hC2⟩ : ∃ C, colS (l.take m) = C := ⟨_, rfl⟩
  have b1 := colS_bd hs (by omega) i
  have b2 := colS_bd hs (by omega) m
  rw [hC1] at b1
  rw [hC2] at b2
  have hdc : dcF l wd come i col = if H < e0 then some false else if wd < col + (C2 : Int) - (C1 : Int) then some false else if S < come then some true else none := by
    unfold dcF
    rw [hE, hS, hH, hm, he0, hC1, hC2]
  have d3 := h0.cell
  have d5 := h1.cell
  have d6 := h2.cell
  have d7 := h3.cell
  have d8 := h4.cell
  have c8 := k4.cell (j := i) (x := (E : Int)) (by rw [mtL_at (by omega), hE])
  have c6 := k2.cell (j := E) (x := (S : Int)) (by rw [nxL_at _ (by omega), hS])
  have c5 := k1.cell (j := i) (x := (H : Int)) (by rw [nxL_at _ (by omega), hH])
  have c7 := k3.cell (j := i) (x := (C1 : Int)) (by rw [clL_at (by omega), hC1])
  have c7m := k3.cell (j := m) (x := (C2 : Int)) (by rw [clL_at (by omega), hC2])
  have q1 : IntKind.i64.wrap (col + (C2 : Int)) = col + (C2 : Int) := IntWalk.i64_in _ (by omega)
  have q2 : IntKind.i64.wrap (col + (C2 : Int) - (C1 : Int)) = col + (C2 : Int) - (C1 : Int) := IntWalk.i64_in _ (by omega)
  have HD := Lib.hid hdc
  have HE := Lib.hid hE
  have qa : (i : Int) < (n : Int) := by omega
  have qb : (E : Int) < (n : Int) + 1 := by omega
  have qc : (i : Int) < (n : Int) + 1 := by omega
  have qd : (m : Int) < (n : Int) + 1 := by omega
  have qe : min (E : Int) (come : Int) = (e0 : Int) := by omega
  have qf : min (S : Int) (come : Int) = (m : Int) := by omega
  have hbd : Below W.heap.size W W.drew := (Below.refl _ _).drew
  clear h0 h1 h2 h3 h4 k1 k2 k3 k4 hE hS hH hm he0 hC1 hC2 hdc b1 b2 hl hs hn
  by_cases g1' : H < e0
  · have hM : dcM l wd come i col = -1 ∧ dcQ l wd come i col = true := by
      rw [dcM, dcQ, HD.out, if_pos g1']; exact ⟨if_neg (fun e => by cases e), rfl⟩
    rw [hM.1, hM.2]
    clear hM HD HE c7 c7m
    go_enter Try.func60, Try.ntmps60
    go_wp2_with fail
    go_ret2
    exact ⟨rfl, Below.refl _ _⟩
  · by_cases g2' : wd < col + (C2 : Int) - (C1 : Int)
    · have hM : dcM l wd come i col = -1 ∧ dcQ l wd come i col = true := by
        rw [dcM, dcQ, HD.out, if_neg g1', if_pos g2']; exact ⟨if_neg (fun e => by cases e), rfl⟩
      rw [hM.1, hM.2]
      clear hM HD HE
      go_enter Try.func60, Try.ntmps60
      go_wp2_with fail
      go_region
      all_goals (go_wp2_with fail)
      all_goals go_ret2
      all_goals exact ⟨rfl, hbd⟩
    · by_cases g3' : S < come
      · have hM : dcM l wd come i col = (E : Int) ∧ dcQ l wd come i col = true := by
          rw [dcM, dcQ, HD.out, if_neg g1', if_neg g2', if_pos g3', HE.out]; exact ⟨if_pos rfl, rfl⟩
        rw [hM.1, hM.2]
        clear hM HD HE
        go_enter Try.func60, Try.ntmps60
        go_wp2_with fail
        go_region
        all_goals (go_wp2_with fail)
        all_goals go_ret2
        all_goals exact ⟨rfl, hbd⟩
      · have hM : dcM l wd come i col = -1 ∧ dcQ l wd come i col = false := by
          rw [dcM, dcQ, HD.out, if_neg g1', if_neg g2', if_neg g3']; exact ⟨if_neg (fun e => by cases e), rfl⟩
        rw [hM.1, hM.2]
        clear hM HD HE
        go_enter Try.func60, Try.ntmps60
        go_wp2_with fail
        go_region
        all_goals (go_wp2_with fail)
        all_goals go_ret2
        all_goals exact ⟨rfl, hbd⟩
set_option maxHeartbeats 4000000 in
theorem fdec_any {w : World} {A : Option Addr} {n c : Nat} {us : List Bz} {wd : Int} (hl : us.length = n) (hn : n ≤ 400) (hA : Br w A (us.map (·.b))) (hp : Pre (us.map (·.b))) (hok : ∀ b ∈ us.map (·.b), (Lit.int .i64 b.m).wf = true) (hs : SzB (us.map (·.b))) :
    Calls Try.prog 34 #[.slice A n c, .int .i64 wd] w fun e w' => ∃ t3 t5 t6 t7 t8, e = .returned (.func (.func 60) #[] #[.pointer (some ⟨t8, 0, none⟩), .pointer (some ⟨t6, 0, none⟩), .pointer (some ⟨t5, 0, none⟩), .pointer (some ⟨t7, 0, none⟩), .pointer (some ⟨t3, 0, none⟩)]) ∧ DcB (us.map (·.b)) n wd t3 t5 t6 t7 t8 w' ∧ Below w.heap.size w w' := by
  have r1 := fun w (h : Br w A (us.map (·.b))) => fnext_any (w := w) (A := A) (n := n) (c := c) (f := 57) (us := us) (q := fun b => !flI b) hl hn h (fun _ _ => by go_simp) (fun u W => fnoflat_any u.wf rfl W)
  have r2 := fun w (h : Br w A (us.map (·.b))) => fnext_any (w := w) (A := A) (n := n) (c := c) (f := 20) (us := us) (q := fun b => brF b.m) hl hn h (fun _ _ => by go_simp) (fun u W => sbreaks_any u.wf rfl)
  have r3 := fun w (h : Br w A (us.map (·.b))) => fcols_any (w := w) (A := A) (n := n) (c := c) h (by rw [List.length_map]; exact hl) hn hok hs
  have r4 := fun w (h : Br w A (us.map (·.b))) => fmtch_any (w := w) (A := A) (n := n) (c := c) h (by rw [List.length_map]; exact hl) hn hp
  have HA := Lib.hid hA
  have HB0 := Lib.hid (bel_alloc (Below.refl _ w) (.cells #[.int .i64 wd] 3))
  have K0 := Lib.hid (Boxed.new w 3 (.int .i64 wd))
  clear hA hl hn hp hok hs
  go_enter Try.func34, Try.ntmps34
  go_wp2_with fail
  ((with_reducible refine (r1 _ (HA.out.below HB0.out)).mono ?_))
  rintro e w1 ⟨g1, rfl, ho1, hb1⟩
  have R1 := Lib.hid (rh_of ho1)
  have HB1 := Lib.hid (bel_trans HB0.out hb1)
  have K1 := Lib.hid (bx_below K0.out hb1)
  clear r1 ho1 hb1 HB0 K0
  go_wp2_with fail
  ((with_reducible refine (r2 _ (HA.out.below HB1.out)).mono ?_))
  rintro e w2 ⟨g2, rfl, ho2, hb2⟩
  have HB2 := Lib.hid (bel_trans HB1.out hb2)
  have S2 := Lib.hid (And.intro (bx_below K1.out hb2) (And.intro (R1.out.below hb2) (rh_of ho2)))
  clear r2 ho2 hb2 HB1 K1 R1
  obtain ⟨w3, hw3⟩ : ∃ w3, w2.alloc (.cells #[.slice (some ⟨g1, 0, none⟩) (n + 1) (n + 1)] 81) = w3 := ⟨_, rfl⟩
  have hb3 : Below w2.heap.size w2 w3 := by rw [← hw3]; exact bel_alloc (Below.refl _ w2) _
  have hz3 : w3.heap.size = w2.heap.size + 1 := by rw [← hw3]; simp
  have k5 : Boxed w3 w2.heap.size 81 (.slice (some ⟨g1, 0, none⟩) (n + 1) (n + 1)) := by rw [← hw3]; exact Boxed.new w2 _ _
  obtain ⟨w4, hw4⟩ : ∃ w4, w3.alloc (.cells #[.slice (some ⟨g2, 0, none⟩) (n + 1) (n + 1)] 81) = w4 := ⟨_, rfl⟩
  have hb4 : Below w3.heap.size w3 w4 := by rw [← hw4]; exact bel_alloc (Below.refl _ w3) _
  have k6 : Boxed w4 w3.heap.size 81 (.slice (some ⟨g2, 0, none⟩) (n + 1) (n + 1)) := by rw [← hw4]; exact Boxed.new w3 _ _
  have hb34 := bel_trans hb3 hb4
  have HB4 := Lib.hid (bel_trans HB2.out hb34)
  have S4 := Lib.hid (And.intro (bx_below S2.out.1 hb34) (And.intro (S2.out.2.1.below hb34) (And.intro (S2.out.2.2.below hb34) (And.intro (bx_below k5 hb4) k6))))
  clear hb3 hb4 k5 k6 hb34 S2 HB2
  go_wp2_with fail
  clear hw3 hw4
  rw [← hz3]
  clear hz3
  generalize w2.heap.size = t5 at S4 ⊢
  generalize w3.heap.size = t6 at S4 ⊢
  generalize w.heap.size = t3 at S4 ⊢
  ((with_reducible refine (r3 _ (HA.out.below HB4.out)).mono ?_))
  rintro e w5 ⟨g3, c3, rfl, ho5, hb5⟩
  have HB5 := Lib.hid (bel_trans HB4.out hb5)
  have S5 := Lib.hid (And.intro (bx_below S4.out.1 hb5) (And.intro (S4.out.2.1.below hb5) (And.intro (S4.out.2.2.1.below hb5) (And.intro (bx_below S4.out.2.2.2.1 hb5) (And.intro (bx_below S4.out.2.2.2.2 hb5) (rh_of ho5))))))
  clear r3 ho5 hb5 HB4 S4
  go_wp2_with fail
  ((with_reducible refine (r4 _ (HA.out.below HB5.out)).mono ?_))
  rintro e w6 ⟨g4, rfl, ho6, hb6⟩
  have HB6 := Lib.hid (bel_trans HB5.out hb6)
  obtain ⟨w7, hw7⟩ : ∃ w7, w6.alloc (.cells #[.slice (some ⟨g3, 0, none⟩) (n + 1) c3] 81) = w7 := ⟨_, rfl⟩
  have hb7 : Below w6.heap.size w6 w7 := by rw [← hw7]; exact bel_alloc (Below.refl _ w6) _
  have hz7 : w7.heap.size = w6.heap.size + 1 := by rw [← hw7]; simp
  have k7 : Boxed w7 w6.heap.size 81 (.slice (some ⟨g3, 0, none⟩) (n + 1) c3) := by rw [← hw7]; exact Boxed.new w6 _ _
  obtain ⟨w8, hw8⟩ : ∃ w8, w7.alloc (.cells #[.slice (some ⟨g4, 0, none⟩) n n] 81) = w8 := ⟨_, rfl⟩
  have hb8 : Below w7.heap.size w7 w8 := by rw [← hw8]; exact bel_alloc (Below.refl _ w7) _
  have k8 : Boxed w8 w7.heap.size 81 (.slice (some ⟨g4, 0, none⟩) n n) := by rw [← hw8]; exact Boxed.new w7 _ _
  have hb78 := bel_trans hb7 hb8
  have hb68 := bel_trans hb6 hb78
  have HB8 := Lib.hid (bel_trans HB6.out hb78)
  have S8 := Lib.hid (show DcB (us.map (·.b)) n wd t3 t5 t6 w6.heap.size w7.heap.size w8 from
    ⟨bx_below S5.out.1 hb68, ⟨g1, bx_below S5.out.2.2.2.1 hb68, S5.out.2.1.below hb68⟩, ⟨g2, bx_below S5.out.2.2.2.2.1 hb68, S5.out.2.2.1.below hb68⟩, ⟨g3, c3, bx_below k7 hb8, S5.out.2.2.2.2.2.below hb68⟩, ⟨g4, k8, (rh_of ho6).below hb78⟩⟩)
  clear r4 ho6 hb6 HB5 S5 HB6 hb7 hb8 k7 k8 hb78 hb68
  go_wp2_with fail
  clear hw7 hw8
  rw [← hz7]
  go_ret
  exact ⟨t3, t5, t6, w6.heap.size, w7.heap.size, rfl, S8.out, HB8.out⟩
end Go.Proofs.Ytfcjihfnimefhaa
