/- Package rule: Get. -/
import Derived.Test.YtfgmojnohienfaaDoorRulA
import Derived.Test.YtfgmojnohienfaaDoorIter
import Derived.Deep.AppendLies
import Derived.Deep.RegionLaw
namespace Go.Proofs.YtfgmojnohienfaaDoor
open Go.RowKit
set_option linter.unusedVariables false
set_option maxRecDepth 100000

/-- How Get ends where there is rule i. -/
def GtE (i : Nat) (w : World) (e : Ending) (w' : World) : Prop := ∃ A c, e = .returned (.tuple #[.agg #[.int .i64 (varR i : Nat), .slice A (symR i).length c], .bool true]) ∧ Below w.heap.size w w' ∧ Sr w' A (symR i) ∧ (A = none → (symR i).length = 0 ∧ c = 0)
/-- How it ends where there is none. -/
def GnE (w : World) (e : Ending) (w' : World) : Prop := e = .returned (.tuple #[.agg #[.int .i64 0, .slice none 0 0], .bool false]) ∧ Below w.heap.size w w'

/-- A rule's box: its two cells. -/
structure B2 (w : World) (b : Nat) (v0 v1 : Value) : Prop where
  c0 : w.cell? ⟨b, 0, none⟩ = some v0
  c1 : w.cell? ⟨b, 1, none⟩ = some v1
  f0 : w.frozen? ⟨b, 0, none⟩ = false
  f1 : w.frozen? ⟨b, 1, none⟩ = false
theorem B2.new (w : World) (v0 v1 : Value) (t : TypeId) : B2 (w.alloc (.cells #[v0, v1] t)) w.heap.size v0 v1 := by
  constructor <;> simp [go_sem]
theorem B2.below {w w' : World} {b : Nat} {v0 v1 : Value} (h : B2 w b v0 v1) (hb : Below w.heap.size w w') : B2 w' b v0 v1 := by
  have hlt : b < w.heap.size := World.block_lt_of_cell? w _ h.c0
  exact ⟨(hb.cell (p := ⟨b, 0, none⟩) hlt).trans h.c0, (hb.cell (p := ⟨b, 1, none⟩) hlt).trans h.c1, (hb.frozen (p := ⟨b, 0, none⟩) hlt).trans h.f0, (hb.frozen (p := ⟨b, 1, none⟩) hlt).trans h.f1⟩

set_option maxHeartbeats 400000 in
theorem get_no {i : Int} (h : i < 0 ∨ 90 ≤ i) (w : World) : Calls Tryd.prog 20 #[.int .i64 i] w fun e w' => GnE w e w' := by
  rcases h with h | h
  · go_enter Tryd.func20, Tryd.ntmps20
    go_wp2
    go_returns
    exact ⟨rfl, by go_grown⟩
  · have h' : ¬ i < 0 := by omega
    go_enter Tryd.func20, Tryd.ntmps20
    go_wp2
    go_returns
    exact ⟨rfl, by go_grown⟩

/-- The box written. -/
def set2 (w : World) (b : Nat) (v0 v1 : Value) : World := (w.setCell ⟨b, 0, none⟩ v0).setCell ⟨b, 1, none⟩ v1
theorem bel_set2 {w w' : World} {b : Nat} (h : Below w.heap.size w w') (hb : w.heap.size ≤ b) (v0 v1 : Value) : Below w.heap.size w (set2 w' b v0 v1) :=
  (h.setCell (p := ⟨b, 0, none⟩) hb v0).setCell (p := ⟨b, 1, none⟩) hb v1
theorem B2.set {w : World} {b : Nat} {u0 u1 : Value} (h : B2 w b u0 u1) (v0 v1 : Value) : B2 (set2 w b v0 v1) b v0 v1 := by
  obtain ⟨c0, c1, f0, f1⟩ := h
  unfold set2
  constructor <;> simp [World.cell?_setCell_same, go_sem, c0, c1, f0, f1]
theorem ret_box2 {fn : Func} {t u : Tmp} (hr : fn.results = #[.cell t 48, .tmp u]) {tmps : Array Value} {W : World} {b : Nat} {v0 v1 : Value}
    (ht : tmps.getD t undef = .pointer (some ⟨b, 0, none⟩)) (h : B2 W b v0 v1) : (results fn tmps).run Tryd.prog W = .ok (.tuple #[.agg #[v0, v1], tmps.getD u undef]) W := by
  obtain ⟨c0, c1, f0, f1⟩ := h
  unfold results
  rw [hr]
  simp only [List.mapM_toArray, List.mapM_cons, List.mapM_nil, ht]
  simp [go_sem, c0, c1]
theorem body_box2 {fn : Func} {R : Ending → World → Prop} {t u : Tmp} (hr : fn.results = #[.cell t 48, .tmp u]) {a : Act} {w : World} {b : Nat} {u0 u1 v0 v1 : Value}
    (h : B2 w b u0 u1) (ht : a.tmps.getD t undef = .pointer (some ⟨b, 0, none⟩)) (hd : a.defers = [])
    (hR : R (.returned (.tuple #[.agg #[v0, v1], a.tmps.getD u undef])) (set2 w b v0 v1)) : bodyPost Tryd.prog fn R .ret a (set2 w b v0 v1) :=
  bodyPost_ret (ret_box2 hr ht (h.set v0 v1)) hd hR
theorem B2.drew {w : World} {b : Nat} {v0 v1 : Value} (h : B2 w b v0 v1) : B2 w.drew b v0 v1 := ⟨h.c0, h.c1, h.f0, h.f1⟩
theorem B2.far {w w' : World} {b : Nat} {v0 v1 : Value} {row : Option Nat} (h : B2 w b v0 v1) (hg : w.grownBy w' row) (hne : some b ≠ row) : B2 w' b v0 v1 := by
  have hlt : b < w.heap.size := World.block_lt_of_cell? w _ h.c0
  exact ⟨(hg.cell_far ⟨b, 0, none⟩ hlt hne).trans h.c0, (hg.cell_far ⟨b, 1, none⟩ hlt hne).trans h.c1, (hg.frozen_far ⟨b, 0, none⟩ hlt hne).trans h.f0, (hg.frozen_far ⟨b, 1, none⟩ hlt hne).trans h.f1⟩
/-- While a rule's symbols are gathered: the iterator at pos, acc gathered. -/
structure Gq (w : World) (s : ByteArray) (m : Int) (pos : Nat) (v : Value) (acc : List Sq) (W : World) : Prop where
  it : W.heap[w.heap.size + 2]? = some (.stringIter s pos)
  bx : B2 W (w.heap.size + 1) (.int .i64 m) v
  rs : B2 W w.heap.size (.int .i64 0) (.slice none 0 0)
  ow : W.ownsRow (w.heap.size + 3) 35 2 v acc.length (cly acc)
  bel : Below w.heap.size w W
  sz : w.heap.size + 3 ≤ W.heap.size
theorem Gq.start (w : World) (s : ByteArray) (m : Int) : Gq w s m 0 (.slice none 0 0) [] (((w.alloc (.cells #[.int .i64 0, .slice none 0 0] 48)).alloc (.cells #[.int .i64 m, .slice none 0 0] 48)).iter s 0) := by
  have h1 := B2.new w (.int .i64 0) (.slice none 0 0) 48
  have h2 := B2.new (w.alloc (.cells #[.int .i64 0, .slice none 0 0] 48)) (.int .i64 m) (.slice none 0 0) 48
  rw [World.size_alloc] at h2
  refine ⟨?_, h2.below (bel_alloc (Below.refl _ _) _), (h1.below (bel_alloc (Below.refl _ _) _)).below (bel_alloc (Below.refl _ _) _), World.ownsRow_nil _ _ _ _, bel_alloc (bel_alloc (bel_alloc (Below.refl _ _) _) _) _, ?_⟩
  · have := World.iter_heap ((w.alloc (.cells #[.int .i64 0, .slice none 0 0] 48)).alloc (.cells #[.int .i64 m, .slice none 0 0] 48)) s 0
    rwa [World.size_alloc, World.size_alloc] at this
  · show _ ≤ (World.alloc _ _).heap.size
    rw [World.size_alloc, World.size_alloc, World.size_alloc]; omega
theorem Gq.own {w : World} {s : ByteArray} {m : Int} {pos : Nat} {v : Value} {acc : List Sq} {W : World} (h : Gq w s m pos v acc W) : ∀ b, b < w.heap.size + 3 → v.ownBlock ≠ some b := fun b hb e => by
  have := (h.ow.lt b e).1
  omega
theorem Gq.put {w : World} {s : ByteArray} {m : Int} {pos : Nat} {v : Value} {acc : List Sq} {W : World} (h : Gq w s m pos v acc W) (q : Nat) : Gq w s m q v acc (W.putObj (w.heap.size + 2) (.stringIter s q)) := by
  have hg := grownBy_putObj' W (w.heap.size + 2) (.stringIter s q)
  exact ⟨World.putObj_heap_same (lt_of_block h.it), h.bx.far hg (by simp), h.rs.far hg (by simp), h.ow.kept hg (.inr (h.own _ (by omega))),
    h.bel.grown hg h.bel.size (fun k hk => by cases hk; omega), Nat.le_trans h.sz hg.size⟩
theorem Gq.drew {w : World} {s : ByteArray} {m : Int} {pos : Nat} {v : Value} {acc : List Sq} {W : World} (h : Gq w s m pos v acc W) : Gq w s m pos v acc W.drew :=
  ⟨h.it, h.bx.drew, h.rs.drew, h.ow.drew, ⟨h.bel.os, h.bel.tape, h.bel.output, h.bel.size, h.bel.block⟩, h.sz⟩
theorem Gq.below {w : World} {s : ByteArray} {m : Int} {pos : Nat} {v : Value} {acc : List Sq} {W W' : World} (h : Gq w s m pos v acc W) (b : Below W.heap.size W W') : Gq w s m pos v acc W' :=
  ⟨(b.block _ (lt_of_block h.it)).trans h.it, h.bx.below b, h.rs.below b, row_below h.ow b, h.bel.trans (b.mono h.bel.size), Nat.le_trans h.sz b.size⟩
theorem Gq.next {w : World} {s : ByteArray} {m : Int} {pos : Nat} {v v' : Value} {acc : List Sq} {W W' : World} {t : Sq} (h : Gq w s m pos v acc W) (hg : W.grownBy W' v.ownBlock)
    (ho : W'.ownsRow (w.heap.size + 3) 35 2 v' (acc.length + 1) (cly acc ++ [.int .i64 t.k, .int .i64 t.n])) : Gq w s m pos v' (acc ++ [t]) (W'.setCell ⟨w.heap.size + 1, 1, none⟩ v') := by
  have h1 := h.bx.far hg (Ne.symm (h.own _ (by omega)))
  have h0 := h.rs.far hg (Ne.symm (h.own _ (by omega)))
  have hI := (hg.block _ (lt_of_block h.it) (Ne.symm (h.own _ (by omega)))).trans h.it
  have hB := h.bel.grown hg h.bel.size (fun k hk => by have := (h.ow.lt k hk).1; omega)
  have hsz := hg.size
  have hs3 := h.sz
  refine ⟨(Below.heap_setCell _ _ _ _ (by simp)).trans hI, ⟨?_, World.cell?_setCell_same _ _ _ h1.c1, ?_, ?_⟩, ⟨?_, ?_, ?_, ?_⟩, ?_, hB.setCell (p := ⟨w.heap.size + 1, 1, none⟩) (by simp) v', by rw [World.size_setCell]; omega⟩
  · refine (World.cell?_setCell_other _ _ _ _ (by simp)).trans ?_; exact h1.c0
  · rw [World.frozen?_setCell]; exact h1.f0
  · rw [World.frozen?_setCell]; exact h1.f1
  · refine (World.cell?_setCell_other _ _ _ _ (by simp)).trans ?_; exact h0.c0
  · refine (World.cell?_setCell_other _ _ _ _ (by simp)).trans ?_; exact h0.c1
  · rw [World.frozen?_setCell]; exact h0.f0
  · rw [World.frozen?_setCell]; exact h0.f1
  · refine ownsRow_setCell_below ?_ (by simp) v'
    rw [cly_append, List.length_append]; exact ho
set_option maxHeartbeats 1000000 in
/-- The same, and where its symbols lie. -/
def GlE (i : Nat) (w : World) (e : Ending) (w' : World) : Prop := ∃ A c, e = .returned (.tuple #[.agg #[.int .i64 (varR i : Nat), .slice A (symR i).length c], .bool true]) ∧ Below w.heap.size w w' ∧ Sr w' A (symR i) ∧ (A = none → (symR i).length = 0 ∧ c = 0) ∧ (∀ b, (Value.slice A (symR i).length c).ownBlock = some b → w.heap.size ≤ b)
set_option maxHeartbeats 4000000 in
theorem get_lies {i : Nat} (h : i < 90) {w : World} (ht : TabR w) : Calls Tryd.prog 20 #[.int .i64 i] w fun e w' => GlE i w e w' := by
  have q1 : (i : Int) < 90 := by omega
  have hcell := ht.2 i h
  obtain ⟨X, hX, x0, x1⟩ := str_cod i h
  rw [hX] at hcell
  have hv3 := varR_lt i h
  have hlt0 := ht.1
  have HX := Lib.hid hX
  obtain ⟨Y, hY, hYl⟩ : ∃ Y, X.extract 1 X.size = Y ∧ Y.data.toList = tlR i := by
    refine ⟨_, rfl, ?_⟩
    rw [← hX, codR_eq i h]
    simp [mkb, ByteArray.data_extract, ByteArray.size]
  have HYL := Lib.hid hYl
  obtain ⟨m, hm⟩ : ∃ m, varR i = m := ⟨_, rfl⟩
  rw [hm] at x1 hv3
  have HM := Lib.hid hm
  clear hm
  have HG := Lib.hid (Gq.start w Y m)
  obtain ⟨i0, hi, hz0, hz1, hz2⟩ := info_parts infoSym
  have HI := Lib.hid hi
  have HI0 := Lib.hid hz0
  have HI1 := Lib.hid hz1
  have HI2 := Lib.hid hz2
  clear hi hz0 hz1 hz2
  clear hX ht hYl
  go_enter Tryd.func20, Tryd.ntmps20
  go_wp2_with fail
  go_loopg [] Y.size (fun g wr => ∃ (pos : Nat) (v : Value), g = Y.size - pos ∧ pos ≤ Y.size ∧ Gq w Y m pos v (((tlR i).take pos).map symC) wr)
  case atStart => exact ⟨0, _, rfl, Nat.zero_le _, HG.out⟩
  case round =>
    obtain ⟨pos, v, hg, hle, hq⟩ := hrel
    have HGG := Lib.hid hg
    by_cases hp : pos < Y.size
    · have hl : pos < (tlR i).length := by rw [← HYL.out, ← Lib.size_eq]; exact hp
      have hby : (tlR i)[pos]? = some Y[pos] := by
        rw [← HYL.out, List.getElem?_eq_getElem (by rw [← Lib.size_eq]; exact hp)]; rfl
      have hlow : (Y[pos]).toNat < 128 := tlR_low i h _ (List.mem_of_getElem? hby)
      have hnx := fun ty => next_at (P := Tryd.prog) hq.it hp (decode_low Y pos hp hlow) ty
      obtain ⟨t, ht⟩ : ∃ t, symC Y[pos] = t := ⟨_, rfl⟩
      have hq1 := hq.put (pos + 1)
      generalize hb : (Y[pos]).toNat = b at *
      have r1 := fun W => symbol_any (c := (b : Int)) (k := t.k) (n := t.n) (by omega) (by omega) (by rw [← ht, symC, hb]) W
      have HZ := Lib.hid hq1
      have hsy : ((tlR i).take (pos + 1)).map symC = ((tlR i).take pos).map symC ++ [t] := by rw [List.take_add_one, hby, Option.toList_some, List.map_append, ← ht]; rfl
      have HS := Lib.hid hsy
      have hlen : (((tlR i).take pos).map symC).length ≤ 10 := by rw [List.length_map, List.length_take]; have := tlR_len i h; omega
      obtain ⟨d0, d1, e0, e1⟩ := hq1.bx.drew
      have wb := IntWalk.i64_in (b : Int) (by omega)
      have hlt1 := World.block_lt_of_cell? _ _ d1
      obtain ⟨acc, hacc⟩ : ∃ acc, ((tlR i).take pos).map symC = acc := ⟨_, rfl⟩
      rw [hacc] at HZ HS hlen
      clear hg hq ht hby hb hsy hq1 hacc
      go_wp2_with fail
      go_region_law (first
        | (go_simp; go_at_call 26; ((with_reducible refine (r1 _).mono ?_)); rintro e w2 ⟨rfl, hb2⟩; have hx1 := bel_cell hb2 d1; have hlt2 : w.heap.size + 1 < w2.heap.size := World.block_lt_of_cell? _ _ hx1; have HW := Lib.hid (HZ.out.drew.below hb2); clear hb2)
        | (refine step_append_lies _ (by rfl) _ _ _ (by rfl) (w.heap.size + 3) 35 i0 _ 2 16 Tryd.underlying36 HI.out HI0.out HI1.out HI2.out rfl (by decide) v _ _ (by rfl) (HW.out.ow.alloc _)
            ⟨w2.heap.size, 0, none⟩ 1 1 [.int .i64 t.k, .int .i64 t.n] (by rfl) (by rfl) (World.news_of_block (cs := #[.int .i64 t.k, .int .i64 t.n]) (t := 35) (fr := (0, 0)) (heap_alloc_new w2 _)) (by simp [Value.oneCell'])
            (by decide) (by unfold maxLen; omega) (by omega) (by have := HW.out.sz; simp; omega) (w2.heap.size + 1) (by simp) ?_; intro gg cap w3 hown3 hgrow3 hat3 hlt3
           have HW3 := Lib.hid (HW.out.bx.below (bel_alloc (Below.refl _ _) (.cells #[.int .i64 t.k, .int .i64 t.n] 35)))
           have hbx := HW3.out.far hgrow3 (Ne.symm (HW.out.own _ (by omega)))
           obtain ⟨y0, y1, z0, z1⟩ := hbx))
      all_goals
        go_wp2_with fail
        go_roundg (Y.size - (pos + 1))
        case measure => rw [HGG.out]; omega
        case rel => exact ⟨pos + 1, _, rfl, hp, by rw [HS.out]; exact (HW.out.below (bel_alloc (Below.refl _ _) _)).next hgrow3 hown3⟩
    · have hnx := fun ty => next_over (P := Tryd.prog) hq.it hp ty
      rw [List.take_of_length_le (by rw [← HYL.out, ← Lib.size_eq]; omega)] at hq
      have hL : symR i = (tlR i).map symC := rfl
      rw [← hL] at hq
      obtain ⟨c0, c1, f0, f1⟩ := hq.rs
      obtain ⟨d0, d1, e0, e1⟩ := hq.bx
      obtain ⟨A, n, c, rfl⟩ := own_sl hq.ow
      obtain ⟨rfl, -, hA⟩ := sr_row hq.ow
      have hlt1 := World.block_lt_of_cell? _ _ d1
      have hlt2 := World.block_lt_of_cell? _ _ c1
      have hB := Lib.hid hq.bel
      have hS := Lib.hid hq.ow
      clear hg hq hL
      go_wp2_with fail
      refine body_box2 rfl ⟨c0, c1, f0, f1⟩ rfl rfl ?_
      have hO2 := ownsRow_setCell_below (ownsRow_setCell_below hS.out (a := ⟨w.heap.size, 0, none⟩) (by simp) (.int .i64 m)) (a := ⟨w.heap.size, 1, none⟩) (by simp) (.slice A (symR i).length c)
      exact ⟨A, c, by rw [HM.out]; rfl, bel_set2 hB.out (Nat.le_refl _) _ _, (sr_row hO2).2.1, hA, fun b hb => by have := (hO2.lt b hb).1; omega⟩
theorem get_yes {i : Nat} (h : i < 90) {w : World} (ht : TabR w) : Calls Tryd.prog 20 #[.int .i64 i] w fun e w' => GtE i w e w' :=
  (get_lies h ht).mono (by rintro e w' ⟨A, c, h1, h2, h3, h4, -⟩; exact ⟨A, c, h1, h2, h3, h4⟩)
end Go.Proofs.YtfgmojnohienfaaDoor
