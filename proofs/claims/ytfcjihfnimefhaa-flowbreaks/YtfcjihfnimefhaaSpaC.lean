/- Contracts of package span's functions: Match. -/
import Derived.Test.YtfcjihfnimefhaaSpaB
namespace Go.Proofs.Ytfcjihfnimefhaa
open Go.RowKit Go.Shelf Go.Maps
set_option linter.unusedVariables false

/-- While Match goes on: the answer's box, the map's box, the count's box, the map. -/
def MiI (w : World) (b0 b5 b6 mb B : Nat) (pre : List (Nat × Bz)) (W : World) : Prop :=
  Boxed W b0 3 (.int .i64 0) ∧ Boxed W b5 94 (.map (some mb)) ∧ Boxed W b6 3 (.int .i64 (oS (bqs pre))) ∧ OwnE W 3 mb 2 (mapOf grP) ∧ Below w.heap.size w W ∧ B ≤ W.heap.size ∧ NoZ (bqs pre)
theorem MiI.own {w : World} {b0 b5 b6 mb B : Nat} (hm : mb < B) (hB : w.heap.size ≤ B) : OwnFrom B (MiI w b0 b5 b6 mb B) := fun s X Y row hs hg hr =>
  ⟨bx_kept hs.1 hg hr, bx_kept hs.2.1 hg hr, bx_kept hs.2.2.1 hg hr, mp_kept hs.2.2.2.1 hm hg hr, bl_kept hs.2.2.2.2.1 (Nat.le_refl _) hB hg hr, Nat.le_trans hs.2.2.2.2.2.1 hg.size, hs.2.2.2.2.2.2⟩
/-- When it has found the end. -/
def MiX (w : World) (b0 : Nat) (c : Code) (pre : List (Nat × Bz)) (W : World) : Prop :=
  c = .ret ∧ Below w.heap.size w W ∧ ∃ ini x, pre = ini ++ [x] ∧ NoZ (bqs ini) ∧ oS (bqs pre) = 0 ∧ Boxed W b0 3 (.int .i64 (x.1 : Int))
theorem MiX.own {w : World} {b0 B : Nat} (hB : w.heap.size ≤ B) (c : Code) : OwnFrom B (MiX w b0 c) := fun s X Y row hs hg hr => by
  obtain ⟨h1, h2, ini, x, h3, h4, h5, h6⟩ := hs
  exact ⟨h1, bl_kept h2 (Nat.le_refl _) hB hg hr, ini, x, h3, h4, h5, bx_kept h6 hg hr⟩
/-- A bit's block. -/
def Xb (W : World) (g : Nat) (x : Nat × Bz) : Prop := W.heap[g]? = some (.cells #[.int .i64 x.2.b.m, .string x.2.b.v] 34 (0, 0))
theorem Xb.lt {W : World} {g : Nat} {x : Nat × Bz} (h : Xb W g x) : g < W.heap.size := (Array.getElem?_eq_some_iff.1 h).1
theorem Xb.kept {X Y : World} {row : Option Nat} {B g : Nat} {x : Nat × Bz} (h : Xb X g x) (hg : X.grownBy Y row) (hr : ∀ r, row = some r → B ≤ r ∧ ∃ o : Obj, X.heap[r]? = some o ∧ o.isCells = false) : Xb Y g x :=
  (hg.block g h.lt (fun e' => by obtain ⟨o, ho, hc⟩ := (hr g e'.symm).2; rw [show X.heap[g]? = _ from h] at ho; cases ho; cases hc)).trans h
theorem Xb.cells {W : World} {g : Nat} {x : Nat × Bz} (h : Xb W g x) : W.cell? ⟨g, 0, none⟩ = some (.int .i64 x.2.b.m) ∧ W.cell? ⟨g, 1, none⟩ = some (.string x.2.b.v) := by
  constructor <;> simp [World.cell?, show W.heap[g]? = _ from h]
theorem Xb.new (W : World) (x : Nat × Bz) : Xb (W.alloc (.cells #[.int .i64 x.2.b.m, .string x.2.b.v] 34)) W.heap.size x := World.alloc_heap_new W _

section
attribute [local go_sem] Oper.semAt_some
set_option maxRecDepth 100000
set_option maxHeartbeats 2000000 in
theorem smatch_any {w : World} {A : Option Addr} {n c : Nat} {us : List Bz} {i r : Int} (hr : MtA (us.map (·.b)) i r) (hl : us.length = n) (hn : n ≤ 1000000) (hA : Br w A (us.map (·.b))) :
    Calls Try.prog 54 #[.slice A n c, .int .i64 i] w fun e w' => e = .returned (.int .i64 r) ∧ Below w.heap.size w w' := by
  have hbb := bel_alloc (Below.refl _ w) (.cells #[.int .i64 (-1)] 3)
  by_cases h0 : i < 0
  · obtain rfl : r = -1 := hr.no fun j m e => by omega
    clear hr hA hl
    go_enter Try.func54, Try.ntmps54
    go_wp2
    go_returns
    exact ⟨rfl, hbb⟩
  by_cases h1 : i < n
  · obtain ⟨j, rfl⟩ := Int.eq_ofNat_of_zero_le (show 0 ≤ i by omega)
    have hjn : j < n := by omega
    obtain ⟨u, hu⟩ : ∃ u, us[j]? = some u := ⟨_, List.getElem?_eq_getElem (by omega)⟩
    have ht : (us.map (·.b))[j]? = some u.b := by rw [List.getElem?_map, hu]; rfl
    obtain ⟨b, o, rfl, c0, c1⟩ := hA j u.b ht
    have lb := World.block_lt_of_cell? _ _ c0
    have e0 : decide ((j : Int) < 0) = false := decide_eq_false (by omega)
    have e1 : decide (n ≤ j) = false := decide_eq_false (by omega)
    by_cases h6 : u.b.m = 6
    · rw [h6] at c0
      have HR := Lib.hid hr
      have HL := Lib.hid hl
      have HA := Lib.hid hA
      have HT := Lib.hid (show (us.map (·.b))[j]? = some u.b ∧ u.b.m = 6 from ⟨ht, h6⟩)
      clear hr hl hA ht hu h6 h0 h1
      refine (callsIn_wide (n := 4)).1 ?_
      refine callsIn_of_wp_marks Try.func54 rfl trivial ?_ rfl
      simp only [Try.ntmps54, List.size_toArray, List.length_cons, List.length_nil, Nat.reduceAdd, Nat.reduceSub, Array.replicate_succ, Array.replicate_zero, List.push_toArray, List.append_toArray, List.nil_append, List.cons_append]
      gi_wp2_with fail
      refine ⟨trivial, ?_⟩
      refine (callsIn_wide.2 (groups_any _ (w.heap.size + 1) (by simp))).mono ?_
      rintro e w1 ⟨rfl, hM, hg⟩
      gi_wp2_with fail
      refine ⟨trivial, ?_⟩
      refine (callsIn_wide.2 (bits0_any _ _ _ _ _ (w1.heap.size + 2) (by simp))).mono ?_
      rintro e w2 ⟨rfl, rfl⟩
      gi_wp2_with fail
      have hms := mp_lt hM
      have hB1 : Below w.heap.size w w1 := bel_trans (bel_alloc (Below.refl _ w) (.cells #[.int .i64 0] 3)) (grown_below hg)
      have hb0 : Boxed w1 w.heap.size 3 (.int .i64 0) := (Boxed.new w 3 (.int .i64 0)).kept hg (by simp)
      obtain ⟨W0, hW0⟩ : ∃ W0, (((w1.alloc (.cells #[.map (some (w.heap.size + 1))] 94)).alloc (.cells #[.int .i64 0] 3)).alloc (.cells #[.slice (some ⟨b, o, none⟩) n c] 22)).alloc (.cells #[.int .i64 (j : Int)] 3) = W0 := ⟨_, rfl⟩
      have hs0 : W0.heap.size = w1.heap.size + 4 := by rw [← hW0]; simp
      have k5 : Boxed W0 w1.heap.size 94 (.map (some (w.heap.size + 1))) := by rw [← hW0]; exact (((Boxed.new w1 94 _).alloc _).alloc _).alloc _
      have k6 : Boxed W0 (w1.heap.size + 1) 3 (.int .i64 0) := by rw [← hW0]; have := ((Boxed.new (w1.alloc (.cells #[.map (some (w.heap.size + 1))] 94)) 3 (.int .i64 0)).alloc (.cells #[.slice (some ⟨b, o, none⟩) n c] 22)).alloc (.cells #[.int .i64 (j : Int)] 3); rwa [World.size_alloc] at this
      have kN : Boxed W0 (w1.heap.size + 2) 22 (.slice (some ⟨b, o, none⟩) n c) := by rw [← hW0]; have := (Boxed.new ((w1.alloc (.cells #[.map (some (w.heap.size + 1))] 94)).alloc (.cells #[.int .i64 0] 3)) 22 (.slice (some ⟨b, o, none⟩) n c)).alloc (.cells #[.int .i64 (j : Int)] 3); rwa [World.size_alloc, World.size_alloc] at this
      have kI : Boxed W0 (w1.heap.size + 2 + 1) 3 (.int .i64 (j : Int)) := by rw [← hW0]; have := Boxed.new (((w1.alloc (.cells #[.map (some (w.heap.size + 1))] 94)).alloc (.cells #[.int .i64 0] 3)).alloc (.cells #[.slice (some ⟨b, o, none⟩) n c] 22)) 3 (.int .i64 (j : Int)); rwa [World.size_alloc, World.size_alloc, World.size_alloc] at this
      have hBW : Below w1.heap.size w1 W0 := by rw [← hW0]; exact bel_alloc (bel_alloc (bel_alloc (bel_alloc (Below.refl _ w1) _) _) _) _
      rw [hW0]
      clear hW0
      have hM0 := mp_below hM hBW
      have k0 := bx_below hb0 hBW
      have hB0 := bel_trans hB1 hBW
      have hws : w.heap.size ≤ w1.heap.size := hB1.size
      clear hM hg hb0 hBW hB1
      refine wpIn_rangeFunc_ownH rfl (by omega) (gf := 86) (lb := #[.pointer (some ⟨w1.heap.size + 2 + 1, 0, none⟩), .pointer (some ⟨w1.heap.size + 2, 0, none⟩)]) rfl trivial (enters_of Try.func86 (by kernel_rfl) rfl)
        (bits_stops _ (by omega) (w1.heap.size + 2 + 1) (w1.heap.size + 2) w.heap.size HL.out (i0 := j) (by omega) hn W0 (fun W' h => HA.out.below (hB0.trans h)) (by omega) (by omega) (by omega) kN.cell kI.cell) kpD_t (kpD_b (by omega)) (Below.refl _ _) (fun _ => rfl)
        (MiI w w.heap.size w1.heap.size (w1.heap.size + 1) (w.heap.size + 1) W0.heap.size) (MiX w w.heap.size) (MiI.own (by omega) (by omega)) (fun c => MiX.own (by omega) c)
        ⟨k0, k5, k6, hM0, hB0, Nat.le_refl _, NoZ.nil⟩
        (fun x a' W => ∃ g, W0.heap.size ≤ g ∧ Xb W g x ∧ a' = { tmps := #[.slice (some ⟨b, o, none⟩) n c, .int .i64 (j : Int), undef, undef, .pointer (some ⟨w.heap.size, 0, none⟩), .pointer (some ⟨w1.heap.size, 0, none⟩), .pointer (some ⟨w1.heap.size + 1, 0, none⟩), .int .i64 (x.1 : Int), .pointer (some ⟨g, 0, none⟩), .int .i64 (j : Int), .bool false, .bool false, .int .i64 (j : Int), .slice (some ⟨b, o, none⟩) n c, .int .i64 (n : Int), .bool false, .bool false, .bool false, .slice (some ⟨b, o, none⟩) n c, .int .i64 (j : Int), .pointer (some ⟨b, o + j * 2, none⟩), .pointer (some ⟨b, o + j * 2, none⟩), .int .i64 6, .bool false, .bool false, .map (some (w.heap.size + 1)), .slice (some ⟨b, o, none⟩) n c, .int .i64 (j : Int), .func (.func 86) #[] #[.pointer (some ⟨w1.heap.size + 2 + 1, 0, none⟩), .pointer (some ⟨w1.heap.size + 2, 0, none⟩)], .int .i64 (x.1 : Int), .agg #[.int .i64 x.2.b.m, .string x.2.b.v], undef, undef, undef, undef, undef, undef, undef, undef, undef], defers := [] })
        (fun x a' s X Y row hs hg hr => by
          obtain ⟨g, h1, h2, h3⟩ := hs
          exact ⟨g, h1, h2.kept hg hr, h3⟩) ?assign ?body ?done ?stop
      case assign =>
        intro l pre x W K hI hK
        dsimp only [encB]
        gi_wp2
        have hbW : Below W.heap.size W (W.alloc (.cells #[.int .i64 x.2.b.m, .string x.2.b.v] 34)) := bel_alloc (Below.refl _ W) _
        have hsW := hI.2.2.2.2.2.1
        exact hK _ _ ((ko_below hbW).from _) (kp_below (by omega) hbW) ⟨bx_below hI.1 hbW, bx_below hI.2.1 hbW, bx_below hI.2.2.1 hbW, mp_below hI.2.2.2.1 hbW, bel_trans hI.2.2.2.2.1 hbW, Nat.le_trans hsW hbW.size, hI.2.2.2.2.2.2⟩
          ⟨W.heap.size, hsW, Xb.new W x, rfl⟩
      case body =>
        rintro l pre x a' W hlD - hI ⟨g, hg8, hx, rfl⟩ hlt
        obtain ⟨q0, q5, q6, qM, qB, qs, qz⟩ := hI
        obtain ⟨x0, x1⟩ := hx.cells
        have d0 := q0.cell
        have f0 := q0.frozen
        have d5 := q5.cell
        have d6 := q6.cell
        have f6 := q6.frozen
        obtain ⟨E, hE⟩ : ∃ E, oS (bqs pre) = E := ⟨_, rfl⟩
        obtain ⟨d, hd⟩ : ∃ d, dO x.2.b.m = d := ⟨_, rfl⟩
        have hEb := oS_bd (bqs pre)
        rw [bqs_len, hE] at hEb
        have hdb := dO_cases x.2.b.m
        rw [hd] at hdb
        have hdr : -1 ≤ d ∧ d ≤ 1 := by omega
        have hEs : oS (bqs (pre ++ [x])) = E + d := by rw [bqs_snoc, oS_app, oS_one, hE, hd]
        rw [hE] at d6
        have hlk := lk_gr qM x.2.wf hd
        have HQ := Lib.hid (show (Boxed W w.heap.size 3 (.int .i64 0) ∧ Boxed W w1.heap.size 94 (.map (some (w.heap.size + 1))) ∧ Boxed W (w1.heap.size + 1) 3 (.int .i64 (oS (bqs pre)))) ∧ OwnE W 3 (w.heap.size + 1) 2 (mapOf grP) ∧ NoZ (bqs pre) from ⟨⟨q0, q5, q6⟩, qM, qz⟩)
        have HE := Lib.hid hEs
        have HZ := Lib.hid qz
        clear hdb hd hE hEs qz qM q0 q5 q6 hx
        have hKK := (KeepsOthers.setCell W ⟨w1.heap.size + 1, 0, none⟩ (.int .i64 (E + d))).from W0.heap.size
        by_cases hz : E + d = 0
        · rw [hz] at hKK
          gi_wp2
          refine ⟨((KeepsOthers.setCell _ _ _).trans (KeepsOthers.setCell _ _ _)).from _, rfl, ?_, pre, x, rfl, HZ.out, by rw [HE.out]; exact hz, ?_⟩
          · exact (qB.setCell (p := ⟨w1.heap.size + 1, 0, none⟩) (by show w.heap.size ≤ w1.heap.size + 1; omega) _).setCell (p := ⟨w.heap.size, 0, none⟩) (Nat.le_refl _) _
          · exact (HQ.out.1.1.other (by omega) _).set _
        · have hz2 : (E + d == 0) = false := by simpa using hz
          gi_wp2
          refine ⟨hKK, kp_set (by omega) (by omega) _, HQ.out.1.1.other (by omega) _, HQ.out.1.2.1.other (by omega) _, ?_, mp_set HQ.out.2.1 _ _, qB.setCell (p := ⟨w1.heap.size + 1, 0, none⟩) (by show w.heap.size ≤ w1.heap.size + 1; omega) _, Nat.le_trans qs hKK.size, ?_⟩
          · rw [HE.out]; exact HQ.out.1.2.2.set _
          · rw [bqs_snoc]; exact HZ.out.snoc (by rw [← bqs_snoc, HE.out]; exact hz)
      case done =>
        rintro D ys W hD rfl ⟨q0, q5, q6, qM, qB, qs, qz⟩ hK
        have d0 := q0.cell
        have f0 := q0.frozen
        obtain rfl : r = -1 := HR.out.no fun j' m e hm => by
          obtain rfl : j' = j := by omega
          rw [bqs_it, List.take_of_length_le (by rw [List.length_drop, List.length_map, HL.out]; omega)] at qz
          exact noz_none qz m hm
        gi_wp2
        have hK' := (KeepsOthers.setCell W ⟨w.heap.size, 0, none⟩ (.int .i64 (-1))).same D _ hK rfl
        refine ⟨by simp, .inl ⟨_, _, rfl, run_takeDeferred hK', ?_⟩⟩
        have hc5 := cell_kept (q0.set (.int .i64 (-1))).cell (grownBy_putObj' _ D (.deferred none)) (fun r e => by cases e; exact ⟨_, hK', rfl⟩)
        refine ⟨.int .i64 (-1), ?_, rfl, (qB.setCell (p := ⟨w.heap.size, 0, none⟩) (Nat.le_refl _) _).trans (belowK_b (w := w) (Nat.le_refl _) _ D _ _ (by omega) hK' rfl rfl)⟩
        simp [results, Try.f54, go_sem, hc5]
      case stop =>
        rintro D cc pre W hD ⟨k, hk, rfl⟩ ⟨rfl, qB, ini, x, e1, e2, e3, e4⟩ hK
        obtain ⟨k', rfl, rfl, hx1⟩ := itS_last (by rw [HL.out]; exact hk) e1
        obtain rfl : r = (x.1 : Int) := by
          rw [bqs_it] at e2 e3
          have := HR.out.is (noz_found HT.out.1 HT.out.2 (by rw [List.length_map, HL.out]; omega) e2 e3)
          rw [this, hx1]
        gi_wp2
        refine ⟨by simp, .inl ⟨_, _, rfl, run_takeDeferred hK, ?_⟩⟩
        have hc5 := cell_kept e4.cell (grownBy_putObj' _ D (.deferred none)) (fun r e => by cases e; exact ⟨_, hK, rfl⟩)
        refine ⟨.int .i64 (x.1 : Int), ?_, rfl, qB.trans (belowK_b (w := w) (Nat.le_refl _) W D _ _ (by omega) hK rfl rfl)⟩
        simp [results, Try.f54, go_sem, hc5]
    · obtain rfl : r = -1 := hr.no fun j' m e hm => by
        obtain ⟨t, ht2, e6⟩ := hm.op
        obtain rfl : j' = j := by omega
        rw [ht] at ht2
        obtain rfl := Option.some.inj ht2
        exact h6 e6
      have q1 : (u.b.m != 6) = true := by simpa using h6
      clear hr hl hA ht hu h6
      go_enter Try.func54, Try.ntmps54
      go_wp2
      go_returns
      exact ⟨rfl, hbb⟩
  · obtain rfl : r = -1 := hr.no fun j m e hm => by
      have h2 := hm.len
      have h3 := hm.lt
      rw [List.length_map] at h2
      omega
    clear hr hA hl
    go_enter Try.func54, Try.ntmps54
    go_wp2
    go_returns
    exact ⟨rfl, hbb⟩
end
end Go.Proofs.Ytfcjihfnimefhaa
