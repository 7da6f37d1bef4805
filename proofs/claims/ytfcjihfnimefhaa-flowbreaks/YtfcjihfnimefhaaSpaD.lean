/- Contracts of package span's functions: between, behind. -/
import Derived.Test.YtfcjihfnimefhaaSpaC
namespace Go.Proofs.Ytfcjihfnimefhaa
open Go.RowKit Go.Shelf Go.Maps
set_option linter.unusedVariables false

theorem br_take {W : World} {A : Option Addr} {ts : List Bq} (h : Br W A ts) (m : Nat) : Br W A (ts.take m) := fun j t hj => by
  rw [List.getElem?_take] at hj
  split at hj
  · exact h j t hj
  · cases hj
/-- While between goes on. -/
def MbI (w : World) (b6 b7 b8 b9 mb B : Nat) (pre : List (Nat × Bz)) (W : World) : Prop :=
  (Boxed W b6 3 (.int .i64 0) ∧ Boxed W b7 4 (.bool false) ∧ Boxed W b8 50 (.map (some mb)) ∧ Boxed W b9 3 (.int .i64 ((colS (bqs pre) : Nat) : Int))) ∧ OwnE W 9 mb 8 (mapOf flP) ∧ Below w.heap.size w W ∧ B ≤ W.heap.size ∧ (bqs pre).all flI = true
theorem MbI.own {w : World} {b6 b7 b8 b9 mb B : Nat} (hm : mb < B) (hB : w.heap.size ≤ B) : OwnFrom B (MbI w b6 b7 b8 b9 mb B) := fun s X Y row hs hg hr =>
  ⟨⟨bx_kept hs.1.1 hg hr, bx_kept hs.1.2.1 hg hr, bx_kept hs.1.2.2.1 hg hr, bx_kept hs.1.2.2.2 hg hr⟩, mp_kept hs.2.1 hm hg hr, bl_kept hs.2.2.1 (Nat.le_refl _) hB hg hr, Nat.le_trans hs.2.2.2.1 hg.size, hs.2.2.2.2⟩
theorem MbI.below {w W W' : World} {b6 b7 b8 b9 mb B : Nat} {pre : List (Nat × Bz)} (h : MbI w b6 b7 b8 b9 mb B pre W) (hb : Below W.heap.size W W') : MbI w b6 b7 b8 b9 mb B pre W' :=
  ⟨⟨bx_below h.1.1 hb, bx_below h.1.2.1 hb, bx_below h.1.2.2.1 hb, bx_below h.1.2.2.2 hb⟩, mp_below h.2.1 hb, bel_trans h.2.2.1 hb, Nat.le_trans h.2.2.2.1 hb.size, h.2.2.2.2⟩
/-- When one has no Flat. -/
def MbX (w : World) (b6 b7 : Nat) (c : Code) (pre : List (Nat × Bz)) (W : World) : Prop :=
  c = .ret ∧ Below w.heap.size w W ∧ Boxed W b6 3 (.int .i64 0) ∧ Boxed W b7 4 (.bool false) ∧ (bqs pre).all flI = false
theorem MbX.own {w : World} {b6 b7 B : Nat} (hB : w.heap.size ≤ B) (c : Code) : OwnFrom B (MbX w b6 b7 c) := fun s X Y row hs hg hr =>
  ⟨hs.1, bl_kept hs.2.1 (Nat.le_refl _) hB hg hr, bx_kept hs.2.2.1 hg hr, bx_kept hs.2.2.2.1 hg hr, hs.2.2.2.2⟩
/-- While behind goes on. -/
def MeI (w : World) (b5 b6 b7 mb mc B : Nat) (pre : List (Nat × Bz)) (W : World) : Prop :=
  (Boxed W b5 50 (.map (some mb)) ∧ Boxed W b6 54 (.map (some mc)) ∧ Boxed W b7 3 (.int .i64 ((colS (bqs pre) : Nat) : Int))) ∧ (OwnE W 9 mb 8 (mapOf flP) ∧ OwnE W 4 mc 4 (mapOf brP)) ∧ Below w.heap.size w W ∧ B ≤ W.heap.size ∧ ∀ b ∈ bqs pre, brF b.m = false
theorem MeI.own {w : World} {b5 b6 b7 mb mc B : Nat} (hm : mb < B) (hm2 : mc < B) (hB : w.heap.size ≤ B) : OwnFrom B (MeI w b5 b6 b7 mb mc B) := fun s X Y row hs hg hr =>
  ⟨⟨bx_kept hs.1.1 hg hr, bx_kept hs.1.2.1 hg hr, bx_kept hs.1.2.2 hg hr⟩, ⟨mp_kept hs.2.1.1 hm hg hr, mp_kept hs.2.1.2 hm2 hg hr⟩, bl_kept hs.2.2.1 (Nat.le_refl _) hB hg hr, Nat.le_trans hs.2.2.2.1 hg.size, hs.2.2.2.2⟩
theorem MeI.below {w W W' : World} {b5 b6 b7 mb mc B : Nat} {pre : List (Nat × Bz)} (h : MeI w b5 b6 b7 mb mc B pre W) (hb : Below W.heap.size W W') : MeI w b5 b6 b7 mb mc B pre W' :=
  ⟨⟨bx_below h.1.1 hb, bx_below h.1.2.1 hb, bx_below h.1.2.2 hb⟩, ⟨mp_below h.2.1.1 hb, mp_below h.2.1.2 hb⟩, bel_trans h.2.2.1 hb, Nat.le_trans h.2.2.2.1 hb.size, h.2.2.2.2⟩
/-- When one breaks. -/
def MeX (w : World) (b7 : Nat) (c : Code) (pre : List (Nat × Bz)) (W : World) : Prop :=
  c = .exit 0 ∧ Below w.heap.size w W ∧ ∃ ini x, pre = ini ++ [x] ∧ (∀ b ∈ bqs ini, brF b.m = false) ∧ brF x.2.b.m = true ∧ Boxed W b7 3 (.int .i64 ((colS (bqs ini) : Nat) : Int))
theorem MeX.own {w : World} {b7 B : Nat} (hB : w.heap.size ≤ B) (c : Code) : OwnFrom B (MeX w b7 c) := fun s X Y row hs hg hr => by
  obtain ⟨h1, h2, ini, x, h3, h4, h5, h6⟩ := hs
  exact ⟨h1, bl_kept h2 (Nat.le_refl _) hB hg hr, ini, x, h3, h4, h5, bx_kept h6 hg hr⟩
/-- One bit more. -/
theorem col_more {pre : List (Nat × Bz)} (x : Nat × Bz) {N : Nat} (hN : N ≤ 1000) (h : pre.length < N) : colS (bqs (pre ++ [x])) = colS (bqs pre) + colB x.2.b ∧ colS (bqs pre) ≤ 140737488351232000 ∧ colB x.2.b ≤ 140737488351232 := by
  have h1 := colS_le (bqs_sz pre)
  rw [bqs_len] at h1
  have h2 := Nat.mul_le_mul_right 140737488351232 (show pre.length ≤ 1000 by omega)
  exact ⟨by rw [bqs_snoc, colS_app]; rfl, by omega, colB_le _ x.2.sz⟩

section
attribute [local go_sem] Oper.semAt_some
set_option maxRecDepth 100000
set_option maxHeartbeats 2000000 in
theorem between_any {w : World} {A : Option Addr} {n c j m : Nat} {us : List Bz} {C : Int} {is : Bool} (hC : (if (bet (us.map (·.b)) j m).all flI = true then ((colS (bet (us.map (·.b)) j m) : Nat) : Int) else 0) = C) (hI : (bet (us.map (·.b)) j m).all flI = is) (hl : us.length = n) (hn : n ≤ 1000) (hc : n ≤ c) (hjm : j < m) (hm : m < n) (hA : Br w A (us.map (·.b))) :
    Calls Try.prog 84 #[.slice A n c, .int .i64 (j : Int), .int .i64 (m : Int)] w fun e w' => e = .returned (.tuple #[.int .i64 C, .bool is]) ∧ Below w.heap.size w w' := by
  obtain ⟨u, hu⟩ : ∃ u, us[j]? = some u := ⟨_, List.getElem?_eq_getElem (by omega)⟩
  have ht : (us.map (·.b))[j]? = some u.b := by rw [List.getElem?_map, hu]; rfl
  obtain ⟨b, o, rfl, c0, c1⟩ := hA j u.b ht
  have hmc : m ≤ c := by omega
  have hmc2 : (m : Int) ≤ (c : Int) := by omega
  have HLt : Hid ((us.take m).length = m) := Lib.hid (by rw [List.length_take]; omega)
  have HA := Lib.hid hA
  have HCI := Lib.hid (And.intro hC hI)
  clear hA ht hu c0 c1 hC hI
  refine (callsIn_wide (n := 4)).1 ?_
  refine callsIn_of_wp_marks Try.func84 rfl trivial ?_ rfl
  simp only [Try.ntmps84, List.size_toArray, List.length_cons, List.length_nil, Nat.reduceAdd, Nat.reduceSub, Array.replicate_succ, Array.replicate_zero, List.push_toArray, List.append_toArray, List.nil_append, List.cons_append]
  gi_wp2_with fail
  refine ⟨trivial, ?_⟩
  refine (callsIn_wide.2 (flats_any _ (w.heap.size + 2) (by simp))).mono ?_
  rintro e w1 ⟨rfl, hM, hg⟩
  gi_wp2_with fail
  refine ⟨trivial, ?_⟩
  refine (callsIn_wide.2 (bits0_any _ _ _ _ _ (w1.heap.size + 2) (by simp))).mono ?_
  rintro e w2 ⟨rfl, rfl⟩
  gi_wp2_with fail
  have hms := mp_lt hM
  have hB1 : Below w.heap.size w w1 := bel_trans (bel_alloc (bel_alloc (Below.refl _ w) (.cells #[.int .i64 0] 3)) (.cells #[.bool false] 4)) (grown_below hg)
  have hb6 : Boxed w1 w.heap.size 3 (.int .i64 0) := ((Boxed.new w 3 (.int .i64 0)).alloc (.cells #[.bool false] 4)).kept hg (by simp)
  have hb7 : Boxed w1 (w.heap.size + 1) 4 (.bool false) := by
    have := (Boxed.new (w.alloc (.cells #[.int .i64 0] 3)) 4 (.bool false)).kept hg (by simp)
    rwa [World.size_alloc] at this
  obtain ⟨W0, hW0⟩ : ∃ W0, (((w1.alloc (.cells #[.map (some (w.heap.size + 2))] 50)).alloc (.cells #[.int .i64 0] 3)).alloc (.cells #[.slice (some ⟨b, o, none⟩) m c] 22)).alloc (.cells #[.int .i64 ((j : Int) + 1)] 3) = W0 := ⟨_, rfl⟩
  have hs0 : W0.heap.size = w1.heap.size + 4 := by rw [← hW0]; simp
  have k8 : Boxed W0 w1.heap.size 50 (.map (some (w.heap.size + 2))) := by rw [← hW0]; exact (((Boxed.new w1 50 _).alloc _).alloc _).alloc _
  have k9 : Boxed W0 (w1.heap.size + 1) 3 (.int .i64 0) := by rw [← hW0]; have := ((Boxed.new (w1.alloc (.cells #[.map (some (w.heap.size + 2))] 50)) 3 (.int .i64 0)).alloc (.cells #[.slice (some ⟨b, o, none⟩) m c] 22)).alloc (.cells #[.int .i64 ((j : Int) + 1)] 3); rwa [World.size_alloc] at this
  have kN : Boxed W0 (w1.heap.size + 2) 22 (.slice (some ⟨b, o, none⟩) m c) := by rw [← hW0]; have := (Boxed.new ((w1.alloc (.cells #[.map (some (w.heap.size + 2))] 50)).alloc (.cells #[.int .i64 0] 3)) 22 (.slice (some ⟨b, o, none⟩) m c)).alloc (.cells #[.int .i64 ((j : Int) + 1)] 3); rwa [World.size_alloc, World.size_alloc] at this
  have kI : Boxed W0 (w1.heap.size + 2 + 1) 3 (.int .i64 ((j + 1 : Nat) : Int)) := by rw [← hW0]; have := Boxed.new (((w1.alloc (.cells #[.map (some (w.heap.size + 2))] 50)).alloc (.cells #[.int .i64 0] 3)).alloc (.cells #[.slice (some ⟨b, o, none⟩) m c] 22)) 3 (.int .i64 ((j : Int) + 1)); rwa [World.size_alloc, World.size_alloc, World.size_alloc] at this
  have hBW : Below w1.heap.size w1 W0 := by rw [← hW0]; exact bel_alloc (bel_alloc (bel_alloc (bel_alloc (Below.refl _ w1) _) _) _) _
  rw [hW0]
  clear hW0
  have hM0 := mp_below hM hBW
  have k6 := bx_below hb6 hBW
  have k7 := bx_below hb7 hBW
  have hB0 := bel_trans hB1 hBW
  have hws : w.heap.size ≤ w1.heap.size := hB1.size
  clear hM hg hb6 hb7 hBW hB1
  refine wpIn_rangeFunc_ownH rfl (by omega) (gf := 86) (lb := #[.pointer (some ⟨w1.heap.size + 2 + 1, 0, none⟩), .pointer (some ⟨w1.heap.size + 2, 0, none⟩)]) rfl trivial (enters_of Try.func86 (by kernel_rfl) rfl)
    (bits_stops _ (by omega) (w1.heap.size + 2 + 1) (w1.heap.size + 2) w.heap.size HLt.out (i0 := j + 1) (by omega) (by omega) W0 (fun W' h => by rw [List.map_take]; exact br_take (HA.out.below (hB0.trans h)) m) (by omega) (by omega) (by omega) kN.cell kI.cell) kpD_t (kpD_b (by omega)) (Below.refl _ _) (fun _ => rfl)
    (MbI w w.heap.size (w.heap.size + 1) w1.heap.size (w1.heap.size + 1) (w.heap.size + 2) W0.heap.size) (MbX w w.heap.size (w.heap.size + 1)) (MbI.own (by omega) (by omega)) (fun c => MbX.own (by omega) c)
    ⟨⟨k6, k7, k8, k9⟩, hM0, hB0, Nat.le_refl _, rfl⟩
    (fun x a' W => ∃ g, W0.heap.size ≤ g ∧ Xb W g x ∧ a' = { tmps := #[.slice (some ⟨b, o, none⟩) n c, .int .i64 (j : Int), .int .i64 (m : Int), undef, undef, undef, .pointer (some ⟨w.heap.size, 0, none⟩), .pointer (some ⟨w.heap.size + 1, 0, none⟩), .pointer (some ⟨w1.heap.size, 0, none⟩), .pointer (some ⟨w1.heap.size + 1, 0, none⟩), undef, .pointer (some ⟨g, 0, none⟩), undef, undef, .map (some (w.heap.size + 2)), .slice (some ⟨b, o, none⟩) n c, .int .i64 (m : Int), .slice (some ⟨b, o, none⟩) m c, .int .i64 (j : Int), .int .i64 ((j : Int) + 1), .func (.func 86) #[] #[.pointer (some ⟨w1.heap.size + 2 + 1, 0, none⟩), .pointer (some ⟨w1.heap.size + 2, 0, none⟩)], .int .i64 (x.1 : Int), .agg #[.int .i64 x.2.b.m, .string x.2.b.v], undef, undef, undef, undef, undef, undef, undef, undef, undef, undef, undef, undef, undef], defers := [] })
    (fun x a' s X Y row hs hg hr => by
      obtain ⟨g, h1, h2, h3⟩ := hs
      exact ⟨g, h1, h2.kept hg hr, h3⟩) ?assign ?body ?done ?stop
  case assign =>
    intro l pre x W K hI hK
    dsimp only [encB]
    gi_wp2
    have hbW : Below W.heap.size W (W.alloc (.cells #[.int .i64 x.2.b.m, .string x.2.b.v] 34)) := bel_alloc (Below.refl _ W) _
    have hsW := hI.2.2.2.1
    exact hK _ _ ((ko_below hbW).from _) (kp_below (by omega) hbW) (hI.below hbW) ⟨W.heap.size, hsW, Xb.new W x, rfl⟩
  case body =>
    rintro l pre x a' W hlD - hI ⟨g, hg8, hx, rfl⟩ hlt
    obtain ⟨x0, x1⟩ := hx.cells
    obtain ⟨g1, g2, g3⟩ := col_more x (show m ≤ 1000 by omega) hlt
    have d8 := hI.1.2.2.1.cell
    obtain ⟨S, hS⟩ : ∃ S, flV x.2.b = S := ⟨_, rfl⟩
    obtain ⟨k, hk⟩ : ∃ k, flI x.2.b = k := ⟨_, rfl⟩
    have hSz : S.size ≤ 9223372036854775807 := by
      have := flV_size x.2.b x.2.sz
      rw [hS] at this
      omega
    obtain ⟨z, hz⟩ : ∃ z, cols S.data.toList = z := ⟨_, rfl⟩
    have hzB : colB x.2.b = z := by rw [colB, hS, hz]
    have r1 := fun W (h : OwnE W 9 (w.heap.size + 2) 8 (mapOf flP)) => of_any h x.2.wf hS hk
    have r2 := fun W => scols_any S hSz hz W
    have HII := Lib.hid hI
    have HK := Lib.hid hk
    rw [hzB] at g1 g3
    have HG := Lib.hid g1
    clear hI hk hS hSz hz hzB hlt g1 hx
    gi_wp2_with fail
    refine ⟨trivial, ?_⟩
    refine (CallsIn.inRound l (callsIn_wide.2 (r1 W HII.out.2.1))).mono ?_
    rintro e W3 ⟨rfl, hW3⟩
    have hb3 : Below W.heap.size W W3 := by rw [hW3]; exact bel_alloc (Below.refl _ W) _
    clear hW3
    have HI3 := Lib.hid (HII.out.below hb3)
    have d6 := HI3.out.1.1.cell
    have f6 := HI3.out.1.1.frozen
    have d7 := HI3.out.1.2.1.cell
    have f7 := HI3.out.1.2.1.frozen
    have d9 := HI3.out.1.2.2.2.cell
    have f9 := HI3.out.1.2.2.2.frozen
    have l9 := HI3.out.1.2.2.2.lt
    obtain ⟨E, hE⟩ : ∃ E, colS (bqs pre) = E := ⟨_, rfl⟩
    rw [hE] at d9 g2
    have HE := Lib.hid hE
    clear hE
    cases k with
    | false =>
      clear r1 r2 d8 d9
      gi_wp2
      refine ⟨((ko_below hb3).trans ((KeepsOthers.setCell _ _ _).trans (KeepsOthers.setCell _ _ _))).from _, rfl, ?_, ?_, ?_, ?_⟩
      · exact (HI3.out.2.2.1.setCell (p := ⟨w.heap.size, 0, none⟩) (Nat.le_refl _) _).setCell (p := ⟨w.heap.size + 1, 0, none⟩) (by show w.heap.size ≤ w.heap.size + 1; omega) _
      · exact (HI3.out.1.1.set _).other (by omega) _
      · exact (HI3.out.1.2.1.other (by omega) _).set _
      · rw [bqs_snoc, List.all_append, List.all_cons, HK.out]; simp
    | true =>
      clear r1 d8 d6 f6 d7 f7
      have hmx : Try.prog.follows .mixedOrders = true := by kernel_rfl
      gi_wp2
      gi_region_with_o (refine ⟨trivial, ?_⟩; refine (CallsIn.inRound l (callsIn_wide.2 (r2 _))).mono ?_; rintro e W4 ⟨rfl, hb4⟩; have d9' := bel_cell hb4 (show W3.drew.cell? ⟨w1.heap.size + 1, 0, none⟩ = some (.int .i64 (E : Int)) from d9); have f9' := (hb4.frozen (p := ⟨w1.heap.size + 1, 0, none⟩) l9).trans f9)
      all_goals gi_wp2
      all_goals
        have hb4' : Below W3.heap.size W3 W4 := (Below.refl _ W3).drew.trans hb4
        have HI4 := HI3.out.below hb4'
        have hsz4 := HI4.2.2.2.1
        have hwr : IntKind.i64.wrap ((E : Int) + (z : Int)) = ((E + z : Nat) : Int) := by rw [IntWalk.i64_in _ (by omega)]; omega
        rw [hwr]
        refine ⟨((ko_below (bel_trans hb3 hb4')).trans (KeepsOthers.setCell _ _ _)).from _, kpD_t (kp_below (by have := HII.out.2.2.1.size; omega) (bel_trans hb3 hb4')) (kp_set (by omega) (by omega) _), ⟨HI4.1.1.other (by omega) _, HI4.1.2.1.other (by omega) _, HI4.1.2.2.1.other (by omega) _, ?_⟩, mp_set HI4.2.1 _ _, HI4.2.2.1.setCell (p := ⟨w1.heap.size + 1, 0, none⟩) (by show w.heap.size ≤ w1.heap.size + 1; omega) _, Nat.le_trans hsz4 (KeepsOthers.setCell _ _ _).size, ?_⟩
        · rw [HG.out, HE.out]; exact HI4.1.2.2.2.set _
        · rw [bqs_snoc, List.all_append, List.all_cons, HK.out, HI4.2.2.2.2]; rfl
  case done =>
    rintro D ys W hD rfl hI hK
    have d6 := hI.1.1.cell
    have f6 := hI.1.1.frozen
    have d7 := hI.1.2.1.cell
    have f7 := hI.1.2.1.frozen
    have d9 := hI.1.2.2.2.cell
    have hall := hI.2.2.2.2
    have eB : bqs (itS (us.take m) (j + 1) (m - (j + 1))) = bet (us.map (·.b)) j m := by
      rw [bqs_it, List.map_take, List.take_of_length_le (by rw [List.length_drop, List.length_take]; omega)]; rfl
    rw [eB] at d9 hall
    have hC := HCI.out.1
    obtain rfl : is = true := HCI.out.2.symm.trans hall
    rw [if_pos hall] at hC
    rw [hC] at d9
    have HII := Lib.hid hI
    clear hI hall hC eB
    gi_wp2
    have hK' := ((KeepsOthers.setCell W ⟨w.heap.size, 0, none⟩ (.int .i64 C)).trans (KeepsOthers.setCell _ ⟨w.heap.size + 1, 0, none⟩ (.bool true))).same D _ hK rfl
    refine ⟨by simp, .inl ⟨_, _, rfl, run_takeDeferred hK', ?_⟩⟩
    have hc6 := cell_kept ((HII.out.1.1.set (.int .i64 C)).other (B' := w.heap.size + 1) (by omega) (.bool true)).cell (grownBy_putObj' _ D (.deferred none)) (fun r e => by cases e; exact ⟨_, hK', rfl⟩)
    have hc7 := cell_kept ((HII.out.1.2.1.other (B' := w.heap.size) (by omega) (.int .i64 C)).set (.bool true)).cell (grownBy_putObj' _ D (.deferred none)) (fun r e => by cases e; exact ⟨_, hK', rfl⟩)
    refine ⟨.tuple #[.int .i64 C, .bool true], ?_, rfl, ((HII.out.2.2.1.setCell (p := ⟨w.heap.size, 0, none⟩) (Nat.le_refl _) _).setCell (p := ⟨w.heap.size + 1, 0, none⟩) (by show w.heap.size ≤ w.heap.size + 1; omega) _).trans (belowK_b (w := w) (Nat.le_refl _) _ D _ _ (by omega) hK' rfl rfl)⟩
    simp [results, Try.f84, go_sem, hc6, hc7]
  case stop =>
    rintro D cc pre W hD ⟨k, hk, rfl⟩ ⟨rfl, qB, e6, e7, hall⟩ hK
    have hall2 : (bet (us.map (·.b)) j m).all flI = false := by
      rw [bqs_it, List.map_take] at hall
      rw [show bet (us.map (·.b)) j m = (((us.map (·.b)).take m).drop (j + 1)).take k ++ (((us.map (·.b)).take m).drop (j + 1)).drop k from (List.take_append_drop ..).symm, List.all_append, hall]; rfl
    have hC := HCI.out.1
    obtain rfl : is = false := HCI.out.2.symm.trans hall2
    rw [if_neg (by rw [hall2]; exact Bool.false_ne_true)] at hC
    subst hC
    gi_wp2
    refine ⟨by simp, .inl ⟨_, _, rfl, run_takeDeferred hK, ?_⟩⟩
    have hc6 := cell_kept e6.cell (grownBy_putObj' _ D (.deferred none)) (fun r e => by cases e; exact ⟨_, hK, rfl⟩)
    have hc7 := cell_kept e7.cell (grownBy_putObj' _ D (.deferred none)) (fun r e => by cases e; exact ⟨_, hK, rfl⟩)
    refine ⟨.tuple #[.int .i64 0, .bool false], ?_, rfl, qB.trans (belowK_b (w := w) (Nat.le_refl _) W D _ _ (by omega) hK rfl rfl)⟩
    simp [results, Try.f84, go_sem, hc6, hc7]
set_option maxHeartbeats 2000000 in
theorem behind_any {w : World} {A : Option Addr} {n c m C : Nat} {us : List Bz} (hC : beF ((us.map (·.b)).drop (m + 1)) = C) (hl : us.length = n) (hn : n ≤ 1000) (hm : m < n) (hA : Br w A (us.map (·.b))) :
    Calls Try.prog 85 #[.slice A n c, .int .i64 (m : Int)] w fun e w' => e = .returned (.int .i64 (C : Int)) ∧ Below w.heap.size w w' := by
  have HL := Lib.hid hl
  have HA := Lib.hid hA
  have HC := Lib.hid hC
  clear hl hA hC
  refine (callsIn_wide (n := 4)).1 ?_
  refine callsIn_of_wp_marks Try.func85 rfl trivial ?_ rfl
  simp only [Try.ntmps85, List.size_toArray, List.length_cons, List.length_nil, Nat.reduceAdd, Nat.reduceSub, Array.replicate_succ, Array.replicate_zero, List.push_toArray, List.append_toArray, List.nil_append, List.cons_append]
  gi_wp2_with fail
  refine ⟨trivial, ?_⟩
  refine (callsIn_wide.2 (flats_any _ (w.heap.size) (by simp))).mono ?_
  rintro e w1 ⟨rfl, hM, hg⟩
  gi_wp2_with fail
  refine ⟨trivial, ?_⟩
  refine (callsIn_wide.2 (breaks_any _ (w1.heap.size) (by simp))).mono ?_
  rintro e w2 ⟨rfl, hM2, hg2⟩
  gi_wp2_with fail
  refine ⟨trivial, ?_⟩
  refine (callsIn_wide.2 (bits0_any _ _ _ _ _ (w2.heap.size + 3) (by simp))).mono ?_
  rintro e w3 ⟨rfl, rfl⟩
  gi_wp2_with fail
  have hms := mp_lt hM
  have hms2 := mp_lt hM2
  have hB1 := grown_below hg
  have hB2 := grown_below hg2
  have hM1 := mp_below hM hB2
  have hs12 := hB2.size
  obtain ⟨W0, hW0⟩ : ∃ W0, ((((w2.alloc (.cells #[.map (some w.heap.size)] 50)).alloc (.cells #[.map (some w1.heap.size)] 54)).alloc (.cells #[.int .i64 0] 3)).alloc (.cells #[.slice A n c] 22)).alloc (.cells #[.int .i64 ((m : Int) + 1)] 3) = W0 := ⟨_, rfl⟩
  have hs0 : W0.heap.size = w2.heap.size + 5 := by rw [← hW0]; simp
  have k5 : Boxed W0 w2.heap.size 50 (.map (some w.heap.size)) := by rw [← hW0]; exact ((((Boxed.new w2 50 _).alloc _).alloc _).alloc _).alloc _
  have k6 : Boxed W0 (w2.heap.size + 1) 54 (.map (some w1.heap.size)) := by rw [← hW0]; have := (((Boxed.new (w2.alloc (.cells #[.map (some w.heap.size)] 50)) 54 (.map (some w1.heap.size))).alloc (.cells #[.int .i64 0] 3)).alloc (.cells #[.slice A n c] 22)).alloc (.cells #[.int .i64 ((m : Int) + 1)] 3); rwa [World.size_alloc] at this
  have k7 : Boxed W0 (w2.heap.size + 1 + 1) 3 (.int .i64 0) := by rw [← hW0]; have := ((Boxed.new ((w2.alloc (.cells #[.map (some w.heap.size)] 50)).alloc (.cells #[.map (some w1.heap.size)] 54)) 3 (.int .i64 0)).alloc (.cells #[.slice A n c] 22)).alloc (.cells #[.int .i64 ((m : Int) + 1)] 3); rwa [World.size_alloc, World.size_alloc] at this
  have kN : Boxed W0 (w2.heap.size + 3) 22 (.slice A n c) := by rw [← hW0]; have := (Boxed.new (((w2.alloc (.cells #[.map (some w.heap.size)] 50)).alloc (.cells #[.map (some w1.heap.size)] 54)).alloc (.cells #[.int .i64 0] 3)) 22 (.slice A n c)).alloc (.cells #[.int .i64 ((m : Int) + 1)] 3); rwa [World.size_alloc, World.size_alloc, World.size_alloc] at this
  have kI : Boxed W0 (w2.heap.size + 3 + 1) 3 (.int .i64 ((m + 1 : Nat) : Int)) := by rw [← hW0]; have := Boxed.new ((((w2.alloc (.cells #[.map (some w.heap.size)] 50)).alloc (.cells #[.map (some w1.heap.size)] 54)).alloc (.cells #[.int .i64 0] 3)).alloc (.cells #[.slice A n c] 22)) 3 (.int .i64 ((m : Int) + 1)); rwa [World.size_alloc, World.size_alloc, World.size_alloc, World.size_alloc] at this
  have hBW : Below w2.heap.size w2 W0 := by rw [← hW0]; exact bel_alloc (bel_alloc (bel_alloc (bel_alloc (bel_alloc (Below.refl _ w2) _) _) _) _) _
  rw [hW0]
  clear hW0
  have hM0 := mp_below hM1 hBW
  have hM20 := mp_below hM2 hBW
  have hB0 := bel_trans (bel_trans hB1 hB2) hBW
  have hws : w.heap.size ≤ w2.heap.size := (bel_trans hB1 hB2).size
  clear hM hg hM2 hg2 hBW hB1 hB2 hM1
  refine wpIn_rangeFunc_ownH rfl (by omega) (gf := 86) (lb := #[.pointer (some ⟨w2.heap.size + 3 + 1, 0, none⟩), .pointer (some ⟨w2.heap.size + 3, 0, none⟩)]) rfl trivial (enters_of Try.func86 (by kernel_rfl) rfl)
    (bits_stops _ (by omega) (w2.heap.size + 3 + 1) (w2.heap.size + 3) w.heap.size HL.out (i0 := m + 1) (by omega) (by omega) W0 (fun W' h => HA.out.below (hB0.trans h)) (by omega) (by omega) (by omega) kN.cell kI.cell) kpD_t (kpD_b (by omega)) (Below.refl _ _) (fun _ => rfl)
    (MeI w w2.heap.size (w2.heap.size + 1) (w2.heap.size + 1 + 1) w.heap.size w1.heap.size W0.heap.size) (MeX w (w2.heap.size + 1 + 1)) (MeI.own (by omega) (by omega) (by omega)) (fun c => MeX.own (by omega) c)
    ⟨⟨k5, k6, k7⟩, ⟨hM0, hM20⟩, hB0, Nat.le_refl _, fun b hb => by cases hb⟩
    (fun x a' W => ∃ g, W0.heap.size ≤ g ∧ Xb W g x ∧ a' = { tmps := #[.slice A n c, .int .i64 (m : Int), undef, undef, .int .i64 0, .pointer (some ⟨w2.heap.size, 0, none⟩), .pointer (some ⟨w2.heap.size + 1, 0, none⟩), .pointer (some ⟨w2.heap.size + 1 + 1, 0, none⟩), undef, .pointer (some ⟨g, 0, none⟩), undef, undef, .map (some w.heap.size), .map (some w1.heap.size), .slice A n c, .int .i64 (m : Int), .int .i64 ((m : Int) + 1), .func (.func 86) #[] #[.pointer (some ⟨w2.heap.size + 3 + 1, 0, none⟩), .pointer (some ⟨w2.heap.size + 3, 0, none⟩)], .int .i64 (x.1 : Int), .agg #[.int .i64 x.2.b.m, .string x.2.b.v], undef, undef, undef, undef, undef, undef, undef, undef, undef, undef, undef, undef, undef, undef, undef], defers := [] })
    (fun x a' s X Y row hs hg hr => by
      obtain ⟨g, h1, h2, h3⟩ := hs
      exact ⟨g, h1, h2.kept hg hr, h3⟩) ?assign ?body ?done ?stop
  case assign =>
    intro l pre x W K hI hK
    dsimp only [encB]
    gi_wp2
    have hbW : Below W.heap.size W (W.alloc (.cells #[.int .i64 x.2.b.m, .string x.2.b.v] 34)) := bel_alloc (Below.refl _ W) _
    have hsW := hI.2.2.2.1
    exact hK _ _ ((ko_below hbW).from _) (kp_below (by omega) hbW) (hI.below hbW) ⟨W.heap.size, hsW, Xb.new W x, rfl⟩
  case body =>
    rintro l pre x a' W hlD - hI ⟨g, hg8, hx, rfl⟩ hlt
    obtain ⟨x0, x1⟩ := hx.cells
    obtain ⟨g1, g2, g3⟩ := col_more x hn hlt
    have d5 := hI.1.1.cell
    have d6 := hI.1.2.1.cell
    obtain ⟨S, hS⟩ : ∃ S, flV x.2.b = S := ⟨_, rfl⟩
    obtain ⟨k, hk⟩ : ∃ k, flI x.2.b = k := ⟨_, rfl⟩
    obtain ⟨y, hy⟩ : ∃ y, brF x.2.b.m = y := ⟨_, rfl⟩
    have hlk := lk_br hI.2.1.2 x.2.wf hy
    have hSz : S.size ≤ 9223372036854775807 := by
      have := flV_size x.2.b x.2.sz
      rw [hS] at this
      omega
    obtain ⟨z, hz⟩ : ∃ z, cols S.data.toList = z := ⟨_, rfl⟩
    have hzB : colB x.2.b = z := by rw [colB, hS, hz]
    have r1 := fun W (h : OwnE W 9 w.heap.size 8 (mapOf flP)) => of_any h x.2.wf hS hk
    have r2 := fun W => scols_any S hSz hz W
    have HII := Lib.hid hI
    have HY := Lib.hid hy
    rw [hzB] at g1 g3
    have HG := Lib.hid g1
    clear hI hk hS hSz hz hzB hlt g1 hx hy
    cases y with
    | true =>
      clear r1 r2
      gi_wp2
      exact ⟨KeepsFrom.refl _ _, rfl, HII.out.2.2.1, pre, x, rfl, HII.out.2.2.2.2, HY.out, HII.out.1.2.2⟩
    | false =>
      gi_wp2_with fail
      refine ⟨trivial, ?_⟩
      refine (CallsIn.inRound l (callsIn_wide.2 (r1 W HII.out.2.1.1))).mono ?_
      rintro e W3 ⟨rfl, hW3⟩
      have hb3 : Below W.heap.size W W3 := by rw [hW3]; exact bel_alloc (Below.refl _ W) _
      clear hW3 hlk
      have HI3 := Lib.hid (HII.out.below hb3)
      have d9 := HI3.out.1.2.2.cell
      have f9 := HI3.out.1.2.2.frozen
      have l9 := HI3.out.1.2.2.lt
      obtain ⟨E, hE⟩ : ∃ E, colS (bqs pre) = E := ⟨_, rfl⟩
      rw [hE] at d9 g2
      have HE := Lib.hid hE
      clear hE r1 d5 d6
      have hmx : Try.prog.follows .mixedOrders = true := by kernel_rfl
      gi_wp2
      gi_region_with_o (refine ⟨trivial, ?_⟩; refine (CallsIn.inRound l (callsIn_wide.2 (r2 _))).mono ?_; rintro e W4 ⟨rfl, hb4⟩; have d9' := bel_cell hb4 (show W3.drew.cell? ⟨w2.heap.size + 1 + 1, 0, none⟩ = some (.int .i64 (E : Int)) from d9); have f9' := (hb4.frozen (p := ⟨w2.heap.size + 1 + 1, 0, none⟩) l9).trans f9)
      all_goals gi_wp2
      all_goals
        have hb4' : Below W3.heap.size W3 W4 := (Below.refl _ W3).drew.trans hb4
        have HI4 := HI3.out.below hb4'
        have hsz4 := HI4.2.2.2.1
        have hwr : IntKind.i64.wrap ((E : Int) + (z : Int)) = ((E + z : Nat) : Int) := by rw [IntWalk.i64_in _ (by omega)]; omega
        rw [hwr]
        refine ⟨((ko_below (bel_trans hb3 hb4')).trans (KeepsOthers.setCell _ _ _)).from _, kpD_t (kp_below (by have := HII.out.2.2.1.size; omega) (bel_trans hb3 hb4')) (kp_set (by omega) (by omega) _), ⟨HI4.1.1.other (by omega) _, HI4.1.2.1.other (by omega) _, ?_⟩, ⟨mp_set HI4.2.1.1 _ _, mp_set HI4.2.1.2 _ _⟩, HI4.2.2.1.setCell (p := ⟨w2.heap.size + 1 + 1, 0, none⟩) (by show w.heap.size ≤ w2.heap.size + 1 + 1; omega) _, Nat.le_trans hsz4 (KeepsOthers.setCell _ _ _).size, ?_⟩
        · rw [HG.out, HE.out]; exact HI4.1.2.2.set _
        · intro bb hbb
          rw [bqs_snoc] at hbb
          rcases List.mem_append.1 hbb with h | h
          · exact HI4.2.2.2.2 bb h
          · rw [List.mem_singleton.1 h]; exact HY.out
  case done =>
    rintro D ys W hD rfl hI hK
    have d9 := hI.1.2.2.cell
    have hall := hI.2.2.2.2
    have eB : bqs (itS us (m + 1) (n - (m + 1))) = (us.map (·.b)).drop (m + 1) := by
      rw [bqs_it, List.take_of_length_le (by rw [List.length_drop, List.length_map, HL.out]; omega)]
    rw [eB] at d9 hall
    have hC := HC.out
    rw [beF_all hall] at hC
    rw [hC] at d9
    have HII := Lib.hid hI
    clear hI hall hC eB
    gi_wp2
    refine ⟨by simp, .inl ⟨_, _, rfl, run_takeDeferred hK, ?_⟩⟩
    exact ⟨_, results_tmp rfl _ _ _, rfl, HII.out.2.2.1.trans (belowK_b (w := w) (Nat.le_refl _) W D _ _ (by omega) hK rfl rfl)⟩
  case stop =>
    rintro D cc pre W hD ⟨k, hk, rfl⟩ ⟨rfl, qB, ini, x, e1, e2, e3, e4⟩ hK
    have d9 := e4.cell
    have hC := HC.out
    have e5 := bqs_it us (m + 1) k
    rw [e1, bqs_snoc] at e5
    rw [← List.take_append_drop k ((us.map (·.b)).drop (m + 1)), ← e5, List.append_assoc, List.singleton_append, beF_cut e2 e3] at hC
    rw [hC] at d9
    gi_wp2
    refine ⟨by simp, .inl ⟨_, _, rfl, run_takeDeferred hK, ?_⟩⟩
    exact ⟨_, results_tmp rfl _ _ _, rfl, qB.trans (belowK_b (w := w) (Nat.le_refl _) W D _ _ (by omega) hK rfl rfl)⟩
end
end Go.Proofs.Ytfcjihfnimefhaa
