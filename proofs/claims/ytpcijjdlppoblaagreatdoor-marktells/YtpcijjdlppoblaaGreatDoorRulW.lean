/- The reference's Get, Of, Plain (copperplateref11). -/
import Derived.Test.YtpcijjdlppoblaaGreatDoorRulT
import Derived.Test.YtpcijjdlppoblaaGreatDoorRulU
import Derived.Test.YtpcijjdlppoblaaGreatDoorRulV
import Derived.Test.YtpcijjdlppoblaaGreatDoorRulD
namespace Go.Proofs.YtpcijjdlppoblaaGreatDoor
open Go.RowKit
set_option linter.unusedVariables false
set_option maxRecDepth 100000

set_option maxHeartbeats 400000 in
theorem rget_no {i : Int} (h : i < 0 ∨ 90 ≤ i) (w : World) : Calls Tryz.prog 45 #[.int .i64 i] w fun e w' => GnE w e w' := by
  rcases h with h | h
  · go_enter Tryz.func45, Tryz.ntmps45
    go_wp2
    go_returns
    exact ⟨rfl, by go_grown⟩
  · have h' : ¬ i < 0 := by omega
    go_enter Tryz.func45, Tryz.ntmps45
    go_wp2
    go_returns
    exact ⟨rfl, by go_grown⟩
theorem Sr.set {w : World} {A : Option Addr} {l : List Sq} (h : Sr w A l) {a : Addr} (v : Value) (hne : ∀ b o : Nat, A = some ⟨b, o, none⟩ → b ≠ a.block) : Sr (w.setCell a v) A l := fun j t ht => by
  obtain ⟨b, o, h0, h1, h2⟩ := h j t ht
  have hb := hne b o h0
  refine ⟨b, o, h0, ?_, ?_⟩
  · refine (World.cell?_setCell_other _ _ _ _ ?_).trans h1
    intro e; rw [e] at hb; exact hb rfl
  · refine (World.cell?_setCell_other _ _ _ _ ?_).trans h2
    intro e; rw [e] at hb; exact hb rfl
set_option maxHeartbeats 1000000 in
theorem rget_75 {i : Nat} (h1 : 75 ≤ i) (h2 : i < 90) (w : World) : Calls Tryz.prog 45 #[.int .i64 i] w fun e w' => GtE i w e w' := by
  have r1 := rsyms75_any h1 h2
  obtain ⟨m, hm⟩ : ∃ m : Int, (varR i : Int) = m := ⟨_, rfl⟩
  obtain ⟨L, hL⟩ : ∃ L, symR i = L := ⟨_, rfl⟩
  obtain ⟨n, hn⟩ : ∃ n, L.length = n := ⟨_, rfl⟩
  unfold SyE at r1
  rw [hL, hn] at r1
  have HM := Lib.hid hm
  have HL := Lib.hid hL
  have HN := Lib.hid hn
  have q0 : (i : Int) < 90 := by omega
  have p75 : (75 : Int) ≤ (i : Int) := by omega
  have p60 : (60 : Int) ≤ (i : Int) := by omega
  have p45 : (45 : Int) ≤ (i : Int) := by omega
  have p30 : (30 : Int) ≤ (i : Int) := by omega
  have p15 : (15 : Int) ≤ (i : Int) := by omega
  have p0 : (0 : Int) ≤ (i : Int) := by omega
  have s75 : ¬ (i : Int) < 75 := by omega
  have s60 : ¬ (i : Int) < 60 := by omega
  have s45 : ¬ (i : Int) < 45 := by omega
  have s30 : ¬ (i : Int) < 30 := by omega
  have s15 : ¬ (i : Int) < 15 := by omega
  have hi : i < 90 := by omega
  clear hm hL hn h1 h2
  have HX := Lib.hid (B2.new w (.int .i64 0) (.slice none 0 0) 78)
  go_enter Tryz.func45, Tryz.ntmps45
  go_wp2_with fail
  refine (rvars_any _).mono ?_
  rintro e w1 ⟨g, rfl, hb1, hv⟩
  have hc := hv i hi
  rw [HM.out] at hc
  have HB := Lib.hid (bel_alloc (bel_trans (bel_alloc (Below.refl _ w) (.cells #[.int .i64 0, .slice none 0 0] 78)) hb1) (.cells #[.int .i64 m, .slice none 0 0] 78))
  have HX1 := Lib.hid ((HX.out.below hb1).below (bel_alloc (Below.refl _ w1) (.cells #[.int .i64 m, .slice none 0 0] 78)))
  have HY1 := Lib.hid (B2.new w1 (.int .i64 m) (.slice none 0 0) 78)
  have hs1 : w.heap.size < w1.heap.size := World.block_lt_of_cell? _ _ (HX.out.below hb1).c0
  clear hb1 hv
  go_wp2_with fail
  refine (r1 _).mono ?_
  rintro e w2 ⟨A, c, rfl, hb2, hS, hA, hg⟩
  obtain ⟨c0, c1, f0, f1⟩ := HX1.out.below hb2
  obtain ⟨d0, d1, e0, e1⟩ := HY1.out.below hb2
  have hs2 : w1.heap.size < w2.heap.size := World.block_lt_of_cell? _ _ d0
  have HB2 := Lib.hid (bel_trans HB.out hb2)
  have HS := Lib.hid hS
  have HG := Lib.hid hg
  clear hb2 hS hg
  go_wp2_with fail
  have hsx : w.heap.size ≤ w1.heap.size := by omega
  have hne : ¬ (w1.heap.size = w.heap.size) := by omega
  have hs3 : w1.heap.size + 1 ≤ w2.heap.size := by omega
  refine body_box2 rfl (u0 := .int .i64 0) (u1 := .slice none 0 0) ⟨?_, ?_, ?_, ?_⟩ rfl rfl ?_
  · exact (World.cell?_setCell_other _ _ _ _ (by intro e; injection e; omega)).trans c0
  · exact (World.cell?_setCell_other _ _ _ _ (by intro e; injection e; omega)).trans c1
  · rw [World.frozen?_setCell]; exact f0
  · rw [World.frozen?_setCell]; exact f1
  refine ⟨A, c, ?_, ?_, ?_, ?_⟩
  · rw [HM.out, HL.out, HN.out]; rfl
  · exact bel_set2 (HB2.out.setCell (p := ⟨w1.heap.size, 1, none⟩) hsx _) (Nat.le_refl _) _ _
  · rw [HL.out]
    have hG := HG.out
    rw [World.size_alloc] at hG
    exact (((HS.out.set _ (fun b o e => by have := hG b o e; dsimp; omega)).set _ (fun b o e => by have := hG b o e; dsimp; omega)).set _ (fun b o e => by have := hG b o e; dsimp; omega))
  · rw [HL.out, HN.out]; exact hA
set_option maxHeartbeats 1000000 in
theorem rget_60 {i : Nat} (h1 : 60 ≤ i) (h2 : i < 75) (w : World) : Calls Tryz.prog 45 #[.int .i64 i] w fun e w' => GtE i w e w' := by
  have r1 := rsyms60_any h1 h2
  obtain ⟨m, hm⟩ : ∃ m : Int, (varR i : Int) = m := ⟨_, rfl⟩
  obtain ⟨L, hL⟩ : ∃ L, symR i = L := ⟨_, rfl⟩
  obtain ⟨n, hn⟩ : ∃ n, L.length = n := ⟨_, rfl⟩
  unfold SyE at r1
  rw [hL, hn] at r1
  have HM := Lib.hid hm
  have HL := Lib.hid hL
  have HN := Lib.hid hn
  have q0 : (i : Int) < 90 := by omega
  have p75 : ¬ (75 : Int) ≤ (i : Int) := by omega
  have p60 : (60 : Int) ≤ (i : Int) := by omega
  have p45 : (45 : Int) ≤ (i : Int) := by omega
  have p30 : (30 : Int) ≤ (i : Int) := by omega
  have p15 : (15 : Int) ≤ (i : Int) := by omega
  have p0 : (0 : Int) ≤ (i : Int) := by omega
  have s75 : (i : Int) < 75 := by omega
  have s60 : ¬ (i : Int) < 60 := by omega
  have s45 : ¬ (i : Int) < 45 := by omega
  have s30 : ¬ (i : Int) < 30 := by omega
  have s15 : ¬ (i : Int) < 15 := by omega
  have hi : i < 90 := by omega
  clear hm hL hn h1 h2
  have HX := Lib.hid (B2.new w (.int .i64 0) (.slice none 0 0) 78)
  go_enter Tryz.func45, Tryz.ntmps45
  go_wp2_with fail
  refine (rvars_any _).mono ?_
  rintro e w1 ⟨g, rfl, hb1, hv⟩
  have hc := hv i hi
  rw [HM.out] at hc
  have HB := Lib.hid (bel_alloc (bel_trans (bel_alloc (Below.refl _ w) (.cells #[.int .i64 0, .slice none 0 0] 78)) hb1) (.cells #[.int .i64 m, .slice none 0 0] 78))
  have HX1 := Lib.hid ((HX.out.below hb1).below (bel_alloc (Below.refl _ w1) (.cells #[.int .i64 m, .slice none 0 0] 78)))
  have HY1 := Lib.hid (B2.new w1 (.int .i64 m) (.slice none 0 0) 78)
  have hs1 : w.heap.size < w1.heap.size := World.block_lt_of_cell? _ _ (HX.out.below hb1).c0
  clear hb1 hv
  go_wp2_with fail
  refine (r1 _).mono ?_
  rintro e w2 ⟨A, c, rfl, hb2, hS, hA, hg⟩
  obtain ⟨c0, c1, f0, f1⟩ := HX1.out.below hb2
  obtain ⟨d0, d1, e0, e1⟩ := HY1.out.below hb2
  have hs2 : w1.heap.size < w2.heap.size := World.block_lt_of_cell? _ _ d0
  have HB2 := Lib.hid (bel_trans HB.out hb2)
  have HS := Lib.hid hS
  have HG := Lib.hid hg
  clear hb2 hS hg
  go_wp2_with fail
  have hsx : w.heap.size ≤ w1.heap.size := by omega
  have hne : ¬ (w1.heap.size = w.heap.size) := by omega
  have hs3 : w1.heap.size + 1 ≤ w2.heap.size := by omega
  refine body_box2 rfl (u0 := .int .i64 0) (u1 := .slice none 0 0) ⟨?_, ?_, ?_, ?_⟩ rfl rfl ?_
  · exact (World.cell?_setCell_other _ _ _ _ (by intro e; injection e; omega)).trans c0
  · exact (World.cell?_setCell_other _ _ _ _ (by intro e; injection e; omega)).trans c1
  · rw [World.frozen?_setCell]; exact f0
  · rw [World.frozen?_setCell]; exact f1
  refine ⟨A, c, ?_, ?_, ?_, ?_⟩
  · rw [HM.out, HL.out, HN.out]; rfl
  · exact bel_set2 (HB2.out.setCell (p := ⟨w1.heap.size, 1, none⟩) hsx _) (Nat.le_refl _) _ _
  · rw [HL.out]
    have hG := HG.out
    rw [World.size_alloc] at hG
    exact (((HS.out.set _ (fun b o e => by have := hG b o e; dsimp; omega)).set _ (fun b o e => by have := hG b o e; dsimp; omega)).set _ (fun b o e => by have := hG b o e; dsimp; omega))
  · rw [HL.out, HN.out]; exact hA
set_option maxHeartbeats 1000000 in
theorem rget_45 {i : Nat} (h1 : 45 ≤ i) (h2 : i < 60) (w : World) : Calls Tryz.prog 45 #[.int .i64 i] w fun e w' => GtE i w e w' := by
  have r1 := rsyms45_any h1 h2
  obtain ⟨m, hm⟩ : ∃ m : Int, (varR i : Int) = m := ⟨_, rfl⟩
  obtain ⟨L, hL⟩ : ∃ L, symR i = L := ⟨_, rfl⟩
  obtain ⟨n, hn⟩ : ∃ n, L.length = n := ⟨_, rfl⟩
  unfold SyE at r1
  rw [hL, hn] at r1
  have HM := Lib.hid hm
  have HL := Lib.hid hL
  have HN := Lib.hid hn
  have q0 : (i : Int) < 90 := by omega
  have p75 : ¬ (75 : Int) ≤ (i : Int) := by omega
  have p60 : ¬ (60 : Int) ≤ (i : Int) := by omega
  have p45 : (45 : Int) ≤ (i : Int) := by omega
  have p30 : (30 : Int) ≤ (i : Int) := by omega
  have p15 : (15 : Int) ≤ (i : Int) := by omega
  have p0 : (0 : Int) ≤ (i : Int) := by omega
  have s75 : (i : Int) < 75 := by omega
  have s60 : (i : Int) < 60 := by omega
  have s45 : ¬ (i : Int) < 45 := by omega
  have s30 : ¬ (i : Int) < 30 := by omega
  have s15 : ¬ (i : Int) < 15 := by omega
  have hi : i < 90 := by omega
  clear hm hL hn h1 h2
  have HX := Lib.hid (B2.new w (.int .i64 0) (.slice none 0 0) 78)
  go_enter Tryz.func45, Tryz.ntmps45
  go_wp2_with fail
  refine (rvars_any _).mono ?_
  rintro e w1 ⟨g, rfl, hb1, hv⟩
  have hc := hv i hi
  rw [HM.out] at hc
  have HB := Lib.hid (bel_alloc (bel_trans (bel_alloc (Below.refl _ w) (.cells #[.int .i64 0, .slice none 0 0] 78)) hb1) (.cells #[.int .i64 m, .slice none 0 0] 78))
  have HX1 := Lib.hid ((HX.out.below hb1).below (bel_alloc (Below.refl _ w1) (.cells #[.int .i64 m, .slice none 0 0] 78)))
  have HY1 := Lib.hid (B2.new w1 (.int .i64 m) (.slice none 0 0) 78)
  have hs1 : w.heap.size < w1.heap.size := World.block_lt_of_cell? _ _ (HX.out.below hb1).c0
  clear hb1 hv
  go_wp2_with fail
  refine (r1 _).mono ?_
  rintro e w2 ⟨A, c, rfl, hb2, hS, hA, hg⟩
  obtain ⟨c0, c1, f0, f1⟩ := HX1.out.below hb2
  obtain ⟨d0, d1, e0, e1⟩ := HY1.out.below hb2
  have hs2 : w1.heap.size < w2.heap.size := World.block_lt_of_cell? _ _ d0
  have HB2 := Lib.hid (bel_trans HB.out hb2)
  have HS := Lib.hid hS
  have HG := Lib.hid hg
  clear hb2 hS hg
  go_wp2_with fail
  have hsx : w.heap.size ≤ w1.heap.size := by omega
  have hne : ¬ (w1.heap.size = w.heap.size) := by omega
  have hs3 : w1.heap.size + 1 ≤ w2.heap.size := by omega
  refine body_box2 rfl (u0 := .int .i64 0) (u1 := .slice none 0 0) ⟨?_, ?_, ?_, ?_⟩ rfl rfl ?_
  · exact (World.cell?_setCell_other _ _ _ _ (by intro e; injection e; omega)).trans c0
  · exact (World.cell?_setCell_other _ _ _ _ (by intro e; injection e; omega)).trans c1
  · rw [World.frozen?_setCell]; exact f0
  · rw [World.frozen?_setCell]; exact f1
  refine ⟨A, c, ?_, ?_, ?_, ?_⟩
  · rw [HM.out, HL.out, HN.out]; rfl
  · exact bel_set2 (HB2.out.setCell (p := ⟨w1.heap.size, 1, none⟩) hsx _) (Nat.le_refl _) _ _
  · rw [HL.out]
    have hG := HG.out
    rw [World.size_alloc] at hG
    exact (((HS.out.set _ (fun b o e => by have := hG b o e; dsimp; omega)).set _ (fun b o e => by have := hG b o e; dsimp; omega)).set _ (fun b o e => by have := hG b o e; dsimp; omega))
  · rw [HL.out, HN.out]; exact hA
set_option maxHeartbeats 1000000 in
theorem rget_30 {i : Nat} (h1 : 30 ≤ i) (h2 : i < 45) (w : World) : Calls Tryz.prog 45 #[.int .i64 i] w fun e w' => GtE i w e w' := by
  have r1 := rsyms30_any h1 h2
  obtain ⟨m, hm⟩ : ∃ m : Int, (varR i : Int) = m := ⟨_, rfl⟩
  obtain ⟨L, hL⟩ : ∃ L, symR i = L := ⟨_, rfl⟩
  obtain ⟨n, hn⟩ : ∃ n, L.length = n := ⟨_, rfl⟩
  unfold SyE at r1
  rw [hL, hn] at r1
  have HM := Lib.hid hm
  have HL := Lib.hid hL
  have HN := Lib.hid hn
  have q0 : (i : Int) < 90 := by omega
  have p75 : ¬ (75 : Int) ≤ (i : Int) := by omega
  have p60 : ¬ (60 : Int) ≤ (i : Int) := by omega
  have p45 : ¬ (45 : Int) ≤ (i : Int) := by omega
  have p30 : (30 : Int) ≤ (i : Int) := by omega
  have p15 : (15 : Int) ≤ (i : Int) := by omega
  have p0 : (0 : Int) ≤ (i : Int) := by omega
  have s75 : (i : Int) < 75 := by omega
  have s60 : (i : Int) < 60 := by omega
  have s45 : (i : Int) < 45 := by omega
  have s30 : ¬ (i : Int) < 30 := by omega
  have s15 : ¬ (i : Int) < 15 := by omega
  have hi : i < 90 := by omega
  clear hm hL hn h1 h2
  have HX := Lib.hid (B2.new w (.int .i64 0) (.slice none 0 0) 78)
  go_enter Tryz.func45, Tryz.ntmps45
  go_wp2_with fail
  refine (rvars_any _).mono ?_
  rintro e w1 ⟨g, rfl, hb1, hv⟩
  have hc := hv i hi
  rw [HM.out] at hc
  have HB := Lib.hid (bel_alloc (bel_trans (bel_alloc (Below.refl _ w) (.cells #[.int .i64 0, .slice none 0 0] 78)) hb1) (.cells #[.int .i64 m, .slice none 0 0] 78))
  have HX1 := Lib.hid ((HX.out.below hb1).below (bel_alloc (Below.refl _ w1) (.cells #[.int .i64 m, .slice none 0 0] 78)))
  have HY1 := Lib.hid (B2.new w1 (.int .i64 m) (.slice none 0 0) 78)
  have hs1 : w.heap.size < w1.heap.size := World.block_lt_of_cell? _ _ (HX.out.below hb1).c0
  clear hb1 hv
  go_wp2_with fail
  refine (r1 _).mono ?_
  rintro e w2 ⟨A, c, rfl, hb2, hS, hA, hg⟩
  obtain ⟨c0, c1, f0, f1⟩ := HX1.out.below hb2
  obtain ⟨d0, d1, e0, e1⟩ := HY1.out.below hb2
  have hs2 : w1.heap.size < w2.heap.size := World.block_lt_of_cell? _ _ d0
  have HB2 := Lib.hid (bel_trans HB.out hb2)
  have HS := Lib.hid hS
  have HG := Lib.hid hg
  clear hb2 hS hg
  go_wp2_with fail
  have hsx : w.heap.size ≤ w1.heap.size := by omega
  have hne : ¬ (w1.heap.size = w.heap.size) := by omega
  have hs3 : w1.heap.size + 1 ≤ w2.heap.size := by omega
  refine body_box2 rfl (u0 := .int .i64 0) (u1 := .slice none 0 0) ⟨?_, ?_, ?_, ?_⟩ rfl rfl ?_
  · exact (World.cell?_setCell_other _ _ _ _ (by intro e; injection e; omega)).trans c0
  · exact (World.cell?_setCell_other _ _ _ _ (by intro e; injection e; omega)).trans c1
  · rw [World.frozen?_setCell]; exact f0
  · rw [World.frozen?_setCell]; exact f1
  refine ⟨A, c, ?_, ?_, ?_, ?_⟩
  · rw [HM.out, HL.out, HN.out]; rfl
  · exact bel_set2 (HB2.out.setCell (p := ⟨w1.heap.size, 1, none⟩) hsx _) (Nat.le_refl _) _ _
  · rw [HL.out]
    have hG := HG.out
    rw [World.size_alloc] at hG
    exact (((HS.out.set _ (fun b o e => by have := hG b o e; dsimp; omega)).set _ (fun b o e => by have := hG b o e; dsimp; omega)).set _ (fun b o e => by have := hG b o e; dsimp; omega))
  · rw [HL.out, HN.out]; exact hA
set_option maxHeartbeats 1000000 in
theorem rget_15 {i : Nat} (h1 : 15 ≤ i) (h2 : i < 30) (w : World) : Calls Tryz.prog 45 #[.int .i64 i] w fun e w' => GtE i w e w' := by
  have r1 := rsyms15_any h1 h2
  obtain ⟨m, hm⟩ : ∃ m : Int, (varR i : Int) = m := ⟨_, rfl⟩
  obtain ⟨L, hL⟩ : ∃ L, symR i = L := ⟨_, rfl⟩
  obtain ⟨n, hn⟩ : ∃ n, L.length = n := ⟨_, rfl⟩
  unfold SyE at r1
  rw [hL, hn] at r1
  have HM := Lib.hid hm
  have HL := Lib.hid hL
  have HN := Lib.hid hn
  have q0 : (i : Int) < 90 := by omega
  have p75 : ¬ (75 : Int) ≤ (i : Int) := by omega
  have p60 : ¬ (60 : Int) ≤ (i : Int) := by omega
  have p45 : ¬ (45 : Int) ≤ (i : Int) := by omega
  have p30 : ¬ (30 : Int) ≤ (i : Int) := by omega
  have p15 : (15 : Int) ≤ (i : Int) := by omega
  have p0 : (0 : Int) ≤ (i : Int) := by omega
  have s75 : (i : Int) < 75 := by omega
  have s60 : (i : Int) < 60 := by omega
  have s45 : (i : Int) < 45 := by omega
  have s30 : (i : Int) < 30 := by omega
  have s15 : ¬ (i : Int) < 15 := by omega
  have hi : i < 90 := by omega
  clear hm hL hn h1 h2
  have HX := Lib.hid (B2.new w (.int .i64 0) (.slice none 0 0) 78)
  go_enter Tryz.func45, Tryz.ntmps45
  go_wp2_with fail
  refine (rvars_any _).mono ?_
  rintro e w1 ⟨g, rfl, hb1, hv⟩
  have hc := hv i hi
  rw [HM.out] at hc
  have HB := Lib.hid (bel_alloc (bel_trans (bel_alloc (Below.refl _ w) (.cells #[.int .i64 0, .slice none 0 0] 78)) hb1) (.cells #[.int .i64 m, .slice none 0 0] 78))
  have HX1 := Lib.hid ((HX.out.below hb1).below (bel_alloc (Below.refl _ w1) (.cells #[.int .i64 m, .slice none 0 0] 78)))
  have HY1 := Lib.hid (B2.new w1 (.int .i64 m) (.slice none 0 0) 78)
  have hs1 : w.heap.size < w1.heap.size := World.block_lt_of_cell? _ _ (HX.out.below hb1).c0
  clear hb1 hv
  go_wp2_with fail
  refine (r1 _).mono ?_
  rintro e w2 ⟨A, c, rfl, hb2, hS, hA, hg⟩
  obtain ⟨c0, c1, f0, f1⟩ := HX1.out.below hb2
  obtain ⟨d0, d1, e0, e1⟩ := HY1.out.below hb2
  have hs2 : w1.heap.size < w2.heap.size := World.block_lt_of_cell? _ _ d0
  have HB2 := Lib.hid (bel_trans HB.out hb2)
  have HS := Lib.hid hS
  have HG := Lib.hid hg
  clear hb2 hS hg
  go_wp2_with fail
  have hsx : w.heap.size ≤ w1.heap.size := by omega
  have hne : ¬ (w1.heap.size = w.heap.size) := by omega
  have hs3 : w1.heap.size + 1 ≤ w2.heap.size := by omega
  refine body_box2 rfl (u0 := .int .i64 0) (u1 := .slice none 0 0) ⟨?_, ?_, ?_, ?_⟩ rfl rfl ?_
  · exact (World.cell?_setCell_other _ _ _ _ (by intro e; injection e; omega)).trans c0
  · exact (World.cell?_setCell_other _ _ _ _ (by intro e; injection e; omega)).trans c1
  · rw [World.frozen?_setCell]; exact f0
  · rw [World.frozen?_setCell]; exact f1
  refine ⟨A, c, ?_, ?_, ?_, ?_⟩
  · rw [HM.out, HL.out, HN.out]; rfl
  · exact bel_set2 (HB2.out.setCell (p := ⟨w1.heap.size, 1, none⟩) hsx _) (Nat.le_refl _) _ _
  · rw [HL.out]
    have hG := HG.out
    rw [World.size_alloc] at hG
    exact (((HS.out.set _ (fun b o e => by have := hG b o e; dsimp; omega)).set _ (fun b o e => by have := hG b o e; dsimp; omega)).set _ (fun b o e => by have := hG b o e; dsimp; omega))
  · rw [HL.out, HN.out]; exact hA
set_option maxHeartbeats 1000000 in
theorem rget_0 {i : Nat} (h1 : 0 ≤ i) (h2 : i < 15) (w : World) : Calls Tryz.prog 45 #[.int .i64 i] w fun e w' => GtE i w e w' := by
  have r1 := rsyms0_any h1 h2
  obtain ⟨m, hm⟩ : ∃ m : Int, (varR i : Int) = m := ⟨_, rfl⟩
  obtain ⟨L, hL⟩ : ∃ L, symR i = L := ⟨_, rfl⟩
  obtain ⟨n, hn⟩ : ∃ n, L.length = n := ⟨_, rfl⟩
  unfold SyE at r1
  rw [hL, hn] at r1
  have HM := Lib.hid hm
  have HL := Lib.hid hL
  have HN := Lib.hid hn
  have q0 : (i : Int) < 90 := by omega
  have p75 : ¬ (75 : Int) ≤ (i : Int) := by omega
  have p60 : ¬ (60 : Int) ≤ (i : Int) := by omega
  have p45 : ¬ (45 : Int) ≤ (i : Int) := by omega
  have p30 : ¬ (30 : Int) ≤ (i : Int) := by omega
  have p15 : ¬ (15 : Int) ≤ (i : Int) := by omega
  have p0 : (0 : Int) ≤ (i : Int) := by omega
  have s75 : (i : Int) < 75 := by omega
  have s60 : (i : Int) < 60 := by omega
  have s45 : (i : Int) < 45 := by omega
  have s30 : (i : Int) < 30 := by omega
  have s15 : (i : Int) < 15 := by omega
  have hi : i < 90 := by omega
  clear hm hL hn h1 h2
  have HX := Lib.hid (B2.new w (.int .i64 0) (.slice none 0 0) 78)
  go_enter Tryz.func45, Tryz.ntmps45
  go_wp2_with fail
  refine (rvars_any _).mono ?_
  rintro e w1 ⟨g, rfl, hb1, hv⟩
  have hc := hv i hi
  rw [HM.out] at hc
  have HB := Lib.hid (bel_alloc (bel_trans (bel_alloc (Below.refl _ w) (.cells #[.int .i64 0, .slice none 0 0] 78)) hb1) (.cells #[.int .i64 m, .slice none 0 0] 78))
  have HX1 := Lib.hid ((HX.out.below hb1).below (bel_alloc (Below.refl _ w1) (.cells #[.int .i64 m, .slice none 0 0] 78)))
  have HY1 := Lib.hid (B2.new w1 (.int .i64 m) (.slice none 0 0) 78)
  have hs1 : w.heap.size < w1.heap.size := World.block_lt_of_cell? _ _ (HX.out.below hb1).c0
  clear hb1 hv
  go_wp2_with fail
  refine (r1 _).mono ?_
  rintro e w2 ⟨A, c, rfl, hb2, hS, hA, hg⟩
  obtain ⟨c0, c1, f0, f1⟩ := HX1.out.below hb2
  obtain ⟨d0, d1, e0, e1⟩ := HY1.out.below hb2
  have hs2 : w1.heap.size < w2.heap.size := World.block_lt_of_cell? _ _ d0
  have HB2 := Lib.hid (bel_trans HB.out hb2)
  have HS := Lib.hid hS
  have HG := Lib.hid hg
  clear hb2 hS hg
  go_wp2_with fail
  have hsx : w.heap.size ≤ w1.heap.size := by omega
  have hne : ¬ (w1.heap.size = w.heap.size) := by omega
  have hs3 : w1.heap.size + 1 ≤ w2.heap.size := by omega
  refine body_box2 rfl (u0 := .int .i64 0) (u1 := .slice none 0 0) ⟨?_, ?_, ?_, ?_⟩ rfl rfl ?_
  · exact (World.cell?_setCell_other _ _ _ _ (by intro e; injection e; omega)).trans c0
  · exact (World.cell?_setCell_other _ _ _ _ (by intro e; injection e; omega)).trans c1
  · rw [World.frozen?_setCell]; exact f0
  · rw [World.frozen?_setCell]; exact f1
  refine ⟨A, c, ?_, ?_, ?_, ?_⟩
  · rw [HM.out, HL.out, HN.out]; rfl
  · exact bel_set2 (HB2.out.setCell (p := ⟨w1.heap.size, 1, none⟩) hsx _) (Nat.le_refl _) _ _
  · rw [HL.out]
    have hG := HG.out
    rw [World.size_alloc] at hG
    exact (((HS.out.set _ (fun b o e => by have := hG b o e; dsimp; omega)).set _ (fun b o e => by have := hG b o e; dsimp; omega)).set _ (fun b o e => by have := hG b o e; dsimp; omega))
  · rw [HL.out, HN.out]; exact hA
theorem rget_yes {i : Nat} (h : i < 90) (w : World) : Calls Tryz.prog 45 #[.int .i64 i] w fun e w' => GtE i w e w' := by
  by_cases h75 : 75 ≤ i
  · exact rget_75 h75 (by omega) w
  by_cases h60 : 60 ≤ i
  · exact rget_60 h60 (by omega) w
  by_cases h45 : 45 ≤ i
  · exact rget_45 h45 (by omega) w
  by_cases h30 : 30 ≤ i
  · exact rget_30 h30 (by omega) w
  by_cases h15 : 15 ≤ i
  · exact rget_15 h15 (by omega) w
  · exact rget_0 (by omega) (by omega) w
end Go.Proofs.YtpcijjdlppoblaaGreatDoor
