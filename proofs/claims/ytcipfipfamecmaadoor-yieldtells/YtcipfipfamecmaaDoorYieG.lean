/- Stage 14's common beginning: awake. -/
import Derived.Test.YtcipfipfamecmaaDoorYieF
namespace Go.Proofs.YtcipfipfamecmaaDoor
open Go.RowKit
set_option linter.unusedVariables false
set_option maxRecDepth 100000

/-- The example's block. -/
def docO : Obj := .cells #[.int .i64 0, .int .i64 3, .int .i64 41, .int .i64 44, .int .i64 46, .int .i64 23, .int .i64 21, .int .i64 48, .int .i64 42, .int .i64 1] 3
def docT : Obj := .cells #[.int .i64 12, .int .i64 23, .int .i64 14] 3
def YdE (w : World) (e : Ending) (w' : World) : Prop := ∃ A c, e = .returned (.tuple #[.slice A 3 c, .bool true]) ∧ Below w.heap.size w w'
def FdE (w : World) (e : Ending) (w' : World) : Prop := ∃ A c, e = .returned (.tuple #[.slice A 7 c, .bool true]) ∧ Below w.heap.size w w'
theorem yield_doc {g : Nat} {w : World} (hA : Ri w (some ⟨g, 0, none⟩) docR) (ht : TabR w) : Calls Tryd.prog 13 #[.slice (some ⟨g, 0, none⟩) 10 10] w fun e w' => YdE w e w' := by
  obtain ⟨X, hX, x7, x3, xd⟩ := ful_doc
  refine (yield_any (c := 10) (n := 10) hX rfl x3 rfl (Nat.le_refl _) (by decide) hA ht).mono ?_
  rintro e w' ⟨A, c, rfl, hb, -, -⟩
  exact ⟨A, c, rfl, hb⟩
theorem full_doc {g : Nat} {w : World} (hA : Ri w (some ⟨g, 0, none⟩) docR) (ht : TabR w) : Calls Tryd.prog 11 #[.slice (some ⟨g, 0, none⟩) 10 10] w fun e w' => FdE w e w' := by
  obtain ⟨X, hX, x7, x3, xd⟩ := ful_doc
  refine (full_any (c := 10) (n := 10) hX x7 rfl (Nat.le_refl _) (by decide) hA ht).mono ?_
  rintro e w' ⟨A, c, rfl, hb, -, -⟩
  exact ⟨A, c, rfl, hb⟩
theorem derives_doc {g g2 : Nat} {w : World} (hA : Ri w (some ⟨g, 0, none⟩) docR) (hA2 : Ri w (some ⟨g2, 0, none⟩) [12, 23, 14]) (ht : TabR w) :
    Calls Tryd.prog 17 #[.slice (some ⟨g, 0, none⟩) 10 10, .slice (some ⟨g2, 0, none⟩) 3 3] w fun e w' => e = .returned (.bool true) ∧ Below w.heap.size w w' := by
  obtain ⟨X, hX, x7, x3, xd⟩ := ful_doc
  exact derives_any (n := 10) (n2 := 3) hX xd rfl (Nat.le_refl _) (by decide) hA rfl (by decide) hA2 ht
theorem derives_cut {g g2 : Nat} {w : World} (hA : Ri w (some ⟨g, 0, none⟩) docR) (hA2 : Ri w (some ⟨g2, 0, none⟩) [12, 23, 14]) (ht : TabR w) :
    Calls Tryd.prog 17 #[.slice (some ⟨g, 1, none⟩) 9 9, .slice (some ⟨g2, 0, none⟩) 3 3] w fun e w' => e = .returned (.bool false) ∧ Below w.heap.size w w' :=
  derives_any (n := 9) (n2 := 3) ful_cut rfl rfl (Nat.le_refl _) (by decide) (ri_tail (o := 0) hA) rfl (by decide) hA2 ht
set_option maxHeartbeats 2000000 in
theorem awake_any (w : World) (ht : TabR w) : Calls Tryd.prog 10 #[] w fun e w' => e = .returned (.bool true) ∧ Below w.heap.size w w' := by
  have hbo := bel_alloc (Below.refl _ w) docO
  have hri : Ri (w.alloc docO) (some ⟨w.heap.size, 0, none⟩) docR := ri_block docR (heap_alloc_new w docO)
  unfold docO at hbo hri
  have HB0 := Lib.hid hbo
  have HR0 := Lib.hid hri
  have HT := Lib.hid ht
  clear hbo hri ht
  go_enter Tryd.func10, Tryd.ntmps10
  go_wp2_with fail
  ((with_reducible refine (yield_doc HR0.out (HT.out.below HB0.out)).mono ?_))
  rintro e w1 ⟨B, d, rfl, hb1⟩
  have HB1 := Lib.hid (bel_trans HB0.out hb1)
  have HR1 := Lib.hid (HR0.out.below hb1)
  clear hb1
  go_wp2_with fail
  ((with_reducible refine (full_doc HR1.out (HT.out.below HB1.out)).mono ?_))
  rintro e w2 ⟨B2, d2, rfl, hb2⟩
  have HB2 := Lib.hid (bel_alloc (bel_trans HB1.out hb2) docT)
  have HR2 := Lib.hid ((HR1.out.below hb2).below (bel_alloc (Below.refl _ w2) docT))
  have HQ2 := Lib.hid (show Ri (w2.alloc docT) (some ⟨w2.heap.size, 0, none⟩) [12, 23, 14] from ri_block [12, 23, 14] (heap_alloc_new w2 docT))
  unfold docT at HB2 HR2 HQ2
  clear hb2
  go_wp2_with fail
  ((with_reducible refine (derives_doc HR2.out HQ2.out (HT.out.below HB2.out)).mono ?_))
  rintro e w3 ⟨rfl, hb3⟩
  have HB3 := Lib.hid (bel_alloc (bel_trans HB2.out hb3) docT)
  have HR3 := Lib.hid ((HR2.out.below hb3).below (bel_alloc (Below.refl _ w3) docT))
  have HQ3 := Lib.hid (show Ri (w3.alloc docT) (some ⟨w3.heap.size, 0, none⟩) [12, 23, 14] from ri_block [12, 23, 14] (heap_alloc_new w3 docT))
  unfold docT at HB3 HR3 HQ3
  clear hb3
  go_wp2_with fail
  ((with_reducible refine (derives_cut HR3.out HQ3.out (HT.out.below HB3.out)).mono ?_))
  rintro e w4 ⟨rfl, hb4⟩
  have HB4 := Lib.hid (bel_trans HB3.out hb4)
  clear hb4
  go_wp2_with fail
  go_ret
  exact ⟨by simp, HB4.out⟩
end Go.Proofs.YtcipfipfamecmaaDoor
