/- Contracts of package flow: what a builder at the head of a page's box writes, and tells. -/
import Derived.Test.YtfcjihfnimefhaaFloA
namespace Go.Proofs.Ytfcjihfnimefhaa
open Go.Shelf Go.RowKit
set_option linter.unusedVariables false
set_option maxRecDepth 100000

section
variable {B b : Nat} {out : List UInt8} {i c d : Int} {w : World}
/-- Behind an append to the row: the page's box still stands. -/
theorem page_grown {w w' : World} {v : Value} {n : Nat} {xs : List Value} {cs : Array Value} (ho : w.ownsRowF B 5 1 v n xs) (hb : w.heap[b]? = some (.cells cs 61 (0, 0))) (hg : w.grownBy w' v.ownBlock) : w'.heap[b]? = some (.cells cs 61 (0, 0)) :=
  (hg.block b (Array.getElem?_eq_some_iff.1 hb).1 (fun e => own_nob ho hb e.symm)).trans hb
theorem Kq.grown {w w' w'' : World} {v : Value} {n : Nat} {xs : List Value} (h : Kq B b w w') (ho : w'.ownsRowF B 5 1 v n xs) (hB : B ≤ w'.heap.size) (hg : w'.grownBy w'' v.ownBlock) : Kq B b w w'' :=
  ⟨h.bel.grown hg hB (fun k hk => (ho.lt k hk).1), h.oth.grown hg (Lib.ownsRowF_kind ho)⟩
theorem Kq.alloc {w w' : World} (h : Kq B b w w') (hB : B ≤ w'.heap.size) (o : Obj) : Kq B b w (w'.alloc o) :=
  ⟨h.bel.alloc hB o, h.oth.alloc o⟩
set_option maxHeartbeats 2000000 in
/-- A new line's byte. -/
theorem pwbyte_any (h : Pq B b out i c d w) (hl : out.length ≤ 1000000000) : Calls Try.prog 51 #[.pointer (some ⟨b, 0, none⟩), .int .u8 10] w fun e w' => e = .returned .nilIface ∧ Pq B b (out ++ [10]) i c d w' ∧ Kq B b w w' := by
  obtain ⟨i0, hi, hz0, hz1, hz2⟩ := info_parts (show (Try.prog.info? 5).map (fun i => (i.zero, i.size, i.bytes)) = some (some (.int .u8 0), 1, 1) by kernel_rfl)
  have r1 := fun w (h : Pq B b out i c d w) => pcheck_any h
  have H := Lib.hid h
  clear h
  go_enter Try.func51, Try.ntmps51
  go_wp2_with fail
  ((with_reducible refine (r1 _ H.out).mono ?_))
  rintro e w1 ⟨rfl, h1, k1⟩
  have hbw := h1.base
  obtain ⟨⟨ap, v, g1, g2, g3, g4⟩, g5⟩ := h1
  have c0 : w1.cell? ⟨b, 1, none⟩ = some v := by rw [Lib.cell_of_heap g2]; rfl
  have f0 := Lib.frozen_of_heap g2 1
  have G1 := Lib.hid g1
  have G2 := Lib.hid g2
  have G3 := Lib.hid g3
  have K1 := Lib.hid k1
  have HL := Lib.hid hl
  clear r1 g1 g2 g3 g4 k1 hl
  go_wp2_with (at_builtin; refine wpList_append_ownF _ rfl _ _ 57 rfl B 5 i0 (.int .u8 0) 1 1 (by kernel_rfl) hi hz0 hz1 hz2 rfl (by decide) _ _ _ rfl (G3.out.alloc _) ⟨w1.heap.size, 0, none⟩ 1 1 [.int .u8 10] rfl rfl ?c1 ?c2 ?c3 ?c4 ?c5 ?_)
  case c1 =>
    intro j u hj
    match j, hj with
    | 0, hj => simp at hj; subst hj; simp [Addr.add]
  case c2 => intro u hu; simp at hu; subst hu; rfl
  case c3 => have := HL.out; unfold maxLen; omega
  case c4 => have := HL.out; omega
  case c5 => simp; omega
  intro v' w2 hown' hgrow hnil
  have K2 := Lib.hid ((K1.out.alloc hbw _).grown (G3.out.alloc _) (by simp; omega) hgrow)
  have G4 := Lib.hid (page_grown (G3.out.alloc _) ((Lib.alloc_old w1 _ b (Array.getElem?_eq_some_iff.1 G2.out).1).trans G2.out) hgrow)
  have G5 := Lib.hid hown'
  have G6 := Lib.hid hnil
  have d1 : w2.cell? ⟨b, 1, none⟩ = some v := by rw [Lib.cell_of_heap G4.out]; rfl
  have e1 : w2.frozen? ⟨b, 1, none⟩ = false := Lib.frozen_of_heap G4.out 1
  obtain ⟨ao, n', cap, rfl⟩ : ∃ ao n' cap, v' = .slice ao n' cap := by
    rcases hown'.2 with ⟨hv, _⟩ | ⟨g, cap, cur, fz, hv, _⟩
    · exact ⟨_, _, _, hv⟩
    · exact ⟨_, _, _, hv⟩
  clear hown' hgrow hnil
  go_wp2
  go_ret
  refine ⟨rfl, ⟨⟨ap, _, G1.out, heap_set5 G4.out 1 _, own_set ?_ G4.out 1 _, ?_⟩, g5⟩, K2.out.set g5 1 _⟩
  · rw [Lib.byteCells_append, List.length_append]; exact G5.out
  · exact ⟨fun e => (G6.out e).elim, fun e => absurd e (by simp)⟩
set_option maxHeartbeats 2000000 in
/-- A text. -/
theorem pwstr_any (h : Pq B b out i c d w) (s : ByteArray) (hl : out.length + s.size ≤ 140737488355328) : Calls Try.prog 48 #[.pointer (some ⟨b, 0, none⟩), .string s] w fun e w' => e = .returned (.tuple #[.int .i64 s.size, .nilIface]) ∧ Pq B b (out ++ s.data.toList) i c d w' ∧ Kq B b w w' := by
  obtain ⟨i0, hi, hz0, hz1, hz2⟩ := info_parts (show (Try.prog.info? 5).map (fun i => (i.zero, i.size, i.bytes)) = some (some (.int .u8 0), 1, 1) by kernel_rfl)
  have r1 := fun w (h : Pq B b out i c d w) => pcheck_any h
  have H := Lib.hid h
  clear h
  go_enter Try.func48, Try.ntmps48
  go_wp2_with fail
  ((with_reducible refine (r1 _ H.out).mono ?_))
  rintro e w1 ⟨rfl, h1, k1⟩
  have hbw := h1.base
  obtain ⟨⟨ap, v, g1, g2, g3, g4⟩, g5⟩ := h1
  have c0 : w1.cell? ⟨b, 1, none⟩ = some v := by rw [Lib.cell_of_heap g2]; rfl
  have f0 := Lib.frozen_of_heap g2 1
  have G1 := Lib.hid g1
  have G2 := Lib.hid g2
  have G3 := Lib.hid g3
  have GN := Lib.hid g4
  have K1 := Lib.hid k1
  have HL := Lib.hid hl
  clear r1 g1 g2 g3 g4 k1 hl
  go_wp2_with (at_builtin; refine Lib.wpList_append_own_stringF _ rfl _ _ 57 9 rfl B 5 i0 (by kernel_rfl) (by kernel_rfl) hi hz0 hz1 hz2 _ _ _ rfl G3.out s rfl ?c3 ?c4 ?c5 ?_)
  case c3 => have := HL.out; unfold maxLen; omega
  case c4 => have := HL.out; omega
  case c5 => omega
  intro v' w2 hown' hgrow hnil
  have K2 := Lib.hid (K1.out.grown G3.out (by omega) hgrow)
  have G4 := Lib.hid (page_grown G3.out G2.out hgrow)
  have G5 := Lib.hid hown'
  have G6 := Lib.hid hnil
  have d1 : w2.cell? ⟨b, 1, none⟩ = some v := by rw [Lib.cell_of_heap G4.out]; rfl
  have e1 : w2.frozen? ⟨b, 1, none⟩ = false := Lib.frozen_of_heap G4.out 1
  obtain ⟨ao, n', cap, rfl⟩ : ∃ ao n' cap, v' = .slice ao n' cap := by
    rcases hown'.2 with ⟨hv, _⟩ | ⟨g, cap, cur, fz, hv, _⟩
    · exact ⟨_, _, _, hv⟩
    · exact ⟨_, _, _, hv⟩
  clear hown' hgrow hnil
  go_wp2
  go_ret2
  refine ⟨rfl, ⟨⟨ap, _, G1.out, heap_set5 G4.out 1 _, own_set ?_ G4.out 1 _, ?_⟩, g5⟩, K2.out.set g5 1 _⟩
  · have e1 : Lib.byteCells (out ++ s.data.toList) = Lib.byteCells out ++ Lib.strCells s := by rw [Lib.strCells_eq, ← Lib.byteCells_append]
    have e2 : (out ++ s.data.toList).length = out.length + s.size := by rw [List.length_append]; rfl
    rw [e1, e2]; exact G5.out
  · refine G6.out.trans ((and_congr GN.out Iff.rfl).trans ⟨fun e => ?_, fun e => ?_⟩)
    · rw [e.1, e.2]; rfl
    · obtain ⟨e1, e2⟩ := List.append_eq_nil_iff.1 e
      exact ⟨e1, ByteArray.ext (Array.ext' (by rw [e2]; rfl))⟩
set_option maxHeartbeats 2000000 in
/-- All that was told. -/
theorem pstr_any (h : Pq B b out i c d w) : Calls Try.prog 36 #[.pointer (some ⟨b, 0, none⟩)] w fun e w' => e = .returned (.string (mkb out)) ∧ Below B w w' := by
  have hbw := h.base
  obtain ⟨⟨ap, v, g1, g2, g3, g4⟩, g5⟩ := h
  cases out with
  | nil =>
    obtain rfl := g4.2 rfl
    have c1 : w.drew.cell? ⟨b, 1, none⟩ = some (.slice none 0 0) := by
      have : w.drew.heap[b]? = _ := g2
      rw [Lib.cell_of_heap this]; rfl
    have hSD : (Builtin.unsafeSliceData_ #[57] 85 #[.slice none 0 0]).run Try.prog w.drew = .ok (.pointer none) w.drew := rfl
    have hUS : ∀ (W : World) (q : Option Addr), (Builtin.unsafeString_ #[85, 3] 9 #[.pointer q, .int .i64 0]).run Try.prog W = .ok (.string .empty) W := fun W q => Lib.run_unsafeString_none W _ _ _ q
    clear g1 g2 g3 g4
    go_enter Try.func36, Try.ntmps36
    go_wp2
    go_region
    all_goals (go_wp2; go_ret; exact ⟨rfl, Below.drew (Below.refl B w)⟩)
  | cons x r =>
    generalize hl : x :: r = l at *
    have hl0 : l ≠ [] := by rw [← hl]; simp
    have hln : l.length ≠ 0 := by rw [← hl]; simp
    obtain ⟨g, cap, cur, fz, rfl, hbg, hg, hfz, hnc, hcm, hcs, htake⟩ : ∃ g cap cur fz, v = .slice (some ⟨g, 0, none⟩) l.length cap ∧ B ≤ g ∧ w.heap[g]? = some (.cells cur 5 fz) ∧ fz.2 ≤ l.length * 1 ∧ l.length ≤ cap ∧ cap ≤ maxLen ∧ cur.size = cap * 1 ∧ cur.toList.take (l.length * 1) = Lib.byteCells l := by
      rcases g3.2 with ⟨_, hz⟩ | ⟨g, cap, cur, fz, hv, r⟩
      · exact absurd hz hln
      · exact ⟨g, cap, cur, fz, hv, r⟩
    have c1 : w.drew.cell? ⟨b, 1, none⟩ = some (.slice (some ⟨g, 0, none⟩) l.length cap) := by
      have : w.drew.heap[b]? = _ := g2
      rw [Lib.cell_of_heap this]; rfl
    have hSD : (Builtin.unsafeSliceData_ #[57] 85 #[.slice (some ⟨g, 0, none⟩) l.length cap]).run Try.prog w.drew = .ok (.pointer (some ⟨g, 0, none⟩)) w.drew :=
      Lib.run_unsafeSliceData_row _ _ _ _ _ _ (by omega)
    have hUS : (Builtin.unsafeString_ #[85, 3] 9 #[.pointer (some ⟨g, 0, none⟩), .int .i64 l.length]).run Try.prog w.drew = .ok (.string ⟨l.toArray⟩) (w.drew.freeze ⟨g, 0, none⟩ l.length) := by
      refine Lib.run_unsafeString_row w.drew 85 3 9 5 (by kernel_rfl) (by kernel_rfl) g cur.size (by have hg' : w.drew.heap[g]? = some (.cells cur 5 fz) := hg; simp [World.shape?, hg']) l hl0 (by omega) (by unfold maxLen at hcm; omega) ?_
      intro j y hy
      exact g3.cells (g := g) rfl j (.int .u8 y.toNat) (by simp [Lib.byteCells, hy])
    have HG := Lib.hid hbg
    clear g1 g2 g3 g4 hg hfz hnc hcm hcs htake hl0 hln hl hbg
    go_enter Try.func36, Try.ntmps36
    go_wp2
    go_region
    all_goals (go_wp2; go_ret; exact ⟨rfl, Lib.below_freeze (Below.drew (Below.refl B w)) (p := ⟨g, 0, none⟩) HG.out _⟩)
end
end Go.Proofs.Ytfcjihfnimefhaa
