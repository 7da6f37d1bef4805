/- Contracts of package flow: a builder at the head of a page's box. -/
import Derived.Test.YtfcjihfnimefhaaWidM
import Derived.Test.YtfcjihfnimefhaaSpaE
import Derived.Test.YtfcjihfnimefhaaBytes
import Derived.Lib.Builder
import Derived.Lib.UnsafeStr
import Derived.Laws.Externs
import Derived.Lib.FrozenHead2
import Derived.Lib.OthersKept
namespace Go.Proofs.Ytfcjihfnimefhaa
open Go.Shelf Go.RowKit
set_option linter.unusedVariables false
set_option maxRecDepth 100000

/-! ### What is kept -/
/-- All but the page's box and its row of bytes. -/
structure Kq (B b : Nat) (w w' : World) : Prop where
  bel : Below B w w'
  oth : Lib.OthersKept 5 (some b) w w'
theorem Kq.refl (B b : Nat) (w : World) : Kq B b w w := ⟨Below.refl _ _, Lib.OthersKept.refl _ _ _⟩
theorem Kq.trans {B b : Nat} {w w' w'' : World} (h : Kq B b w w') (k : Kq B b w' w'') : Kq B b w w'' := ⟨h.bel.trans k.bel, h.oth.trans k.oth⟩
/-- .. of what keeps all. -/
theorem Kq.of {B b : Nat} {w w' : World} (h : Below w.heap.size w w') (hB : B ≤ w.heap.size) : Kq B b w w' :=
  ⟨h.mono hB, fun k o hk _ _ => (h.block k (Array.getElem?_eq_some_iff.1 hk).1).trans hk⟩
theorem Kq.set {B b : Nat} {w w' : World} (h : Kq B b w w') (hB : B ≤ b) (j : Nat) (v : Value) : Kq B b w (w'.setCell ⟨b, j, none⟩ v) :=
  ⟨h.bel.setCell (p := ⟨b, j, none⟩) hB v, h.oth.setCell ⟨b, j, none⟩ rfl v⟩
theorem Kq.drew {B b : Nat} {w w' : World} (h : Kq B b w w') : Kq B b w w'.drew := ⟨h.bel.drew, h.oth.drew⟩

/-! ### The page's box -/
/-- What is told, in, the column, what is due. -/
structure Pq (B b : Nat) (out : List UInt8) (i c d : Int) (w : World) : Prop where
  ex : ∃ ap v, (ap = .pointer none ∨ ap = .pointer (some ⟨b, 0, none⟩)) ∧ w.heap[b]? = some (.cells #[ap, v, .int .i64 i, .int .i64 c, .int .i64 d] 61 (0, 0)) ∧ w.ownsRowF B 5 1 v out.length (Lib.byteCells out) ∧ (v = .slice none 0 0 ↔ out = [])
  le : B ≤ b
section
variable {B b : Nat} {out : List UInt8} {i c d : Int} {w : World}
theorem Pq.lt (h : Pq B b out i c d w) : b < w.heap.size := by
  obtain ⟨ap, v, -, h2, -⟩ := h.ex
  exact (Array.getElem?_eq_some_iff.1 h2).1
theorem Pq.base (h : Pq B b out i c d w) : B ≤ w.heap.size := Nat.le_trans h.le (Nat.le_of_lt h.lt)
theorem Pq.shape (h : Pq B b out i c d w) : w.shape? b = some (61, 5) := by
  obtain ⟨ap, v, -, h2, -⟩ := h.ex
  simp [World.shape?, h2]
theorem Pq.cells (h : Pq B b out i c d w) : w.cell? ⟨b, 2, none⟩ = some (.int .i64 i) ∧ w.cell? ⟨b, 3, none⟩ = some (.int .i64 c) ∧ w.cell? ⟨b, 4, none⟩ = some (.int .i64 d) ∧ ∀ j, w.frozen? ⟨b, j, none⟩ = false := by
  obtain ⟨ap, v, -, h2, -⟩ := h.ex
  refine ⟨?_, ?_, ?_, fun j => Lib.frozen_of_heap h2 j⟩ <;> (rw [Lib.cell_of_heap h2]; rfl)
/-- A row of bytes is no page. -/
theorem own_nob {v : Value} {n : Nat} {xs : List Value} {cs : Array Value} (ho : w.ownsRowF B 5 1 v n xs) (hb : w.heap[b]? = some (.cells cs 61 (0, 0))) : v.ownBlock ≠ some b :=
  Lib.ownBlock_neF ho hb (by decide)
/-- A row, behind a store into the page's box. -/
theorem own_set {v : Value} {n : Nat} {xs : List Value} {cs : Array Value} (ho : w.ownsRowF B 5 1 v n xs) (hb : w.heap[b]? = some (.cells cs 61 (0, 0))) (j : Nat) (u : Value) : (w.setCell ⟨b, j, none⟩ u).ownsRowF B 5 1 v n xs :=
  ho.kept (row := some b) ⟨rfl, rfl, rfl, by simp [World.setCell], fun k _ hk => Below.heap_setCell _ _ _ _ (fun e => hk (by simp [e]))⟩ (Or.inr (own_nob ho hb))
theorem heap_set5 {cs : Array Value} (hb : w.heap[b]? = some (.cells cs 61 (0, 0))) (j : Nat) (u : Value) : (w.setCell ⟨b, j, none⟩ u).heap[b]? = some (.cells (cs.setIfInBounds j u) 61 (0, 0)) := by
  simp [World.setCell, Array.getElem?_modify, hb]
theorem Pq.setI (h : Pq B b out i c d w) (x : Int) : Pq B b out x c d (w.setCell ⟨b, 2, none⟩ (.int .i64 x)) := by
  obtain ⟨⟨ap, v, h1, h2, h3, h4⟩, h5⟩ := h
  exact ⟨⟨ap, v, h1, heap_set5 h2 _ _, own_set h3 h2 _ _, h4⟩, h5⟩
theorem Pq.setC (h : Pq B b out i c d w) (x : Int) : Pq B b out i x d (w.setCell ⟨b, 3, none⟩ (.int .i64 x)) := by
  obtain ⟨⟨ap, v, h1, h2, h3, h4⟩, h5⟩ := h
  exact ⟨⟨ap, v, h1, heap_set5 h2 _ _, own_set h3 h2 _ _, h4⟩, h5⟩
theorem Pq.setD (h : Pq B b out i c d w) (x : Int) : Pq B b out i c x (w.setCell ⟨b, 4, none⟩ (.int .i64 x)) := by
  obtain ⟨⟨ap, v, h1, h2, h3, h4⟩, h5⟩ := h
  exact ⟨⟨ap, v, h1, heap_set5 h2 _ _, own_set h3 h2 _ _, h4⟩, h5⟩
theorem rowF_kept {v : Value} {n : Nat} {xs : List Value} {w' : World} (ho : w.ownsRowF B 5 1 v n xs) (hb : Below w.heap.size w w') : w'.ownsRowF B 5 1 v n xs := by
  obtain ⟨h1, h2⟩ := ho
  refine ⟨h1, ?_⟩
  rcases h2 with h2 | ⟨g, cap, cur, fz, h3, h4, h5, h6⟩
  · exact .inl h2
  · exact .inr ⟨g, cap, cur, fz, h3, h4, (hb.block g (Array.getElem?_eq_some_iff.1 h5).1).trans h5, h6⟩
theorem Pq.below (h : Pq B b out i c d w) {w' : World} (hb : Below w.heap.size w w') : Pq B b out i c d w' := by
  have hl := h.lt
  obtain ⟨⟨ap, v, h1, h2, h3, h4⟩, h5⟩ := h
  exact ⟨⟨ap, v, h1, (hb.block b hl).trans h2, rowF_kept h3 hb, h4⟩, h5⟩
theorem Pq.drew (h : Pq B b out i c d w) : Pq B b out i c d w.drew := h.below (Below.refl _ _).drew
/-- A new page. -/
theorem Pq.new (w : World) : Pq w.heap.size w.heap.size [] 0 0 0 (w.alloc (.cells #[.pointer none, .slice none 0 0, .int .i64 0, .int .i64 0, .int .i64 0] 61)) :=
  ⟨⟨_, _, .inl rfl, World.alloc_heap_new w _, ⟨rfl, .inl ⟨rfl, rfl⟩⟩, ⟨fun _ => rfl, fun _ => rfl⟩⟩, Nat.le_refl _⟩

/-! ### The builder's own functions -/
set_option maxHeartbeats 1000000 in
theorem pcheck_any (h : Pq B b out i c d w) : Calls Try.prog 65 #[.pointer (some ⟨b, 0, none⟩)] w fun e w' => e = .returned (.tuple #[]) ∧ Pq B b out i c d w' ∧ Kq B b w w' := by
  have hsh := h.shape
  have H := Lib.hid h
  obtain ⟨⟨ap, v, h1, h2, h3, h4⟩, h5⟩ := h
  have H2 := Lib.hid h2
  have H3 := Lib.hid h3
  have H4 := Lib.hid h4
  have H5 := Lib.hid h5
  have c0 : w.cell? ⟨b, 0, none⟩ = some ap := by rw [Lib.cell_of_heap h2]; rfl
  have f0 := Lib.frozen_of_heap h2 0
  clear h2 h3 h4 h5
  obtain ⟨jj, hj, hjs⟩ := Option.map_eq_some_iff.1 (show (Try.prog.info? 59).map (·.size) = some 2 by kernel_rfl)
  rcases h1 with rfl | rfl
  · go_enter Try.func65, Try.ntmps65
    go_wp2
    rw [Lib.run_to_unsafe w ⟨b, 0, none⟩ (by kernel_rfl) (by kernel_rfl) hj (by rw [hjs]; decide) hsh (Nat.zero_lt_succ 4)]
    simp only [Result.andThen]
    rw [Oper.upon_value]
    go_wp2
    rw [run_callFunc_extern Try.func79 (by kernel_rfl) (by kernel_rfl) (by kernel_rfl) (e := Extern.AbiNoEscape.same) (by kernel_rfl)]
    rw [Lib.run_noEscape]
    simp only [Result.andThen]
    rw [Oper.upon_value]
    go_wp2
    rw [Lib.run_from_unsafe (u := 59) w ⟨b, 0, none⟩ (by kernel_rfl) (by kernel_rfl) hj hsh (by kernel_rfl)]
    simp only [Result.andThen]
    rw [Oper.upon_value]
    go_wp2
    go_end0
    exact ⟨rfl, ⟨⟨_, v, .inr rfl, heap_set5 H2.out _ _, own_set H3.out H2.out _ _, H4.out⟩, H5.out⟩, (Kq.refl B b w).set H5.out 0 _⟩
  · go_enter Try.func65, Try.ntmps65
    go_wp2
    rw [Lib.run_neq_ptr_same w _ (by kernel_rfl) hj]
    go_wp2
    go_end0
    exact ⟨rfl, H.out, Kq.refl B b w⟩
end
end Go.Proofs.Ytfcjihfnimefhaa
