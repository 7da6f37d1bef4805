/- The reference's parser (copperplateref13): its boxes, hand. -/
import Derived.Test.YtkgljjinegphdaaDoorParA
import Derived.Test.YtkgljjinegphdaaDoorPicR
import Derived.RangeFuncBox
namespace Go.Proofs.YtkgljjinegphdaaDoor
open Go.RowKit
set_option linter.unusedVariables false
set_option maxRecDepth 100000

set_option maxHeartbeats 400000 in
theorem rhand_any {A : Option Addr} {n c : Nat} {L : List Int} {a : Nat} {x : Int} (hx : hdL L a = x) (hl : L.length = n) (ha : a ≤ n) {w : World} (hA : Ri w A L) :
    Calls Tryd.prog 30 #[.slice A n c, .int .i64 a] w fun e w' => e = .returned (.int .i64 x) ∧ w = w' := by
  by_cases h : a < n
  · obtain ⟨y, hy⟩ : ∃ y, L[a]? = some y := ⟨_, List.getElem?_eq_getElem (by rw [hl]; exact h)⟩
    obtain ⟨b, o, rfl, c0⟩ := hA a y hy
    rw [hdL_some hy] at hx
    subst hx
    have q1 : (a : Int) < (n : Int) := by omega
    clear hA hy hl
    go_enter Tryd.func30, Tryd.ntmps30
    go_wp2
    go_ret
    exact ⟨rfl, rfl⟩
  · obtain rfl : a = n := by omega
    rw [hdL_over (by omega)] at hx
    subst hx
    clear hA hl ha h
    go_enter Tryd.func30, Tryd.ntmps30
    go_wp2
    go_ret
    exact ⟨rfl, rfl⟩
/-- A state's box, known whole. -/
def Bx (w : World) (b : Nat) (v0 v1 v2 : Value) : Prop := w.heap[b]? = some (.cells #[v0, v1, v2] 34 (0, 0))
theorem Bx.lt {w : World} {b : Nat} {v0 v1 v2 : Value} (h : Bx w b v0 v1 v2) : b < w.heap.size := lt_of_block h
theorem Bx.new (w : World) (v0 v1 v2 : Value) : Bx (w.alloc (.cells #[v0, v1, v2] 34)) w.heap.size v0 v1 v2 := heap_alloc_new w _
theorem Bx.below {w w' : World} {b : Nat} {v0 v1 v2 : Value} (h : Bx w b v0 v1 v2) (hb : Below w.heap.size w w') : Bx w' b v0 v1 v2 := (hb.block b h.lt).trans h
theorem Bx.gro {w w' : World} {b : Nat} {v0 v1 v2 v v' : Value} (h : Bx w b v0 v1 v2) {base n : Nat} {xs : List Value} (ho : w.ownsRow base 3 1 v n xs) (hg : Gro w v w' v') : Bx w' b v0 v1 v2 := by
  refine (hg.g.block b h.lt ?_).trans h
  intro e
  rcases ho.2 with ⟨rfl, _⟩ | ⟨g, cap, cur, rfl, _, hh, _⟩
  · simp [Value.ownBlock] at e
  · obtain rfl : b = g := by simpa [Value.ownBlock] using e
    have := (show w.heap[b]? = _ from h).symm.trans hh
    simp at this
/-- A box's cells. -/
structure B3 (w : World) (b : Nat) (v0 v1 v2 : Value) : Prop where
  c0 : w.cell? ⟨b, 0, none⟩ = some v0
  c1 : w.cell? ⟨b, 1, none⟩ = some v1
  c2 : w.cell? ⟨b, 2, none⟩ = some v2
  f0 : w.frozen? ⟨b, 0, none⟩ = false
  f1 : w.frozen? ⟨b, 1, none⟩ = false
  f2 : w.frozen? ⟨b, 2, none⟩ = false
theorem Bx.cells {w : World} {b : Nat} {v0 v1 v2 : Value} (h : Bx w b v0 v1 v2) : B3 w b v0 v1 v2 := by
  have h' : w.heap[b]? = _ := h
  constructor <;> simp [World.cell?, World.frozen?, h']
theorem heap_set_self {w : World} {b j : Nat} {vs : Array Value} {t : TypeId} (h : w.heap[b]? = some (.cells vs t (0, 0))) (v : Value) : (w.setCell ⟨b, j, none⟩ v).heap[b]? = some (.cells (vs.setIfInBounds j v) t (0, 0)) := by
  obtain ⟨hlt, hk⟩ := Array.getElem?_eq_some_iff.1 h
  show (w.heap.modify b _)[b]? = _
  rw [Array.getElem?_eq_getElem (by rw [Array.size_modify]; exact hlt), Array.getElem_modify_self, hk]
  rfl
theorem Bx.set0 {w : World} {b : Nat} {v0 v1 v2 : Value} (h : Bx w b v0 v1 v2) (u : Value) : Bx (w.setCell ⟨b, 0, none⟩ u) b u v1 v2 := heap_set_self (j := 0) h u
theorem Bx.set1 {w : World} {b : Nat} {v0 v1 v2 : Value} (h : Bx w b v0 v1 v2) (u : Value) : Bx (w.setCell ⟨b, 1, none⟩ u) b v0 u v2 := heap_set_self (j := 1) h u
theorem Bx.set2 {w : World} {b : Nat} {v0 v1 v2 : Value} (h : Bx w b v0 v1 v2) (u : Value) : Bx (w.setCell ⟨b, 2, none⟩ u) b v0 v1 u := heap_set_self (j := 2) h u
theorem Bx.other {w : World} {b b' j : Nat} {v0 v1 v2 : Value} (h : Bx w b v0 v1 v2) (hne : b ≠ b') (u : Value) : Bx (w.setCell ⟨b', j, none⟩ u) b v0 v1 v2 :=
  (Below.heap_setCell _ _ _ _ hne).trans h
/-- The box written. -/
def set3 (w : World) (b : Nat) (v0 v1 v2 : Value) : World := ((w.setCell ⟨b, 0, none⟩ v0).setCell ⟨b, 1, none⟩ v1).setCell ⟨b, 2, none⟩ v2
theorem Bx.set {w : World} {b : Nat} {u0 u1 u2 : Value} (h : Bx w b u0 u1 u2) (v0 v1 v2 : Value) : Bx (set3 w b v0 v1 v2) b v0 v1 v2 := ((h.set0 v0).set1 v1).set2 v2
theorem ret_box3 {fn : Func} {t : Tmp} (hr : fn.results = #[.cell t 34]) {tmps : Array Value} {W : World} {b : Nat} {v0 v1 v2 : Value}
    (ht : tmps.getD t undef = .pointer (some ⟨b, 0, none⟩)) (h : B3 W b v0 v1 v2) : (results fn tmps).run Tryd.prog W = .ok (.agg #[v0, v1, v2]) W := by
  obtain ⟨c0, c1, c2, f0, f1, f2⟩ := h
  unfold results
  rw [hr]
  simp only [List.mapM_toArray, List.mapM_cons, List.mapM_nil, ht]
  simp [go_sem, c0, c1, c2]
theorem body_box3 {fn : Func} {R : Ending → World → Prop} {t : Tmp} (hr : fn.results = #[.cell t 34]) {a : Act} {w : World} {b : Nat} {u0 u1 u2 v0 v1 v2 : Value}
    (h : Bx w b u0 u1 u2) (ht : a.tmps.getD t undef = .pointer (some ⟨b, 0, none⟩)) (hd : a.defers = [])
    (hR : R (.returned (.agg #[v0, v1, v2])) (set3 w b v0 v1 v2)) : bodyPost Tryd.prog fn R .ret a (set3 w b v0 v1 v2) :=
  bodyPost_ret (ret_box3 hr ht (h.set v0 v1 v2).cells) hd hR
/-- A cell of another block than the row's is written. -/
theorem Gro.set {w w' : World} {v v' : Value} (h : Gro w v w' v') {b : Nat} (hb : w.heap.size ≤ b) (j : Nat) (u : Value) : Gro w v (w'.setCell ⟨b, j, none⟩ u) v' := by
  have hs : (w'.setCell ⟨b, j, none⟩ u).heap.size = w'.heap.size := World.size_setCell _ _ _
  refine ⟨⟨h.g.os, h.g.tape, h.g.output, by rw [hs]; exact h.g.size, fun k hk hne => ?_⟩, h.at'⟩
  exact (Below.heap_setCell _ _ _ _ (by simp; omega)).trans (h.g.block k hk hne)
theorem row_set {w : World} {base n b j : Nat} {v : Value} {xs : List Value} {v0 v1 v2 : Value} (h : w.ownsRow base 3 1 v n xs) (hb : Bx w b v0 v1 v2) (u : Value) : (w.setCell ⟨b, j, none⟩ u).ownsRow base 3 1 v n xs := by
  refine ⟨h.1, ?_⟩
  rcases h.2 with hn | ⟨g, cap, cur, hv, hg, hh, rest⟩
  · exact .inl hn
  · refine .inr ⟨g, cap, cur, hv, hg, ?_, rest⟩
    refine (Below.heap_setCell _ _ _ _ ?_).trans hh
    intro e
    subst e
    have := (show w.heap[g]? = _ from hb).symm.trans hh
    simp at this
end Go.Proofs.YtkgljjinegphdaaDoor
