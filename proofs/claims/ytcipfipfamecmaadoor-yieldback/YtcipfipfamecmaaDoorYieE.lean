/- Package yield: Full, Yield, Derives. -/
import Derived.Test.YtcipfipfamecmaaDoorYieD
import Derived.Defers
import Derived.Recover
import Derived.RegionTactic
namespace Go.Proofs.YtcipfipfamecmaaDoor
open Go.RowKit
set_option linter.unusedVariables false
set_option maxRecDepth 100000

set_option maxHeartbeats 400000 in
theorem catch_wrong (b1 b2 : Nat) (v1 : Value) (v2 : Bool) (older : List PanicEntry) (w : World)
    (c1 : w.cell? ⟨b1, 0, none⟩ = some v1) (c2 : w.cell? ⟨b2, 0, none⟩ = some (.bool v2))
    (f1 : w.frozen? ⟨b1, 0, none⟩ = false) (f2 : w.frozen? ⟨b2, 0, none⟩ = false) (n12 : b1 ≠ b2) :
    CallsD Tryd.prog 22 #[.pointer (some ⟨b1, 0, none⟩), .pointer (some ⟨b2, 0, none⟩)] (.panicking ({ v := .iface 41 (.agg #[]), recovered := false } :: older)) w fun e u' w' =>
      e = .returned (.tuple #[]) ∧ u' = .panicking ({ v := .iface 41 (.agg #[]), recovered := true } :: older) ∧
      w' = ((w.setCell ⟨b1, 0, none⟩ (.slice none 0 0)).setCell ⟨b2, 0, none⟩ (.bool false)).alloc (.cells #[] 41) := by
  have hta : ∀ w, (Instr.typeAssert (.iface 41 (.agg #[])) 20 41 true).run Tryd.prog w = .ok (.tuple #[.agg #[], .bool true]) w := fun w => by kernel_rfl
  have l1 : b1 < w.heap.size := World.block_lt_of_cell? _ _ c1
  have l2 : b2 < w.heap.size := World.block_lt_of_cell? _ _ c2
  refine callsD_of_wpS Tryd.func22 rfl fun c₀ cs hu => ?_
  apply wpS_seq
  apply wpS_region
  simp [wpOpsS, go_sem, recoverD, hu, Tryd.ntmps22, Exit.thenS, hta, Array.replicate_succ]
  apply wpS_seq
  apply wpS_region
  simp [wpOpsS, go_sem, Exit.thenS]
  refine wpS_cond (t := true) (by simp [Act.eval]) ?_
  simp only [if_true]
  apply wpS_region
  simp [wpOpsS, go_sem, c1, c2, f1, f2, l1, l2, bodyPostS, results, Tryd.results22]

set_option maxHeartbeats 400000 in
theorem catch_idle (b1 b2 : Nat) (w : World) :
    CallsD Tryd.prog 22 #[.pointer (some ⟨b1, 0, none⟩), .pointer (some ⟨b2, 0, none⟩)] .returning w fun e u' w' => e = .returned (.tuple #[]) ∧ u' = .returning ∧ w' = w.alloc (.cells #[] 41) := by
  have hta : ∀ w, (Instr.typeAssert .nilIface 20 41 true).run Tryd.prog w = .ok (.tuple #[.agg #[], .bool false]) w := fun w => by kernel_rfl
  refine callsD_of_wpS Tryd.func22 rfl fun c₀ cs hu => ?_
  apply wpS_seq
  apply wpS_region
  simp [wpOpsS, go_sem, recoverD, hu, Tryd.ntmps22, Exit.thenS, hta, Array.replicate_succ]
  apply wpS_seq
  apply wpS_region
  simp [wpOpsS, go_sem, Exit.thenS]
  refine wpS_cond (t := false) (by simp [Act.eval]) ?_
  simp only [Bool.false_eq_true, if_false]
  refine wpS_of_wp (wp_skip ?_)
  cases c₀
  simp_all [bodyPostS, results, Tryd.results22]

/-- The two results' variables. -/
structure Cv (w0 : World) (w : World) : Prop where
  h1 : w.heap[w0.heap.size]? = some (.cells #[.slice none 0 0] 24 (0, 0))
  h2 : w.heap[w0.heap.size + 1]? = some (.cells #[.bool false] 4 (0, 0))
  bel : Below w0.heap.size w0 w
theorem cv_start {w w1 : World} (h : Below ((w.alloc (.cells #[.slice none 0 0] 24)).alloc (.cells #[.bool false] 4)).heap.size
    ((w.alloc (.cells #[.slice none 0 0] 24)).alloc (.cells #[.bool false] 4)) w1) : Cv w w1 := by
  have a1 := heap_alloc_new w (.cells #[.slice none 0 0] 24)
  have a2 := heap_alloc_new (w.alloc (.cells #[.slice none 0 0] 24)) (.cells #[.bool false] 4)
  simp only [World.size_alloc] at a2
  have a3 := (heap_alloc_old (w.alloc (.cells #[.slice none 0 0] 24)) (.cells #[.bool false] 4) (by simp only [World.size_alloc]; omega)).trans a1
  exact ⟨(h.block _ (lt_of_block a3)).trans a3, (h.block _ (lt_of_block a2)).trans a2, bel_trans (bel_alloc (bel_alloc (Below.refl _ _) _) _) h⟩
theorem set_cell {W : World} {q : Nat} {u : Value} (h : W.cell? ⟨q, 0, none⟩ = some u) (p : Nat) (v : Value) : (W.setCell ⟨p, 0, none⟩ v).cell? ⟨q, 0, none⟩ = some (if p = q then v else u) := by
  by_cases e : p = q
  · subst e; rw [if_pos rfl]; exact World.cell?_setCell_same' _ _ _ (by rw [h]; rfl)
  · rw [if_neg e, World.cell?_setCell_far _ _ _ _ (by exact e)]; exact h
/-- Both written. -/
def w2Y (w0 w : World) (x y : Value) : World := ((w.setCell ⟨w0.heap.size, 0, none⟩ x).setCell ⟨w0.heap.size + 1, 0, none⟩ y).alloc (.cells #[] 41)
theorem Cv.both {w0 w : World} (h : Cv w0 w) (x y : Value) : (w2Y w0 w x y).cell? ⟨w0.heap.size, 0, none⟩ = some x ∧ (w2Y w0 w x y).cell? ⟨w0.heap.size + 1, 0, none⟩ = some y ∧ Below w0.heap.size w0 (w2Y w0 w x y) := by
  have c1 := cell_of_one h.h1
  have c2 := cell_of_one h.h2
  refine ⟨bel_cell (bel_alloc (Below.refl _ _) _) ?_, bel_cell (bel_alloc (Below.refl _ _) _) ?_, bel_alloc ((h.bel.setCell (Nat.le_refl _) _).setCell (by show _ ≤ w0.heap.size + 1; omega) _) _⟩
  · rw [set_cell (set_cell c1 _ x) _ y, if_neg (by omega), if_pos rfl]
  · rw [set_cell (set_cell c2 _ x) _ y, if_pos rfl]
/-- A row of symbols lies in no box of one cell. -/
theorem Sr.setbox {w : World} {A : Option Addr} {ts : List Sq} (h : Sr w A ts) {g : Nat} {v : Value} {t : TypeId} (hg : w.heap[g]? = some (.cells #[v] t (0, 0))) (u : Value) : Sr (w.setCell ⟨g, 0, none⟩ u) A ts := fun i s hs => by
  obtain ⟨b, o, e, h1, h2⟩ := h i s hs
  have hne : g ≠ b := by
    rintro rfl
    simp [World.cell?, hg] at h2
  refine ⟨b, o, e, ?_, ?_⟩
  · rw [World.cell?_setCell_far _ _ _ _ (by exact hne)]; exact h1
  · rw [World.cell?_setCell_far _ _ _ _ (by exact hne)]; exact h2
theorem Cv.row {w0 w : World} (h : Cv w0 w) {A : Option Addr} {ts : List Sq} (hs : Sr w A ts) (x y : Value) : Sr (w2Y w0 w x y) A ts :=
  ((hs.setbox h.h1 x).setbox ((Below.heap_setCell _ _ _ _ (by show w0.heap.size + 1 ≠ w0.heap.size; omega)).trans h.h2) y).below (bel_alloc (Below.refl _ _) _)
/-- How Full ends. -/
def FuE (is : Bool) (m : Nat) (X : List Sq) (w : World) (e : Ending) (w' : World) : Prop :=
  ∃ A c, e = .returned (.tuple #[.slice A m c, .bool is]) ∧ Below w.heap.size w w' ∧ Sr w' A X ∧ (A = none → m = 0 ∧ c = 0)
set_option maxHeartbeats 1000000 in
theorem full_any {w : World} {A : Option Addr} {n m c : Nat} {R : List Int} {X : List Sq} {is : Bool} (hf : Ful R X is) (hm : X.length = m) (hl : R.length = n) (hc : n ≤ c) (hn : n ≤ 2000) (hA : Ri w A R) (ht : TabR w) :
    Calls Tryd.prog 11 #[.slice A n c] w fun e w' => FuE is m X w e w' := by
  have hmf : ∀ (fn : Fn) (first cap : Array Value) (w : World), (Instr.makeFunc fn first cap).run Tryd.prog w = .ok (.func fn first cap) w := fun _ _ _ _ => rfl
  obtain ⟨out, Z, f, hd, h1, h2⟩ := hf
  have r1 := fun (w1 : World) (hb : Below w.heap.size w w1) => derived_any (c := c) hd rfl hl hc hn (hA.below hb) (ht.below hb)
  rw [← h1] at r1
  clear hd h1 hl hc hn hA ht
  have HR := Lib.hid r1
  clear r1
  cases is
  · rw [if_neg (by simp)] at h2
    subst h2
    obtain rfl : m = 0 := hm.symm
    clear hm
    go_enter_defers Tryd.func11, Tryd.ntmps11
    go_wp2_with fail
    refine (HR.out _ (bel_alloc (bel_alloc (Below.refl _ _) _) _)).mono ?_
    rintro e w1 ⟨he, hb1⟩
    unfold wrY at he
    subst he
    have cv := cv_start hb1
    have C := Lib.hid cv
    have c1 := cell_of_one cv.h1
    have c2 := cell_of_one cv.h2
    have f1 := free_of_one cv.h1
    have f2 := free_of_one cv.h2
    clear HR hb1 cv hmf
    go_wp2_with fail
    refine leaves_cons (f := 22) (args := #[.pointer (some ⟨w.heap.size, 0, none⟩), .pointer (some ⟨w.heap.size + 1, 0, none⟩)]) (by simp) (by simp [go_sem]) ?_
    refine (catch_wrong _ _ (.slice none 0 0) false [] _ c1 c2 f1 f2 (by omega)).mono ?_
    rintro e u' w'' ⟨rfl, rfl, rfl⟩
    obtain ⟨k1, k2, k3⟩ := C.out.both (.slice none 0 0) (.bool false)
    unfold w2Y at k1 k2 k3
    refine ⟨.tuple #[.slice none 0 0, .bool false], ?_, none, 0, rfl, k3, Sr.nil _ _, fun _ => ⟨rfl, rfl⟩⟩
    generalize ((w1.setCell ⟨w.heap.size, 0, none⟩ (.slice none 0 0)).setCell ⟨w.heap.size + 1, 0, none⟩ (.bool false)).alloc (.cells #[] 41) = W at k1 k2 ⊢
    simp [results, Tryd.results11, go_sem, k1, k2]
  · rw [if_pos rfl] at h2
    subst h2
    rw [hm] at HR
    clear hm
    go_enter_defers Tryd.func11, Tryd.ntmps11
    go_wp2_with fail
    refine (HR.out _ (bel_alloc (bel_alloc (Below.refl _ _) _) _)).mono ?_
    rintro e w1 ⟨B, d, rfl, hb1, hs1, hn1⟩
    have cv := cv_start hb1
    have C := Lib.hid cv
    have HS1 := Lib.hid hs1
    have HN1 := Lib.hid hn1
    have c1 := cell_of_one cv.h1
    have c2 := cell_of_one cv.h2
    have f1 := free_of_one cv.h1
    have f2 := free_of_one cv.h2
    clear HR hb1 hs1 hn1 cv hmf
    go_wp2_with fail
    refine leaves_cons (f := 22) (args := #[.pointer (some ⟨w.heap.size, 0, none⟩), .pointer (some ⟨w.heap.size + 1, 0, none⟩)]) (by simp) (by simp [go_sem]) ?_
    refine (catch_idle _ _ _).mono ?_
    rintro e u' w'' ⟨rfl, rfl, rfl⟩
    obtain ⟨k1, k2, k3⟩ := C.out.both (.slice B m d) (.bool true)
    have k4 := C.out.row HS1.out (.slice B m d) (.bool true)
    unfold w2Y at k1 k2 k3 k4
    refine ⟨.tuple #[.slice B m d, .bool true], ?_, B, d, rfl, k3, k4, HN1.out⟩
    generalize ((w1.setCell ⟨w.heap.size, 0, none⟩ (.slice B m d)).setCell ⟨w.heap.size + 1, 0, none⟩ (.bool true)).alloc (.cells #[] 41) = W at k1 k2 ⊢
    simp [results, Tryd.results11, go_sem, k1, k2]
/-- How Yield ends. -/
def YiE (is : Bool) (m : Nat) (X : List Sq) (w : World) (e : Ending) (w' : World) : Prop :=
  ∃ A c, e = .returned (.tuple #[.slice A m c, .bool is]) ∧ Below w.heap.size w w' ∧ Sr w' A X ∧ (A = none → m = 0 ∧ c = 0)
/-- Plain, its answer's length under a name of its own. -/
def PnE (m : Nat) (L : List Sq) (w : World) (e : Ending) (w' : World) : Prop := ∃ A c, e = .returned (.slice A m c) ∧ Below w.heap.size w w' ∧ Sr w' A L ∧ (A = none → m = 0 ∧ c = 0)
theorem plain_n {w : World} {A : Option Addr} {n m c : Nat} {ts L : List Sq} (hL : plS ts = L) (hm : L.length = m) (ha : Sr w A ts) (hn : ts.length = n) (hz : n ≤ 1000000) :
    Calls Tryd.prog 20 #[.slice A n c] w fun e w' => PnE m L w e w' := by
  subst hm
  exact (plain_lies hL ha hn hz).mono (by rintro e w' ⟨A, c, rfl, hb, hs, h0, h1⟩; exact ⟨A, c, rfl, hb, hs, h0⟩)
theorem ful_len {R : List Int} {X : List Sq} {is : Bool} (h : Ful R X is) : X.length ≤ 1 + 10 * R.length := by
  obtain ⟨out, Z, f, d, rfl, rfl⟩ := h
  have key : ∀ {S out : List Sq} {R Z : List Int} {f : Bool}, Der S R out Z f → out.length ≤ S.length + 10 * R.length := by
    intro S out R Z f d
    induction d with
    | nil => simp
    | put _ _ ih => rw [List.length_cons, List.length_cons]; omega
    | @var t S i R Z out f _ _ _ ih =>
      have := tlI_len i
      rw [List.length_append] at ih
      rw [List.length_cons, List.length_cons]
      omega
    | none _ => simp
    | stop _ _ => simp
  split
  · have := key d; rw [show docS.length = 1 from rfl] at this; exact this
  · simp
set_option maxHeartbeats 1000000 in
theorem yield_any {w : World} {A : Option Addr} {n m c : Nat} {R : List Int} {X Y : List Sq} {is : Bool} (hf : Ful R X is) (hY : plS X = Y) (hm : Y.length = m) (hl : R.length = n) (hc : n ≤ c) (hn : n ≤ 2000) (hA : Ri w A R) (ht : TabR w) :
    Calls Tryd.prog 13 #[.slice A n c] w fun e w' => YiE is m Y w e w' := by
  obtain ⟨k, hk⟩ : ∃ k, X.length = k := ⟨_, rfl⟩
  have hk2 : k ≤ 20001 := by have := ful_len hf; omega
  have r1 := full_any (c := c) hf hk hl hc hn hA ht
  have r2 := fun {w A c} h => plain_n (w := w) (A := A) (c := c) hY hm h hk (by omega)
  clear hf hY hm hl hA ht hk
  go_enter Tryd.func13, Tryd.ntmps13
  go_wp2_with fail
  ((with_reducible refine r1.mono ?_))
  rintro e w1 ⟨B, d, rfl, hb1, hs1, -⟩
  have HB1 := Lib.hid hb1
  have r3 := r2 (c := d) hs1
  clear hb1 hs1 r1
  go_wp2_with fail
  ((with_reducible refine r3.mono ?_))
  rintro e w2 ⟨B2, d2, rfl, hb2, hs2, hn2⟩
  have HB2 := Lib.hid (bel_trans HB1.out hb2)
  have HS2 := Lib.hid hs2
  have HN2 := Lib.hid hn2
  clear hb2 hs2 hn2 r3
  go_wp2_with fail
  go_ret2
  exact ⟨B2, d2, rfl, HB2.out, HS2.out, HN2.out⟩
end Go.Proofs.YtcipfipfamecmaaDoor
