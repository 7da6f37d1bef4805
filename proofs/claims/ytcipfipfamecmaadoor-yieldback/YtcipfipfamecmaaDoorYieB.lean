/- Package yield: the closure that tells, and calls itself. -/
import Derived.Test.YtcipfipfamecmaaDoorYieA
namespace Go.Proofs.YtcipfipfamecmaaDoor
open Go.RowKit
set_option linter.unusedVariables false
set_option maxRecDepth 100000

theorem blk_ne {w : World} {g g' : Nat} {t t' : TypeId} {cs cs' : Array Value} (h : w.heap[g]? = some (.cells cs t (0, 0))) (h' : w.heap[g']? = some (.cells cs' t' (0, 0))) (hne : t ≠ t') : g ≠ g' := by
  rintro rfl
  rw [h] at h'
  injection h' with h'
  injection h' with _ ht
  exact hne ht
/-- A row lies in no box of another element type. -/
theorem row_box {w : World} {g base : Nat} {e t : TypeId} {cs : Array Value} {size n : Nat} {v : Value} {xs : List Value} (h : w.ownsRow base e size v n xs) (hg : w.heap[g]? = some (.cells cs t (0, 0))) (hne : e ≠ t) : v.ownBlock ≠ some g := by
  rcases h.2 with ⟨rfl, _⟩ | ⟨g', cap, cur, rfl, _, hh, _⟩
  · simp [Value.ownBlock]
  · intro he
    have : g' = g := by simpa [Value.ownBlock] using he
    subst this
    exact blk_ne hh hg hne rfl
theorem gro_box {w w' : World} {v v' : Value} (hg : Gro w v w' v') {g : Nat} {o : Obj} (h : w.heap[g]? = some o) (hne : v.ownBlock ≠ some g) : w'.heap[g]? = some o :=
  (hg.g.block g (by by_cases e : g < w.heap.size; exact e; rw [Array.getElem?_eq_none (by omega)] at h; cases h) (Ne.symm hne)).trans h
/-- The closure's value. -/
def fnY (bf br bw bt : Nat) : Value := .func (.func 31) #[] #[.pointer (some ⟨bf, 0, none⟩), .pointer (some ⟨br, 0, none⟩), .pointer (some ⟨bw, 0, none⟩), .pointer (some ⟨bt, 0, none⟩)]
/-- The boxes, and what lies in them: F told, W waiting, the rules R. -/
structure Kx (w0 : World) (bf br bw bt : Nat) (F W : List Sq) (R : List Int) (A : Option Addr) (n c : Nat) (vf vw : Value) (w : World) : Prop where
  f : w.heap[bf]? = some (.cells #[vf] 24 (0, 0))
  r : w.heap[br]? = some (.cells #[.slice A n c] 22 (0, 0))
  q : w.heap[bw]? = some (.cells #[vw] 24 (0, 0))
  t : w.heap[bt]? = some (.cells #[fnY bf br bw bt] 51 (0, 0))
  hf : w0.heap.size ≤ bf
  hr : w0.heap.size ≤ br
  hq : w0.heap.size ≤ bw
  ne : bf ≠ bw
  of : w.ownsRow w0.heap.size 33 2 vf F.length (cly F)
  oq : w.ownsRow w0.heap.size 33 2 vw W.length (cly W.reverse)
  on : vf.ownBlock = none ∨ vf.ownBlock ≠ vw.ownBlock
  rr : Ri w0 A R
  rl : R.length = n
  rc : n ≤ c
  bel : Below w0.heap.size w0 w
section
variable {w0 : World} {bf br bw bt : Nat} {F W : List Sq} {R : List Int} {A : Option Addr} {n c : Nat} {vf vw : Value} {w : World}
theorem Kx.no (h : Kx w0 bf br bw bt F W R A n c vf vw w) : vw.ownBlock = none ∨ vw.ownBlock ≠ vf.ownBlock := by
  rcases h.on with e | e
  · cases hv : vw.ownBlock with
    | none => exact .inl rfl
    | some k => exact .inr (by rw [e]; simp)
  · exact .inr (Ne.symm e)
theorem Kx.below (h : Kx w0 bf br bw bt F W R A n c vf vw w) {w' : World} (b : Below w.heap.size w w') : Kx w0 bf br bw bt F W R A n c vf vw w' :=
  { h with
    f := (b.block bf (lt_of_block h.f)).trans h.f
    r := (b.block br (lt_of_block h.r)).trans h.r
    q := (b.block bw (lt_of_block h.q)).trans h.q
    t := (b.block bt (lt_of_block h.t)).trans h.t
    of := row_below h.of b
    oq := row_below h.oq b
    bel := bel_trans h.bel b }
theorem Kx.setR (h : Kx w0 bf br bw bt F W R A n c vf vw w) {R' : List Int} {A' : Option Addr} {n' c' : Nat} (hR : Ri w0 A' R') (hl : R'.length = n') (hc : n' ≤ c') : Kx w0 bf br bw bt F W R' A' n' c' vf vw (w.setCell ⟨br, 0, none⟩ (.slice A' n' c')) :=
  { h with
    f := (Below.heap_setCell _ _ _ _ (blk_ne h.f h.r (by decide))).trans h.f
    r := one_setCell h.r
    q := (Below.heap_setCell _ _ _ _ (blk_ne h.q h.r (by decide))).trans h.q
    t := (Below.heap_setCell _ _ _ _ (blk_ne h.t h.r (by decide))).trans h.t
    of := ownsRow_setCell_other h.of (row_box h.of h.r (by decide)) _
    oq := ownsRow_setCell_other h.oq (row_box h.oq h.r (by decide)) _
    rr := hR
    rl := hl
    rc := hc
    bel := h.bel.setCell h.hr _ }
/-- A symbol is told. -/
theorem Kx.told (h : Kx w0 bf br bw bt F W R A n c vf vw w) {t : Sq} {v' : Value} {w1 : World} (hg : Gro w vf w1 v') (ho : w1.ownsRow w0.heap.size 33 2 v' (F.length + 1) (cly (F ++ [t]))) :
    w1.heap[bf]? = some (.cells #[vf] 24 (0, 0)) ∧ Kx w0 bf br bw bt (F ++ [t]) W R A n c v' vw (w1.setCell ⟨bf, 0, none⟩ v') := by
  have f1 := gro_box hg h.f (row_box h.of h.f (by decide))
  have r1 := gro_box hg h.r (row_box h.of h.r (by decide))
  have q1 := gro_box hg h.q (row_box h.of h.q (by decide))
  have t1 := gro_box hg h.t (row_box h.of h.t (by decide))
  have oq1 := h.oq.kept hg.g h.no
  have ho' : w1.ownsRow w0.heap.size 33 2 v' (F ++ [t]).length (cly (F ++ [t])) := by rw [List.length_append]; exact ho
  refine ⟨f1, { h with
    f := one_setCell f1
    r := (Below.heap_setCell _ _ _ _ (blk_ne r1 f1 (by decide))).trans r1
    q := (Below.heap_setCell _ _ _ _ (Ne.symm h.ne)).trans q1
    t := (Below.heap_setCell _ _ _ _ (blk_ne t1 f1 (by decide))).trans t1
    of := ownsRow_setCell_other ho' (row_box ho' f1 (by decide)) _
    oq := ownsRow_setCell_other oq1 (row_box oq1 f1 (by decide)) _
    on := ?_
    bel := (h.bel.grown hg.g h.bel.size (fun k hk => (h.of.lt k hk).1)).setCell h.hf _ }⟩
  rcases hg.at' with e | ⟨k, e, hk⟩
  · rw [e]; exact h.on
  · refine .inr ?_
    rw [e]
    intro e2
    have := (h.oq.lt k e2.symm).2
    omega
/-- A symbol has to wait. -/
theorem Kx.push (h : Kx w0 bf br bw bt F W R A n c vf vw w) {t : Sq} {v' : Value} {w1 : World} (hg : Gro w vw w1 v') (ho : w1.ownsRow w0.heap.size 33 2 v' (W.length + 1) (cly (W.reverse ++ [t]))) :
    w1.heap[bw]? = some (.cells #[vw] 24 (0, 0)) ∧ Kx w0 bf br bw bt F (t :: W) R A n c vf v' (w1.setCell ⟨bw, 0, none⟩ v') := by
  have f1 := gro_box hg h.f (row_box h.oq h.f (by decide))
  have r1 := gro_box hg h.r (row_box h.oq h.r (by decide))
  have q1 := gro_box hg h.q (row_box h.oq h.q (by decide))
  have t1 := gro_box hg h.t (row_box h.oq h.t (by decide))
  have of1 := h.of.kept hg.g h.on
  have ho' : w1.ownsRow w0.heap.size 33 2 v' (t :: W).length (cly (t :: W).reverse) := by rw [List.length_cons, List.reverse_cons]; exact ho
  refine ⟨q1, { h with
    f := (Below.heap_setCell _ _ _ _ h.ne).trans f1
    r := (Below.heap_setCell _ _ _ _ (blk_ne r1 q1 (by decide))).trans r1
    q := one_setCell q1
    t := (Below.heap_setCell _ _ _ _ (blk_ne t1 q1 (by decide))).trans t1
    of := ownsRow_setCell_other of1 (row_box of1 q1 (by decide)) _
    oq := ownsRow_setCell_other ho' (row_box ho' q1 (by decide)) _
    on := ?_
    bel := (h.bel.grown hg.g h.bel.size (fun k hk => (h.oq.lt k hk).1)).setCell h.hq _ }⟩
  rcases hg.at' with e | ⟨k, e, hk⟩
  · rw [e]; exact h.on
  · by_cases e0 : vf.ownBlock = none
    · exact .inl e0
    · refine .inr ?_
      rw [e]
      intro e2
      have := (h.of.lt k e2).2
      omega
/-- The next one comes. -/
theorem Kx.pop {t : Sq} {g cap : Nat} (h : Kx w0 bf br bw bt F (t :: W) R A n c vf (.slice (some ⟨g, 0, none⟩) (W.length + 1) cap) w) :
    Kx w0 bf br bw bt F W R A n c vf (.slice (some ⟨g, 0, none⟩) W.length cap) (w.setCell ⟨bw, 0, none⟩ (.slice (some ⟨g, 0, none⟩) W.length cap)) := by
  have o1 := row_pop (t := t) (S := W) h.oq
  exact { h with
    f := (Below.heap_setCell _ _ _ _ h.ne).trans h.f
    r := (Below.heap_setCell _ _ _ _ (blk_ne h.r h.q (by decide))).trans h.r
    q := one_setCell h.q
    t := (Below.heap_setCell _ _ _ _ (blk_ne h.t h.q (by decide))).trans h.t
    of := ownsRow_setCell_other h.of (row_box h.of h.q (by decide)) _
    oq := ownsRow_setCell_other o1 (row_box o1 h.q (by decide)) _
    on := h.on
    bel := h.bel.setCell h.hq _ }
end
/-- The same, wherever they lie. -/
def KE (w0 : World) (bf br bw bt : Nat) (F W : List Sq) (R : List Int) (w : World) : Prop := ∃ A n c vf vw, Kx w0 bf br bw bt F W R A n c vf vw w
/-- How the closure ends. -/
def TeE (w0 : World) (bf br bw bt : Nat) (F W : List Sq) (x : Option (List Sq × List Sq × List Int)) (e : Ending) (w' : World) : Prop :=
  match x with
  | some (o, p, Z) => e = .returned (.tuple #[]) ∧ KE w0 bf br bw bt (F ++ o) (p ++ W) Z w'
  | none => e = wrY ∧ Below w0.heap.size w0 w'
set_option maxHeartbeats 1000000 in
/-- The closure, of what is no variable. -/
theorem tell_leaf {w0 : World} {bf br bw bt : Nat} {F W : List Sq} {R : List Int} {t : Sq} (hk : t.k ≠ 1) (hl : F.length ≤ 100000) {w : World} (h : KE w0 bf br bw bt F W R w) :
    Calls Tryd.prog 31 #[.agg #[.int .i64 t.k, .int .i64 t.n], .pointer (some ⟨bf, 0, none⟩), .pointer (some ⟨br, 0, none⟩), .pointer (some ⟨bw, 0, none⟩), .pointer (some ⟨bt, 0, none⟩)] w fun e w' => TeE w0 bf br bw bt F W (some ([t], [], R)) e w' := by
  obtain ⟨A, n, c, vf, vw, h⟩ := h
  obtain ⟨k, x⟩ := t
  change k ≠ 1 at hk
  have k1 : (k != 1) = true := by simpa using hk
  have h2 := (h.below (bel_alloc (Below.refl _ w) (.cells #[.int .i64 k, .int .i64 x] 33))).below (bel_alloc (Below.refl _ _) (.cells #[.int .i64 k, .int .i64 x] 33))
  have c1 := cell_of_one h.f
  have l1 := lt_of_block h.f
  have hsr := sr_one (heap_alloc_new (w.alloc (.cells #[.int .i64 k, .int .i64 x] 33)) (.cells #[.int .i64 k, .int .i64 x] 33))
  rw [World.size_alloc] at hsr
  have HSR := Lib.hid hsr
  have H2 := Lib.hid h2
  have hz := h2.bel.size
  clear h h2 hk hsr
  go_enter Tryd.func31, Tryd.ntmps31
  go_wp2_with (at_builtin; refine app_sym_at rfl _ _ rfl w0.heap.size _ _ F rfl H2.out.of (ad := ⟨w.heap.size + 1, 0, none⟩) (c := 1) (t := ⟨k, x⟩) (by simp [go_sem]) HSR.out (by omega) hz ?_)
  intro v' w1 ho hg
  obtain ⟨B, m, d, rfl⟩ := own_sl ho
  obtain ⟨f1, hn⟩ := H2.out.told hg ho
  have c2 := cell_of_one f1
  have g2 := free_of_one f1
  have HN := Lib.hid hn
  clear hn ho hg f1 c1
  go_wp2
  go_end0
  exact ⟨rfl, _, _, _, _, _, HN.out⟩
end Go.Proofs.YtcipfipfamecmaaDoor
