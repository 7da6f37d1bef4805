/- Package yield: replacing; the boxes of the closure that tells. -/
import Derived.Test.YtpcijjdlppoblaaGreatDoorParC
import Derived.Test.YtpcijjdlppoblaaGreatDoorYieN
import Derived.Laws.EntriesVeiled
import Derived.Deep.AppendLies
import Derived.Deep.RegionLaw
import Derived.StillTailTactics
import Derived.Deep.LoopGhost
import Derived.Defers
import Derived.Recover
import Derived.RegionTactic
namespace Go.Proofs.YtpcijjdlppoblaaGreatDoor
open Go.RowKit
set_option linter.unusedVariables false
set_option maxRecDepth 100000

theorem isR_eq (v i : Int) : isR v i = (isI i && varI i == v) := by
  unfold isR isI varI
  by_cases h : 0 ≤ i ∧ i < 90
  · rw [decide_eq_true h, if_pos h]
  · rw [decide_eq_false h]; rfl
/-- What goes wrong. -/
def wrY : Ending := .panicked [{ v := .iface 67 (.agg #[]), recovered := false }]
/-- How replacing ends, its answer's length under a name of its own, and where it lies. -/
def RpE (m : Nat) (L : List Sq) (w : World) (e : Ending) (w' : World) : Prop := ∃ A c, e = .returned (.slice A m c) ∧ Below w.heap.size w w' ∧ Sr w' A L ∧ (∀ b o, A = some ⟨b, o, none⟩ → w.heap.size ≤ b)
/-- Get of a rule, and where its symbols lie. -/
def GmE (v : Int) (m : Nat) (L : List Sq) (w : World) (e : Ending) (w' : World) : Prop := ∃ A c, e = .returned (.tuple #[.agg #[.int .i64 v, .slice A m c], .bool true]) ∧ Below w.heap.size w w' ∧ Sr w' A L ∧ (∀ b o, A = some ⟨b, o, none⟩ → w.heap.size ≤ b)
theorem get_m {v i : Int} (hi : isR v i = true) {m : Nat} {L : List Sq} (hL : symI i = L) (hm : L.length = m) {w : World} (ht : TabR w) :
    Calls Tryz.prog 80 #[.int .i64 i] w fun e w' => GmE v m L w e w' := by
  obtain ⟨a, rfl, h1, rfl⟩ := isR_yes hi
  rw [symI_at] at hL
  subst hL hm
  refine (get_lies h1 ht).mono ?_
  rintro e w' ⟨A, c, rfl, hb, hs, -, hl⟩
  exact ⟨A, c, rfl, hb, hs, fun b o e => hl b (by rw [e]; rfl)⟩
set_option maxHeartbeats 1000000 in
theorem rep_nil {v : Int} {A : Option Addr} {c : Nat} (w : World) : Calls Tryz.prog 56 #[.int .i64 v, .slice A 0 c] w fun e w' => e = wrY ∧ Below w.heap.size w w' := by
  go_enter Tryz.func56, Tryz.ntmps56
  go_wp2
  exact ⟨rfl, rfl, Below.refl _ _⟩
set_option maxHeartbeats 1000000 in
theorem rep_no {v i : Int} {b o n c : Nat} (hi : isR v i = false) {w : World} (c0 : w.cell? ⟨b, o, none⟩ = some (.int .i64 i)) (ht : TabR w) :
    Calls Tryz.prog 56 #[.int .i64 v, .slice (some ⟨b, o, none⟩) (n + 1) c] w fun e w' => e = wrY ∧ Below w.heap.size w w' := by
  obtain ⟨L, hL⟩ : ∃ L, symI i = L := ⟨_, rfl⟩
  obtain ⟨m, hm⟩ : ∃ n, L.length = n := ⟨_, rfl⟩
  obtain ⟨x, hx⟩ : ∃ v, varI i = v := ⟨_, rfl⟩
  obtain ⟨y, hy⟩ : ∃ v, isI i = v := ⟨_, rfl⟩
  rw [isR_eq, hx, hy] at hi
  have r1 := getp_any i hL hm hx hy ht
  have q0 : ((n : Int) + 1 == 0) = false := by simp; omega
  clear hL hm hx hy ht
  cases y
  · clear hi
    go_enter Tryz.func56, Tryz.ntmps56
    go_wp2_with fail
    ((with_reducible refine r1.mono ?_))
    rintro e w1 ⟨B, d, rfl, hb1, hs1⟩
    have HB1 := Lib.hid (bel_alloc hb1 (.cells #[.int .i64 x, .slice B m d] 78))
    clear hb1 hs1 r1
    go_wp2
    exact ⟨rfl, rfl, HB1.out⟩
  · have q1 : (x != v) = true := by simpa using hi
    clear hi
    go_enter Tryz.func56, Tryz.ntmps56
    go_wp2_with fail
    ((with_reducible refine r1.mono ?_))
    rintro e w1 ⟨B, d, rfl, hb1, hs1⟩
    have HB1 := Lib.hid (bel_alloc hb1 (.cells #[.int .i64 x, .slice B m d] 78))
    clear hb1 hs1 r1
    go_wp2
    exact ⟨rfl, rfl, HB1.out⟩
set_option maxHeartbeats 1000000 in
theorem rep_yes {v i : Int} {b o n c m : Nat} {L : List Sq} (hi : isR v i = true) (hL : symI i = L) (hm : L.length = m) {w : World} (c0 : w.cell? ⟨b, o, none⟩ = some (.int .i64 i)) (ht : TabR w) :
    Calls Tryz.prog 56 #[.int .i64 v, .slice (some ⟨b, o, none⟩) (n + 1) c] w fun e w' => RpE m L w e w' := by
  have r1 := get_m hi hL hm ht
  have q0 : ((n : Int) + 1 == 0) = false := by simp; omega
  have q1 : (v != v) = false := by simp
  clear hi hL hm ht
  go_enter Tryz.func56, Tryz.ntmps56
  go_wp2_with fail
  ((with_reducible refine r1.mono ?_))
  rintro e w1 ⟨B, d, rfl, hb1, hs1, hl1⟩
  have HB1 := Lib.hid (bel_alloc hb1 (.cells #[.int .i64 v, .slice B m d] 78))
  have HS1 := Lib.hid (hs1.below (bel_alloc (Below.refl _ _) (.cells #[.int .i64 v, .slice B m d] 78)))
  have HL1 := Lib.hid hl1
  clear hb1 hs1 hl1 r1
  go_wp2
  go_ret
  exact ⟨B, d, rfl, HB1.out, HS1.out, HL1.out⟩
end Go.Proofs.YtpcijjdlppoblaaGreatDoor

/- Package yield: the closure that tells, and calls itself. -/
namespace Go.Proofs.YtpcijjdlppoblaaGreatDoor
open Go.RowKit
set_option linter.unusedVariables false
set_option maxRecDepth 100000

theorem blk_neY {w : World} {g g' : Nat} {t t' : TypeId} {cs cs' : Array Value} (h : w.heap[g]? = some (.cells cs t (0, 0))) (h' : w.heap[g']? = some (.cells cs' t' (0, 0))) (hne : t ≠ t') : g ≠ g' := by
  rintro rfl
  rw [h] at h'
  injection h' with h'
  injection h' with _ ht
  exact hne ht
/-- A row lies in no box of another element type. -/
theorem row_box {w : World} {g base : Nat} {e t : TypeId} {cs : Array Value} {size n : Nat} {v : Value} {xs : List Value} (h : w.ownsRow base e size v n xs) (hg : w.heap[g]? = some (.cells cs t (0, 0))) (hne : e ≠ t) : v.ownBlock ≠ some g := by
  rcases h.2 with ⟨rfl, _⟩ | ⟨g', cap, cur, rfl, _, hh, _⟩
  · simp [Value.ownBlock]
  · intro he
    have : g' = g := by simpa [Value.ownBlock] using he
    subst this
    exact blk_neY hh hg hne rfl
theorem gro_box {w w' : World} {v v' : Value} (hg : Gro w v w' v') {g : Nat} {o : Obj} (h : w.heap[g]? = some o) (hne : v.ownBlock ≠ some g) : w'.heap[g]? = some o :=
  (hg.g.block g (by by_cases e : g < w.heap.size; exact e; rw [Array.getElem?_eq_none (by omega)] at h; cases h) (Ne.symm hne)).trans h
/-- The closure's value. -/
def fnY (bf br bw bt : Nat) : Value := .func (.func 55) #[] #[.pointer (some ⟨bf, 0, none⟩), .pointer (some ⟨br, 0, none⟩), .pointer (some ⟨bw, 0, none⟩), .pointer (some ⟨bt, 0, none⟩)]
/-- The boxes, and what lies in them: F told, W waiting, the rules R. -/
structure Kx (w0 : World) (bf br bw bt : Nat) (F W : List Sq) (R : List Int) (A : Option Addr) (n c : Nat) (vf vw : Value) (w : World) : Prop where
  f : w.heap[bf]? = some (.cells #[vf] 42 (0, 0))
  r : w.heap[br]? = some (.cells #[.slice A n c] 22 (0, 0))
  q : w.heap[bw]? = some (.cells #[vw] 42 (0, 0))
  t : w.heap[bt]? = some (.cells #[fnY bf br bw bt] 91 (0, 0))
  hf : w0.heap.size ≤ bf
  hr : w0.heap.size ≤ br
  hq : w0.heap.size ≤ bw
  ne : bf ≠ bw
  of : w.ownsRow w0.heap.size 59 2 vf F.length (cly F)
  oq : w.ownsRow w0.heap.size 59 2 vw W.length (cly W.reverse)
  on : vf.ownBlock = none ∨ vf.ownBlock ≠ vw.ownBlock
  rr : Ri w0 A R
  rl : R.length = n
  rc : n ≤ c
  bel : Below w0.heap.size w0 w
section
variable {w0 : World} {bf br bw bt : Nat} {F W : List Sq} {R : List Int} {A : Option Addr} {n c : Nat} {vf vw : Value} {w : World}
theorem Kx.no (h : Kx w0 bf br bw bt F W R A n c vf vw w) : vw.ownBlock = none ∨ vw.ownBlock ≠ vf.ownBlock := by
  rcases h.on with e | e
  · cases hv : vw.ownBlock with
    | none => exact .inl rfl
    | some k => exact .inr (by rw [e]; simp)
  · exact .inr (Ne.symm e)
theorem Kx.below (h : Kx w0 bf br bw bt F W R A n c vf vw w) {w' : World} (b : Below w.heap.size w w') : Kx w0 bf br bw bt F W R A n c vf vw w' :=
  { h with
    f := (b.block bf (lt_of_block h.f)).trans h.f
    r := (b.block br (lt_of_block h.r)).trans h.r
    q := (b.block bw (lt_of_block h.q)).trans h.q
    t := (b.block bt (lt_of_block h.t)).trans h.t
    of := row_below h.of b
    oq := row_below h.oq b
    bel := bel_trans h.bel b }
theorem Kx.setR (h : Kx w0 bf br bw bt F W R A n c vf vw w) {R' : List Int} {A' : Option Addr} {n' c' : Nat} (hR : Ri w0 A' R') (hl : R'.length = n') (hc : n' ≤ c') : Kx w0 bf br bw bt F W R' A' n' c' vf vw (w.setCell ⟨br, 0, none⟩ (.slice A' n' c')) :=
  { h with
    f := (Below.heap_setCell _ _ _ _ (blk_neY h.f h.r (by decide))).trans h.f
    r := one_setCell h.r
    q := (Below.heap_setCell _ _ _ _ (blk_neY h.q h.r (by decide))).trans h.q
    t := (Below.heap_setCell _ _ _ _ (blk_neY h.t h.r (by decide))).trans h.t
    of := ownsRow_setCell_other h.of (row_box h.of h.r (by decide)) _
    oq := ownsRow_setCell_other h.oq (row_box h.oq h.r (by decide)) _
    rr := hR
    rl := hl
    rc := hc
    bel := h.bel.setCell h.hr _ }
/-- A symbol is told. -/
theorem Kx.told (h : Kx w0 bf br bw bt F W R A n c vf vw w) {t : Sq} {v' : Value} {w1 : World} (hg : Gro w vf w1 v') (ho : w1.ownsRow w0.heap.size 59 2 v' (F.length + 1) (cly (F ++ [t]))) :
    w1.heap[bf]? = some (.cells #[vf] 42 (0, 0)) ∧ Kx w0 bf br bw bt (F ++ [t]) W R A n c v' vw (w1.setCell ⟨bf, 0, none⟩ v') := by
  have f1 := gro_box hg h.f (row_box h.of h.f (by decide))
  have r1 := gro_box hg h.r (row_box h.of h.r (by decide))
  have q1 := gro_box hg h.q (row_box h.of h.q (by decide))
  have t1 := gro_box hg h.t (row_box h.of h.t (by decide))
  have oq1 := h.oq.kept hg.g h.no
  have ho' : w1.ownsRow w0.heap.size 59 2 v' (F ++ [t]).length (cly (F ++ [t])) := by rw [List.length_append]; exact ho
  refine ⟨f1, { h with
    f := one_setCell f1
    r := (Below.heap_setCell _ _ _ _ (blk_neY r1 f1 (by decide))).trans r1
    q := (Below.heap_setCell _ _ _ _ (Ne.symm h.ne)).trans q1
    t := (Below.heap_setCell _ _ _ _ (blk_neY t1 f1 (by decide))).trans t1
    of := ownsRow_setCell_other ho' (row_box ho' f1 (by decide)) _
    oq := ownsRow_setCell_other oq1 (row_box oq1 f1 (by decide)) _
    on := ?_
    bel := (h.bel.grown hg.g h.bel.size (fun k hk => (h.of.lt k hk).1)).setCell h.hf _ }⟩
  rcases hg.at' with e | ⟨k, e, hk⟩
  · rw [e]; exact h.on
  · refine .inr ?_
    rw [e]
    intro e2
    have := (h.oq.lt k e2.symm).2
    omega
/-- A symbol has to wait. -/
theorem Kx.push (h : Kx w0 bf br bw bt F W R A n c vf vw w) {t : Sq} {v' : Value} {w1 : World} (hg : Gro w vw w1 v') (ho : w1.ownsRow w0.heap.size 59 2 v' (W.length + 1) (cly (W.reverse ++ [t]))) :
    w1.heap[bw]? = some (.cells #[vw] 42 (0, 0)) ∧ Kx w0 bf br bw bt F (t :: W) R A n c vf v' (w1.setCell ⟨bw, 0, none⟩ v') := by
  have f1 := gro_box hg h.f (row_box h.oq h.f (by decide))
  have r1 := gro_box hg h.r (row_box h.oq h.r (by decide))
  have q1 := gro_box hg h.q (row_box h.oq h.q (by decide))
  have t1 := gro_box hg h.t (row_box h.oq h.t (by decide))
  have of1 := h.of.kept hg.g h.on
  have ho' : w1.ownsRow w0.heap.size 59 2 v' (t :: W).length (cly (t :: W).reverse) := by rw [List.length_cons, List.reverse_cons]; exact ho
  refine ⟨q1, { h with
    f := (Below.heap_setCell _ _ _ _ h.ne).trans f1
    r := (Below.heap_setCell _ _ _ _ (blk_neY r1 q1 (by decide))).trans r1
    q := one_setCell q1
    t := (Below.heap_setCell _ _ _ _ (blk_neY t1 q1 (by decide))).trans t1
    of := ownsRow_setCell_other of1 (row_box of1 q1 (by decide)) _
    oq := ownsRow_setCell_other ho' (row_box ho' q1 (by decide)) _
    on := ?_
    bel := (h.bel.grown hg.g h.bel.size (fun k hk => (h.oq.lt k hk).1)).setCell h.hq _ }⟩
  rcases hg.at' with e | ⟨k, e, hk⟩
  · rw [e]; exact h.on
  · by_cases e0 : vf.ownBlock = none
    · exact .inl e0
    · refine .inr ?_
      rw [e]
      intro e2
      have := (h.of.lt k e2).2
      omega
/-- The next one comes. -/
theorem Kx.pop {t : Sq} {g cap : Nat} (h : Kx w0 bf br bw bt F (t :: W) R A n c vf (.slice (some ⟨g, 0, none⟩) (W.length + 1) cap) w) :
    Kx w0 bf br bw bt F W R A n c vf (.slice (some ⟨g, 0, none⟩) W.length cap) (w.setCell ⟨bw, 0, none⟩ (.slice (some ⟨g, 0, none⟩) W.length cap)) := by
  have o1 := row_pop (t := t) (S := W) h.oq
  exact { h with
    f := (Below.heap_setCell _ _ _ _ h.ne).trans h.f
    r := (Below.heap_setCell _ _ _ _ (blk_neY h.r h.q (by decide))).trans h.r
    q := one_setCell h.q
    t := (Below.heap_setCell _ _ _ _ (blk_neY h.t h.q (by decide))).trans h.t
    of := ownsRow_setCell_other h.of (row_box h.of h.q (by decide)) _
    oq := ownsRow_setCell_other o1 (row_box o1 h.q (by decide)) _
    on := h.on
    bel := h.bel.setCell h.hq _ }
end
/-- The same, wherever they lie. -/
def KE (w0 : World) (bf br bw bt : Nat) (F W : List Sq) (R : List Int) (w : World) : Prop := ∃ A n c vf vw, Kx w0 bf br bw bt F W R A n c vf vw w
/-- How the closure ends. -/
def TeE (w0 : World) (bf br bw bt : Nat) (F W : List Sq) (x : Option (List Sq × List Sq × List Int)) (e : Ending) (w' : World) : Prop :=
  match x with
  | some (o, p, Z) => e = .returned (.tuple #[]) ∧ KE w0 bf br bw bt (F ++ o) (p ++ W) Z w'
  | none => e = wrY ∧ Below w0.heap.size w0 w'
set_option maxHeartbeats 1000000 in
/-- The closure, of what is no variable. -/
theorem tell_leaf {w0 : World} {bf br bw bt : Nat} {F W : List Sq} {R : List Int} {t : Sq} (hk : t.k ≠ 1) (hl : F.length ≤ 100000) {w : World} (h : KE w0 bf br bw bt F W R w) :
    Calls Tryz.prog 55 #[.agg #[.int .i64 t.k, .int .i64 t.n], .pointer (some ⟨bf, 0, none⟩), .pointer (some ⟨br, 0, none⟩), .pointer (some ⟨bw, 0, none⟩), .pointer (some ⟨bt, 0, none⟩)] w fun e w' => TeE w0 bf br bw bt F W (some ([t], [], R)) e w' := by
  obtain ⟨A, n, c, vf, vw, h⟩ := h
  obtain ⟨k, x⟩ := t
  change k ≠ 1 at hk
  have k1 : (k != 1) = true := by simpa using hk
  have h2 := (h.below (bel_alloc (Below.refl _ w) (.cells #[.int .i64 k, .int .i64 x] 59))).below (bel_alloc (Below.refl _ _) (.cells #[.int .i64 k, .int .i64 x] 59))
  have c1 := cell_of_one h.f
  have l1 := lt_of_block h.f
  have hsr := sr_one (heap_alloc_new (w.alloc (.cells #[.int .i64 k, .int .i64 x] 59)) (.cells #[.int .i64 k, .int .i64 x] 59))
  rw [World.size_alloc] at hsr
  have HSR := Lib.hid hsr
  have H2 := Lib.hid h2
  have hz := h2.bel.size
  clear h h2 hk hsr
  go_enter Tryz.func55, Tryz.ntmps55
  go_wp2_with (at_builtin; refine app_sym_at rfl _ _ rfl w0.heap.size _ _ F rfl H2.out.of (ad := ⟨w.heap.size + 1, 0, none⟩) (c := 1) (t := ⟨k, x⟩) (by simp [go_sem]) HSR.out (by omega) hz ?_)
  intro v' w1 ho hg
  obtain ⟨B, m, d, rfl⟩ := own_sl ho
  obtain ⟨f1, hn⟩ := H2.out.told hg ho
  have c2 := cell_of_one f1
  have g2 := free_of_one f1
  have HN := Lib.hid hn
  clear hn ho hg f1 c1
  go_wp2
  go_end0
  exact ⟨rfl, _, _, _, _, _, HN.out⟩
end Go.Proofs.YtpcijjdlppoblaaGreatDoor

/- Package yield: the closure, of variables. -/
namespace Go.Proofs.YtpcijjdlppoblaaGreatDoor
open Go.RowKit
set_option linter.unusedVariables false
set_option maxRecDepth 100000

/-- A row of symbols beside a cell that is written. -/
theorem Sr.setc {w : World} {b o g j : Nat} {ts : List Sq} (h : Sr w (some ⟨b, o, none⟩) ts) (hne : g ≠ b) (v : Value) : Sr (w.setCell ⟨g, j, none⟩ v) (some ⟨b, o, none⟩) ts := fun i t ht => by
  obtain ⟨b', o', e, h1, h2⟩ := h i t ht
  obtain ⟨rfl, rfl⟩ : b = b' ∧ o = o' := by simpa using e
  refine ⟨b, o, rfl, ?_, ?_⟩
  · rw [World.cell?_setCell_far _ _ _ _ (by exact hne)]; exact h1
  · rw [World.cell?_setCell_far _ _ _ _ (by exact hne)]; exact h2
/-- What the closure does, of symbols that want d calls within each other at most. -/
def AnsT (d : Nat) (w0 : World) (bf br bw bt : Nat) : Prop := ∀ (t : Sq) (F W : List Sq) (R : List Int) (w : World), chB d t = true → F.length + 1 + W.length + 10 * R.length ≤ 20001 → KE w0 bf br bw bt F W R w →
  Calls Tryz.prog 55 #[.agg #[.int .i64 t.k, .int .i64 t.n], .pointer (some ⟨bf, 0, none⟩), .pointer (some ⟨br, 0, none⟩), .pointer (some ⟨bw, 0, none⟩), .pointer (some ⟨bt, 0, none⟩)] w fun e w' => TeE w0 bf br bw bt F W (tel d t R) e w'
section
variable {w0 : World} {bf br bw bt : Nat} {F W : List Sq} {R : List Int} {v : Int} {w : World}
set_option maxHeartbeats 1000000 in
/-- No rule is left. -/
theorem tell_nil (ht0 : TabR w0) (h : KE w0 bf br bw bt F W [] w) :
    Calls Tryz.prog 55 #[.agg #[.int .i64 1, .int .i64 v], .pointer (some ⟨bf, 0, none⟩), .pointer (some ⟨br, 0, none⟩), .pointer (some ⟨bw, 0, none⟩), .pointer (some ⟨bt, 0, none⟩)] w fun e w' => e = wrY ∧ Below w0.heap.size w0 w' := by
  obtain ⟨A, n, c, vf, vw, h⟩ := h
  obtain rfl : n = 0 := h.rl.symm
  have h1 := h.below (bel_alloc (Below.refl _ w) (.cells #[.int .i64 1, .int .i64 v] 59))
  have r1 := fun w => rep_nil (v := v) (A := A) (c := c) w
  have c1 := cell_of_one h.r
  have l1 := lt_of_block h.r
  have HB := Lib.hid h1.bel
  clear h h1
  go_enter Tryz.func55, Tryz.ntmps55
  go_wp2_with fail
  ((with_reducible refine (r1 _).mono ?_))
  rintro e w1 ⟨he, hb1⟩
  unfold wrY at he
  subst he
  have HB1 := Lib.hid (bel_trans HB.out hb1)
  clear hb1 r1
  go_wp2
  exact ⟨rfl, rfl, HB1.out⟩
set_option maxHeartbeats 1000000 in
/-- The rule is none of the variable. -/
theorem tell_no {i : Int} (ht0 : TabR w0) (hi : isR v i = false) (h : KE w0 bf br bw bt F W (i :: R) w) :
    Calls Tryz.prog 55 #[.agg #[.int .i64 1, .int .i64 v], .pointer (some ⟨bf, 0, none⟩), .pointer (some ⟨br, 0, none⟩), .pointer (some ⟨bw, 0, none⟩), .pointer (some ⟨bt, 0, none⟩)] w fun e w' => e = wrY ∧ Below w0.heap.size w0 w' := by
  obtain ⟨A, n, c, vf, vw, h⟩ := h
  obtain ⟨b, o, rfl, c0⟩ := h.rr 0 i rfl
  rw [Nat.add_zero] at c0
  obtain ⟨N, hN⟩ : ∃ N, R.length = N := ⟨_, rfl⟩
  obtain rfl : N + 1 = n := by rw [← hN]; exact h.rl
  have h1 := h.below (bel_alloc (Below.refl _ w) (.cells #[.int .i64 1, .int .i64 v] 59))
  have r1 := rep_no (n := N) (c := c) hi (bel_cell h1.bel c0) (ht0.below h1.bel)
  have c1 := cell_of_one h.r
  have l1 := lt_of_block h.r
  have HB := Lib.hid h1.bel
  clear h h1 c0 hi hN ht0
  go_enter Tryz.func55, Tryz.ntmps55
  go_wp2_with fail
  ((with_reducible refine r1.mono ?_))
  rintro e w1 ⟨he, hb1⟩
  unfold wrY at he
  subst he
  have HB1 := Lib.hid (bel_trans HB.out hb1)
  clear hb1 r1
  go_wp2
  exact ⟨rfl, rfl, HB1.out⟩
theorem ri_tail {w : World} {b o : Nat} {i : Int} {R : List Int} (h : Ri w (some ⟨b, o, none⟩) (i :: R)) : Ri w (some ⟨b, o + 1, none⟩) R := fun j x hj => by
  obtain ⟨b', o', e, c0⟩ := h (j + 1) x (by simpa using hj)
  obtain ⟨rfl, rfl⟩ : b = b' ∧ o = o' := by simpa using e
  exact ⟨b, o + 1, rfl, by rw [Nat.add_assoc, Nat.add_comm 1 j]; exact c0⟩
/-- The next rule comes: the slice of the others. -/
theorem Kx.next1 {i : Int} {b o N : Nat} {vf vw : Value} (h : Kx w0 bf br bw bt F W (i :: R) (some ⟨b, o, none⟩) (N + 1) 1 vf vw w) :
    Kx w0 bf br bw bt F W R (some ⟨b, o, none⟩) N 0 vf vw (w.setCell ⟨br, 0, none⟩ (.slice (some ⟨b, o, none⟩) N 0)) := by
  have h1 := h.rl
  have h2 := h.rc
  rw [List.length_cons] at h1
  obtain rfl : N = 0 := by omega
  obtain rfl : R = [] := List.eq_nil_of_length_eq_zero (by omega)
  exact h.setR (Ri.nil _ _) rfl (Nat.le_refl _)
theorem Kx.next2 {i : Int} {b o N c : Nat} {vf vw : Value} (h : Kx w0 bf br bw bt F W (i :: R) (some ⟨b, o, none⟩) (N + 1) (c + 2) vf vw w) :
    Kx w0 bf br bw bt F W R (some ⟨b, o + 1, none⟩) N (c + 1) vf vw (w.setCell ⟨br, 0, none⟩ (.slice (some ⟨b, o + 1, none⟩) N (c + 1))) := by
  have h1 := h.rl
  have h2 := h.rc
  rw [List.length_cons] at h1
  exact h.setR (ri_tail h.rr) (by omega) (by omega)
set_option maxHeartbeats 1000000 in
/-- A rule without symbols. -/
theorem tell_empty {i : Int} (ht0 : TabR w0) (hi : isR v i = true) (hs : symI i = []) (h : KE w0 bf br bw bt F W (i :: R) w) :
    Calls Tryz.prog 55 #[.agg #[.int .i64 1, .int .i64 v], .pointer (some ⟨bf, 0, none⟩), .pointer (some ⟨br, 0, none⟩), .pointer (some ⟨bw, 0, none⟩), .pointer (some ⟨bt, 0, none⟩)] w fun e w' => TeE w0 bf br bw bt F W (some ([], [], R)) e w' := by
  obtain ⟨A, n, c, vf, vw, h⟩ := h
  obtain ⟨b, o, rfl, c0⟩ := h.rr 0 i rfl
  rw [Nat.add_zero] at c0
  obtain ⟨N, hN⟩ : ∃ N, R.length = N := ⟨_, rfl⟩
  obtain rfl : N + 1 = n := by rw [← hN]; exact h.rl
  have hrc := h.rc
  have h1 := h.below (bel_alloc (Below.refl _ w) (.cells #[.int .i64 1, .int .i64 v] 59))
  have r1 := rep_yes (n := N) (c := c) hi hs (m := 0) rfl (bel_cell h1.bel c0) (ht0.below h1.bel)
  have c1 := cell_of_one h.r
  have l1 := lt_of_block h.r
  have HK := Lib.hid h1
  have hcc : (c = 1 ∧ N = 0) ∨ ∃ c', c = c' + 2 := by
    by_cases e : c = 1
    · exact .inl ⟨e, by omega⟩
    · exact .inr ⟨c - 2, by omega⟩
  clear h h1 c0 hi hN ht0 hs
  rcases hcc with ⟨rfl, rfl⟩ | ⟨c', rfl⟩
  all_goals
    go_enter Tryz.func55, Tryz.ntmps55
    go_wp2_with fail
    ((with_reducible refine r1.mono ?_))
    rintro e w1 ⟨B, d, rfl, hb1, -, -⟩
    have hk1 := HK.out.below hb1
    have c2 := cell_of_one hk1.r
    have g2 := free_of_one hk1.r
    have hk2 := by first | exact hk1.next1 | exact hk1.next2
    have HK2 := Lib.hid hk2
    clear hb1 r1 hk1 c1 hk2
    go_wp2
    go_end0
    exact ⟨rfl, _, _, _, _, _, by rw [List.append_nil]; exact HK2.out⟩
/-- A symbol has to wait, told by append's law at a step of a region. -/
theorem Kx.lies {A : Option Addr} {n c : Nat} {vf vw : Value} (h : Kx w0 bf br bw bt F W R A n c vf vw w) {t : Sq} {g cap H : Nat} {w1 : World} (hg : w.grownBy w1 vw.ownBlock) (hat : vw.ownBlock = some g ∨ g = H) (hH : w.heap.size = H)
    (ho : w1.ownsRow w0.heap.size 59 2 (.slice (some ⟨g, 0, none⟩) (W.length + 1) cap) (W.length + 1) (cly W.reverse ++ [.int .i64 t.k, .int .i64 t.n])) :
    Gro w vw w1 (.slice (some ⟨g, 0, none⟩) (W.length + 1) cap) ∧ w1.heap[bw]? = some (.cells #[vw] 42 (0, 0)) ∧ Kx w0 bf br bw bt F (t :: W) R A n c vf (.slice (some ⟨g, 0, none⟩) (W.length + 1) cap) (w1.setCell ⟨bw, 0, none⟩ (.slice (some ⟨g, 0, none⟩) (W.length + 1) cap)) := by
  have hG : Gro w vw w1 (.slice (some ⟨g, 0, none⟩) (W.length + 1) cap) := ⟨hg, by
    rcases hat with e | e
    · exact .inl (by rw [e]; rfl)
    · exact .inr ⟨g, rfl, by omega⟩⟩
  obtain ⟨h1, h2⟩ := h.push (t := t) hG (by rw [cly_append]; exact ho)
  exact ⟨hG, h1, h2⟩
/-- The boxes, the waiting ones' row in no block bb. -/
def KN (w0 : World) (bf br bw bt bb : Nat) (F W : List Sq) (R : List Int) (w : World) : Prop := ∃ A n c vf vw, Kx w0 bf br bw bt F W R A n c vf vw w ∧ vw.ownBlock ≠ some bb
set_option maxHeartbeats 4000000 in
/-- A rule with symbols: all but the first wait, the first is told. -/
theorem tell_deep {d : Nat} {i : Int} {u : Sq} {l : List Sq} {x : Option (List Sq × List Sq × List Int)} (ht0 : TabR w0) (hd : AnsT d w0 bf br bw bt) (hc : chB d u = true) (hi : isR v i = true) (hs : symI i = u :: l) (hx : tel d u R = x)
    (hlen : F.length + 1 + W.length + 10 * (R.length + 1) ≤ 20001) (h : KE w0 bf br bw bt F W (i :: R) w) :
    Calls Tryz.prog 55 #[.agg #[.int .i64 1, .int .i64 v], .pointer (some ⟨bf, 0, none⟩), .pointer (some ⟨br, 0, none⟩), .pointer (some ⟨bw, 0, none⟩), .pointer (some ⟨bt, 0, none⟩)] w fun e w' => TeE w0 bf br bw bt F W (x.map fun y => (y.1, y.2.1 ++ l, y.2.2)) e w' := by
  obtain ⟨A, n, c, vf, vw, h⟩ := h
  obtain ⟨b, o, rfl, c0⟩ := h.rr 0 i rfl
  rw [Nat.add_zero] at c0
  obtain ⟨N, hN⟩ : ∃ N, R.length = N := ⟨_, rfl⟩
  obtain rfl : N + 1 = n := by rw [← hN]; exact h.rl
  obtain ⟨M, hM⟩ : ∃ M, l.length = M := ⟨_, rfl⟩
  have hM9 : M ≤ 9 := by have := tlI_len i; rw [hs, List.length_cons, hM] at this; omega
  have hrc := h.rc
  have h1 := h.below (bel_alloc (Below.refl _ w) (.cells #[.int .i64 1, .int .i64 v] 59))
  have r1 := rep_yes (n := N) (c := c) hi hs (m := M + 1) (by rw [List.length_cons, hM]) (bel_cell h1.bel c0) (ht0.below h1.bel)
  have r2 := fun w (hK : KE w0 bf br bw bt F (l ++ W) R w) => hd u F (l ++ W) R w hc (by rw [List.length_append]; omega) hK
  rw [hx] at r2
  have c1 := cell_of_one h.r
  have l1 := lt_of_block h.r
  have l2 := lt_of_block h.q
  have hoq := h.oq
  have HK := Lib.hid h1
  have HN := Lib.hid hN
  have HM := Lib.hid hM
  have HOQ := Lib.hid hoq
  have hcc : (c = 1 ∧ N = 0) ∨ ∃ c', c = c' + 2 := by
    by_cases e : c = 1
    · exact .inl ⟨e, by omega⟩
    · exact .inr ⟨c - 2, by omega⟩
  obtain ⟨i0, hI, hz0, hz1, hz2⟩ := info_parts infoSym
  have HI := Lib.hid hI
  have HI0 := Lib.hid hz0
  have HI1 := Lib.hid hz1
  have HI2 := Lib.hid hz2
  have q0 : ((M : Int) + 1 == 0) = false := by simp; omega
  clear h h1 c0 hi hN ht0 hs hx hd hM hoq hI hz0 hz1 hz2
  rcases hcc with ⟨rfl, rfl⟩ | ⟨c', rfl⟩
  all_goals
    go_enter Tryz.func55, Tryz.ntmps55
    go_wp2_with fail
    ((with_reducible refine r1.mono ?_))
    rintro e w1 ⟨B, d, rfl, hb1, hs1, hl1⟩
    obtain ⟨bb, ob, rfl, d0, d1⟩ := hs1 0 u rfl
    have hbb : w.heap.size + 1 ≤ bb := by have := hl1 bb ob rfl; rwa [World.size_alloc] at this
    have hk1 := HK.out.below hb1
    have c2 := cell_of_one hk1.r
    have g2 := free_of_one hk1.r
    have hk2 := by first | exact hk1.next1 | exact hk1.next2
    have HK2 := Lib.hid hk2
    have HS2 := Lib.hid (fun y => hs1.setc (g := br) (j := 0) (by omega) y)
    have hne : vw.ownBlock ≠ some bb := fun e => by have := (HOQ.out.lt bb e).2; omega
    have HNE := Lib.hid hne
    clear hb1 r1 hk1 c1 hk2 hs1 hl1 d0 d1 hne
    go_wp2_with fail
    go_loopw [7] (fun q wr => ∃ j : Nat, q = .int .i64 j ∧ j ≤ M ∧ Hid (KN w0 bf br bw bt bb F ((u :: l).drop (j + 1) ++ W) R wr) ∧ Hid (Sr wr (some ⟨bb, ob, none⟩) (u :: l))) (fun q _ => (intOf q).toNat)
    case atStart => exact ⟨M, rfl, Nat.le_refl _, Lib.hid ⟨_, _, _, _, _, by rw [List.drop_eq_nil_of_le (by rw [List.length_cons, HM.out]; exact Nat.le_refl _)]; exact HK2.out, HNE.out⟩, Lib.hid (HS2.out _)⟩
    case round =>
      clear HS2 HNE HK2 HK c2 g2
      obtain ⟨j, rfl, hj, hK, hS⟩ := hrel
      obtain ⟨A3, n3, c3, vf3, vw3, k3, ne3⟩ := hK.out
      by_cases h0 : 0 < j
      · obtain ⟨k, hk⟩ : ∃ k, j = k + 1 := ⟨j - 1, by omega⟩
        obtain ⟨t, ht⟩ : ∃ t, (u :: l)[j]? = some t := ⟨_, List.getElem?_eq_getElem (by rw [List.length_cons, HM.out]; omega)⟩
        obtain ⟨b', o', ee, e0, e1⟩ := hS.out j t ht
        obtain ⟨rfl, rfl⟩ : bb = b' ∧ ob = o' := by simpa using ee
        have hlb := World.block_lt_of_cell? _ _ e0
        have hdrop : (u :: l).drop (k + 1) ++ W = t :: ((u :: l).drop (j + 1) ++ W) := by
          obtain ⟨h1, h2⟩ := List.getElem?_eq_some_iff.1 ht
          rw [← hk, List.drop_eq_getElem_cons h1, h2]; rfl
        have hlw : ((u :: l).drop (j + 1) ++ W).length ≤ 30000 := by rw [List.length_append, List.length_drop, List.length_cons, HM.out]; omega
        obtain ⟨D, hDD⟩ : ∃ D, (u :: l).drop (j + 1) ++ W = D := ⟨_, rfl⟩
        rw [hDD] at k3 hdrop hlw
        clear hDD
        have q1 : (0 : Int) < (j : Int) := by omega
        have q2 : (j : Int) - 1 = (k : Int) := by omega
        have q3 : j < M + 1 := by omega
        have cq := cell_of_one k3.q
        have lq := lt_of_block k3.q
        have ka := k3.below (bel_two wr (.cells #[.int .i64 t.k, .int .i64 t.n] 59))
        have hz := ka.bel.size
        have HA := Lib.hid ka
        have HSA := Lib.hid (hS.out.below (bel_two wr (.cells #[.int .i64 t.k, .int .i64 t.n] 59)))
        have HD := Lib.hid hdrop
        have NE3 := Lib.hid ne3
        have HJ := Lib.hid hk
        have q4 : (j : Int) < (M : Int) + 1 := by omega
        clear hK hS k3 ka ht hdrop ee ne3 hk
        go_wp2_with fail
        go_region_law (first
          | (refine step_append_lies _ (by rfl) _ _ _ (by rfl) w0.heap.size 59 i0 _ 2 16 Tryz.underlying42 HI.out HI0.out HI1.out HI2.out rfl (by decide) vw3 _ _ (by rfl) HA.out.oq
              ⟨wr.heap.size, 0, none⟩ 1 1 [.int .i64 t.k, .int .i64 t.n] (by rfl) (by rfl) (World.news_of_block (cs := #[.int .i64 t.k, .int .i64 t.n]) (t := 59) (fr := (0, 0)) (heap_alloc_new wr.drew _)) (by simp [Value.oneCell'])
              (by decide) (by unfold maxLen; omega) (by omega) hz (wr.heap.size + 1) (by simp) ?_; intro gg cap w3 ho hg hat hlt3
             obtain ⟨hG, f3, hn⟩ := HA.out.lies (t := t) hg hat (by simp) ho
             have HG := Lib.hid hG
             have HN3 := Lib.hid hn
             have c4 := cell_of_one f3
             have g4 := free_of_one f3
             clear ho hg hn hG f3))
        all_goals
          have hne : gg ≠ bb := fun e => by
            rcases hat with h | h
            · rw [e] at h; exact NE3.out h
            · omega
          have HNE3 := Lib.hid (show (Value.slice (some ⟨gg, 0, none⟩) (D.length + 1) cap).ownBlock ≠ some bb from fun e => hne (by injection e))
          have HS3 := Lib.hid (fun y => (HSA.out.gro HG.out (fun b o e => by cases e; exact NE3.out)).setc (g := bw) (j := 0) (by omega) y)
          clear hat hne cq e0 e1
          go_wp2_with fail
          go_roundw
          case rel => exact ⟨k, rfl, by omega, Lib.hid ⟨_, _, _, _, _, by rw [HD.out]; exact HN3.out, HNE3.out⟩, Lib.hid (HS3.out _)⟩
          case measure => simp [intOf]; omega
      · obtain rfl : j = 0 := by omega
        obtain ⟨b', o', ee, e0, e1⟩ := hS.out 0 u rfl
        obtain ⟨rfl, rfl⟩ : bb = b' ∧ ob = o' := by simpa using ee
        rw [Nat.zero_mul, Nat.add_zero] at e0 e1
        have r3 := fun w' (hb : Below wr.heap.size wr w') => r2 w' ⟨_, _, _, _, _, k3.below hb⟩
        have ct := cell_of_one k3.t
        unfold fnY at ct
        have lt := lt_of_block k3.t
        clear hK hS k3 ee r2
        go_wp2_with fail
        go_still_tail 4, (by kernel_rfl)
        change wpList _ _ _ _ _ wr.drew
        go_wp2_with fail
        ((with_reducible refine (r3 _ (Below.refl _ _).drew).mono ?_))
        rintro e w3 hte
        cases x with
        | none =>
          obtain ⟨he, hb⟩ := hte
          unfold wrY at he
          subst he
          have HB3 := Lib.hid hb
          clear hb r3
          go_wp2
          exact ⟨rfl, rfl, HB3.out⟩
        | some y =>
          obtain ⟨⟨q, p, Z⟩, rfl⟩ : ∃ z, z = y := ⟨_, rfl⟩
          obtain ⟨rfl, hk⟩ := hte
          have HK3 := Lib.hid hk
          clear hk r3
          go_wp2
          go_end0
          exact ⟨rfl, by rw [List.append_assoc]; exact HK3.out⟩
end
theorem ansT_all {w0 : World} {bf br bw bt : Nat} (ht0 : TabR w0) : ∀ d, AnsT d w0 bf br bw bt
  | 0 => fun t F W R w hc hl h => by
    have hk : t.k ≠ 1 := by simpa [chB] using hc
    rw [tel_leaf 0 R hk]
    exact tell_leaf hk (by omega) h
  | d + 1 => fun t F W R w hc hl h => by
    by_cases hk : t.k = 1
    · cases R with
      | nil =>
        rw [tel_nil d hk]
        obtain ⟨k, n⟩ := t
        change k = 1 at hk
        subst hk
        exact tell_nil ht0 h
      | cons i R =>
        cases hi : isR t.n i
        · rw [tel_no d R hk hi]
          obtain ⟨k, n⟩ := t
          change k = 1 at hk
          subst hk
          exact tell_no ht0 hi h
        · cases hs : symI i with
          | nil =>
            rw [tel_empty d R hk hi hs]
            obtain ⟨k, n⟩ := t
            change k = 1 at hk
            subst hk
            exact tell_empty ht0 hi hs h
          | cons u l =>
            rw [tel_deep d R hk hi hs]
            have hcu := ch_next hc hk hi hs
            obtain ⟨k, n⟩ := t
            change k = 1 at hk
            subst hk
            exact tell_deep ht0 (ansT_all ht0 d) hcu hi hs rfl hl h
    · rw [tel_leaf (d + 1) R hk]
      exact tell_leaf hk (by omega) h
end Go.Proofs.YtpcijjdlppoblaaGreatDoor

/- Package yield: derived. -/
namespace Go.Proofs.YtpcijjdlppoblaaGreatDoor
open Go.RowKit
set_option linter.unusedVariables false
set_option maxRecDepth 100000

/-- One call of the closure, and what is derived. -/
theorem tel_step {t : Sq} {W : List Sq} {R : List Int} {out : List Sq} {Z : List Int} {f : Bool} (hd : Der (t :: W) R out Z f) :
    (∃ o p R' out', tel 3 t R = some (o, p, R') ∧ out = o ++ out' ∧ Der (p ++ W) R' out' Z f ∧ p.length + 10 * R'.length ≤ 10 * R.length ∧ o.length + p.length + 10 * R'.length ≤ 1 + 10 * R.length) ∨ (tel 3 t R = none ∧ f = false) := by
  cases hx : tel 3 t R with
  | none =>
    obtain ⟨Y, hY⟩ := tel_none 3 t R (ch_all t) hx W
    exact .inr ⟨rfl, (hd.det hY).2.2⟩
  | some y =>
    obtain ⟨o, p, R'⟩ := y
    obtain ⟨out', Z', f', h⟩ := der_ex R' (p ++ W)
    obtain ⟨e1, e2, e3⟩ := hd.det (tel_some 3 t R (ch_all t) hx _ _ _ _ h)
    subst e2 e3
    have hs := tel_size 3 t R hx
    exact .inl ⟨o, p, R', out', rfl, e1, h, hs.1, hs.2⟩
/-- How derived ends. -/
def DvE (is : Bool) (m : Nat) (X : List Sq) (w : World) (e : Ending) (w' : World) : Prop :=
  if is = true then ∃ A c, e = .returned (.slice A m c) ∧ Below w.heap.size w w' ∧ Sr w' A X ∧ (A = none → m = 0 ∧ c = 0) else e = wrY ∧ Below w.heap.size w w'
/-- The world in which the closure is called first. -/
def w4Y (w : World) (A : Option Addr) (n c : Nat) : World :=
  (((w.alloc (.cells #[.slice A n c] 22)).alloc (.cells #[.slice none 0 0] 42)).alloc (.cells #[.slice none 0 0] 42)).alloc (.cells #[fnY (w.heap.size + 1) w.heap.size (w.heap.size + 1 + 1) (w.heap.size + 1 + 1 + 1)] 91)
theorem kx_start (w : World) {R : List Int} {A : Option Addr} {n c : Nat} (hA : Ri w A R) (hl : R.length = n) (hc : n ≤ c) :
    Kx w (w.heap.size + 1) w.heap.size (w.heap.size + 1 + 1) (w.heap.size + 1 + 1 + 1) [] [] R A n c (.slice none 0 0) (.slice none 0 0) (w4Y w A n c) := by
  have a1 := heap_alloc_new w (.cells #[.slice A n c] 22)
  have a2 := heap_alloc_new (w.alloc (.cells #[.slice A n c] 22)) (.cells #[.slice none 0 0] 42)
  have a3 := heap_alloc_new ((w.alloc (.cells #[.slice A n c] 22)).alloc (.cells #[.slice none 0 0] 42)) (.cells #[.slice none 0 0] 42)
  have a4 := heap_alloc_new (((w.alloc (.cells #[.slice A n c] 22)).alloc (.cells #[.slice none 0 0] 42)).alloc (.cells #[.slice none 0 0] 42)) (.cells #[fnY (w.heap.size + 1) w.heap.size (w.heap.size + 1 + 1) (w.heap.size + 1 + 1 + 1)] 91)
  simp only [World.size_alloc] at a2 a3 a4
  exact {
    f := (heap_alloc_old _ _ (by simp only [World.size_alloc]; omega)).trans ((heap_alloc_old _ _ (by simp only [World.size_alloc]; omega)).trans a2)
    r := (heap_alloc_old _ _ (by simp only [World.size_alloc]; omega)).trans ((heap_alloc_old _ _ (by simp only [World.size_alloc]; omega)).trans ((heap_alloc_old _ _ (by simp only [World.size_alloc]; omega)).trans a1))
    q := (heap_alloc_old _ _ (by simp only [World.size_alloc]; omega)).trans a3
    t := a4
    hf := by omega
    hr := Nat.le_refl _
    hq := by omega
    ne := by omega
    of := World.ownsRow_nil _ _ _ _
    oq := World.ownsRow_nil _ _ _ _
    on := .inl rfl
    rr := hA
    rl := hl
    rc := hc
    bel := bel_alloc (bel_alloc (bel_alloc (bel_alloc (Below.refl _ _) _) _) _) _ }
theorem Kx.pop' {w0 : World} {bf br bw bt : Nat} {F W : List Sq} {R : List Int} {A : Option Addr} {n c : Nat} {vf : Value} {w : World} {t : Sq} {g cap M N : Nat} (h : Kx w0 bf br bw bt F (t :: W) R A n c vf (.slice (some ⟨g, 0, none⟩) M cap) w) (hN : W.length = N) (hM : M = N + 1) :
    Kx w0 bf br bw bt F W R A n c vf (.slice (some ⟨g, 0, none⟩) N cap) (w.setCell ⟨bw, 0, none⟩ (.slice (some ⟨g, 0, none⟩) N cap)) := by
  subst hN hM
  exact h.pop
/-- What holds at the loop's head. -/
def Wy (w : World) (N : Nat) (out : List Sq) (Z : List Int) (f : Bool) (F W : List Sq) (R : List Int) (wr : World) : Prop :=
  KE w (w.heap.size + 1) w.heap.size (w.heap.size + 1 + 1) (w.heap.size + 1 + 1 + 1) F W R wr ∧ F.length + W.length + 10 * R.length ≤ 1 + 10 * N ∧ ∃ o, Der W R o Z f ∧ F ++ o = out
set_option maxHeartbeats 4000000 in
theorem derived_any {w : World} {A : Option Addr} {n m c : Nat} {R Z : List Int} {out : List Sq} {f : Bool} (hd : Der docS R out Z f) (hm : out.length = m) (hl : R.length = n) (hc : n ≤ c) (hn : n ≤ 2000) (hA : Ri w A R) (ht : TabR w) :
    Calls Tryz.prog 36 #[.slice A n c] w fun e w' => DvE (f && Z.isEmpty) m out w e w' := by
  have hmf : ∀ (fn : Fn) (first cap : Array Value) (w : World), (Instr.makeFunc fn first cap).run Tryz.prog w = .ok (.func fn first cap) w := fun _ _ _ _ => rfl
  have HA := Lib.hid hA
  have HD := Lib.hid hd
  have HM := Lib.hid hm
  have HL := Lib.hid hl
  have rr := ansT_all (bf := w.heap.size + 1) (br := w.heap.size) (bw := w.heap.size + 1 + 1) (bt := w.heap.size + 1 + 1 + 1) ht 3
  have hst : Der [⟨1, 0⟩] R out Z f := hd
  have hlen : 10 * R.length + 1 ≤ 20001 := by omega
  have hk0 := kx_start (R := R) w hA hl hc
  cases hx : tel 3 ⟨1, 0⟩ R with
  | none =>
    have hf : f = false := by
      rcases tel_step hst with ⟨o, p, R', out', h1, _⟩ | ⟨_, h⟩
      · rw [hx] at h1; cases h1
      · exact h
    subst hf
    have r1 := rr ⟨1, 0⟩ [] [] R _ (ch_all _) (by simp; omega) ⟨_, _, _, _, _, hk0⟩
    rw [hx] at r1
    unfold w4Y fnY at r1
    clear hd hA ht hm hl hst hx rr hk0 hlen
    go_enter Tryz.func36, Tryz.ntmps36
    go_wp2_with fail
    ((with_reducible refine r1.mono ?_))
    rintro e w1 ⟨he, hb1⟩
    unfold wrY at he
    subst he
    have HB1 := Lib.hid hb1
    clear hb1 r1
    go_wp2
    exact ⟨rfl, rfl, HB1.out⟩
  | some y =>
    obtain ⟨o, p, R', out', h1, h2, h3, -, h5⟩ : ∃ o p R' out', y = (o, p, R') ∧ out = o ++ out' ∧ Der (p ++ []) R' out' Z f ∧ p.length + 10 * R'.length ≤ 10 * R.length ∧ o.length + p.length + 10 * R'.length ≤ 1 + 10 * R.length := by
      rcases tel_step hst with ⟨o, p, R', out', h1, h2⟩ | ⟨h1, _⟩
      · rw [hx] at h1; cases h1; exact ⟨o, p, R', out', rfl, h2⟩
      · rw [hx] at h1; cases h1
    subst h1
    have r1 := rr ⟨1, 0⟩ [] [] R _ (ch_all _) (by simp; omega) ⟨_, _, _, _, _, hk0⟩
    rw [hx] at r1
    unfold w4Y fnY at r1
    have HY := Lib.hid (show ∀ w1, KE w (w.heap.size + 1) w.heap.size (w.heap.size + 1 + 1) (w.heap.size + 1 + 1 + 1) ([] ++ o) (p ++ []) R' w1 → Wy w R.length out Z f ([] ++ o) (p ++ []) R' w1 from fun w1 hk => ⟨hk, by rw [List.append_nil, List.nil_append]; omega, out', h3, by rw [List.nil_append, h2]⟩)
    have RR := Lib.hid rr
    obtain ⟨G, hG⟩ : ∃ G, 10 * R'.length + p.length = G := ⟨_, rfl⟩
    have HG := Lib.hid hG
    clear hd hA ht hm hl hst hx hk0 h2 h3 h5 rr hG
    go_enter Tryz.func36, Tryz.ntmps36
    go_wp2_with fail
    ((with_reducible refine r1.mono ?_))
    rintro e w1 ⟨rfl, hk1⟩
    have HW := Lib.hid (HY.out _ hk1)
    clear hk1 r1 HY hlen
    go_wp2_with fail
    go_loopg [] G (fun gh wr => ∃ F W R', gh = 10 * R'.length + W.length ∧ Hid (Wy w n out Z f F W R' wr))
    case atStart => exact ⟨[] ++ o, p ++ [], R', by rw [List.append_nil]; exact HG.out.symm, by rw [← HL.out]; exact HW⟩
    case round =>
      obtain ⟨F, W, Rr, hg, hW⟩ := hrel
      have HGG := Lib.hid hg
      clear hg HW HG
      obtain ⟨⟨A3, n3, c3, vf3, vw3, k3⟩, hlen, o', hd3, ho3⟩ := hW.out
      cases W with
      | nil =>
        obtain ⟨rfl, rfl, rfl⟩ : o' = [] ∧ Z = Rr ∧ f = true := by cases hd3; exact ⟨rfl, rfl, rfl⟩
        obtain rfl : F = out := by rw [← ho3, List.append_nil]
        obtain ⟨B5, m5, d5, rfl⟩ := own_sl k3.oq
        obtain ⟨B6, m6, d6, rfl⟩ := own_sl k3.of
        obtain ⟨rfl, -, -⟩ := sr_row (ts := []) k3.oq
        obtain ⟨x1, x2, x3⟩ := sr_row k3.of
        have x4 : m6 = m := x1.trans HM.out
        subst x4
        have cq := cell_of_one k3.q
        have cr := cell_of_one k3.r
        have cf := cell_of_one k3.f
        have X2 := Lib.hid x2
        have X3 := Lib.hid x3
        have HB := Lib.hid k3.bel
        have hn3 := k3.rl
        clear hd3 ho3 hW k3 x1 x2 x3 hlen
        cases Z with
        | nil =>
          obtain rfl : n3 = 0 := hn3.symm
          go_wp2_with fail
          go_ret
          exact ⟨B6, d6, rfl, HB.out, X2.out, X3.out⟩
        | cons i Z =>
          obtain ⟨N, rfl⟩ : ∃ N, n3 = N + 1 := ⟨Z.length, hn3.symm⟩
          have q1 : (0 : Int) < (N : Int) + 1 := by omega
          go_wp2_with fail
          exact ⟨rfl, rfl, HB.out⟩
      | cons t W =>
        obtain ⟨N, hN⟩ : ∃ N, W.length = N := ⟨_, rfl⟩
        obtain ⟨M, hM⟩ : ∃ M, M = N + 1 := ⟨_, rfl⟩
        have hlenM : (t :: W).length = M := by rw [List.length_cons, hN, hM]
        obtain ⟨g, cap, hv, hgb, hgl⟩ := k3.oq.form (Nat.succ_pos _)
        rw [hlenM] at hv
        subst hv
        have hst := k3.oq
        rw [hlenM] at hst
        have hcap : M ≤ cap := by
          rcases hst.2 with ⟨h0, _⟩ | ⟨g', cap', cur, hv, _, _, hn, _⟩
          · cases h0
          · cases hv; exact hn
        have htop : (t :: W).reverse[N]? = some t := by rw [← hN]; simp
        have hst2 : wr.ownsRow w.heap.size 59 2 (.slice (some ⟨g, 0, none⟩) M cap) (t :: W).reverse.length (cly (t :: W).reverse) := by
          rw [List.length_reverse, hlenM]; exact hst
        obtain ⟨b, o2, e0, c0, c1⟩ := (sr_row hst2).2.1 N t htop
        obtain ⟨rfl, rfl⟩ : g = b ∧ 0 = o2 := by simpa using e0
        rw [Nat.zero_add] at c0 c1
        have hM2 : M ≤ 20001 := by rw [hlenM] at hlen; omega
        have q1 : (M : Int) - 1 = (N : Int) := by omega
        have q2 : N < M := by omega
        have q6 : (0 : Int) < (M : Int) := by omega
        have q4 : IntKind.i64.wrap ((M : Int) - 1) = (N : Int) := by rw [q1]; exact IntWalk.i64_in _ (by omega)
        have q8 : IntKind.i64.wrap (N : Int) = (N : Int) := IntWalk.i64_in _ (by omega)
        have q5 : N ≤ cap := by omega
        have q7 : (N : Int) < (M : Int) := by omega
        have kp := (k3.pop' hN hM).below (bel_alloc (Below.refl _ _) (.cells #[.int .i64 t.k, .int .i64 t.n] 59))
        have cq := cell_of_one k3.q
        have lq := lt_of_block k3.q
        have gq := free_of_one k3.q
        have ct := cell_of_one k3.t
        unfold fnY at ct
        have lt := lt_of_block k3.t
        have r2 := RR.out t F W Rr _ (ch_all t) (by rw [hlenM] at hlen; omega) ⟨_, _, _, _, _, kp⟩
        have HO3 := Lib.hid ho3
        rcases tel_step hd3 with ⟨o4, p4, R4, out4, h1, h2, h3, h4, h5⟩ | ⟨h1, hf⟩
        · rw [h1] at r2
          have HY := Lib.hid (show ∀ w1, KE w (w.heap.size + 1) w.heap.size (w.heap.size + 1 + 1) (w.heap.size + 1 + 1 + 1) (F ++ o4) (p4 ++ W) R4 w1 → Wy w n out Z f (F ++ o4) (p4 ++ W) R4 w1 from
            fun w1 hk => ⟨hk, by rw [List.length_append, List.length_append]; rw [List.length_cons] at hlen; omega, out4, h3, by rw [← HO3.out, h2, List.append_assoc]⟩)
          have hms : 10 * R4.length + (p4 ++ W).length < gk := by rw [HGG.out, List.length_append, List.length_cons]; omega
          have HMS := Lib.hid hms
          clear k3 kp hst hst2 htop e0 hd3 ho3 hlen hlenM hN hM h1 h2 h3 h4 h5 hms hW
          go_wp2_with fail
          ((with_reducible refine r2.mono ?_))
          rintro e w5 ⟨rfl, hk5⟩
          have HW5 := Lib.hid (HY.out _ hk5)
          clear hk5 r2 HY c0 c1 cq ct gq
          go_wp2_with fail
          go_roundg (10 * R4.length + (p4 ++ W).length)
          case measure => exact HMS.out
          case rel => exact ⟨_, _, _, rfl, HW5⟩
        · subst hf
          rw [h1] at r2
          clear k3 kp hst hst2 htop e0 hd3 ho3 hlen hlenM hN hM h1 hW
          go_wp2_with fail
          ((with_reducible refine r2.mono ?_))
          rintro e w5 ⟨he, hb5⟩
          unfold wrY at he
          subst he
          have HB5 := Lib.hid hb5
          clear hb5 r2
          go_wp2
          exact ⟨rfl, rfl, HB5.out⟩
end Go.Proofs.YtpcijjdlppoblaaGreatDoor

/- Package yield: Full, Yield, Derives. -/
namespace Go.Proofs.YtpcijjdlppoblaaGreatDoor
open Go.RowKit
set_option linter.unusedVariables false
set_option maxRecDepth 100000

set_option maxHeartbeats 400000 in
theorem catchY_wrong (b1 b2 : Nat) (v1 : Value) (v2 : Bool) (older : List PanicEntry) (w : World)
    (c1 : w.cell? ⟨b1, 0, none⟩ = some v1) (c2 : w.cell? ⟨b2, 0, none⟩ = some (.bool v2))
    (f1 : w.frozen? ⟨b1, 0, none⟩ = false) (f2 : w.frozen? ⟨b2, 0, none⟩ = false) (n12 : b1 ≠ b2) :
    CallsD Tryz.prog 35 #[.pointer (some ⟨b1, 0, none⟩), .pointer (some ⟨b2, 0, none⟩)] (.panicking ({ v := .iface 67 (.agg #[]), recovered := false } :: older)) w fun e u' w' =>
      e = .returned (.tuple #[]) ∧ u' = .panicking ({ v := .iface 67 (.agg #[]), recovered := true } :: older) ∧
      w' = ((w.setCell ⟨b1, 0, none⟩ (.slice none 0 0)).setCell ⟨b2, 0, none⟩ (.bool false)).alloc (.cells #[] 67) := by
  have hta : ∀ w, (Instr.typeAssert (.iface 67 (.agg #[])) 20 67 true).run Tryz.prog w = .ok (.tuple #[.agg #[], .bool true]) w := fun w => by kernel_rfl
  have l1 : b1 < w.heap.size := World.block_lt_of_cell? _ _ c1
  have l2 : b2 < w.heap.size := World.block_lt_of_cell? _ _ c2
  refine callsD_of_wpS Tryz.func35 rfl fun c₀ cs hu => ?_
  apply wpS_seq
  apply wpS_region
  simp [wpOpsS, go_sem, recoverD, hu, Tryz.ntmps35, Exit.thenS, hta, Array.replicate_succ]
  apply wpS_seq
  apply wpS_region
  simp [wpOpsS, go_sem, Exit.thenS]
  refine wpS_cond (t := true) (by simp [Act.eval]) ?_
  simp only [if_true]
  apply wpS_region
  simp [wpOpsS, go_sem, c1, c2, f1, f2, l1, l2, bodyPostS, results, Tryz.results35]

set_option maxHeartbeats 400000 in
theorem catchY_idle (b1 b2 : Nat) (w : World) :
    CallsD Tryz.prog 35 #[.pointer (some ⟨b1, 0, none⟩), .pointer (some ⟨b2, 0, none⟩)] .returning w fun e u' w' => e = .returned (.tuple #[]) ∧ u' = .returning ∧ w' = w.alloc (.cells #[] 67) := by
  have hta : ∀ w, (Instr.typeAssert .nilIface 20 67 true).run Tryz.prog w = .ok (.tuple #[.agg #[], .bool false]) w := fun w => by kernel_rfl
  refine callsD_of_wpS Tryz.func35 rfl fun c₀ cs hu => ?_
  apply wpS_seq
  apply wpS_region
  simp [wpOpsS, go_sem, recoverD, hu, Tryz.ntmps35, Exit.thenS, hta, Array.replicate_succ]
  apply wpS_seq
  apply wpS_region
  simp [wpOpsS, go_sem, Exit.thenS]
  refine wpS_cond (t := false) (by simp [Act.eval]) ?_
  simp only [Bool.false_eq_true, if_false]
  refine wpS_of_wp (wp_skip ?_)
  cases c₀
  simp_all [bodyPostS, results, Tryz.results35]

/-- The two results' variables. -/
structure CvY (w0 : World) (w : World) : Prop where
  h1 : w.heap[w0.heap.size]? = some (.cells #[.slice none 0 0] 42 (0, 0))
  h2 : w.heap[w0.heap.size + 1]? = some (.cells #[.bool false] 4 (0, 0))
  bel : Below w0.heap.size w0 w
theorem cvY_start {w w1 : World} (h : Below ((w.alloc (.cells #[.slice none 0 0] 42)).alloc (.cells #[.bool false] 4)).heap.size
    ((w.alloc (.cells #[.slice none 0 0] 42)).alloc (.cells #[.bool false] 4)) w1) : CvY w w1 := by
  have a1 := heap_alloc_new w (.cells #[.slice none 0 0] 42)
  have a2 := heap_alloc_new (w.alloc (.cells #[.slice none 0 0] 42)) (.cells #[.bool false] 4)
  simp only [World.size_alloc] at a2
  have a3 := (heap_alloc_old (w.alloc (.cells #[.slice none 0 0] 42)) (.cells #[.bool false] 4) (by simp only [World.size_alloc]; omega)).trans a1
  exact ⟨(h.block _ (lt_of_block a3)).trans a3, (h.block _ (lt_of_block a2)).trans a2, bel_trans (bel_alloc (bel_alloc (Below.refl _ _) _) _) h⟩
theorem setY_cell {W : World} {q : Nat} {u : Value} (h : W.cell? ⟨q, 0, none⟩ = some u) (p : Nat) (v : Value) : (W.setCell ⟨p, 0, none⟩ v).cell? ⟨q, 0, none⟩ = some (if p = q then v else u) := by
  by_cases e : p = q
  · subst e; rw [if_pos rfl]; exact World.cell?_setCell_same' _ _ _ (by rw [h]; rfl)
  · rw [if_neg e, World.cell?_setCell_far _ _ _ _ (by exact e)]; exact h
/-- Both written. -/
def w2Y (w0 w : World) (x y : Value) : World := ((w.setCell ⟨w0.heap.size, 0, none⟩ x).setCell ⟨w0.heap.size + 1, 0, none⟩ y).alloc (.cells #[] 67)
theorem CvY.both {w0 w : World} (h : CvY w0 w) (x y : Value) : (w2Y w0 w x y).cell? ⟨w0.heap.size, 0, none⟩ = some x ∧ (w2Y w0 w x y).cell? ⟨w0.heap.size + 1, 0, none⟩ = some y ∧ Below w0.heap.size w0 (w2Y w0 w x y) := by
  have c1 := cell_of_one h.h1
  have c2 := cell_of_one h.h2
  refine ⟨bel_cell (bel_alloc (Below.refl _ _) _) ?_, bel_cell (bel_alloc (Below.refl _ _) _) ?_, bel_alloc ((h.bel.setCell (Nat.le_refl _) _).setCell (by show _ ≤ w0.heap.size + 1; omega) _) _⟩
  · rw [setY_cell (setY_cell c1 _ x) _ y, if_neg (by omega), if_pos rfl]
  · rw [setY_cell (setY_cell c2 _ x) _ y, if_pos rfl]
/-- A row of symbols lies in no box of one cell. -/
theorem Sr.setbox {w : World} {A : Option Addr} {ts : List Sq} (h : Sr w A ts) {g : Nat} {v : Value} {t : TypeId} (hg : w.heap[g]? = some (.cells #[v] t (0, 0))) (u : Value) : Sr (w.setCell ⟨g, 0, none⟩ u) A ts := fun i s hs => by
  obtain ⟨b, o, e, h1, h2⟩ := h i s hs
  have hne : g ≠ b := by
    rintro rfl
    simp [World.cell?, hg] at h2
  refine ⟨b, o, e, ?_, ?_⟩
  · rw [World.cell?_setCell_far _ _ _ _ (by exact hne)]; exact h1
  · rw [World.cell?_setCell_far _ _ _ _ (by exact hne)]; exact h2
theorem CvY.row {w0 w : World} (h : CvY w0 w) {A : Option Addr} {ts : List Sq} (hs : Sr w A ts) (x y : Value) : Sr (w2Y w0 w x y) A ts :=
  ((hs.setbox h.h1 x).setbox ((Below.heap_setCell _ _ _ _ (by show w0.heap.size + 1 ≠ w0.heap.size; omega)).trans h.h2) y).below (bel_alloc (Below.refl _ _) _)
/-- How Full ends. -/
def FuE (is : Bool) (m : Nat) (X : List Sq) (w : World) (e : Ending) (w' : World) : Prop :=
  ∃ A c, e = .returned (.tuple #[.slice A m c, .bool is]) ∧ Below w.heap.size w w' ∧ Sr w' A X ∧ (A = none → m = 0 ∧ c = 0)
set_option maxHeartbeats 1000000 in
theorem full_any {w : World} {A : Option Addr} {n m c : Nat} {R : List Int} {X : List Sq} {is : Bool} (hf : Ful R X is) (hm : X.length = m) (hl : R.length = n) (hc : n ≤ c) (hn : n ≤ 2000) (hA : Ri w A R) (ht : TabR w) :
    Calls Tryz.prog 23 #[.slice A n c] w fun e w' => FuE is m X w e w' := by
  have hmf : ∀ (fn : Fn) (first cap : Array Value) (w : World), (Instr.makeFunc fn first cap).run Tryz.prog w = .ok (.func fn first cap) w := fun _ _ _ _ => rfl
  obtain ⟨out, Z, f, hd, h1, h2⟩ := hf
  have r1 := fun (w1 : World) (hb : Below w.heap.size w w1) => derived_any (c := c) hd rfl hl hc hn (hA.below hb) (ht.below hb)
  rw [← h1] at r1
  clear hd h1 hl hc hn hA ht
  have HR := Lib.hid r1
  clear r1
  cases is
  · rw [if_neg (by simp)] at h2
    subst h2
    obtain rfl : m = 0 := hm.symm
    clear hm
    go_enter_defers Tryz.func23, Tryz.ntmps23
    go_wp2_with fail
    refine (HR.out _ (bel_alloc (bel_alloc (Below.refl _ _) _) _)).mono ?_
    rintro e w1 ⟨he, hb1⟩
    unfold wrY at he
    subst he
    have cv := cvY_start hb1
    have C := Lib.hid cv
    have c1 := cell_of_one cv.h1
    have c2 := cell_of_one cv.h2
    have f1 := free_of_one cv.h1
    have f2 := free_of_one cv.h2
    clear HR hb1 cv hmf
    go_wp2_with fail
    refine leaves_cons (f := 35) (args := #[.pointer (some ⟨w.heap.size, 0, none⟩), .pointer (some ⟨w.heap.size + 1, 0, none⟩)]) (by simp) (by simp [go_sem]) ?_
    refine (catchY_wrong _ _ (.slice none 0 0) false [] _ c1 c2 f1 f2 (by omega)).mono ?_
    rintro e u' w'' ⟨rfl, rfl, rfl⟩
    obtain ⟨k1, k2, k3⟩ := C.out.both (.slice none 0 0) (.bool false)
    unfold w2Y at k1 k2 k3
    refine ⟨.tuple #[.slice none 0 0, .bool false], ?_, none, 0, rfl, k3, Sr.nil _ _, fun _ => ⟨rfl, rfl⟩⟩
    generalize ((w1.setCell ⟨w.heap.size, 0, none⟩ (.slice none 0 0)).setCell ⟨w.heap.size + 1, 0, none⟩ (.bool false)).alloc (.cells #[] 67) = W at k1 k2 ⊢
    simp [results, Tryz.results23, go_sem, k1, k2]
  · rw [if_pos rfl] at h2
    subst h2
    rw [hm] at HR
    clear hm
    go_enter_defers Tryz.func23, Tryz.ntmps23
    go_wp2_with fail
    refine (HR.out _ (bel_alloc (bel_alloc (Below.refl _ _) _) _)).mono ?_
    rintro e w1 ⟨B, d, rfl, hb1, hs1, hn1⟩
    have cv := cvY_start hb1
    have C := Lib.hid cv
    have HS1 := Lib.hid hs1
    have HN1 := Lib.hid hn1
    have c1 := cell_of_one cv.h1
    have c2 := cell_of_one cv.h2
    have f1 := free_of_one cv.h1
    have f2 := free_of_one cv.h2
    clear HR hb1 hs1 hn1 cv hmf
    go_wp2_with fail
    refine leaves_cons (f := 35) (args := #[.pointer (some ⟨w.heap.size, 0, none⟩), .pointer (some ⟨w.heap.size + 1, 0, none⟩)]) (by simp) (by simp [go_sem]) ?_
    refine (catchY_idle _ _ _).mono ?_
    rintro e u' w'' ⟨rfl, rfl, rfl⟩
    obtain ⟨k1, k2, k3⟩ := C.out.both (.slice B m d) (.bool true)
    have k4 := C.out.row HS1.out (.slice B m d) (.bool true)
    unfold w2Y at k1 k2 k3 k4
    refine ⟨.tuple #[.slice B m d, .bool true], ?_, B, d, rfl, k3, k4, HN1.out⟩
    generalize ((w1.setCell ⟨w.heap.size, 0, none⟩ (.slice B m d)).setCell ⟨w.heap.size + 1, 0, none⟩ (.bool true)).alloc (.cells #[] 67) = W at k1 k2 ⊢
    simp [results, Tryz.results23, go_sem, k1, k2]
/-- How Yield ends. -/
def YiE (is : Bool) (m : Nat) (X : List Sq) (w : World) (e : Ending) (w' : World) : Prop :=
  ∃ A c, e = .returned (.tuple #[.slice A m c, .bool is]) ∧ Below w.heap.size w w' ∧ Sr w' A X ∧ (A = none → m = 0 ∧ c = 0)
/-- Plain, its answer's length under a name of its own. -/
def PnE (m : Nat) (L : List Sq) (w : World) (e : Ending) (w' : World) : Prop := ∃ A c, e = .returned (.slice A m c) ∧ Below w.heap.size w w' ∧ Sr w' A L ∧ (A = none → m = 0 ∧ c = 0)
theorem plainY_n {w : World} {A : Option Addr} {n m c : Nat} {ts L : List Sq} (hL : plS ts = L) (hm : L.length = m) (ha : Sr w A ts) (hn : ts.length = n) (hz : n ≤ 1000000) :
    Calls Tryz.prog 61 #[.slice A n c] w fun e w' => PnE m L w e w' := by
  subst hm
  exact (plain_lies hL ha hn hz).mono (by rintro e w' ⟨A, c, rfl, hb, hs, h0, h1⟩; exact ⟨A, c, rfl, hb, hs, h0⟩)
theorem ful_len {R : List Int} {X : List Sq} {is : Bool} (h : Ful R X is) : X.length ≤ 1 + 10 * R.length := by
  obtain ⟨out, Z, f, d, rfl, rfl⟩ := h
  have key : ∀ {S out : List Sq} {R Z : List Int} {f : Bool}, Der S R out Z f → out.length ≤ S.length + 10 * R.length := by
    intro S out R Z f d
    induction d with
    | nil => simp
    | put _ _ ih => rw [List.length_cons, List.length_cons]; omega
    | @var t S i R Z out f _ _ _ ih =>
      have := tlI_len i
      rw [List.length_append] at ih
      rw [List.length_cons, List.length_cons]
      omega
    | none _ => simp
    | stop _ _ => simp
  split
  · have := key d; rw [show docS.length = 1 from rfl] at this; exact this
  · simp
set_option maxHeartbeats 1000000 in
theorem yield_any {w : World} {A : Option Addr} {n m c : Nat} {R : List Int} {X Y : List Sq} {is : Bool} (hf : Ful R X is) (hY : plS X = Y) (hm : Y.length = m) (hl : R.length = n) (hc : n ≤ c) (hn : n ≤ 2000) (hA : Ri w A R) (ht : TabR w) :
    Calls Tryz.prog 39 #[.slice A n c] w fun e w' => YiE is m Y w e w' := by
  obtain ⟨k, hk⟩ : ∃ k, X.length = k := ⟨_, rfl⟩
  have hk2 : k ≤ 20001 := by have := ful_len hf; omega
  have r1 := full_any (c := c) hf hk hl hc hn hA ht
  have r2 := fun {w A c} h => plainY_n (w := w) (A := A) (c := c) hY hm h hk (by omega)
  clear hf hY hm hl hA ht hk
  go_enter Tryz.func39, Tryz.ntmps39
  go_wp2_with fail
  ((with_reducible refine r1.mono ?_))
  rintro e w1 ⟨B, d, rfl, hb1, hs1, -⟩
  have HB1 := Lib.hid hb1
  have r3 := r2 (c := d) hs1
  clear hb1 hs1 r1
  go_wp2_with fail
  ((with_reducible refine r3.mono ?_))
  rintro e w2 ⟨B2, d2, rfl, hb2, hs2, hn2⟩
  have HB2 := Lib.hid (bel_trans HB1.out hb2)
  have HS2 := Lib.hid hs2
  have HN2 := Lib.hid hn2
  clear hb2 hs2 hn2 r3
  go_wp2_with fail
  go_ret2
  exact ⟨B2, d2, rfl, HB2.out, HS2.out, HN2.out⟩
end Go.Proofs.YtpcijjdlppoblaaGreatDoor

/- Package yield: Derives; the common beginning: awake. -/
namespace Go.Proofs.YtpcijjdlppoblaaGreatDoor
open Go.RowKit
set_option linter.unusedVariables false
set_option maxRecDepth 100000

set_option maxHeartbeats 1000000 in
theorem derives_any {w : World} {A A2 : Option Addr} {n c n2 c2 : Nat} {R L : List Int} {X : List Sq} {is r : Bool} (hf : Ful R X is) (hr : derB is X L = r) (hl : R.length = n) (hc : n ≤ c) (hn : n ≤ 2000) (hA : Ri w A R) (hl2 : L.length = n2) (hn2 : n2 ≤ 1000) (hA2 : Ri w A2 L) (ht : TabR w) :
    Calls Tryz.prog 25 #[.slice A n c, .slice A2 n2 c2] w fun e w' => e = .returned (.bool r) ∧ Below w.heap.size w w' := by
  obtain ⟨Y, hY⟩ : ∃ Y, plS X = Y := ⟨_, rfl⟩
  obtain ⟨m, hm⟩ : ∃ m, Y.length = m := ⟨_, rfl⟩
  have r1 := yield_any (c := c) hf hY hm hl hc hn hA ht
  have hm2 : m ≤ 20001 := by have h1 := ful_len hf; have h2 := plS_le X; rw [hY] at h2; omega
  rw [derB, hY] at hr
  have HA2 := Lib.hid hA2
  have HT := Lib.hid ht
  clear hf hY hl hc hn hA ht hA2
  cases is
  · have hr : false = r := hr
    subst hr
    clear hm hl2 hm2
    go_enter Tryz.func25, Tryz.ntmps25
    go_wp2_with fail
    ((with_reducible refine r1.mono ?_))
    rintro e w1 ⟨B, d, rfl, hb1, hs1, -⟩
    have HB1 := Lib.hid hb1
    clear hb1 hs1 r1
    go_wp2_with fail
    go_ret
    exact ⟨rfl, HB1.out⟩
  · by_cases hmn : m = n2
    · subst hmn
      have q1 : ((m : Int) != (m : Int)) = false := by simp
      rw [Bool.true_and, hm, hl2, decide_eq_true rfl, Bool.true_and] at hr
      have HR := Lib.hid hr
      have HM := Lib.hid hm
      have HL := Lib.hid hl2
      clear hr hm hl2
      go_enter Tryz.func25, Tryz.ntmps25
      go_wp2_with fail
      ((with_reducible refine r1.mono ?_))
      rintro e w1 ⟨B, d, rfl, hb1, hs1, -⟩
      have HB1 := Lib.hid hb1
      have HS1 := Lib.hid hs1
      clear hb1 hs1 r1
      go_wp2_with fail
      go_loopw [25] (fun q wr => ∃ k : Nat, q = .int .i64 k ∧ k ≤ m ∧ Hid (fitA (hdL L) k (Y.drop k) = r) ∧ Below w1.heap.size w1 wr) (fun q _ => m - (intOf q).toNat)
      case atStart => exact ⟨0, rfl, Nat.zero_le _, by rw [List.drop_zero]; exact HR, Below.refl _ _⟩
      case round =>
        obtain ⟨k, rfl, hk, hg, hB⟩ := hrel
        by_cases hlt : k < m
        · obtain ⟨t, htt⟩ : ∃ t, Y[k]? = some t := ⟨_, List.getElem?_eq_getElem (by rw [HM.out]; exact hlt)⟩
          obtain ⟨x, hx⟩ : ∃ x, L[k]? = some x := ⟨_, List.getElem?_eq_getElem (by rw [HL.out]; exact hlt)⟩
          obtain ⟨b, o, rfl, c0, c1⟩ := (HS1.out.below hB) k t htt
          have hbw := bel_trans HB1.out hB
          obtain ⟨b2, o2, rfl, e0⟩ := (HA2.out.below hbw) k x hx
          have hg' := hg.out
          rw [fitA_drop htt, hdL_some hx] at hg'
          have q2 : (k : Int) < (m : Int) := by omega
          obtain ⟨y, hy⟩ : ∃ y, fitK x t = y := ⟨_, rfl⟩
          rw [hy] at hg'
          have hb3 := bel_two' wr (.cells #[.int .i64 t.k, .int .i64 t.n] 59)
          have r2 := pfits_any (t := t) hy (w := (wr.alloc (.cells #[.int .i64 t.k, .int .i64 t.n] 59)).drew) (HT.out.below (bel_trans hbw hb3))
          have HB3 := Lib.hid (bel_trans hbw hb3)
          have HBB3 := Lib.hid (bel_trans hB hb3)
          have ez := bel_cell (bel_alloc (Below.refl _ wr) (.cells #[.int .i64 t.k, .int .i64 t.n] 59)) e0
          have z0 : (wr.alloc (.cells #[.int .i64 t.k, .int .i64 t.n] 59)).cell? ⟨wr.heap.size, 0, none⟩ = some (.int .i64 t.k) := by simp [go_sem]
          have z1 : (wr.alloc (.cells #[.int .i64 t.k, .int .i64 t.n] 59)).cell? ⟨wr.heap.size, 1, none⟩ = some (.int .i64 t.n) := by simp [go_sem]
          clear htt hx hg hbw hb3 hy hB e0
          cases y
          · have hr2 : false = r := hg'
            subst hr2
            clear hg'
            go_wp2_with fail
            generalize wr.alloc (.cells #[.int .i64 t.k, .int .i64 t.n] 59) = W4 at ez z0 z1 r2 HB3 HBB3 ⊢
            go_still_tail 5, (by kernel_rfl)
            change wpList _ _ _ _ _ W4.drew
            go_wp2_with fail
            ((with_reducible refine r2.mono ?_))
            rintro e w3 ⟨rfl, hb4⟩
            have HB4 := Lib.hid (bel_trans HB3.out hb4)
            clear hb4 r2
            go_wp2_with fail
            go_ret
            exact ⟨rfl, HB4.out⟩
          · have HG := Lib.hid (show fitA (hdL L) (k + 1) (Y.drop (k + 1)) = r from hg')
            clear hg'
            go_wp2_with fail
            generalize wr.alloc (.cells #[.int .i64 t.k, .int .i64 t.n] 59) = W4 at ez z0 z1 r2 HB3 HBB3 ⊢
            go_still_tail 5, (by kernel_rfl)
            change wpList _ _ _ _ _ W4.drew
            go_wp2_with fail
            ((with_reducible refine r2.mono ?_))
            rintro e w3 ⟨rfl, hb4⟩
            have HB4 := Lib.hid (bel_trans HBB3.out hb4)
            clear hb4 r2
            go_wp2_with fail
            go_roundw
            case rel => exact ⟨k + 1, by go_num, by omega, HG, HB4.out⟩
            case measure => simp [intOf]; omega
        · obtain rfl : k = m := by omega
          have hg' := hg.out
          rw [List.drop_eq_nil_of_le (by rw [HM.out]; exact Nat.le_refl _), fitA] at hg'
          subst hg'
          have HB3 := Lib.hid (bel_trans HB1.out hB)
          clear hg hB
          go_wp2_with fail
          go_ret
          exact ⟨rfl, HB3.out⟩
    · have q1 : ((m : Int) != (n2 : Int)) = true := by simp; omega
      rw [Bool.true_and, hm, hl2, decide_eq_false hmn, Bool.false_and] at hr
      subst hr
      clear hm hl2 hmn
      go_enter Tryz.func25, Tryz.ntmps25
      go_wp2_with fail
      ((with_reducible refine r1.mono ?_))
      rintro e w1 ⟨B, d, rfl, hb1, hs1, -⟩
      have HB1 := Lib.hid hb1
      clear hb1 hs1 r1
      go_wp2_with fail
      go_ret
      exact ⟨rfl, HB1.out⟩
/-- What rules derive, with fuel. -/
def derF : Nat → List Sq → List Int → Option (List Sq × List Int × Bool)
  | 0, _, _ => none
  | _ + 1, [], R => some ([], R, true)
  | n + 1, t :: S, R => if t.k = 1 then (match R with | [] => some ([], [], false) | i :: R' => if isR t.n i then derF n (symI i ++ S) R' else some ([], i :: R', false)) else (derF n S R).map fun x => (t :: x.1, x.2)
theorem derF_der : ∀ (n : Nat) (S : List Sq) (R : List Int) {o : List Sq} {Z : List Int} {f : Bool}, derF n S R = some (o, Z, f) → Der S R o Z f := by
  intro n
  induction n with
  | zero => intro S R o Z f e; cases e
  | succ n ih =>
    intro S R o Z f e
    cases S with
    | nil => rw [derF] at e; cases e; exact .nil
    | cons t S =>
      by_cases hk : t.k = 1
      · cases R with
        | nil => simp only [derF, hk, if_true] at e; cases e; exact .none hk
        | cons i R =>
          simp only [derF, if_pos hk] at e
          cases hi : isR t.n i
          · rw [hi, if_neg (by simp)] at e; cases e; exact .stop hk hi
          · rw [hi, if_pos rfl] at e; exact .var hk hi (ih _ _ e)
      · have e : (derF n S R).map (fun x => (t :: x.1, x.2)) = some (o, Z, f) := by
          simp only [derF, if_neg hk] at e; exact e
        rw [Option.map_eq_some_iff] at e
        obtain ⟨⟨o', Z', f'⟩, e1, e2⟩ := e
        cases e2
        exact .put hk (ih _ _ e1)
/-- The chapter's example. -/
def docR : List Int := [0, 3, 41, 44, 46, 23, 21, 48, 42, 1]
def docB : Bool := match derF 60 docS docR with
  | some (o, Z, f) => f && Z.isEmpty && o.length == 7 && (plS o).length == 3 && derB true o [12, 23, 14]
  | none => false
theorem docB_eq : docB = true := by decide +kernel
theorem ful_doc : ∃ X, Ful docR X true ∧ X.length = 7 ∧ (plS X).length = 3 ∧ derB true X [12, 23, 14] = true := by
  have h := docB_eq
  unfold docB at h
  cases e : derF 60 docS docR with
  | none => rw [e] at h; cases h
  | some y =>
    obtain ⟨o, Z, f⟩ := y
    rw [e] at h
    simp only [Bool.and_eq_true, beq_iff_eq, List.isEmpty_iff] at h
    obtain ⟨⟨⟨⟨rfl, rfl⟩, h3⟩, h4⟩, h5⟩ := h
    exact ⟨o, Ful.of (derF_der _ _ _ e), h3, h4, h5⟩
theorem ful_cut : Ful [3, 41, 44, 46, 23, 21, 48, 42, 1] [] false := by
  obtain ⟨X, is, h⟩ := ful_ex [3, 41, 44, 46, 23, 21, 48, 42, 1]
  have hi : is = false := h.not fun X d => by
    obtain ⟨R', e, -⟩ := doc_der d
    injection e with e1
    exact absurd e1 (by decide)
  subst hi
  have := h.no
  rw [this] at h
  exact h
/-- A block of ints, as a row. -/
theorem ri_block {w : World} {g : Nat} (l : List Int) {t : TypeId} {fr : Nat × Nat} (h : w.heap[g]? = some (.cells (l.map iv).toArray t fr)) : Ri w (some ⟨g, 0, none⟩) l := fun j x hj => by
  refine ⟨g, 0, rfl, ?_⟩
  rw [Nat.zero_add]
  simp only [World.cell?, h]
  have : ((l.map iv).toArray)[j]? = some (iv x) := by simp [hj]
  simpa [iv] using this
end Go.Proofs.YtpcijjdlppoblaaGreatDoor
