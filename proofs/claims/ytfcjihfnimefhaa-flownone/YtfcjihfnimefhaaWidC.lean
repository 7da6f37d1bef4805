/- Contracts of package wide: what is put, and a new line (the two closures of printed). -/
import Derived.Test.YtfcjihfnimefhaaWidB
import Derived.Test.YtfcjihfnimefhaaShelf
import Derived.Deep.RegionLaw
import Derived.Deep.CutRange
namespace Go.Proofs.Ytfcjihfnimefhaa
open Go.RowKit
set_option linter.unusedVariables false
set_option maxRecDepth 100000

/-- A builder stands behind what keeps all that was there. -/
theorem rowF_below {w w' : World} {base e sz n : Nat} {v : Value} {xs : List Value} (h : w.ownsRowF base e sz v n xs) (hb : Below w.heap.size w w') : w'.ownsRowF base e sz v n xs := by
  obtain ⟨h1, h2⟩ := h
  refine ⟨h1, ?_⟩
  rcases h2 with h2 | ⟨g, cap, cur, fz, h3, h4, h5, h6⟩
  · exact .inl h2
  · have hlt : g < w.heap.size := (Array.getElem?_eq_some_iff.1 h5).1
    exact .inr ⟨g, cap, cur, fz, h3, h4, (hb.block g hlt).trans h5, h6⟩
theorem buF_below {T e : TypeId} {B b : Nat} {bs : List Value} {w w' : World} (h : Lib.IsBuilderF T e B b bs w) (hb : Below w.heap.size w w') : Lib.IsBuilderF T e B b bs w' := by
  have go : ∀ p, Lib.BuilderAtF T e B b p bs w → Lib.BuilderAtF T e B b p bs w' := fun p hp => by
    have hlt := hp.lt
    obtain ⟨h1, v, h2, h3, h4⟩ := hp
    exact ⟨h1, v, (hb.block b hlt).trans h2, rowF_below h3 hb, h4⟩
  exact h.elim (fun x => .inl (go _ x)) (fun x => .inr (go _ x))
/-- .. behind a write into another block. -/
theorem buF_other {T e : TypeId} {B b : Nat} {bs : List Value} {w : World} (h : Lib.IsBuilderF T e B b bs w) {q : Nat} {o : Obj} (ho : w.heap[q]? = some o) (hq : q ≠ b) (hk : ∀ c fz, o ≠ .cells c e fz) (off : Nat) (v : Value) : Lib.IsBuilderF T e B b bs (w.setCell ⟨q, off, none⟩ v) := by
  have go : ∀ p, Lib.BuilderAtF T e B b p bs w → Lib.BuilderAtF T e B b p bs (w.setCell ⟨q, off, none⟩ v) := fun p hp => by
    obtain ⟨h1, x, h2, ⟨h3, h4⟩, h5⟩ := hp
    refine ⟨h1, x, (Below.heap_setCell _ _ _ _ (fun e1 => hq e1.symm)).trans h2, ⟨h3, ?_⟩, h5⟩
    rcases h4 with h4 | ⟨g, cap, cur, fz, g1, g2, g3, g4⟩
    · exact .inl h4
    · refine .inr ⟨g, cap, cur, fz, g1, g2, (Below.heap_setCell _ _ _ _ (fun e1 => ?_)).trans g3, g4⟩
      have e2 : g = q := e1
      subst e2
      rw [ho] at g3
      exact hk _ _ (Option.some.inj g3)
  exact h.elim (fun x => .inl (go _ x)) (fun x => .inr (go _ x))
theorem heap_box {w : World} {q : Nat} {u : Value} {t : TypeId} (h : w.heap[q]? = some (.cells #[u] t (0, 0))) (v : Value) : (w.setCell ⟨q, 0, none⟩ v).heap[q]? = some (.cells #[v] t (0, 0)) := by
  simp [World.setCell, Array.getElem?_modify, h]
theorem box_cell {w : World} {q : Nat} {u : Value} {t : TypeId} (h : w.heap[q]? = some (.cells #[u] t (0, 0))) : w.cell? ⟨q, 0, none⟩ = some u ∧ w.frozen? ⟨q, 0, none⟩ = false := by
  simp [World.cell?, World.frozen?, h]
/-- The builder at b, the three boxes behind it, the block of the bits that were cut. -/
structure Pr (w0 : World) (b g : Nat) (gc : Array Value) (p : Pg) (w : World) : Prop where
  bu : Lib.IsBuilderF 59 5 b b (Lib.byteCells p.out) w
  bi : w.heap[b + 1]? = some (.cells #[.int .i64 p.ind] 3 (0, 0))
  bc : w.heap[b + 2]? = some (.cells #[.int .i64 p.col] 3 (0, 0))
  bd : w.heap[b + 3]? = some (.cells #[.int .i64 p.due] 3 (0, 0))
  gr : gc = #[] ∨ ∃ fr, w.heap[g]? = some (.cells gc 34 fr)
  hb : w0.heap.size ≤ b
  bel : Below w0.heap.size w0 w
section
variable {w0 : World} {b g : Nat} {gc : Array Value} {p : Pg} {w : World}
theorem Pr.lt (h : Pr w0 b g gc p w) : b + 3 < w.heap.size := (Array.getElem?_eq_some_iff.1 h.bd).1
theorem Pr.below (h : Pr w0 b g gc p w) {w' : World} (k : Below w.heap.size w w') : Pr w0 b g gc p w' := by
  have hl := h.lt
  refine ⟨buF_below h.bu k, (k.block _ (by omega)).trans h.bi, (k.block _ (by omega)).trans h.bc, (k.block _ hl).trans h.bd, ?_, h.hb, bel_trans h.bel k⟩
  rcases h.gr with e | ⟨fr, e⟩
  · exact .inl e
  · exact .inr ⟨fr, (k.block g (Array.getElem?_eq_some_iff.1 e).1).trans e⟩
/-- What is told, and all else as it was. -/
theorem Pr.told (h : Pr w0 b g gc p w) {w' : World} {out : List UInt8} (hb : Lib.IsBuilderF 59 5 b b (Lib.byteCells out) w') (k : Below b w w') (o : Lib.OthersKept 5 (some b) w w') : Pr w0 b g gc ⟨out, p.ind, p.col, p.due, p.fl⟩ w' := by
  have ki : ∀ (j : Nat) (v : Value), j ≠ 0 → w.heap[b + j]? = some (.cells #[v] 3 (0, 0)) → w'.heap[b + j]? = some (.cells #[v] 3 (0, 0)) := fun j v hj e =>
    o _ _ e (fun e2 => hj (by injection e2 with e2; omega)) (fun c fz e2 => by injection e2 with e3 e4; exact absurd e4 (by decide))
  refine ⟨hb, ki 1 _ (by decide) h.bi, ki 2 _ (by decide) h.bc, ki 3 _ (by decide) h.bd, ?_, h.hb, ?_⟩
  · rcases h.gr with e | ⟨fr, e⟩
    · exact .inl e
    · refine .inr ⟨fr, o _ _ e (fun e2 => ?_) (fun c fz e2 => by injection e2 with e3 e4; exact absurd e4 (by decide))⟩
      injection e2 with e2
      subst e2
      rcases h.bu with ⟨-, v, e3, -⟩ | ⟨-, v, e3, -⟩ <;>
      · rw [e] at e3; injection e3 with e3; injection e3 with e3 e4; exact absurd e4 (by decide)
  · exact h.bel.trans ⟨k.os, k.tape, k.output, k.size, fun i hi => k.block i (Nat.lt_of_lt_of_le hi h.hb)⟩
theorem Pr.set (h : Pr w0 b g gc p w) {j : Nat} (hj : j ≠ 0) {u : Value} (hu : w.heap[b + j]? = some (.cells #[u] 3 (0, 0))) (v : Value) :
    Lib.IsBuilderF 59 5 b b (Lib.byteCells p.out) (w.setCell ⟨b + j, 0, none⟩ v) ∧ (gc = #[] ∨ ∃ fr, (w.setCell ⟨b + j, 0, none⟩ v).heap[g]? = some (.cells gc 34 fr)) ∧ Below w0.heap.size w0 (w.setCell ⟨b + j, 0, none⟩ v) ∧
    (∀ i o, i ≠ j → w.heap[b + i]? = some o → (w.setCell ⟨b + j, 0, none⟩ v).heap[b + i]? = some o) := by
  refine ⟨buF_other h.bu hu (by omega) (fun c fz e => by injection e with e3 e4; exact absurd e4 (by decide)) _ _, ?_, h.bel.setCell (p := ⟨b + j, 0, none⟩) (Nat.le_trans h.hb (Nat.le_add_right _ _)) _, fun i o hi e => (Below.heap_setCell _ _ _ _ (fun e1 => by have e2 : b + i = b + j := e1; omega)).trans e⟩
  rcases h.gr with e | ⟨fr, e⟩
  · exact .inl e
  · refine .inr ⟨fr, (Below.heap_setCell _ _ _ _ (fun e1 => ?_)).trans e⟩
    have e2 : g = b + j := e1
    subst e2
    rw [e] at hu
    injection hu with hu
    injection hu with e3 e4
    exact absurd e4 (by decide)
theorem Pr.setI (h : Pr w0 b g gc p w) (x : Int) : Pr w0 b g gc ⟨p.out, x, p.col, p.due, p.fl⟩ (w.setCell ⟨b + 1, 0, none⟩ (.int .i64 x)) := by
  obtain ⟨h1, h2, h3, h4⟩ := h.set (by decide) h.bi (.int .i64 x)
  exact ⟨h1, heap_box h.bi _, h4 2 _ (by decide) h.bc, h4 3 _ (by decide) h.bd, h2, h.hb, h3⟩
theorem Pr.setC (h : Pr w0 b g gc p w) (x : Int) : Pr w0 b g gc ⟨p.out, p.ind, x, p.due, p.fl⟩ (w.setCell ⟨b + 2, 0, none⟩ (.int .i64 x)) := by
  obtain ⟨h1, h2, h3, h4⟩ := h.set (by decide) h.bc (.int .i64 x)
  exact ⟨h1, h4 1 _ (by decide) h.bi, heap_box h.bc _, h4 3 _ (by decide) h.bd, h2, h.hb, h3⟩
theorem Pr.setD (h : Pr w0 b g gc p w) (x : Int) : Pr w0 b g gc ⟨p.out, p.ind, p.col, x, p.fl⟩ (w.setCell ⟨b + 3, 0, none⟩ (.int .i64 x)) := by
  obtain ⟨h1, h2, h3, h4⟩ := h.set (by decide) h.bd (.int .i64 x)
  exact ⟨h1, h4 1 _ (by decide) h.bi, h4 2 _ (by decide) h.bc, heap_box h.bd _, h2, h.hb, h3⟩
theorem Pr.fl (h : Pr w0 b g gc p w) (f : Int) : Pr w0 b g gc ⟨p.out, p.ind, p.col, p.due, f⟩ w := ⟨h.bu, h.bi, h.bc, h.bd, h.gr, h.hb, h.bel⟩

theorem nos_ne {v : ByteArray} (h : v.size ≠ 0) : (v.toList == []) = false ∧ (v.toList != []) = true := by
  have : (v.toList == []) = false := by
    obtain ⟨⟨l⟩⟩ := v
    cases l with
    | nil => exact absurd rfl h
    | cons a l => rw [Lib.toList_data]; rfl
  exact ⟨this, by rw [bne, this]; rfl⟩
theorem noV_of {v : ByteArray} (h : v.size = 0) : v = ⟨#[]⟩ := by
  obtain ⟨⟨l⟩⟩ := v
  cases l with
  | nil => rfl
  | cons a l => cases h
theorem repL_one (c : UInt8) (n : Nat) : Lib.repeatL [c] n = List.replicate n c := by
  induction n with
  | zero => rfl
  | succ n ih => rw [Lib.repeatL, ih]; rfl
set_option maxHeartbeats 2000000 in
/-- A new line. -/
theorem pline_any (h : Pr w0 b g gc p w) (ho : p.out.length ≤ 1000000000) :
    Calls Try.prog 50 #[.pointer (some ⟨b, 0, none⟩), .pointer (some ⟨b + 1, 0, none⟩), .pointer (some ⟨b + 2, 0, none⟩), .pointer (some ⟨b + 3, 0, none⟩)] w fun e w' => e = .returned (.tuple #[]) ∧ Pr w0 b g gc (lineF p) w' := by
  have hl := h.lt
  have r1 := fun w h => wbyte_k b b (Lib.byteCells p.out) 10 w h (by rw [Lib.byteCells_length]; omega)
  have H := Lib.hid h
  clear h ho
  go_enter Try.func50, Try.ntmps50
  go_wp2_with fail
  ((with_reducible refine (r1 _ H.out.bu (by omega)).mono ?_))
  rintro e w1 ⟨rfl, h1, k1, o1⟩
  have H1 := Lib.hid (H.out.told (out := p.out ++ [10]) (by rw [Lib.byteCells_append]; exact .inr h1) k1 o1)
  clear h1 k1 o1 r1
  obtain ⟨c1, f1⟩ := box_cell H1.out.bi
  obtain ⟨c2, f2⟩ := box_cell H1.out.bc
  obtain ⟨c3, f3⟩ := box_cell H1.out.bd
  go_wp2_with fail
  go_region
  go_returns
  exact ⟨rfl, ((H1.out.setC p.ind).setD p.ind).below (Below.refl _ _).drew⟩
set_option maxHeartbeats 2000000 in
/-- A text is put. -/
theorem pput_any (h : Pr w0 b g gc p w) {s : ByteArray} (hs : s.size ≤ 1000000000) (ho : p.out.length ≤ 1000000000) (hd0 : 0 ≤ p.due) (hd : p.due ≤ 1000) (hc0 : 0 ≤ p.col) (hc : p.col ≤ 1000000000) :
    Calls Try.prog 47 #[.string s, .pointer (some ⟨b, 0, none⟩), .pointer (some ⟨b + 3, 0, none⟩), .pointer (some ⟨b + 2, 0, none⟩)] w fun e w' => e = .returned (.tuple #[]) ∧ Pr w0 b g gc (putF p s) w' := by
  by_cases h0 : s.size = 0
  · have hp : putF p s = p := by rw [putF, if_pos h0]
    rw [hp]
    obtain rfl := noV_of h0
    have H := Lib.hid h
    clear h h0 hp hs ho hd0 hd hc0 hc
    go_enter Try.func47, Try.ntmps47
    go_wp2
    go_returns
    exact ⟨rfl, H.out⟩
  · have hl := h.lt
    obtain ⟨D, hD⟩ : ∃ D : Nat, p.due = D := ⟨p.due.toNat, by omega⟩
    have hp : putF p s = ⟨(p.out ++ List.replicate D 32) ++ s.data.toList, p.ind, p.col + cols s.data.toList, 0, p.fl⟩ := by rw [putF, if_neg h0, hD, List.append_assoc]; rfl
    rw [hp]
    obtain ⟨z, hz⟩ : ∃ z, cols s.data.toList = z := ⟨_, rfl⟩
    have hzs := cols_le s.data.toList
    rw [← size_list, hz] at hzs
    rw [hz]
    obtain ⟨B, hB⟩ : ∃ B : ByteArray, (⟨(Lib.repeatL (⟨#[32]⟩ : ByteArray).data.toList D).toArray⟩ : ByteArray) = B := ⟨_, rfl⟩
    have hBl : B.data.toList = List.replicate D 32 := by rw [← hB]; exact (repL_one 32 D)
    have hBs : B.size = D := by rw [size_list, hBl, List.length_replicate]
    have r1 := fun w => rep_any ⟨#[32]⟩ D w (by omega) (by show 1 * D ≤ _; omega)
    rw [hB] at r1
    have r2 := fun w h => wstr_k b b (Lib.byteCells p.out) B w h (by rw [Lib.byteCells_length]; omega)
    have r3 := fun w h => wstr_k b b (Lib.byteCells (p.out ++ List.replicate D 32)) s w h (by rw [Lib.byteCells_length, List.length_append, List.length_replicate]; omega)
    have r4 := fun w => scols_any s (by omega) hz w
    have hne := (nos_ne h0).1
    have hwr : IntKind.i64.wrap (p.col + (z : Int)) = p.col + (z : Int) := IntWalk.i64_in _ (by omega)
    have HWR := Lib.hid hwr
    have H := Lib.hid h
    have hd3 := h.bd
    rw [hD] at hd3
    obtain ⟨c3, f3⟩ := box_cell hd3
    have HE2 := Lib.hid (show Lib.byteCells p.out ++ Lib.strCells B = Lib.byteCells (p.out ++ List.replicate D 32) by rw [Lib.strCells_eq, hBl, Lib.byteCells_append])
    have HE3 := Lib.hid (show Lib.byteCells (p.out ++ List.replicate D 32) ++ Lib.strCells s = Lib.byteCells ((p.out ++ List.replicate D 32) ++ s.data.toList) by rw [Lib.strCells_eq, ← Lib.byteCells_append])
    clear h h0 hp hs ho hd0 hd hc0 hc hD hz hB hBl hBs hd3 hwr
    go_enter Try.func47, Try.ntmps47
    go_wp2_with fail
    ((with_reducible refine (r1 _).mono ?_))
    rintro e w1 ⟨rfl, hb1⟩
    have H1 := Lib.hid (H.out.below hb1)
    have l1 := H1.out.lt
    clear hb1 r1 c3 f3
    go_wp2_with fail
    ((with_reducible refine (r2 _ H1.out.bu (by omega)).mono ?_))
    rintro e w2 ⟨rfl, h2, k2, o2⟩
    rw [HE2.out] at h2
    have H2 := Lib.hid (H1.out.told (.inr h2) k2 o2)
    have l2 := H2.out.lt
    clear h2 k2 o2 r2
    go_wp2_with fail
    ((with_reducible refine (r3 _ H2.out.bu (by omega)).mono ?_))
    rintro e w3 ⟨rfl, h3, k3, o3⟩
    rw [HE3.out] at h3
    have H3 := Lib.hid (H2.out.told (.inr h3) k3 o3)
    clear h3 k3 o3 r3
    obtain ⟨c2, f2⟩ := box_cell H3.out.bc
    obtain ⟨c3, f3⟩ := box_cell H3.out.bd
    go_wp2_with fail
    have hwr := HWR.out
    go_region_law (go_simp; go_at_call 19; refine (r4 _).mono ?_; rintro e w4 ⟨rfl, hb4⟩; have H4 := Lib.hid (H3.out.below (bel_trans (Below.refl _ _).drew hb4)); have d2 := (box_cell H4.out.bc).1; have g2 := (box_cell H4.out.bc).2; have d3 := (box_cell H4.out.bd).1; have g3 := (box_cell H4.out.bd).2; clear hb4)
    all_goals go_wp2
    all_goals go_returns
    all_goals exact ⟨rfl, by rw [← List.append_assoc]; exact (H4.out.setC _).setD _⟩
end
end Go.Proofs.Ytfcjihfnimefhaa
