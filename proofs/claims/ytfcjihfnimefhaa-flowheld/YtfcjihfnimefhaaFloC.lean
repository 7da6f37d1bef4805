/- Contracts of package flow: what is put, a new line, one bit printed. -/
import Derived.Test.YtfcjihfnimefhaaFloB
import Derived.Test.YtfcjihfnimefhaaShelf
import Derived.Test.YtfcjihfnimefhaaWidB
import Derived.Deep.RegionLaw
import Derived.Deep.CutRange
namespace Go.Proofs.Ytfcjihfnimefhaa
open Go.Shelf Go.RowKit
set_option linter.unusedVariables false
set_option maxRecDepth 100000

theorem fnos_ne {v : ByteArray} (h : v.size ≠ 0) : (v.toList == []) = false ∧ (v.toList != []) = true := by
  have : (v.toList == []) = false := by
    obtain ⟨⟨l⟩⟩ := v
    cases l with
    | nil => exact absurd rfl h
    | cons a l => rw [Lib.toList_data]; rfl
  exact ⟨this, by rw [bne, this]; rfl⟩
theorem fnoV_of {v : ByteArray} (h : v.size = 0) : v = ⟨#[]⟩ := by
  obtain ⟨⟨l⟩⟩ := v
  cases l with
  | nil => rfl
  | cons a l => cases h
theorem frepL_one (c : UInt8) (n : Nat) : Lib.repeatL [c] n = List.replicate n c := by
  induction n with
  | zero => rfl
  | succ n ih => rw [Lib.repeatL, ih]; rfl
section
variable {B b : Nat} {out : List UInt8} {i c d : Int} {w : World}
set_option maxHeartbeats 2000000 in
theorem fline_any (h : Pq B b out i c d w) (hl : out.length ≤ 1000000000) : Calls Try.prog 61 #[.pointer (some ⟨b, 0, none⟩)] w fun e w' => e = .returned (.tuple #[]) ∧ Pq B b (out ++ [10]) i i i w' ∧ Kq B b w w' := by
  have r1 := fun w h => pwbyte_any (w := w) (B := B) (b := b) (i := i) (c := c) (d := d) h hl
  have H := Lib.hid h
  have hle := h.le
  clear h hl
  go_enter Try.func61, Try.ntmps61
  go_wp2_with fail
  ((with_reducible refine (r1 _ H.out).mono ?_))
  rintro e w1 ⟨rfl, h1, k1⟩
  have H1 := Lib.hid h1
  have K1 := Lib.hid k1
  obtain ⟨c2, c3, c4, f⟩ := h1.cells
  have f3 := f 3
  have f4 := f 4
  clear r1 h1 k1 f
  go_wp2_with fail
  go_region
  all_goals (go_wp2_with fail)
  all_goals go_end0
  all_goals exact ⟨rfl, (H1.out.drew.setC i).setD i, (K1.out.drew.set hle 3 _).set hle 4 _⟩
set_option maxHeartbeats 4000000 in
theorem fput_any (h : Pq B b out i c d w) {s : ByteArray} (hs : s.size ≤ 1000000000) (ho : out.length ≤ 1000000000) (hd0 : 0 ≤ d) (hd : d ≤ 1000) (hc0 : 0 ≤ c) (hc : c ≤ 1000000000) :
    Calls Try.prog 62 #[.pointer (some ⟨b, 0, none⟩), .string s] w fun e w' => e = .returned (.tuple #[]) ∧ Pq B b (putF ⟨out, i, c, d, 0⟩ s).out i (putF ⟨out, i, c, d, 0⟩ s).col (putF ⟨out, i, c, d, 0⟩ s).due w' ∧ Kq B b w w' := by
  by_cases h0 : s.size = 0
  · have hp : putF ⟨out, i, c, d, 0⟩ s = ⟨out, i, c, d, 0⟩ := by rw [putF, if_pos h0]
    rw [hp]
    obtain rfl := fnoV_of h0
    have H := Lib.hid h
    clear h h0 hp hs ho hd0 hd hc0 hc
    go_enter Try.func62, Try.ntmps62
    go_wp2
    go_returns
    exact ⟨rfl, H.out, Kq.refl B b w⟩
  · obtain ⟨D, rfl⟩ : ∃ D : Nat, d = D := ⟨d.toNat, by omega⟩
    have hp : putF ⟨out, i, c, (D : Int), 0⟩ s = ⟨(out ++ List.replicate D 32) ++ s.data.toList, i, c + cols s.data.toList, 0, 0⟩ := by rw [putF, if_neg h0, List.append_assoc]; rfl
    rw [hp]
    obtain ⟨z, hz⟩ : ∃ z, cols s.data.toList = z := ⟨_, rfl⟩
    have hzs := cols_le s.data.toList
    rw [← size_list, hz] at hzs
    rw [hz]
    obtain ⟨Z, hZ⟩ : ∃ Z : ByteArray, (⟨(Lib.repeatL (⟨#[32]⟩ : ByteArray).data.toList D).toArray⟩ : ByteArray) = Z := ⟨_, rfl⟩
    have hZl : Z.data.toList = List.replicate D 32 := by rw [← hZ]; exact (frepL_one 32 D)
    have hZs : Z.size = D := by rw [size_list, hZl, List.length_replicate]
    have r1 := fun w => rep_any ⟨#[32]⟩ D w (by omega) (by show 1 * D ≤ _; omega)
    rw [hZ] at r1
    have r2 := fun w (h : Pq B b out i c (D : Int) w) => pwstr_any h Z (by omega)
    rw [hZl] at r2
    have r3 := fun w (h : Pq B b (out ++ List.replicate D 32) i c (D : Int) w) => pwstr_any h s (by rw [List.length_append, List.length_replicate]; omega)
    have r4 := fun w => scols_any s (by omega) hz w
    have hne := (fnos_ne h0).1
    have hwr : IntKind.i64.wrap (c + (z : Int)) = c + (z : Int) := IntWalk.i64_in _ (by omega)
    have HWR := Lib.hid hwr
    have H := Lib.hid h
    have hle := h.le
    have hbw := h.base
    obtain ⟨c2, c3, c4, f⟩ := h.cells
    clear h h0 hp hs ho hd0 hd hc0 hc hz hZ hZl hZs hwr c2 c3 f
    go_enter Try.func62, Try.ntmps62
    go_wp2_with fail
    go_cut [] from 6 to 14 (fun W => Hid (Pq B b (out ++ List.replicate D 32) i c (D : Int) W) ∧ Hid (Kq B b w W))
    case first =>
      go_region_law (first
        | (go_simp; go_at_call 49; refine (r1 _).mono ?_; rintro e w1 ⟨rfl, hb1⟩; have H1 := Lib.hid (H.out.below (bel_trans (Below.refl _ _).drew hb1)); have K1 := Lib.hid (Kq.of (b := b) (bel_trans (Below.refl _ _).drew hb1) hbw); clear hb1)
        | (go_simp; go_at_call 48; refine (r2 _ H1.out).mono ?_; rintro e w2 ⟨rfl, h2, k2⟩; have H2 := Lib.hid h2; have K2 := Lib.hid (K1.out.trans k2); clear h2 k2))
      all_goals (go_wp2_with fail)
      all_goals go_meet
      all_goals exact ⟨H2, K2⟩
    case rest =>
      obtain ⟨k1, k2⟩ := hcut
      clear r1 r2 c4
      go_wp2_with fail
      ((with_reducible refine (r3 _ k1.out).mono ?_))
      rintro e w3 ⟨rfl, h3, k3⟩
      have H3 := Lib.hid h3
      have K3 := Lib.hid (k2.out.trans k3)
      have hb3 := h3.base
      obtain ⟨c2, c3, c4, f⟩ := h3.cells
      have f3 := f 3
      have f4 := f 4
      clear h3 k3 r3 f k1 k2
      go_wp2_with fail
      have hwr := HWR.out
      go_region_law (go_simp; go_at_call 19; refine (r4 _).mono ?_; rintro e w4 ⟨rfl, hb4⟩; have H4 := Lib.hid (H3.out.below (bel_trans (Below.refl _ _).drew hb4)); have K4 := Lib.hid (K3.out.trans (Kq.of (b := b) (bel_trans (Below.refl _ _).drew hb4) hb3)); have d3 := H4.out.cells.2.1; have d4 := H4.out.cells.2.2.1; have g3 := H4.out.cells.2.2.2 3; have g4 := H4.out.cells.2.2.2 4; clear hb4)
      all_goals (go_wp2_with fail)
      all_goals go_end0
      all_goals exact ⟨rfl, (H4.out.setC _).setD 0, (K4.out.set hle 3 _).set hle 4 _⟩
end
/-- One bit printed, flat or not: an MkHard is in no group that is flat. -/
def prF (t : Bq) (q : Bool) (p : Pg) : Pg :=
  if t.m = 8 then ⟨p.out, p.ind + 2, p.col, p.due, p.fl⟩
  else if t.m = 9 then ⟨p.out, p.ind - 2, p.col, p.due, p.fl⟩
  else if brF t.m = true ∧ q = false then lineF p
  else putF p (flV t)
section
variable {B b : Nat} {w : World}
set_option maxHeartbeats 4000000 in
theorem fprint_any {p : Pg} (h : Pq B b p.out p.ind p.col p.due w) {t : Bq} (hmk : (Lit.int .i64 t.m).wf = true) (hv : t.v.size ≤ 100000000) (q : Bool) (ho : p.out.length ≤ 1000000000) (hd0 : 0 ≤ p.due) (hd : p.due ≤ 1000) (hc0 : 0 ≤ p.col) (hc : p.col ≤ 1000000000) (hi0 : 0 ≤ p.ind) (hi : p.ind ≤ 1000) :
    Calls Try.prog 35 #[.pointer (some ⟨b, 0, none⟩), .agg #[.int .i64 t.m, .string t.v], .bool q] w fun e w' => e = .returned (.tuple #[]) ∧ Pq B b (prF t q p).out (prF t q p).ind (prF t q p).col (prF t q p).due w' ∧ Kq B b w w' := by
  obtain ⟨out, ind, col, due, fl⟩ := p
  dsimp only at h ho hd0 hd hc0 hc hi0 hi
  obtain ⟨tm, tv⟩ := t
  dsimp only at hmk hv ⊢
  obtain ⟨S, hS⟩ : ∃ S, flV ⟨tm, tv⟩ = S := ⟨_, rfl⟩
  obtain ⟨is, his⟩ : ∃ is, flI ⟨tm, tv⟩ = is := ⟨_, rfl⟩
  obtain ⟨br, hbr⟩ : ∃ br, brF tm = br := ⟨_, rfl⟩
  have hSz := flV_le ⟨tm, tv⟩
  rw [hS] at hSz
  dsimp only at hSz
  have r1 := fun w => sflat_any (w := w) hmk hS his
  have r2 := fun w => sbreaks_any (w := w) (v := tv) hmk hbr
  have r3 := fun w (h : Pq B b out ind col due w) => fline_any h ho
  have r4 := fun w (h : Pq B b out ind col due w) => fput_any (s := S) h (by omega) ho hd0 hd hc0 hc
  have hle := h.le
  have hb0 := h.base
  have q8 : IntKind.i64.wrap (ind + 2) = ind + 2 := IntWalk.i64_in _ (by omega)
  have q9 : IntKind.i64.wrap (ind - 2) = ind - 2 := IntWalk.i64_in _ (by omega)
  have HBX := Lib.hid (bel_alloc (Below.refl _ w) (.cells #[.int .i64 tm, .string tv] 34))
  have H := Lib.hid (h.below HBX.out)
  have K := Lib.hid (Kq.of (b := b) HBX.out hb0)
  have HN := Lib.hid (heap_alloc_new w (.cells #[.int .i64 tm, .string tv] 34))
  clear h hmk hv ho hd0 hd hc0 hc hi0 hi hSz his
  have HS := Lib.hid hS
  have HBR := Lib.hid hbr
  obtain ⟨P, hP⟩ : ∃ P, prF ⟨tm, tv⟩ q ⟨out, ind, col, due, fl⟩ = P := ⟨_, rfl⟩
  rw [hP]
  have HP := Lib.hid hP
  clear hS hbr hP
  go_enter Try.func35, Try.ntmps35
  go_wp2_with fail
  ((with_reducible refine (r1 _).mono ?_))
  rintro e w1 ⟨rfl, hb1⟩
  have H1 := Lib.hid (H.out.below hb1)
  have K1 := Lib.hid (K.out.trans (Kq.of (b := b) hb1 H.out.base))
  have N1 := Lib.hid ((hb1.block w.heap.size (by simp)).trans HN.out)
  have x0 : w1.cell? ⟨w.heap.size, 0, none⟩ = some (.int .i64 tm) := by rw [Lib.cell_of_heap N1.out]; rfl
  have x1 : w1.cell? ⟨w.heap.size, 1, none⟩ = some (.string tv) := by rw [Lib.cell_of_heap N1.out]; rfl
  obtain ⟨c2, c3, c4, f⟩ := H1.out.cells
  have f2 := f 2
  clear r1 hb1 f c3 c4
  by_cases e8 : tm = 8
  · obtain rfl : P = ⟨out, ind + 2, col, due, fl⟩ := by rw [← HP.out, prF, if_pos e8]
    subst e8
    go_wp2
    go_end0
    exact ⟨rfl, H1.out.setI _, K1.out.set hle 2 _⟩
  by_cases e9 : tm = 9
  · obtain rfl : P = ⟨out, ind - 2, col, due, fl⟩ := by rw [← HP.out, prF, if_neg e8, if_pos e9]
    subst e9
    clear e8
    go_wp2
    go_end0
    exact ⟨rfl, H1.out.setI _, K1.out.set hle 2 _⟩
  have g8 : (tm == 8) = false := by simpa using e8
  have g9 : (tm == 9) = false := by simpa using e9
  clear c2 f2
  by_cases hl : br = true ∧ q = false
  · obtain rfl : P = lineF ⟨out, ind, col, due, fl⟩ := by rw [← HP.out, prF, if_neg e8, if_neg e9, if_pos (by rw [HBR.out]; exact hl)]
    obtain ⟨rfl, rfl⟩ := hl
    clear e8 e9 r4
    go_wp2_with fail
    ((with_reducible refine (r2 _).mono ?_))
    rintro e w2 ⟨rfl, hb2⟩
    have H2 := Lib.hid (H1.out.below hb2)
    have K2 := Lib.hid (K1.out.trans (Kq.of (b := b) hb2 H1.out.base))
    clear hb2 r2
    go_wp2_with fail
    ((with_reducible refine (r3 _ H2.out).mono ?_))
    rintro e w3 ⟨rfl, h3, k3⟩
    have H3 := Lib.hid h3
    have K3 := Lib.hid (K2.out.trans k3)
    clear h3 k3 r3
    go_wp2
    go_end0
    exact ⟨rfl, H3.out, K3.out⟩
  · have e0 : P = putF ⟨out, ind, col, due, fl⟩ S := by rw [← HP.out, prF, if_neg e8, if_neg e9, if_neg (by rw [HBR.out]; exact hl), HS.out]
    have HE := Lib.hid (show P.out = (putF ⟨out, ind, col, due, 0⟩ S).out ∧ P.ind = ind ∧ P.col = (putF ⟨out, ind, col, due, 0⟩ S).col ∧ P.due = (putF ⟨out, ind, col, due, 0⟩ S).due by
      rw [e0]; unfold putF; split <;> exact ⟨rfl, rfl, rfl, rfl⟩)
    have hq : br = false ∨ br = true ∧ q = true := by cases br <;> cases q <;> simp at hl ⊢
    clear e0 e8 e9 r3 hl
    rcases hq with rfl | ⟨rfl, rfl⟩
    · go_wp2_with fail
      ((with_reducible refine (r2 _).mono ?_))
      rintro e w2 ⟨rfl, hb2⟩
      have H2 := Lib.hid (H1.out.below hb2)
      have K2 := Lib.hid (K1.out.trans (Kq.of (b := b) hb2 H1.out.base))
      clear hb2 r2
      go_wp2_with fail
      ((with_reducible refine (r4 _ H2.out).mono ?_))
      rintro e w3 ⟨rfl, h3, k3⟩
      have H3 := Lib.hid h3
      have K3 := Lib.hid (K2.out.trans k3)
      clear h3 k3 r4
      go_wp2
      go_end0
      obtain ⟨e1, e2, e3, e4⟩ := HE.out
      exact ⟨rfl, by rw [e1, e2, e3, e4]; exact H3.out, K3.out⟩
    · go_wp2_with fail
      ((with_reducible refine (r2 _).mono ?_))
      rintro e w2 ⟨rfl, hb2⟩
      have H2 := Lib.hid (H1.out.below hb2)
      have K2 := Lib.hid (K1.out.trans (Kq.of (b := b) hb2 H1.out.base))
      clear hb2 r2
      go_wp2_with fail
      ((with_reducible refine (r4 _ H2.out).mono ?_))
      rintro e w3 ⟨rfl, h3, k3⟩
      have H3 := Lib.hid h3
      have K3 := Lib.hid (K2.out.trans k3)
      clear h3 k3 r4
      go_wp2
      go_end0
      obtain ⟨e1, e2, e3, e4⟩ := HE.out
      exact ⟨rfl, by rw [e1, e2, e3, e4]; exact H3.out, K3.out⟩
set_option maxHeartbeats 1000000 in
theorem fnoflat_any {t : Int} {v : ByteArray} {is : Bool} (hmk : (Lit.int .i64 t).wf = true) (hi : flI ⟨t, v⟩ = is) (w : World) :
    Calls Try.prog 57 #[.agg #[.int .i64 t, .string v]] w fun e w' => e = .returned (.bool (!is)) ∧ Below w.heap.size w w' := by
  have r1 := fun w => sflat_any (w := w) hmk rfl hi
  have HB := Lib.hid (bel_alloc (Below.refl _ w) (.cells #[.int .i64 t, .string v] 34))
  clear hmk hi
  go_enter Try.func57, Try.ntmps57
  go_wp2_with fail
  ((with_reducible refine (r1 _).mono ?_))
  rintro e w1 ⟨rfl, hb1⟩
  have HB1 := Lib.hid (bel_trans HB.out hb1)
  clear hb1 r1
  go_wp2
  go_ret
  exact ⟨rfl, HB1.out⟩
end
end Go.Proofs.Ytfcjihfnimefhaa
