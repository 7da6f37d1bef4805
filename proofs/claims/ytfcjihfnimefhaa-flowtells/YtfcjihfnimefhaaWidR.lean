/- The document's own answers for layer 18 (copperplateref18): blanks, Line, Put. -/
import Derived.Test.YtfcjihfnimefhaaWidM
import Derived.Test.YtfcjihfnimefhaaBytes
import Derived.Test.YtfcjihfnimefhaaSpaR
import Derived.Test.YtfcjihfnimefhaaMayR
import Derived.Deep.RegionLaw
import Derived.Deep.CutRange
import Derived.Laws.OwnMore
namespace Go.Proofs.Ytfcjihfnimefhaa
open Go.RowKit
set_option linter.unusedVariables false
set_option maxRecDepth 100000

set_option maxHeartbeats 1000000 in
theorem rblk_any {N : Nat} (h : N ≤ 1000) (w : World) :
    Calls Try.prog 64 #[.int .i64 (N : Int)] w fun e w' => e = .returned (.string (mkb (List.replicate N 32))) ∧ w = w' := by
  go_enter Try.func64, Try.ntmps64
  go_wp2
  go_loop [3, 4] (fun v3 v4 => ∃ k : Nat, k ≤ N ∧ v4 = .int .i64 k ∧ v3 = .string (mkb (List.replicate k 32))) (fun _ i => N - (intOf i).toNat)
  case atStart => exact ⟨0, Nat.zero_le _, rfl, rfl⟩
  case round =>
    obtain ⟨k, hk, rfl, rfl⟩ := hrel
    by_cases hlt : k < N
    · obtain ⟨A, hA⟩ : ∃ A, mkb (List.replicate k 32) = A := ⟨_, rfl⟩
      obtain ⟨R, hR, hadd⟩ := sadd' (A := A) (B := ⟨#[32]⟩) hA.symm (b := [32]) rfl (by simp; omega)
      rw [hA]
      have HR := Lib.hid hR
      have q : (k : Int) < (N : Int) := by omega
      clear hA hR
      go_wp2
      go_round
      case rel => exact ⟨k + 1, by omega, by go_num, by rw [HR.out, List.replicate_succ']⟩
      case measure => simp [intOf]; omega
    · obtain rfl : k = N := by omega
      go_wp2
      go_ret
      exact ⟨rfl, rfl⟩
set_option maxHeartbeats 1000000 in
theorem rline_any {O R : ByteArray} {i c d f : Int} (hadd : ∀ w, (Op.stringOp .add O ⟨#[10]⟩).run Try.prog w = .ok (.string R) w) (w : World) :
    Calls Try.prog 43 #[.agg #[.string O, .int .i64 i, .int .i64 c, .int .i64 d, .int .i64 f]] w fun e w' => e = .returned (.agg #[.string R, .int .i64 i, .int .i64 i, .int .i64 i, .int .i64 f]) ∧ Below w.heap.size w w' := by
  go_enter Try.func43, Try.ntmps43
  go_wp2
  go_returns
  exact ⟨rfl, by go_grown⟩
set_option maxHeartbeats 1000000 in
theorem rput_none {O : ByteArray} {i c d f : Int} (w : World) :
    Calls Try.prog 44 #[.agg #[.string O, .int .i64 i, .int .i64 c, .int .i64 d, .int .i64 f], .string ⟨#[]⟩] w fun e w' => e = .returned (.agg #[.string O, .int .i64 i, .int .i64 c, .int .i64 d, .int .i64 f]) ∧ Below w.heap.size w w' := by
  go_enter Try.func44, Try.ntmps44
  go_wp2
  go_returns
  exact ⟨rfl, by go_grown⟩
/-- A page's box: its five cells. -/
structure B5 (w : World) (b : Nat) (v0 v1 v2 v3 v4 : Value) : Prop where
  c0 : w.cell? ⟨b, 0, none⟩ = some v0
  c1 : w.cell? ⟨b, 1, none⟩ = some v1
  c2 : w.cell? ⟨b, 2, none⟩ = some v2
  c3 : w.cell? ⟨b, 3, none⟩ = some v3
  c4 : w.cell? ⟨b, 4, none⟩ = some v4
  f0 : w.frozen? ⟨b, 0, none⟩ = false
  f1 : w.frozen? ⟨b, 1, none⟩ = false
  f2 : w.frozen? ⟨b, 2, none⟩ = false
  f3 : w.frozen? ⟨b, 3, none⟩ = false
  f4 : w.frozen? ⟨b, 4, none⟩ = false
theorem B5.new (w : World) (v0 v1 v2 v3 v4 : Value) (t : TypeId) : B5 (w.alloc (.cells #[v0, v1, v2, v3, v4] t)) w.heap.size v0 v1 v2 v3 v4 := by
  constructor <;> simp [go_sem]
theorem B5.lt {w : World} {b : Nat} {v0 v1 v2 v3 v4 : Value} (h : B5 w b v0 v1 v2 v3 v4) : b < w.heap.size := World.block_lt_of_cell? w _ h.c0
theorem B5.below {w w' : World} {b : Nat} {v0 v1 v2 v3 v4 : Value} (h : B5 w b v0 v1 v2 v3 v4) (hb : Below w.heap.size w w') : B5 w' b v0 v1 v2 v3 v4 := by
  have hlt := h.lt
  exact ⟨(hb.cell (p := ⟨b, 0, none⟩) hlt).trans h.c0, (hb.cell (p := ⟨b, 1, none⟩) hlt).trans h.c1, (hb.cell (p := ⟨b, 2, none⟩) hlt).trans h.c2, (hb.cell (p := ⟨b, 3, none⟩) hlt).trans h.c3, (hb.cell (p := ⟨b, 4, none⟩) hlt).trans h.c4,
    (hb.frozen (p := ⟨b, 0, none⟩) hlt).trans h.f0, (hb.frozen (p := ⟨b, 1, none⟩) hlt).trans h.f1, (hb.frozen (p := ⟨b, 2, none⟩) hlt).trans h.f2, (hb.frozen (p := ⟨b, 3, none⟩) hlt).trans h.f3, (hb.frozen (p := ⟨b, 4, none⟩) hlt).trans h.f4⟩
theorem B5.other {w : World} {b : Nat} {v0 v1 v2 v3 v4 : Value} (h : B5 w b v0 v1 v2 v3 v4) {p : Addr} (hp : p.block ≠ b) (v : Value) : B5 (w.setCell p v) b v0 v1 v2 v3 v4 := by
  have hc : ∀ j x, w.cell? ⟨b, j, none⟩ = some x → (w.setCell p v).cell? ⟨b, j, none⟩ = some x := fun j x e => (World.cell?_setCell_other _ _ _ _ (fun e2 => hp (by rw [e2]))).trans e
  have hf : ∀ j, w.frozen? ⟨b, j, none⟩ = false → (w.setCell p v).frozen? ⟨b, j, none⟩ = false := fun j e => (World.frozen?_setCell _ _ _ _).trans e
  exact ⟨hc _ _ h.c0, hc _ _ h.c1, hc _ _ h.c2, hc _ _ h.c3, hc _ _ h.c4, hf _ h.f0, hf _ h.f1, hf _ h.f2, hf _ h.f3, hf _ h.f4⟩
theorem B5.s0 {w : World} {b : Nat} {v0 v1 v2 v3 v4 : Value} (h : B5 w b v0 v1 v2 v3 v4) (v : Value) : B5 (w.setCell ⟨b, 0, none⟩ v) b v v1 v2 v3 v4 := by
  obtain ⟨c0, c1, c2, c3, c4, f0, f1, f2, f3, f4⟩ := h
  constructor <;> simp [World.cell?_setCell_same, go_sem, c0, c1, c2, c3, c4, f0, f1, f2, f3, f4]
theorem B5.s1 {w : World} {b : Nat} {v0 v1 v2 v3 v4 : Value} (h : B5 w b v0 v1 v2 v3 v4) (v : Value) : B5 (w.setCell ⟨b, 1, none⟩ v) b v0 v v2 v3 v4 := by
  obtain ⟨c0, c1, c2, c3, c4, f0, f1, f2, f3, f4⟩ := h
  constructor <;> simp [World.cell?_setCell_same, go_sem, c0, c1, c2, c3, c4, f0, f1, f2, f3, f4]
theorem B5.s2 {w : World} {b : Nat} {v0 v1 v2 v3 v4 : Value} (h : B5 w b v0 v1 v2 v3 v4) (v : Value) : B5 (w.setCell ⟨b, 2, none⟩ v) b v0 v1 v v3 v4 := by
  obtain ⟨c0, c1, c2, c3, c4, f0, f1, f2, f3, f4⟩ := h
  constructor <;> simp [World.cell?_setCell_same, go_sem, c0, c1, c2, c3, c4, f0, f1, f2, f3, f4]
theorem B5.s3 {w : World} {b : Nat} {v0 v1 v2 v3 v4 : Value} (h : B5 w b v0 v1 v2 v3 v4) (v : Value) : B5 (w.setCell ⟨b, 3, none⟩ v) b v0 v1 v2 v v4 := by
  obtain ⟨c0, c1, c2, c3, c4, f0, f1, f2, f3, f4⟩ := h
  constructor <;> simp [World.cell?_setCell_same, go_sem, c0, c1, c2, c3, c4, f0, f1, f2, f3, f4]
theorem B5.s4 {w : World} {b : Nat} {v0 v1 v2 v3 v4 : Value} (h : B5 w b v0 v1 v2 v3 v4) (v : Value) : B5 (w.setCell ⟨b, 4, none⟩ v) b v0 v1 v2 v3 v := by
  obtain ⟨c0, c1, c2, c3, c4, f0, f1, f2, f3, f4⟩ := h
  constructor <;> simp [World.cell?_setCell_same, go_sem, c0, c1, c2, c3, c4, f0, f1, f2, f3, f4]
/-- The box written. -/
def set5 (w : World) (b : Nat) (v0 v1 v2 v3 v4 : Value) : World := ((((w.setCell ⟨b, 0, none⟩ v0).setCell ⟨b, 1, none⟩ v1).setCell ⟨b, 2, none⟩ v2).setCell ⟨b, 3, none⟩ v3).setCell ⟨b, 4, none⟩ v4
theorem bel_set5 {B : Nat} {w w' : World} {b : Nat} (h : Below B w w') (hb : B ≤ b) (v0 v1 v2 v3 v4 : Value) : Below B w (set5 w' b v0 v1 v2 v3 v4) :=
  ((((h.setCell (p := ⟨b, 0, none⟩) hb v0).setCell (p := ⟨b, 1, none⟩) hb v1).setCell (p := ⟨b, 2, none⟩) hb v2).setCell (p := ⟨b, 3, none⟩) hb v3).setCell (p := ⟨b, 4, none⟩) hb v4
theorem B5.set {w : World} {b : Nat} {u0 u1 u2 u3 u4 : Value} (h : B5 w b u0 u1 u2 u3 u4) (v0 v1 v2 v3 v4 : Value) : B5 (set5 w b v0 v1 v2 v3 v4) b v0 v1 v2 v3 v4 :=
  ((((h.s0 v0).s1 v1).s2 v2).s3 v3).s4 v4
theorem ret_box {fn : Func} {t : Tmp} (hr : fn.results = #[.cell t 41]) {tmps : Array Value} {W : World} {b : Nat} {v0 v1 v2 v3 v4 : Value}
    (ht : tmps.getD t undef = .pointer (some ⟨b, 0, none⟩)) (h : B5 W b v0 v1 v2 v3 v4) : (results fn tmps).run Try.prog W = .ok (.agg #[v0, v1, v2, v3, v4]) W := by
  obtain ⟨c0, c1, c2, c3, c4, f0, f1, f2, f3, f4⟩ := h
  unfold results
  rw [hr]
  simp only [List.mapM_toArray, List.mapM_cons, List.mapM_nil, ht]
  simp [go_sem, c0, c1, c2, c3, c4]
theorem body_box {fn : Func} {R : Ending → World → Prop} {t : Tmp} (hr : fn.results = #[.cell t 41]) {a : Act} {w : World} {b : Nat} {u0 u1 u2 u3 u4 v0 v1 v2 v3 v4 : Value}
    (h : B5 w b u0 u1 u2 u3 u4) (ht : a.tmps.getD t undef = .pointer (some ⟨b, 0, none⟩)) (hd : a.defers = [])
    (hR : R (.returned (.agg #[v0, v1, v2, v3, v4])) (set5 w b v0 v1 v2 v3 v4)) : bodyPost Try.prog fn R .ret a (set5 w b v0 v1 v2 v3 v4) :=
  bodyPost_ret (ret_box hr ht (h.set v0 v1 v2 v3 v4)) hd hR
set_option maxHeartbeats 1000000 in
theorem rput_some {O S R1 R : ByteArray} {i c f : Int} {N z : Nat} (hN : N ≤ 1000) (h0 : S.size ≠ 0) (hS : S.size ≤ 9223372036854775807) (hz : cols S.data.toList = z) (hc0 : 0 ≤ c) (hc : c ≤ 1000000000) (hz2 : z ≤ 1000000000)
    (a1 : ∀ w, (Op.stringOp .add O (mkb (List.replicate N 32))).run Try.prog w = .ok (.string R1) w) (a2 : ∀ w, (Op.stringOp .add R1 S).run Try.prog w = .ok (.string R) w) (w : World) :
    Calls Try.prog 44 #[.agg #[.string O, .int .i64 i, .int .i64 c, .int .i64 (N : Int), .int .i64 f], .string S] w fun e w' => e = .returned (.agg #[.string R, .int .i64 i, .int .i64 (c + (z : Int)), .int .i64 0, .int .i64 f]) ∧ Below w.heap.size w w' := by
  have r1 := fun w => rblk_any hN w
  have r2 := fun w => rcols_any S hS hz w
  have hne := (size_ne h0).1
  have hwr : IntKind.i64.wrap (c + (z : Int)) = c + (z : Int) := IntWalk.i64_in _ (by omega)
  have HWR := Lib.hid hwr
  obtain ⟨B, hB⟩ : ∃ B, mkb (List.replicate N 32) = B := ⟨_, rfl⟩
  rw [hB] at r1 a1
  obtain ⟨g, hg⟩ : ∃ g, w.heap.size = g := ⟨_, rfl⟩
  have HG := Lib.hid hg
  have HA := Lib.hid (show B5 (w.alloc (.cells #[.string O, .int .i64 i, .int .i64 c, .int .i64 (N : Int), .int .i64 f] 41)) w.heap.size _ _ _ _ _ from B5.new w _ _ _ _ _ _)
  have HB := Lib.hid (HA.out.below (bel_alloc (Below.refl _ _) (.cells #[.string ⟨#[]⟩, .int .i64 0, .int .i64 0, .int .i64 0, .int .i64 0] 41)))
  have HC := Lib.hid (show B5 ((w.alloc (.cells #[.string O, .int .i64 i, .int .i64 c, .int .i64 (N : Int), .int .i64 f] 41)).alloc (.cells #[.string ⟨#[]⟩, .int .i64 0, .int .i64 0, .int .i64 0, .int .i64 0] 41)) (w.heap.size + 1) _ _ _ _ _ by simpa using B5.new (w.alloc (.cells #[.string O, .int .i64 i, .int .i64 c, .int .i64 (N : Int), .int .i64 f] 41)) _ _ _ _ _ _)
  have HD := Lib.hid (bel_alloc (bel_alloc (Below.refl _ w) (.cells #[.string O, .int .i64 i, .int .i64 c, .int .i64 (N : Int), .int .i64 f] 41)) (.cells #[.string ⟨#[]⟩, .int .i64 0, .int .i64 0, .int .i64 0, .int .i64 0] 41))
  clear h0 hS hz hB hN hc0 hc hz2 hwr hg HA
  go_enter Try.func44, Try.ntmps44
  go_wp2
  generalize (w.alloc (.cells #[.string O, .int .i64 i, .int .i64 c, .int .i64 (N : Int), .int .i64 f] 41)).alloc (.cells #[.string ⟨#[]⟩, .int .i64 0, .int .i64 0, .int .i64 0, .int .i64 0] 41) = W0 at HB HC HD ⊢
  rw [HG.out] at HB HC ⊢
  go_cut [] from 8 to 16 (fun W => Hid (B5 W g (.string R) (.int .i64 i) (.int .i64 c) (.int .i64 (N : Int)) (.int .i64 f)) ∧ Hid (B5 W (g + 1) (.string ⟨#[]⟩) (.int .i64 0) (.int .i64 0) (.int .i64 0) (.int .i64 0)) ∧ Hid (Below w.heap.size w W))
  case first =>
    obtain ⟨c0, c1, c2, c3, c4, f0, f1, f2, f3, f4⟩ := HB.out
    go_region_law (go_simp; go_at_call 64; refine (r1 _).mono ?_; rintro e w1 ⟨rfl, rfl⟩)
    all_goals (go_wp2_with fail)
    all_goals go_meet
    all_goals exact ⟨Lib.hid ((HB.out.s0 _).below (Below.refl _ _).drew), Lib.hid ((HC.out.other (p := ⟨g, 0, none⟩) (Nat.ne_of_lt (Nat.lt_succ_self g)) _).below (Below.refl _ _).drew), Lib.hid ((HD.out.setCell (p := ⟨g, 0, none⟩) (Nat.le_of_eq HG.out) _).drew)⟩
  case rest =>
    obtain ⟨k1, k2, k3⟩ := hcut
    obtain ⟨c0, c1, c2, c3, c4, f0, f1, f2, f3, f4⟩ := k1.out
    go_wp2_with fail
    have K1 := Lib.hid (k1.out.s3 (.int .i64 0))
    have K2 := Lib.hid (k2.out.other (p := ⟨g, 3, none⟩) (Nat.ne_of_lt (Nat.lt_succ_self g)) (.int .i64 0))
    have K3 := Lib.hid (k3.out.setCell (p := ⟨g, 3, none⟩) (Nat.le_of_eq HG.out) (.int .i64 0))
    clear k1 k2 k3 c0 c1 c2 c3 c4 f0 f1 f2 f3 f4 HB HC HD a1 a2 r1
    generalize wc.setCell ⟨g, 3, none⟩ (.int .i64 0) = W4 at K1 K2 K3 ⊢
    go_cut [] from 18 to 23 (fun W => Hid (B5 W g (.string R) (.int .i64 i) (.int .i64 (c + (z : Int))) (.int .i64 0) (.int .i64 f)) ∧ Hid (B5 W (g + 1) (.string ⟨#[]⟩) (.int .i64 0) (.int .i64 0) (.int .i64 0) (.int .i64 0)) ∧ Hid (Below w.heap.size w W))
    case first =>
      obtain ⟨c0, c1, c2, c3, c4, f0, f1, f2, f3, f4⟩ := K1.out
      have hwr := HWR.out
      go_region_law (go_simp; go_at_call 40; refine (r2 _).mono ?_; rintro e w2 ⟨rfl, hb2⟩; have H1 := Lib.hid (K1.out.below (bel_trans (Below.refl _ _).drew hb2)); have H2 := Lib.hid (K2.out.below (bel_trans (Below.refl _ _).drew hb2)); have H3 := Lib.hid (bel_trans K3.out (bel_trans (Below.refl _ _).drew hb2)); have d2 := H1.out.c2; have g2 := H1.out.f2; clear hb2)
      all_goals (go_wp2_with fail)
      all_goals go_meet
      all_goals exact ⟨Lib.hid (H1.out.s2 _), Lib.hid (H2.out.other (p := ⟨g, 2, none⟩) (Nat.ne_of_lt (Nat.lt_succ_self g)) _), Lib.hid (H3.out.setCell (p := ⟨g, 2, none⟩) (Nat.le_of_eq HG.out) _)⟩
    case rest =>
      obtain ⟨k1, k2, k3⟩ := hcut
      obtain ⟨c0, c1, c2, c3, c4, f0, f1, f2, f3, f4⟩ := k1.out
      obtain ⟨d0, d1, d2, d3, d4, e0, e1, e2, e3, e4⟩ := k2.out
      go_wp2
      refine body_box rfl k2.out rfl rfl ?_
      exact ⟨rfl, bel_set5 k3.out (by rw [HG.out]; exact Nat.le_succ _) _ _ _ _ _⟩
end Go.Proofs.Ytfcjihfnimefhaa
