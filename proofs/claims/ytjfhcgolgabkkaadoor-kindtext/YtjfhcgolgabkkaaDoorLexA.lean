/- Contracts of package lex's functions: token, number, folded, quoted, One. -/
import Derived.Test.YtjfhcgolgabkkaaDoorLexM
import Derived.Test.YtjfhcgolgabkkaaDoorScanC
import Derived.Test.YtjfhcgolgabkkaaDoorNumB
import Derived.Test.YtjfhcgolgabkkaaDoorTextE
import Derived.Test.YtjfhcgolgabkkaaDoorFoldE
import Derived.Test.YtjfhcgolgabkkaaDoorUtfC
namespace Go.Proofs.YtjfhcgolgabkkaaDoor
open Go.RowKit
set_option linter.unusedVariables false

/-- What a call that hands back a token ends with. -/
def tokE (k : Int) (v : ByteArray) (a e er p : Int) : Ending := .returned (.tuple #[.agg #[.int .i64 k, .string v, .int .i64 a, .int .i64 e], .int .i64 er, .int .i64 p])

set_option maxHeartbeats 400000 in
theorem token_any (k : Int) (v : ByteArray) (i e : Int) (w : World) :
    Calls Tryd.prog 39 #[.int .i64 k, .string v, .int .i64 i, .int .i64 e] w fun r w' => r = tokE k v i e 0 e ∧ Below w.heap.size w w' := by
  go_enter Tryd.func39, Tryd.ntmps39
  go_wp2
  go_returns
  exact ⟨rfl, by go_grown⟩
theorem token_b {k : Int} {v : ByteArray} {i e : Int} {u : ByteArray} (h : v = u) (w : World) :
    Calls Tryd.prog 39 #[.int .i64 k, .string v, .int .i64 i, .int .i64 e] w fun r w' => r = .returned (.tuple #[.agg #[.int .i64 k, .string u, .int .i64 i, .int .i64 e], .int .i64 0, .int .i64 e]) ∧ Below w.heap.size w w' := by
  subst h; exact token_any k v i e w

/-- A token's box: its four cells. -/
structure B4 (w : World) (b : Nat) (v0 v1 v2 v3 : Value) : Prop where
  c0 : w.cell? ⟨b, 0, none⟩ = some v0
  c1 : w.cell? ⟨b, 1, none⟩ = some v1
  c2 : w.cell? ⟨b, 2, none⟩ = some v2
  c3 : w.cell? ⟨b, 3, none⟩ = some v3
  f0 : w.frozen? ⟨b, 0, none⟩ = false
  f1 : w.frozen? ⟨b, 1, none⟩ = false
  f2 : w.frozen? ⟨b, 2, none⟩ = false
  f3 : w.frozen? ⟨b, 3, none⟩ = false
theorem B4.new (w : World) (v0 v1 v2 v3 : Value) (t : TypeId) : B4 (w.alloc (.cells #[v0, v1, v2, v3] t)) w.heap.size v0 v1 v2 v3 := by
  constructor <;> simp [go_sem]
theorem B4.below {w w' : World} {b : Nat} {v0 v1 v2 v3 : Value} (h : B4 w b v0 v1 v2 v3) (hb : Below w.heap.size w w') : B4 w' b v0 v1 v2 v3 := by
  have hlt : b < w.heap.size := World.block_lt_of_cell? w _ h.c0
  exact ⟨(hb.cell (p := ⟨b, 0, none⟩) hlt).trans h.c0, (hb.cell (p := ⟨b, 1, none⟩) hlt).trans h.c1, (hb.cell (p := ⟨b, 2, none⟩) hlt).trans h.c2, (hb.cell (p := ⟨b, 3, none⟩) hlt).trans h.c3,
    (hb.frozen (p := ⟨b, 0, none⟩) hlt).trans h.f0, (hb.frozen (p := ⟨b, 1, none⟩) hlt).trans h.f1, (hb.frozen (p := ⟨b, 2, none⟩) hlt).trans h.f2, (hb.frozen (p := ⟨b, 3, none⟩) hlt).trans h.f3⟩
/-- The box written. -/
def set4 (w : World) (b : Nat) (v0 v1 v2 v3 : Value) : World := (((w.setCell ⟨b, 0, none⟩ v0).setCell ⟨b, 1, none⟩ v1).setCell ⟨b, 2, none⟩ v2).setCell ⟨b, 3, none⟩ v3
theorem bel_set4 {w w' : World} {b : Nat} (h : Below w.heap.size w w') (hb : w.heap.size ≤ b) (v0 v1 v2 v3 : Value) : Below w.heap.size w (set4 w' b v0 v1 v2 v3) :=
  (((h.setCell (p := ⟨b, 0, none⟩) hb v0).setCell (p := ⟨b, 1, none⟩) hb v1).setCell (p := ⟨b, 2, none⟩) hb v2).setCell (p := ⟨b, 3, none⟩) hb v3
theorem B4.set {w : World} {b : Nat} {u0 u1 u2 u3 : Value} (h : B4 w b u0 u1 u2 u3) (v0 v1 v2 v3 : Value) : B4 (set4 w b v0 v1 v2 v3) b v0 v1 v2 v3 := by
  obtain ⟨c0, c1, c2, c3, f0, f1, f2, f3⟩ := h
  unfold set4
  constructor <;> simp [World.cell?_setCell_same, go_sem, c0, c1, c2, c3, f0, f1, f2, f3]
theorem ret_box {fn : Func} {t u v : Tmp} (hr : fn.results = #[.cell t 23, .tmp u, .tmp v]) {tmps : Array Value} {W : World} {b : Nat} {v0 v1 v2 v3 : Value}
    (ht : tmps.getD t undef = .pointer (some ⟨b, 0, none⟩)) (h : B4 W b v0 v1 v2 v3) : (results fn tmps).run Tryd.prog W = .ok (.tuple #[.agg #[v0, v1, v2, v3], tmps.getD u undef, tmps.getD v undef]) W := by
  obtain ⟨c0, c1, c2, c3, f0, f1, f2, f3⟩ := h
  unfold results
  rw [hr]
  simp only [List.mapM_toArray, List.mapM_cons, List.mapM_nil, ht]
  simp [go_sem, c0, c1, c2, c3]
theorem body_box {fn : Func} {R : Ending → World → Prop} {t u v : Tmp} (hr : fn.results = #[.cell t 23, .tmp u, .tmp v]) {a : Act} {w : World} {b : Nat} {u0 u1 u2 u3 v0 v1 v2 v3 : Value}
    (h : B4 w b u0 u1 u2 u3) (ht : a.tmps.getD t undef = .pointer (some ⟨b, 0, none⟩)) (hd : a.defers = [])
    (hR : R (.returned (.tuple #[.agg #[v0, v1, v2, v3], a.tmps.getD u undef, a.tmps.getD v undef])) (set4 w b v0 v1 v2 v3)) : bodyPost Tryd.prog fn R .ret a (set4 w b v0 v1 v2 v3) :=
  bodyPost_ret (ret_box hr ht (h.set v0 v1 v2 v3)) hd hR

theorem ext_take (s : ByteArray) (k n : Nat) : s.extract k (k + n) = mkb ((s.data.toList.drop k).take n) := by
  apply ByteArray.ext
  apply Array.ext'
  simp [mkb, ByteArray.data_extract, Array.toList_extract, List.extract_eq_take_drop]

set_option maxHeartbeats 400000 in
theorem number_ok {s : ByteArray} {i : Int} {k : Nat} {m : Nat} {kd : Int} (hs : s.size ≤ 1000000) (hi : i = (k : Int)) (hn : Sc.numA s.data.toList i = ⟨kd, i + (m : Int), true⟩) (hle : k + m ≤ s.size) (w : World) :
    Calls Tryd.prog 42 #[.string s, .int .i64 i] w fun r w' => r = .returned (.tuple #[.agg #[.int .i64 kd, .string (mkb ((s.data.toList.drop k).take m)), .int .i64 i, .int .i64 (i + (m : Int))], .int .i64 0, .int .i64 (i + (m : Int))]) ∧ Below w.heap.size w w' := by
  subst hi
  have r1 := fun w => Sc.number_any s (k : Int) w (by omega) (by omega) (by omega)
  rw [hn] at r1
  unfold Sc.Nm.end at r1
  have ht := fun w => token_b (k := kd) (i := (k : Int)) (e := (k : Int) + (m : Int)) (v := s.extract k (k + m)) (ext_take s k m) w
  clear hn
  go_enter Tryd.func42, Tryd.ntmps42
  go_wp2_with fail
  (with_reducible refine (r1 _).mono ?_)
  rintro e w1 ⟨rfl, hb1⟩
  go_wp2_with fail
  (with_reducible refine (ht _).mono ?_)
  rintro e w2 ⟨rfl, hb2⟩
  have H := ((B4.new w (.int .i64 0) (.string ⟨#[]⟩) (.int .i64 0) (.int .i64 0) 23).below hb1).below hb2
  obtain ⟨c0, c1, c2, c3, f0, f1, f2, f3⟩ := H
  have hb := bel_trans (bel_trans (bel_alloc (Below.refl _ w) _) hb1) hb2
  clear hb1 hb2
  go_wp2
  refine body_box rfl ⟨c0, c1, c2, c3, f0, f1, f2, f3⟩ rfl rfl ?_
  exact ⟨rfl, bel_set4 hb (Nat.le_refl _) _ _ _ _⟩
set_option maxHeartbeats 400000 in
theorem number_no {s : ByteArray} {i p : Int} {kd : Int} (hs : s.size ≤ 1000000) (hi0 : 0 ≤ i) (hi : i ≤ s.size) (hn : Sc.numA s.data.toList i = ⟨kd, p, false⟩) (w : World) :
    Calls Tryd.prog 42 #[.string s, .int .i64 i] w fun r w' => r = .returned (.tuple #[.agg #[.int .i64 0, .string ⟨#[]⟩, .int .i64 0, .int .i64 0], .int .i64 3, .int .i64 p]) ∧ Below w.heap.size w w' := by
  have r1 := fun w => Sc.number_any s i w (by omega) (by omega) (by omega)
  rw [hn] at r1
  unfold Sc.Nm.end at r1
  clear hn
  go_enter Tryd.func42, Tryd.ntmps42
  go_wp2_with fail
  (with_reducible refine (r1 _).mono ?_)
  rintro e w1 ⟨rfl, hb1⟩
  have H := ((B4.new w (.int .i64 0) (.string ⟨#[]⟩) (.int .i64 0) (.int .i64 0) 23).below hb1)
  obtain ⟨c0, c1, c2, c3, f0, f1, f2, f3⟩ := H
  have hb := bel_trans (bel_alloc (Below.refl _ w) _) hb1
  clear hb1
  go_wp2
  refine body_box rfl ⟨c0, c1, c2, c3, f0, f1, f2, f3⟩ rfl rfl ?_
  exact ⟨rfl, bel_set4 hb (Nat.le_refl _) _ _ _ _⟩

set_option maxHeartbeats 400000 in
theorem folded_any (s : ByteArray) (i : Int) (hs : s.size ≤ 1000000) (w : World) :
    Calls Tryd.prog 51 #[.string s, .int .i64 i] w fun r w' => r = .returned (.tuple #[.string (mkb (Fo.fld (Fo.rawA s.data.toList i).v)), .int .i64 (i + ((Fo.rawA s.data.toList i).n : Int)), .bool (Fo.rawA s.data.toList i).b]) ∧ Below w.heap.size w w' := by
  have hv := (Fo.rawA_n s.data.toList i).2.2.2.2
  rw [← Lib.size_eq] at hv
  have r1 := fun w => Fo.raw_any s i w (by omega)
  unfold Fo.rawE at r1
  generalize Fo.rawA s.data.toList i = r at *
  have r2 := fun w => Fo.fold_any (mkb r.v) (by rw [mkb_size]; omega) w
  rw [mkb_data] at r2
  go_enter Tryd.func51, Tryd.ntmps51
  go_wp2_with fail
  (with_reducible refine (r1 _).mono ?_)
  rintro e w1 ⟨rfl, hb1⟩
  go_wp2_with fail
  (with_reducible refine (r2 _).mono ?_)
  rintro e w2 ⟨rfl, hb2⟩
  go_wp2
  go_ret3
  exact ⟨rfl, bel_trans hb1 hb2⟩
end Go.Proofs.YtjfhcgolgabkkaaDoor
