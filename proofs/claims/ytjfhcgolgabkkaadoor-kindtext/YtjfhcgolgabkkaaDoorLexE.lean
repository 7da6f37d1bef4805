/- The contract of lex.Lex. -/
import Derived.Test.YtjfhcgolgabkkaaDoorLexD
import Derived.Test.YtjfhcgolgabkkaaDoorFoldC
import Derived.BigRegionIn
namespace Go.Proofs.YtjfhcgolgabkkaaDoor
open Go.RowKit Go.Shelf
set_option linter.unusedVariables false

theorem infoT : (Tryd.prog.info? 23).map (fun i => (i.zero, i.size, i.bytes)) = some (some (.agg #[.int .i64 0, .string ⟨#[]⟩, .int .i64 0, .int .i64 0]), 4, 40) := by kernel_rfl
/-- A token's four cells. -/
def cl4 (y : Yl) : List Value := [.int .i64 y.t.k, .string (mkb y.t.v), .int .i64 y.a, .int .i64 y.z]
def cls (ys : List Yl) : List Value := ys.flatMap cl4
theorem cls_len (ys : List Yl) : (cls ys).length = ys.length * 4 := by
  induction ys with
  | nil => rfl
  | cons y ys ih => rw [cls, List.flatMap_cons, List.length_append]; change 4 + (cls ys).length = _; rw [ih, List.length_cons]; omega
theorem cls_snoc (ys : List Yl) (y : Yl) : cls (ys ++ [y]) = cls ys ++ cl4 y := by simp [cls]

/-- The two boxes of a round: the token's, and what goes wrong. -/
structure Rd (W : World) (b7 b8 : Nat) (x : Yl) : Prop where
  c0 : W.cell? ⟨b7, 0, none⟩ = some (.int .i64 x.t.k)
  c1 : W.cell? ⟨b7, 1, none⟩ = some (.string (mkb x.t.v))
  c2 : W.cell? ⟨b7, 2, none⟩ = some (.int .i64 x.a)
  c3 : W.cell? ⟨b7, 3, none⟩ = some (.int .i64 x.z)
  d0 : W.cell? ⟨b8, 0, none⟩ = some (.int .i64 x.t.e)
  d1 : W.cell? ⟨b8, 1, none⟩ = some (.int .i64 ((x.o : Int) + (x.t.n : Int)))
theorem Rd.kept {W W' : World} {row : Option Nat} {b7 b8 : Nat} {x : Yl} (h : Rd W b7 b8 x) (hg : W.grownBy W' row) (hrow : ∀ r, row = some r → ∃ o : Obj, W.heap[r]? = some o ∧ o.isCells = false) : Rd W' b7 b8 x :=
  ⟨cell_kept h.c0 hg hrow, cell_kept h.c1 hg hrow, cell_kept h.c2 hg hrow, cell_kept h.c3 hg hrow, cell_kept h.d0 hg hrow, cell_kept h.d1 hg hrow⟩
theorem Rd.new (W : World) (x : Yl) (t u : TypeId) : Rd ((W.alloc (.cells #[.int .i64 x.t.k, .string (mkb x.t.v), .int .i64 x.a, .int .i64 x.z] t)).alloc (.cells #[.int .i64 x.t.e, .int .i64 ((x.o : Int) + (x.t.n : Int))] u)) W.heap.size (W.heap.size + 1) x := by
  constructor <;> simp [go_sem]

/-- The three boxes of Lex's results. -/
structure Rb (W : World) (b : Nat) (v : Value) (er p : Int) : Prop where
  r2 : Boxed W b 24 v
  r3 : Boxed W (b + 1) 35 (.int .i64 er)
  r4 : Boxed W (b + 1 + 1) 3 (.int .i64 p)
theorem Rb.kept {W W' : World} {row : Option Nat} {b : Nat} {v : Value} {er p : Int} (h : Rb W b v er p) (hg : W.grownBy W' row) (h0 : some b ≠ row) (h1 : some (b + 1) ≠ row) (h2 : some (b + 1 + 1) ≠ row) : Rb W' b v er p :=
  ⟨h.r2.kept hg h0, h.r3.kept hg h1, h.r4.kept hg h2⟩
theorem Boxed.notRow {W : World} {row : Option Nat} {b : Nat} {t : TypeId} {v : Value} (h : Boxed W b t v) (hrow : ∀ r, row = some r → ∃ o : Obj, W.heap[r]? = some o ∧ o.isCells = false) : some b ≠ row := fun e => by
  obtain ⟨o, ho, hc⟩ := hrow b e.symm
  rw [show W.heap[b]? = _ from h] at ho
  cases ho; cases hc
theorem Rb.own {W W' : World} {row : Option Nat} {b : Nat} {v : Value} {er p : Int} (h : Rb W b v er p) (hg : W.grownBy W' row) (hrow : ∀ r, row = some r → ∃ o : Obj, W.heap[r]? = some o ∧ o.isCells = false) : Rb W' b v er p :=
  h.kept hg (Boxed.notRow h.r2 hrow) (Boxed.notRow h.r3 hrow) (Boxed.notRow h.r4 hrow)
theorem Rb.new (w : World) (v : Value) (er p : Int) : Rb (((w.alloc (.cells #[v] 24)).alloc (.cells #[.int .i64 er] 35)).alloc (.cells #[.int .i64 p] 3)) w.heap.size v er p := by
  have h1 := Boxed.new w 24 v
  have h2 := Boxed.new (w.alloc (.cells #[v] 24)) 35 (.int .i64 er)
  have h3 := Boxed.new ((w.alloc (.cells #[v] 24)).alloc (.cells #[.int .i64 er] 35)) 3 (.int .i64 p)
  rw [World.size_alloc] at h2
  rw [World.size_alloc, World.size_alloc] at h3
  exact ⟨(h1.alloc _).alloc _, h2.alloc _, h3⟩
theorem Rb.below {W W' : World} {b : Nat} {v : Value} {er p : Int} (h : Rb W b v er p) (hb : Below W.heap.size W W') : Rb W' b v er p := h.kept (grown_of_below hb) (by simp) (by simp) (by simp)

/-- Between two rounds. -/
structure Ii (w w1 : World) (pre : List Yl) (W : World) : Prop where
  row : ∃ v, Boxed W w1.heap.size 24 v ∧ W.ownsRow (w1.heap.size + 2) 23 4 v pre.length (cls pre) ∧ True
  res : Rb W w.heap.size (.slice none 0 0) 0 0
  bel : Below w.heap.size w W
  siz : w1.heap.size + 2 ≤ W.heap.size
  ok : allOk pre = true
/-- Behind a round that has left. -/
structure Ij (w w1 : World) (c : Code) (pre : List Yl) (W : World) : Prop where
  ret : c = .ret
  res : Rb W w.heap.size (.slice none 0 0) (errOf pre).1 (errOf pre).2
  bel : Below w.heap.size w W
  siz : w1.heap.size + 2 ≤ W.heap.size
  no : allOk pre = false
theorem Ii.own (w w1 : World) (hw : w.heap.size ≤ w1.heap.size) (N : Nat) (hN : w.heap.size ≤ N) : OwnFrom N (Ii w w1) := fun s A B row hs hg hr => by
  have hr' : ∀ r, row = some r → ∃ o : Obj, A.heap[r]? = some o ∧ o.isCells = false := fun r e => (hr r e).2
  refine ⟨?_, hs.res.own hg hr', hs.bel.grown hg hs.bel.size (fun k e => Nat.le_trans hN (hr k e).1), Nat.le_trans hs.siz hg.size, hs.ok⟩
  exact holdsRow_own (w1.heap.size + 2) w1.heap.size 24 23 4 (fun pre : List Yl => pre.length) cls (fun _ _ => True) s A B row hs.row hg hr'
theorem Ij.own (w w1 : World) (hw : w.heap.size ≤ w1.heap.size) (N : Nat) (hN : w.heap.size ≤ N) (c : Code) : OwnFrom N (Ij w w1 c) := fun s A B row hs hg hr => by
  have hr' : ∀ r, row = some r → ∃ o : Obj, A.heap[r]? = some o ∧ o.isCells = false := fun r e => (hr r e).2
  exact ⟨hs.ret, hs.res.own hg hr', hs.bel.grown hg hs.bel.size (fun k e => Nat.le_trans hN (hr k e).1), Nat.le_trans hs.siz hg.size, hs.no⟩

theorem cells_new (W : World) (vs : List Value) (t : TypeId) : ∀ j u, vs[j]? = some u → (W.alloc (.cells vs.toArray t)).cell? ((⟨W.heap.size, 0, none⟩ : Addr).add j) = some u := fun j u hj => by
  have := World.cell?_alloc_mark W vs.toArray t (0, 0) j
  have ea : (⟨W.heap.size, 0, none⟩ : Addr).add j = ⟨W.heap.size, j, none⟩ := by unfold Addr.add; split <;> simp_all
  rw [ea, this]; simpa using hj
theorem res3 {fn : Func} (hr : fn.results = #[.cell 2 24, .cell 3 35, .cell 4 3]) {tmps : Array Value} {W : World} {b : Nat} {v : Value} {er p : Int}
    (h2 : tmps.getD 2 undef = .pointer (some ⟨b, 0, none⟩)) (h3 : tmps.getD 3 undef = .pointer (some ⟨b + 1, 0, none⟩)) (h4 : tmps.getD 4 undef = .pointer (some ⟨b + 1 + 1, 0, none⟩))
    (h : Rb W b v er p) : (results fn tmps).run Tryd.prog W = .ok (.tuple #[v, .int .i64 er, .int .i64 p]) W := by
  have c2 := h.r2.cell
  have c3 := h.r3.cell
  have c4 := h.r4.cell
  unfold results
  rw [hr]
  simp only [List.mapM_toArray, List.mapM_cons, List.mapM_nil, h2, h3, h4]
  simp [go_sem, c2, c3, c4]
theorem Rb.set {W : World} {b : Nat} {v : Value} {er p : Int} (h : Rb W b v er p) (v' : Value) (er' p' : Int) : Rb (((W.setCell ⟨b, 0, none⟩ v').setCell ⟨b + 1, 0, none⟩ (.int .i64 er')).setCell ⟨b + 1 + 1, 0, none⟩ (.int .i64 p')) b v' er' p' :=
  ⟨((h.r2.set v').other (by omega) _).other (by omega) _, ((h.r3.other (by omega) _).set _).other (by omega) _, ((h.r4.other (by omega) _).other (by omega) _).set _⟩
theorem bel_three {w W : World} {b : Nat} (h : Below w.heap.size w W) (hb : w.heap.size ≤ b) (v1 v2 v3 : Value) : Below w.heap.size w (((W.setCell ⟨b, 0, none⟩ v1).setCell ⟨b + 1, 0, none⟩ v2).setCell ⟨b + 1 + 1, 0, none⟩ v3) :=
  ((h.setCell (p := ⟨b, 0, none⟩) hb v1).setCell (p := ⟨b + 1, 0, none⟩) (by show w.heap.size ≤ b + 1; omega) v2).setCell (p := ⟨b + 1 + 1, 0, none⟩) (by show w.heap.size ≤ b + 1 + 1; omega) v3
theorem keep_three (W : World) (b : Nat) (v1 v2 v3 : Value) : KeepsOthers W (((W.setCell ⟨b, 0, none⟩ v1).setCell ⟨b + 1, 0, none⟩ v2).setCell ⟨b + 1 + 1, 0, none⟩ v3) :=
  ((KeepsOthers.setCell _ _ _).trans (KeepsOthers.setCell _ _ _)).trans (KeepsOthers.setCell _ _ _)

theorem row_slice {W : World} {b : Nat} {t : TypeId} {k n : Nat} {v : Value} {xs : List Value} (h : W.ownsRow b t k v n xs) : ∃ A c, v = .slice A n c := by
  rcases h.2 with ⟨h1, h2⟩ | ⟨g, cap, cur, h1, _⟩
  · exact ⟨none, 0, by rw [h1, h2]⟩
  · exact ⟨_, cap, h1⟩
theorem allOk_snoc {pre : List Yl} {x : Yl} (h : allOk pre = true) (he : x.t.e = 0) : allOk (pre ++ [x]) = true := by rw [allOk_append, h]; simp [allOk, he]
theorem allOk_bad {pre : List Yl} {x : Yl} (he : x.t.e ≠ 0) : allOk (pre ++ [x]) = false := by rw [allOk_append]; simp [allOk, he]

theorem left_end {w w1 W : World} {pre : List Yl} {x : Yl} {N : Nat} (hI : Ii w w1 pre W) (he : ¬ x.t.e = 0) :
    KeepsFrom N W (World.drew (((W.setCell ⟨w.heap.size, 0, none⟩ (.slice none 0 0)).setCell ⟨w.heap.size + 1, 0, none⟩ (.int .i64 x.t.e)).setCell ⟨w.heap.size + 1 + 1, 0, none⟩ (.int .i64 ((x.o : Int) + (x.t.n : Int))))) ∧
    Ij w w1 .ret (pre ++ [x]) (World.drew (((W.setCell ⟨w.heap.size, 0, none⟩ (.slice none 0 0)).setCell ⟨w.heap.size + 1, 0, none⟩ (.int .i64 x.t.e)).setCell ⟨w.heap.size + 1 + 1, 0, none⟩ (.int .i64 ((x.o : Int) + (x.t.n : Int))))) := by
  have hk := keep_three W w.heap.size (.slice none 0 0) (.int .i64 x.t.e) (.int .i64 ((x.o : Int) + (x.t.n : Int)))
  have hs := hI.res.set (.slice none 0 0) x.t.e ((x.o : Int) + (x.t.n : Int))
  have hb := bel_three hI.bel (Nat.le_refl _) (.slice none 0 0) (.int .i64 x.t.e) (.int .i64 ((x.o : Int) + (x.t.n : Int)))
  refine ⟨⟨hk.size, fun k o _ h1 h2 => hk.same k o h1 h2⟩, rfl, ?_, hb.drew, Nat.le_trans hI.siz hk.size, allOk_bad he⟩
  rw [errOf_last hI.ok he]
  have e : ((x.o + x.t.n : Nat) : Int) = (x.o : Int) + (x.t.n : Int) := by omega
  rw [e]
  exact ⟨hs.r2, hs.r3, hs.r4⟩
theorem Rb.put {W : World} {b D : Nat} {v : Value} {er p : Int} (h : Rb W b v er p) (hD : b + 2 < D) (o : Obj) : Rb (W.putObj D o) b v er p :=
  h.kept (grownBy_putObj' W D o) (by simp; omega) (by simp; omega) (by simp; omega)
theorem row_three {W : World} {b : Nat} {v u : Value} {er p : Int} {base n : Nat} {xs : List Value} (h : W.ownsRow base 23 4 v n xs) (hr : Rb W b u er p) (v1 v2 v3 : Value) :
    (((W.setCell ⟨b, 0, none⟩ v1).setCell ⟨b + 1, 0, none⟩ v2).setCell ⟨b + 1 + 1, 0, none⟩ v3).ownsRow base 23 4 v n xs := by
  have n2 := hr.r2.not_row (by decide) h
  have n3 := hr.r3.not_row (by decide) h
  have n4 := hr.r4.not_row (by decide) h
  exact ((h.kept (grownBy_setCell' _ _ _) (.inr n2.symm)).kept (grownBy_setCell' _ _ _) (.inr n3.symm)).kept (grownBy_setCell' _ _ _) (.inr n4.symm)

theorem errOf_cut {a : List Yl} (h : allOk a = false) (b : List Yl) : errOf (a ++ b) = errOf a := by
  induction a with
  | nil => cases h
  | cons y ys ih =>
    rw [allOk_cons] at h
    show (if y.t.e = 0 then errOf (ys ++ b) else _) = (if y.t.e = 0 then errOf ys else _)
    by_cases he : y.t.e = 0
    · rw [if_pos he, if_pos he]
      exact ih (by simpa [he] using h)
    · rw [if_neg he, if_neg he]
theorem errOf_pre {a Y : List Yl} (hp : a <+: Y) (h : allOk a = false) : allOk Y = false ∧ errOf Y = errOf a := by
  obtain ⟨b, rfl⟩ := hp
  exact ⟨by rw [allOk_append, h]; rfl, errOf_cut h b⟩

section
attribute [local go_sem] Oper.semAt_some
set_option maxRecDepth 100000 in
set_option maxHeartbeats 2000000 in
theorem lex_in (s : ByteArray) (hs : s.size ≤ 1000000) (w : World) (hbad : badI s.data.toList < 0) :
    Calls Tryd.prog 20 #[.string s] w fun e w' => ∃ v er p, e = .returned (.tuple #[v, .int .i64 er, .int .i64 p]) ∧ Below w.heap.size w w' ∧
      ((allOk (ylds s.data.toList 0) = true ∧ er = 0 ∧ p = s.size ∧ w'.ownsRow w.heap.size 23 4 v (ylds s.data.toList 0).length (cls (ylds s.data.toList 0))) ∨
       (allOk (ylds s.data.toList 0) = false ∧ v = .slice none 0 0 ∧ er = (errOf (ylds s.data.toList 0)).1 ∧ p = (errOf (ylds s.data.toList 0)).2)) := by
  obtain ⟨i0, hi, hz0, hz1, hz2⟩ := info_parts infoT
  have r0 := fun w => bad_any s (by omega) w
  have HN := Lib.hid hbad
  generalize badI s.data.toList = bd at *
  refine (callsIn_wide (n := 4)).1 ?_
  refine callsIn_of_wp_marks Tryd.func20 rfl trivial ?_ rfl
  simp only [Tryd.ntmps20, List.size_toArray, List.length_cons, List.length_nil, Nat.reduceAdd, Nat.reduceSub, Array.replicate_succ, Array.replicate_zero, List.push_toArray, List.append_toArray, List.nil_append, List.cons_append]
  gi_wp2_with fail
  refine ⟨trivial, ?_⟩
  refine (callsIn_wide.2 (r0 _)).mono ?_
  rintro e w1 ⟨rfl, hb1⟩
  gi_wp2_with fail
  refine ⟨trivial, ?_⟩
  refine (callsIn_wide.2 (tokens0_any _ _)).mono ?_
  rintro e w' ⟨rfl, rfl⟩
  gi_wp2_with fail
  have hsz1 := hb1.size
  simp only [World.size_alloc] at hsz1
  have R1 := (Rb.new w (.slice none 0 0) 0 0).below hb1
  have hB1 : Below w.heap.size w w1 := ((((Below.refl _ w).alloc (Nat.le_refl _) _).alloc (by simp) _).alloc (by simp; omega) _).trans (hb1.mono (by simp; omega))
  clear hb1
  have bO := Boxed.new w1 24 (.slice none 0 0)
  have bN := Boxed.new (w1.alloc (.cells #[.slice none 0 0] 24)) 9 (.string s)
  rw [World.size_alloc] at bN
  have hB2 : Below w.heap.size w ((w1.alloc (.cells #[.slice none 0 0] 24)).alloc (.cells #[.string s] 9)) := (hB1.alloc (by omega) _).alloc (by simp; omega) _
  have hb2 : Below w1.heap.size w1 ((w1.alloc (.cells #[.slice none 0 0] 24)).alloc (.cells #[.string s] 9)) := ((Below.refl _ w1).alloc (Nat.le_refl _) _).alloc (by simp) _
  refine wpIn_rangeFunc_ownH rfl (by omega) (gf := 29) (lb := #[.pointer (some ⟨w1.heap.size + 1, 0, none⟩)]) rfl trivial (enters_of Tryd.func29 (by kernel_rfl) rfl)
    (tokens_stops _ (by omega) (w1.heap.size + 1) w.heap.size s hs _ (by simp) bN.cell) Fo.kpS_t (Fo.kpS_b (by simp; omega)) (Below.refl _ _) (fun _ => rfl)
    (Ii w w1) (Ij w w1) (Ii.own w w1 (by omega) _ (by simp; omega)) (fun c => Ij.own w w1 (by omega) _ (by simp; omega) c)
    ⟨⟨_, bO.alloc _, World.ownsRow_nil _ _ _ _, trivial⟩, R1.below hb2, hB2, by simp, rfl⟩
    (fun x a' W => ∃ b7 b8, w1.heap.size + 2 ≤ b7 ∧ w1.heap.size + 2 ≤ b8 ∧ Rd W b7 b8 x ∧ a' = { tmps := #[.string s, undef, .pointer (some ⟨w.heap.size, 0, none⟩), .pointer (some ⟨w.heap.size + 1, 0, none⟩), .pointer (some ⟨w.heap.size + 1 + 1, 0, none⟩), .int .i64 bd, .pointer (some ⟨w1.heap.size, 0, none⟩), .pointer (some ⟨b7, 0, none⟩), .pointer (some ⟨b8, 0, none⟩), .string s, .int .i64 bd, .int .i64 bd, .bool (decide (0 ≤ bd)), undef, .string s, .func (.func 29) #[] #[.pointer (some ⟨w1.heap.size + 1, 0, none⟩)], ylV x, ylF x, undef, undef, undef, undef, undef, undef, undef, undef, undef, undef, undef, undef, undef, undef], defers := [] })
    (fun x a' s A B row hs hg hr => by
      obtain ⟨b7, b8, h7, h8, hR, ha⟩ := hs
      exact ⟨b7, b8, h7, h8, hR.kept hg (fun r e => (hr r e).2), ha⟩) ?assign ?body ?done ?stop
  case assign =>
    intro l pre x W K hI hK
    have hEv : ylV x = .agg #[.int .i64 x.t.k, .string (mkb x.t.v), .int .i64 x.a, .int .i64 x.z] := rfl
    have hEf : ylF x = .agg #[.int .i64 x.t.e, .int .i64 ((x.o : Int) + (x.t.n : Int))] := rfl
    gi_wp2
    have hbW : Below W.heap.size W ((W.alloc (.cells #[.int .i64 x.t.k, .string (mkb x.t.v), .int .i64 x.a, .int .i64 x.z] 23)).alloc (.cells #[.int .i64 x.t.e, .int .i64 ((x.o : Int) + (x.t.n : Int))] 51)) := ((Below.refl _ W).alloc (Nat.le_refl _) _).alloc (by simp) _
    exact hK _ _ (((KeepsOthers.alloc W _).trans (KeepsOthers.alloc _ _)).from _) ⟨hbW.mono hI.bel.size, fun u hu => (hbW.cell (p := ⟨w1.heap.size + 1, 0, none⟩) (World.block_lt_of_cell? _ _ hu)).trans hu⟩
      (own_below (Ii.own w w1 (by omega) w.heap.size (Nat.le_refl _)) hI hbW) ⟨W.heap.size, W.heap.size + 1, hI.siz, by have := hI.siz; omega, Rd.new W x _ _, rfl⟩
  case body =>
    rintro l pre x a' W hl - hI ⟨b7, b8, h7, h8, ⟨c0, c1, c2, c3, d0, d1⟩, rfl⟩ hlt
    have hyb := ylds_bd s.data.toList 0
    rw [← Lib.size_eq] at hyb
    have hlen : pre.length < 1000000 := by omega
    clear hlt hyb
    obtain ⟨v, hv, hrow, -⟩ := hI.row
    have hsW := hI.bel.size
    have hsz := hI.siz
    have HI := Lib.hid hI
    clear hI
    by_cases he : x.t.e = 0
    · rw [he] at d0
      have hc := hv.cell
      have hEc : cl4 x = [.int .i64 x.t.k, .string (mkb x.t.v), .int .i64 x.a, .int .i64 x.z] := rfl
      have HE := Lib.hid he
      clear he d1
      gi_wp2_with (gi_at_builtin; refine wpListIn_append_own _ rfl _ _ 24 rfl (w1.heap.size + 2) 23 i0 (.agg #[.int .i64 0, .string ⟨#[]⟩, .int .i64 0, .int .i64 0]) 4 40 Tryd.underlying24 hi hz0 hz1 hz2 rfl (by decide) _ _ _ rfl (hrow.alloc _) ⟨W.heap.size, 0, none⟩ 1 1 (cl4 x) rfl rfl (cells_new W (cl4 x) 23) (by intro u hu; rw [hEc] at hu; simp at hu; rcases hu with rfl | rfl | rfl | rfl <;> rfl) (by unfold maxLen; omega) (by omega) (by simp; omega) ?_; intro v' w2 hown' hgrow _; obtain ⟨g', cap', rfl⟩ := ownsRow_succ hown'; obtain ⟨hv1, hv2, hr2, hk2, hb2⟩ := hv.appended (by decide) (Fo.own_base hrow (base' := w.heap.size) (by omega)) hsW (by omega) (Fo.own_base hown' (base' := w.heap.size) (by omega)) hgrow; have hc1 := hv1.cell; have hf1 := hv1.frozen)
      have hgrow' : (W.alloc (.cells #[.int .i64 x.t.k, .string (mkb x.t.v), .int .i64 x.a, .int .i64 x.z] 23)).grownBy w2 v.ownBlock := hgrow
      refine ⟨hk2.from _, ⟨hb2, fun u hu => ?_⟩, ⟨⟨_, hv2, ?_, trivial⟩, ?_, HI.out.bel.trans hb2, Nat.le_trans hsz hk2.size, allOk_snoc HI.out.ok HE.out⟩⟩
      · rw [World.cell?_setCell_far _ _ _ _ (by show w1.heap.size ≠ w1.heap.size + 1; omega)]
        have h1 : (W.alloc (.cells #[.int .i64 x.t.k, .string (mkb x.t.v), .int .i64 x.a, .int .i64 x.z] 23)).cell? ⟨w1.heap.size + 1, 0, none⟩ = some u := by rw [World.cell?_alloc_lt _ _ _ (by show w1.heap.size + 1 < W.heap.size; omega)]; exact hu
        refine (World.cell?_of_block (hgrow'.block (w1.heap.size + 1) (by simp; omega) (fun e => ?_))).trans h1
        have := ((hrow.alloc (.cells #[.int .i64 x.t.k, .string (mkb x.t.v), .int .i64 x.a, .int .i64 x.z] 23)).lt _ e.symm).1
        omega
      · have := hown'.kept (grownBy_setCell' w2 w1.heap.size (.slice (some ⟨g', 0, none⟩) (pre.length + 1) cap')) (.inr (hv1.not_row (by decide) hown').symm)
        rw [cls_snoc, List.length_append]
        exact this
      · have hr := HI.out.res
        have n2 := hr.r2.not_row (by decide) hrow
        have n3 := hr.r3.not_row (by decide) hrow
        have n4 := hr.r4.not_row (by decide) hrow
        have hra := hr.kept (World.grownBy_alloc W (.cells #[.int .i64 x.t.k, .string (mkb x.t.v), .int .i64 x.a, .int .i64 x.z] 23) none) (by simp) (by simp) (by simp)
        exact (hra.kept hgrow' n2 n3 n4).kept (grownBy_setCell' w2 w1.heap.size _) (by simp; omega) (by simp; omega) (by simp; omega)
    · have hr := HI.out.res
      have q2 := hr.r2.cell
      have q3 := hr.r3.cell
      have q4 := hr.r4.cell
      have g2 := hr.r2.frozen
      have g3 := hr.r3.frozen
      have g4 := hr.r4.frozen
      have HE := Lib.hid he
      have HR := Lib.hid hr
      clear c0 c1 c2 c3 hrow hv hr
      have HF := Lib.hid (left_end (N := (World.alloc (w1.alloc (.cells #[.slice none 0 0] 24)) (.cells #[.string s] 9)).heap.size) HI.out he)
      gi_wp2
      gi_region
      all_goals gi_wp2
      all_goals exact HF.out
  case done =>
    rintro D ys W hD rfl hI hK
    obtain ⟨v, hv, hrow, -⟩ := hI.row
    obtain ⟨A, cp, rfl⟩ := row_slice hrow
    have hc := hv.cell
    have q2 := hI.res.r2.cell
    have q3 := hI.res.r3.cell
    have q4 := hI.res.r4.cell
    have g2 := hI.res.r2.frozen
    have g3 := hI.res.r3.frozen
    have g4 := hI.res.r4.frozen
    have HI := Lib.hid hI
    have HV := Lib.hid hv
    have HW := Lib.hid hrow
    clear hI hv hrow
    gi_wp2
    have hset := HI.out.res.set (.slice A (ylds s.data.toList 0).length cp) 0 s.size
    have hK' := (keep_three W w.heap.size (.slice A (ylds s.data.toList 0).length cp) (.int .i64 0) (.int .i64 s.size)).same D _ hK rfl
    have hbl := bel_three HI.out.bel (Nat.le_refl _) (.slice A (ylds s.data.toList 0).length cp) (.int .i64 0) (.int .i64 s.size)
    refine ⟨by simp, .inl ⟨_, _, rfl, run_takeDeferred hK', ?_⟩⟩
    have hD2 : w.heap.size + 2 < D := by simp at hD; omega
    have hrw := row_three HW.out HI.out.res (.slice A (ylds s.data.toList 0).length cp) (.int .i64 0) (.int .i64 s.size)
    exact ⟨_, res3 rfl rfl rfl rfl (hset.put hD2 _), _, _, _, rfl, hbl.trans (belowK_b (w := w) (Nat.le_refl _) _ D _ _ (by omega) hK' rfl rfl), .inl ⟨HI.out.ok, rfl, rfl, Fo.own_base (ownsRow_putObj hrw _ hK' rfl) (by omega)⟩⟩
  case stop =>
    rintro D c pre W hD hpre hJ hK
    obtain rfl := hJ.ret
    gi_wp2
    refine ⟨by simp, .inl ⟨_, _, rfl, run_takeDeferred hK, ?_⟩⟩
    have hD2 : w.heap.size + 2 < D := by simp at hD; omega
    obtain ⟨he, her⟩ := errOf_pre hpre hJ.no
    exact ⟨_, res3 rfl rfl rfl rfl (hJ.res.put hD2 _), _, _, _, rfl, hJ.bel.trans (belowK_b (w := w) (Nat.le_refl _) _ D _ _ (by omega) hK rfl rfl), .inr ⟨he, rfl, by rw [her], by rw [her]⟩⟩
end
end Go.Proofs.YtjfhcgolgabkkaaDoor
