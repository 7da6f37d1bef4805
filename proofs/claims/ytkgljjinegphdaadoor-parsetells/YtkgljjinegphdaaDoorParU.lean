/- The reference's parser (copperplateref13): all, Parse, Viable, Steps. -/
import Derived.Test.YtkgljjinegphdaaDoorParT
import Derived.Test.YtkgljjinegphdaaDoorParC
namespace Go.Proofs.YtkgljjinegphdaaDoor
open Go.RowKit
set_option linter.unusedVariables false
set_option maxRecDepth 100000

/-- How all ends. -/
def AlE (m : Nat) (R : List Int) (z : Nat) (b : Bool) (w : World) (e : Ending) (w' : World) : Prop :=
  ∃ A c, e = .returned (.agg #[.slice A m c, .int .i64 (z : Nat), .bool b]) ∧ Below w.heap.size w w' ∧ Ri w' A R ∧ (A = none → m = 0 ∧ c = 0) ∧ m ≤ c
theorem bel_set3 {w w' : World} {b : Nat} (h : Below w.heap.size w w') (hb : w.heap.size ≤ b) (v0 v1 v2 : Value) : Below w.heap.size w (set3 w' b v0 v1 v2) :=
  ((h.setCell (p := ⟨b, 0, none⟩) hb v0).setCell (p := ⟨b, 1, none⟩) hb v1).setCell (p := ⟨b, 2, none⟩) hb v2
theorem all_end {w W : World} {A : Option Addr} {m c k z : Nat} {R : List Int} {u0 u1 u2 : Value} (b : Bool) (o : Obj) (hm : R.length = k) (ho : W.ownsRow w.heap.size 3 1 (.slice A m c) R.length (R.map iv)) (hb : Below w.heap.size w W) (hx : Bx W w.heap.size u0 u1 u2) :
    m = k ∧ B3 ((set3 W w.heap.size (.slice A m c) (.int .i64 (z : Nat)) (.bool b)).alloc o) w.heap.size (.slice A m c) (.int .i64 (z : Nat)) (.bool b)
      ∧ AlE k R z b w (.returned (.agg #[.slice A m c, .int .i64 (z : Nat), .bool b])) ((set3 W w.heap.size (.slice A m c) (.int .i64 (z : Nat)) (.bool b)).alloc o) := by
  obtain ⟨e1, -, -⟩ := ri_row ho
  have e2 : m = k := e1.trans hm
  subst e2
  refine ⟨rfl, ((hx.set _ _ _).below (bel_alloc (Below.refl _ _) o)).cells, A, c, rfl, bel_alloc (bel_set3 hb (Nat.le_refl _) _ _ _) o, ?_⟩
  have h3 := (row_set (j := 2) (row_set (j := 1) (row_set (j := 0) ho hx (.slice A m c)) (hx.set0 _) (.int .i64 (z : Nat))) ((hx.set0 _).set1 _) (.bool b)).alloc o
  obtain ⟨-, h5, h6⟩ := ri_row h3
  exact ⟨h5, h6, row_cap ho⟩
set_option maxHeartbeats 2000000 in
theorem rall_any {w : World} {A : Option Addr} {n k c z : Nat} {L R : List Int} {f : Bool} (hp : Par L R z f) (hm : R.length = k) (hl : L.length = n) (hn : n ≤ 1000) (hA : Ri w A L) :
    Calls Tryd.prog 19 #[.slice A n c] w fun e w' => AlE k R z (!(yesB L z f)) w e w' := by
  have hz : z ≤ n := by rw [← hl]; exact hp.within
  have hm2 : k ≤ 10000 := by have := hp.steps; omega
  have r1 : Calls Tryd.prog 24 #[.agg #[.int .i64 1, .int .i64 0], .slice A n c, .agg #[.slice none 0 0, .int .i64 0, .bool false]] (w.alloc (.cells #[.slice none 0 0, .int .i64 0, .bool false] 34)) fun e w' => DnE w ([] ++ R) z f (.slice none 0 0) (w.alloc (.cells #[.slice none 0 0, .int .i64 0, .bool false] 34)) e w' :=
    ans_dn (c := c) hl hn hA R.length ⟨1, 0⟩ 0 z [] R f none 0 0 (w.alloc (.cells #[.slice none 0 0, .int .i64 0, .bool false] 34)) (Nat.le_refl _) hp (Nat.zero_le _) (by rw [hm, List.length_nil]; omega) (bel_alloc (Below.refl _ _) _) (World.ownsRow_nil _ _ _ _)
  have hy : yesB L z f = (f && decide (z = n)) := by rw [yesB, hl]
  rw [hy]
  obtain ⟨bb, hbb⟩ : ∃ bb, (!(f && decide (z = n))) = bb := ⟨_, rfl⟩
  rw [hbb]
  have HBB := Lib.hid hbb
  clear hbb
  have HX := Lib.hid (Bx.new w (.slice none 0 0) (.int .i64 0) (.bool false))
  have HM := Lib.hid hm
  clear hp hm hl hA hy
  rw [List.nil_append] at r1
  go_enter Tryd.func19, Tryd.ntmps19
  go_wp2_with fail
  ((with_reducible refine r1.mono ?_))
  rintro e w2 ⟨B, m, d, rfl, ho2, hg2⟩
  have hx2 := HX.out.gro (World.ownsRow_nil _ w.heap.size 3 1) hg2
  have hB2 : Below w.heap.size w w2 := (bel_alloc (Below.refl _ w) _).grown hg2.g (by simp) (fun k hk => by cases hk)
  have X2 := Lib.hid hx2
  have O2 := Lib.hid ho2
  have B2' := Lib.hid hB2
  have hlt2 := hx2.lt
  obtain ⟨y0, y1, y2, p0, p1, p2⟩ := hx2.cells
  clear hx2 ho2 hg2 hB2 r1
  by_cases hzn : z < n
  · have q1 : (z : Int) < (n : Int) := by omega
    have q2 : true = bb := by rw [← HBB.out, decide_eq_false (by omega)]; simp
    subst q2
    obtain ⟨e1, h1, h2⟩ := all_end (z := z) true (.cells #[.slice B m d, .int .i64 (z : Nat), .bool true] 34) HM.out O2.out B2'.out X2.out
    subst e1
    have H1 := Lib.hid h1
    have H2 := Lib.hid h2
    clear h1 h2
    go_wp2_with fail
    refine bodyPost_ret (ret_box3 rfl rfl H1.out) rfl ?_
    exact H2.out
  · obtain rfl : z = n := by omega
    have q2 : (!f) = bb := by rw [← HBB.out, decide_eq_true rfl]; simp
    subst q2
    obtain ⟨e1, h1, h2⟩ := all_end (z := z) (!f) (.cells #[.slice B m d, .int .i64 (z : Nat), .bool (!f)] 34) HM.out O2.out B2'.out X2.out
    subst e1
    have H1 := Lib.hid h1
    have H2 := Lib.hid h2
    clear h1 h2
    go_wp2_with fail
    refine bodyPost_ret (ret_box3 rfl rfl H1.out) rfl ?_
    exact H2.out
set_option maxHeartbeats 1000000 in
theorem rparse_any {w : World} {A : Option Addr} {n m c z : Nat} {L R R' : List Int} {f : Bool} {at' : Int} (hp : Par L R z f) (hr : outR L R z f = R') (hm : R'.length = m) (ha : outZ L z f = at') (hl : L.length = n) (hn : n ≤ 1000) (hA : Ri w A L) :
    Calls Tryd.prog 12 #[.slice A n c] w fun e w' => PaE m R' at' w e w' := by
  obtain ⟨k, hk⟩ : ∃ k, R.length = k := ⟨_, rfl⟩
  have r1 := rall_any (c := c) hp hk hl hn hA
  cases hy : yesB L z f
  · rw [outR, hy, if_neg (by simp)] at hr
    rw [outZ, hy, if_neg (by simp)] at ha
    subst hr ha
    rw [hy, show (!false) = true from rfl] at r1
    obtain rfl : m = 0 := hm.symm
    clear hp hm hl hn hA hk hy
    go_enter Tryd.func12, Tryd.ntmps12
    go_wp2_with fail
    ((with_reducible refine r1.mono ?_))
    rintro e w1 ⟨B, d, rfl, hb1, hs1, hn1⟩
    have HB1 := Lib.hid (bel_alloc hb1 (.cells #[.slice B k d, .int .i64 (z : Nat), .bool true] 34))
    clear hb1 hs1 hn1 r1
    go_wp2_with fail
    go_quiet (fail)
    go_wp2_with fail
    go_ret2
    exact ⟨none, 0, rfl, below_drewN HB1.out _, Ri.nil _ _, fun _ => ⟨rfl, rfl⟩, Nat.le_refl _⟩
  · rw [outR, hy, if_pos rfl] at hr
    rw [outZ, hy, if_pos rfl] at ha
    subst hr ha
    rw [hy] at r1
    obtain rfl : k = m := hk.symm.trans hm
    clear hp hm hl hn hA hk hy
    go_enter Tryd.func12, Tryd.ntmps12
    go_wp2_with fail
    ((with_reducible refine r1.mono ?_))
    rintro e w1 ⟨B, d, rfl, hb1, hs1, hn1⟩
    have HB1 := Lib.hid (bel_alloc hb1 (.cells #[.slice B k d, .int .i64 (z : Nat), .bool (!true)] 34))
    have HS1 := Lib.hid (hs1.below (bel_alloc (Below.refl _ w1) (.cells #[.slice B k d, .int .i64 (z : Nat), .bool (!true)] 34)))
    have HN1 := Lib.hid hn1
    clear hb1 hs1 hn1 r1
    go_wp2_with fail
    go_ret2
    exact ⟨B, d, rfl, HB1.out, HS1.out, HN1.out⟩
set_option maxHeartbeats 1000000 in
theorem rviable_any {w : World} {A : Option Addr} {n c z : Nat} {L R : List Int} {f : Bool} (hp : Par L R z f) (hl : L.length = n) (hn : n ≤ 1000) (hA : Ri w A L) :
    Calls Tryd.prog 15 #[.slice A n c] w fun e w' => e = .returned (.int .i64 (z : Nat)) ∧ Below w.heap.size w w' := by
  have r1 := rall_any (c := c) hp rfl hl hn hA
  generalize R.length = k at r1
  generalize (!(yesB L z f)) = b at r1
  clear hp hl hn hA
  go_enter Tryd.func15, Tryd.ntmps15
  go_wp2_with fail
  ((with_reducible refine r1.mono ?_))
  rintro e w1 ⟨B, d, rfl, hb1, hs1, hn1⟩
  have HB1 := Lib.hid (bel_alloc hb1 (.cells #[.slice B k d, .int .i64 (z : Nat), .bool b] 34))
  clear hb1 hs1 hn1 r1
  go_wp2_with fail
  go_ret
  exact ⟨rfl, HB1.out⟩
set_option maxHeartbeats 1000000 in
theorem rsteps_any {w : World} {A : Option Addr} {n m c z : Nat} {L R : List Int} {f : Bool} (hp : Par L R z f) (hm : R.length = m) (hl : L.length = n) (hn : n ≤ 1000) (hA : Ri w A L) :
    Calls Tryd.prog 17 #[.slice A n c] w fun e w' => e = .returned (.int .i64 ((m : Int) + (z : Int))) ∧ Below w.heap.size w w' := by
  have r1 := rall_any (c := c) hp hm hl hn hA
  have hz : z ≤ n := by rw [← hl]; exact hp.within
  have hm2 : m ≤ 10000 := by have := hp.steps; omega
  generalize (!(yesB L z f)) = b at r1
  clear hp hl hA hm
  go_enter Tryd.func17, Tryd.ntmps17
  go_wp2_with fail
  ((with_reducible refine r1.mono ?_))
  rintro e w1 ⟨B, d, rfl, hb1, hs1, hn1⟩
  have HB1 := Lib.hid (bel_alloc hb1 (.cells #[.slice B m d, .int .i64 (z : Nat), .bool b] 34))
  clear hb1 hs1 hn1 r1
  go_wp2_with fail
  go_ret
  exact ⟨rfl, HB1.out⟩
end Go.Proofs.YtkgljjinegphdaaDoor
