/- Package parse: Parse, Viable, Steps. -/
import Derived.Test.YtkgljjinegphdaaDoorParB
import Derived.Test.YtkgljjinegphdaaDoorParN
namespace Go.Proofs.YtkgljjinegphdaaDoor
open Go.RowKit
set_option linter.unusedVariables false
set_option maxRecDepth 100000

/-- How Parse ends. -/
def PaE (m : Nat) (R : List Int) (at' : Int) (w : World) (e : Ending) (w' : World) : Prop :=
  ∃ A c, e = .returned (.tuple #[.slice A m c, .int .i64 at']) ∧ Below w.heap.size w w' ∧ Ri w' A R ∧ (A = none → m = 0 ∧ c = 0) ∧ m ≤ c
set_option maxHeartbeats 1000000 in
theorem parse_any {w : World} {A : Option Addr} {n m c z : Nat} {L R R' : List Int} {f : Bool} {at' : Int} (hp : Par L R z f) (hr : outR L R z f = R') (hm : R'.length = m) (ha : outZ L z f = at') (hl : L.length = n) (hn : n ≤ 1000) (hA : Ri w A L) (ht : TabR w) :
    Calls Tryd.prog 11 #[.slice A n c] w fun e w' => PaE m R' at' w e w' := by
  obtain ⟨k, hk⟩ : ∃ k, R.length = k := ⟨_, rfl⟩
  have r1 := run_any (c := c) hp hl hk hn hA ht
  cases hy : yesB L z f
  · have h1 : (f && decide (z = n)) = false := by rw [← hl]; exact hy
    rw [outR, hy, if_neg (by simp)] at hr
    rw [outZ, hy, if_neg (by simp)] at ha
    subst hr ha
    rw [h1] at r1
    obtain rfl : m = 0 := hm.symm
    clear hp hm hl hn hA ht hk hy h1
    go_enter Tryd.func11, Tryd.ntmps11
    go_wp2_with fail
    ((with_reducible refine r1.mono ?_))
    rintro e w1 ⟨B, d, rfl, hb1, hs1, hn1⟩
    have HB1 := Lib.hid hb1
    clear hb1 hs1 hn1 r1
    go_wp2_with fail
    go_ret2
    exact ⟨none, 0, rfl, HB1.out, Ri.nil _ _, fun _ => ⟨rfl, rfl⟩, Nat.le_refl _⟩
  · have h1 : (f && decide (z = n)) = true := by rw [← hl]; exact hy
    rw [outR, hy, if_pos rfl] at hr
    rw [outZ, hy, if_pos rfl] at ha
    subst hr ha
    rw [h1] at r1
    obtain rfl : k = m := hk.symm.trans hm
    clear hp hm hl hn hA ht hk hy h1
    go_enter Tryd.func11, Tryd.ntmps11
    go_wp2_with fail
    ((with_reducible refine r1.mono ?_))
    rintro e w1 ⟨B, d, rfl, hb1, hs1, hn1⟩
    have HB1 := Lib.hid hb1
    have HS1 := Lib.hid hs1
    have HN1 := Lib.hid hn1
    clear hb1 hs1 hn1 r1
    go_wp2_with fail
    go_ret2
    exact ⟨B, d, rfl, HB1.out, HS1.out, HN1.out⟩
set_option maxHeartbeats 1000000 in
theorem viable_any {w : World} {A : Option Addr} {n c z : Nat} {L R : List Int} {f : Bool} (hp : Par L R z f) (hl : L.length = n) (hn : n ≤ 1000) (hA : Ri w A L) (ht : TabR w) :
    Calls Tryd.prog 14 #[.slice A n c] w fun e w' => e = .returned (.int .i64 (z : Nat)) ∧ Below w.heap.size w w' := by
  have r1 := run_any (c := c) hp hl rfl hn hA ht
  generalize R.length = k at r1
  generalize (f && decide (z = n)) = b at r1
  clear hp hl hn hA ht
  go_enter Tryd.func14, Tryd.ntmps14
  go_wp2_with fail
  ((with_reducible refine r1.mono ?_))
  rintro e w1 ⟨B, d, rfl, hb1, hs1, hn1⟩
  have HB1 := Lib.hid hb1
  clear hb1 hs1 hn1 r1
  go_wp2_with fail
  go_ret
  exact ⟨rfl, HB1.out⟩
set_option maxHeartbeats 1000000 in
theorem steps_any {w : World} {A : Option Addr} {n m c z : Nat} {L R : List Int} {f : Bool} (hp : Par L R z f) (hm : R.length = m) (hl : L.length = n) (hn : n ≤ 1000) (hA : Ri w A L) (ht : TabR w) :
    Calls Tryd.prog 16 #[.slice A n c] w fun e w' => e = .returned (.int .i64 ((m : Int) + (z : Int))) ∧ Below w.heap.size w w' := by
  have r1 := run_any (c := c) hp hl hm hn hA ht
  have hz : z ≤ n := by rw [← hl]; exact hp.within
  have hm2 : m ≤ 10000 := by have := hp.steps; omega
  generalize (f && decide (z = n)) = b at r1
  clear hp hl hA ht hm
  go_enter Tryd.func16, Tryd.ntmps16
  go_wp2_with fail
  ((with_reducible refine r1.mono ?_))
  rintro e w1 ⟨B, d, rfl, hb1, hs1, hn1⟩
  have HB1 := Lib.hid hb1
  clear hb1 hs1 hn1 r1
  go_wp2_with fail
  go_ret
  exact ⟨rfl, HB1.out⟩
/-- Parse of nothing at all. -/
theorem parse_nil {w : World} (ht : TabR w) : Calls Tryd.prog 11 #[.slice none 0 0] w fun e w' => PaE 0 [] 0 w e w' := by
  obtain ⟨R, z, f, hp⟩ := par_ex []
  obtain ⟨h1, h2⟩ := none_nil hp
  exact parse_any (n := 0) (c := 0) hp h1 rfl h2 rfl (by omega) (Ri.nil _ _) ht
/-- A row's beginning. -/
theorem Ri.take {w : World} {A : Option Addr} {l : List Int} (h : Ri w A l) (k : Nat) : Ri w A (l.take k) := fun j x hx => by
  have hj : j < k := by
    have := (List.getElem?_eq_some_iff.1 hx).1
    rw [List.length_take] at this
    omega
  rw [List.getElem?_take_of_lt hj] at hx
  exact h j x hx
/-- A block of three ints, as a row. -/
theorem ri_three {w : World} {g : Nat} {x y z : Int} {t : TypeId} {fr : Nat × Nat} (h : w.heap[g]? = some (.cells #[.int .i64 x, .int .i64 y, .int .i64 z] t fr)) : Ri w (some ⟨g, 0, none⟩) [x, y, z] := fun j u hj => by
  match j, hj with
  | 0, hj =>
    obtain rfl : x = u := by simpa using hj
    exact ⟨g, 0, rfl, by simp [World.cell?, h]⟩
  | 1, hj =>
    obtain rfl : y = u := by simpa using hj
    exact ⟨g, 0, rfl, by simp [World.cell?, h]⟩
  | 2, hj =>
    obtain rfl : z = u := by simpa using hj
    exact ⟨g, 0, rfl, by simp [World.cell?, h]⟩
  | j + 3, hj => simp at hj
/-- Parse of the chapter's example: its first rules. -/
def PwE (w : World) (e : Ending) (w' : World) : Prop :=
  ∃ b o c : Nat, e = .returned (.tuple #[.slice (some ⟨b, o, none⟩) 10 c, .int .i64 (-1)]) ∧ Below w.heap.size w w' ∧ w'.cell? ⟨b, o, none⟩ = some (.int .i64 0) ∧ w'.cell? ⟨b, o + 1, none⟩ = some (.int .i64 3)
theorem parse_doc {w : World} {A : Option Addr} {c : Nat} (hA : Ri w A [12, 18, 14]) (ht : TabR w) : Calls Tryd.prog 11 #[.slice A 3 c] w fun e w' => PwE w e w' := by
  refine (parse_any (n := 3) (c := c) par_doc (R' := [0, 3, 41, 44, 46, 23, 21, 48, 42, 1]) (m := 10) (at' := -1) (by decide) rfl (by decide) rfl (by decide) hA ht).mono ?_
  rintro e w' ⟨B, d, rfl, hb, hs, -⟩
  obtain ⟨b, o, rfl, c0⟩ := hs 0 0 rfl
  obtain ⟨b', o', e1, c1⟩ := hs 1 3 rfl
  obtain ⟨rfl, rfl⟩ : b = b' ∧ o = o' := by simpa using e1
  exact ⟨b, o, d, rfl, hb, c0, c1⟩
def PvE (w : World) (e : Ending) (w' : World) : Prop := ∃ A c, e = .returned (.tuple #[.slice A 0 c, .int .i64 2]) ∧ Below w.heap.size w w'
theorem parse_cut {w : World} {A : Option Addr} {c : Nat} (hA : Ri w A [12, 18]) (ht : TabR w) : Calls Tryd.prog 11 #[.slice A 2 c] w fun e w' => PvE w e w' := by
  refine (parse_any (n := 2) (c := c) par_cut (R' := []) (m := 0) (at' := 2) (by decide) rfl (by decide) rfl (by decide) hA ht).mono ?_
  rintro e w' ⟨B, d, rfl, hb, -, -⟩
  exact ⟨B, d, rfl, hb⟩
theorem viable_doc {w : World} {A : Option Addr} {c : Nat} (hA : Ri w A [12, 18, 14]) (ht : TabR w) : Calls Tryd.prog 14 #[.slice A 3 c] w fun e w' => e = .returned (.int .i64 3) ∧ Below w.heap.size w w' :=
  viable_any (n := 3) (c := c) par_doc rfl (by decide) hA ht
theorem steps_doc {w : World} {A : Option Addr} {c : Nat} (hA : Ri w A [12, 18, 14]) (ht : TabR w) : Calls Tryd.prog 16 #[.slice A 3 c] w fun e w' => e = .returned (.int .i64 13) ∧ Below w.heap.size w w' :=
  steps_any (n := 3) (m := 10) (c := c) par_doc rfl rfl (by decide) hA ht
set_option maxHeartbeats 1000000 in
theorem awake_any (w : World) (ht : TabR w) : Calls Tryd.prog 10 #[] w fun e w' => e = .returned (.bool true) ∧ Below w.heap.size w w' := by
  have hbo := bel_alloc (Below.refl _ w) (.cells #[.int .i64 12, .int .i64 18, .int .i64 14] 3)
  have hri := ri_three (heap_alloc_new w (.cells #[.int .i64 12, .int .i64 18, .int .i64 14] 3))
  have HB0 := Lib.hid hbo
  have HR0 := Lib.hid hri
  have HT := Lib.hid ht
  clear hbo hri ht
  go_enter Tryd.func10, Tryd.ntmps10
  go_wp2_with fail
  ((with_reducible refine (parse_doc HR0.out (HT.out.below HB0.out)).mono ?_))
  rintro e w1 ⟨b, o, c, rfl, hb1, c0, c1⟩
  have HB1 := Lib.hid (bel_trans HB0.out hb1)
  have HR1 := Lib.hid (HR0.out.below hb1)
  have C0 := Lib.hid c0
  have C1 := Lib.hid c1
  clear hb1 c0 c1
  go_wp2_with fail
  ((with_reducible refine (parse_cut (HR1.out.take 2) (HT.out.below HB1.out)).mono ?_))
  rintro e w2 ⟨B, d, rfl, hb2⟩
  have HB2 := Lib.hid (bel_trans HB1.out hb2)
  have HR2 := Lib.hid (HR1.out.below hb2)
  have d0 := bel_cell hb2 C0.out
  have d1 := bel_cell hb2 C1.out
  have l0 := World.block_lt_of_cell? _ _ d0
  clear hb2
  go_wp2_with fail
  ((with_reducible refine (viable_doc HR2.out (HT.out.below HB2.out)).mono ?_))
  rintro e w3 ⟨rfl, hb3⟩
  have HB3 := Lib.hid (bel_trans HB2.out hb3)
  have HR3 := Lib.hid (HR2.out.below hb3)
  clear hb3 d0 d1 l0
  go_wp2_with fail
  ((with_reducible refine (steps_doc HR3.out (HT.out.below HB3.out)).mono ?_))
  rintro e w4 ⟨rfl, hb4⟩
  have HB4 := Lib.hid (bel_trans HB3.out hb4)
  clear hb4
  go_wp2_with fail
  go_ret
  exact ⟨by simp, HB4.out⟩
end Go.Proofs.YtkgljjinegphdaaDoor
