/- Package parse: Parse, Viable, Steps. -/
import Derived.Test.YtfgmojnohienfaaDoorParB
import Derived.Test.YtfgmojnohienfaaDoorParN
namespace Go.Proofs.YtfgmojnohienfaaDoor
open Go.RowKit
set_option linter.unusedVariables false
set_option maxRecDepth 100000

/-- How Parse ends. -/
def PaE (m : Nat) (R : List Int) (at' : Int) (w : World) (e : Ending) (w' : World) : Prop :=
  ∃ A c, e = .returned (.tuple #[.slice A m c, .int .i64 at']) ∧ Below w.heap.size w w' ∧ Ri w' A R ∧ (A = none → m = 0 ∧ c = 0) ∧ m ≤ c
set_option maxHeartbeats 1000000 in
theorem parse_any {w : World} {A : Option Addr} {n m c z : Nat} {L R R' : List Int} {f : Bool} {at' : Int} (hp : Par L R z f) (hr : outR L R z f = R') (hm : R'.length = m) (ha : outZ L z f = at') (hl : L.length = n) (hn : n ≤ 1000) (hA : Ri w A L) (ht : TabR w) :
    Calls Tryd.prog 5 #[.slice A n c] w fun e w' => PaE m R' at' w e w' := by
  obtain ⟨k, hk⟩ : ∃ k, R.length = k := ⟨_, rfl⟩
  have r1 := run_any (c := c) hp hl hk hn hA ht
  cases hy : yesB L z f
  · have h1 : (f && decide (z = n)) = false := by rw [← hl]; exact hy
    rw [outR, hy, if_neg (by simp)] at hr
    rw [outZ, hy, if_neg (by simp)] at ha
    subst hr ha
    rw [h1] at r1
    obtain rfl : m = 0 := hm.symm
    clear hp hm hl hn hA ht hk hy h1
    go_enter Tryd.func5, Tryd.ntmps5
    go_wp2_with fail
    ((with_reducible refine r1.mono ?_))
    rintro e w1 ⟨B, d, rfl, hb1, hs1, hn1⟩
    have HB1 := Lib.hid hb1
    clear hb1 hs1 hn1 r1
    go_wp2_with fail
    go_ret2
    exact ⟨none, 0, rfl, HB1.out, Ri.nil _ _, fun _ => ⟨rfl, rfl⟩, Nat.le_refl _⟩
  · have h1 : (f && decide (z = n)) = true := by rw [← hl]; exact hy
    rw [outR, hy, if_pos rfl] at hr
    rw [outZ, hy, if_pos rfl] at ha
    subst hr ha
    rw [h1] at r1
    obtain rfl : k = m := hk.symm.trans hm
    clear hp hm hl hn hA ht hk hy h1
    go_enter Tryd.func5, Tryd.ntmps5
    go_wp2_with fail
    ((with_reducible refine r1.mono ?_))
    rintro e w1 ⟨B, d, rfl, hb1, hs1, hn1⟩
    have HB1 := Lib.hid hb1
    have HS1 := Lib.hid hs1
    have HN1 := Lib.hid hn1
    clear hb1 hs1 hn1 r1
    go_wp2_with fail
    go_ret2
    exact ⟨B, d, rfl, HB1.out, HS1.out, HN1.out⟩
/-- Parse of nothing at all. -/
theorem parse_nil {w : World} (ht : TabR w) : Calls Tryd.prog 5 #[.slice none 0 0] w fun e w' => PaE 0 [] 0 w e w' := by
  obtain ⟨R, z, f, hp⟩ := par_ex []
  obtain ⟨h1, h2⟩ := none_nil hp
  exact parse_any (n := 0) (c := 0) hp h1 rfl h2 rfl (by omega) (Ri.nil _ _) ht
/-- A row's beginning. -/
theorem Ri.take {w : World} {A : Option Addr} {l : List Int} (h : Ri w A l) (k : Nat) : Ri w A (l.take k) := fun j x hx => by
  have hj : j < k := by
    have := (List.getElem?_eq_some_iff.1 hx).1
    rw [List.length_take] at this
    omega
  rw [List.getElem?_take_of_lt hj] at hx
  exact h j x hx
/-- A block of three ints, as a row. -/
theorem ri_three {w : World} {g : Nat} {x y z : Int} {t : TypeId} {fr : Nat × Nat} (h : w.heap[g]? = some (.cells #[.int .i64 x, .int .i64 y, .int .i64 z] t fr)) : Ri w (some ⟨g, 0, none⟩) [x, y, z] := fun j u hj => by
  match j, hj with
  | 0, hj =>
    obtain rfl : x = u := by simpa using hj
    exact ⟨g, 0, rfl, by simp [World.cell?, h]⟩
  | 1, hj =>
    obtain rfl : y = u := by simpa using hj
    exact ⟨g, 0, rfl, by simp [World.cell?, h]⟩
  | 2, hj =>
    obtain rfl : z = u := by simpa using hj
    exact ⟨g, 0, rfl, by simp [World.cell?, h]⟩
  | j + 3, hj => simp at hj
/-- Parse of the chapter's example: its first rules. -/
def PwE (w : World) (e : Ending) (w' : World) : Prop :=
  ∃ b o c : Nat, e = .returned (.tuple #[.slice (some ⟨b, o, none⟩) 10 c, .int .i64 (-1)]) ∧ Below w.heap.size w w' ∧ w'.cell? ⟨b, o, none⟩ = some (.int .i64 0) ∧ w'.cell? ⟨b, o + 1, none⟩ = some (.int .i64 3)
theorem parse_doc {w : World} {A : Option Addr} {c : Nat} (hA : Ri w A [12, 18, 14]) (ht : TabR w) : Calls Tryd.prog 5 #[.slice A 3 c] w fun e w' => PwE w e w' := by
  refine (parse_any (n := 3) (c := c) par_doc (R' := [0, 3, 41, 44, 46, 23, 21, 48, 42, 1]) (m := 10) (at' := -1) (by decide) rfl (by decide) rfl (by decide) hA ht).mono ?_
  rintro e w' ⟨B, d, rfl, hb, hs, -⟩
  obtain ⟨b, o, rfl, c0⟩ := hs 0 0 rfl
  obtain ⟨b', o', e1, c1⟩ := hs 1 3 rfl
  obtain ⟨rfl, rfl⟩ : b = b' ∧ o = o' := by simpa using e1
  exact ⟨b, o, d, rfl, hb, c0, c1⟩
def PvE (w : World) (e : Ending) (w' : World) : Prop := ∃ A c, e = .returned (.tuple #[.slice A 0 c, .int .i64 2]) ∧ Below w.heap.size w w'
theorem parse_cut {w : World} {A : Option Addr} {c : Nat} (hA : Ri w A [12, 18]) (ht : TabR w) : Calls Tryd.prog 5 #[.slice A 2 c] w fun e w' => PvE w e w' := by
  refine (parse_any (n := 2) (c := c) par_cut (R' := []) (m := 0) (at' := 2) (by decide) rfl (by decide) rfl (by decide) hA ht).mono ?_
  rintro e w' ⟨B, d, rfl, hb, -, -⟩
  exact ⟨B, d, rfl, hb⟩
end Go.Proofs.YtfgmojnohienfaaDoor
