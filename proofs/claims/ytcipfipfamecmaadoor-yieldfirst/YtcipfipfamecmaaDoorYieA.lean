/- Package yield: replacing; the boxes of the closure that tells. -/
import Derived.Test.YtcipfipfamecmaaDoorParC
import Derived.Test.YtcipfipfamecmaaDoorYieM
import Derived.Laws.EntriesVeiled
namespace Go.Proofs.YtcipfipfamecmaaDoor
open Go.RowKit
set_option linter.unusedVariables false
set_option maxRecDepth 100000

theorem isR_eq (v i : Int) : isR v i = (isI i && varI i == v) := by
  unfold isR isI varI
  by_cases h : 0 ≤ i ∧ i < 90
  · rw [decide_eq_true h, if_pos h]
  · rw [decide_eq_false h]; rfl
/-- What goes wrong. -/
def wrY : Ending := .panicked [{ v := .iface 41 (.agg #[]), recovered := false }]
/-- How replacing ends, its answer's length under a name of its own, and where it lies. -/
def RpE (m : Nat) (L : List Sq) (w : World) (e : Ending) (w' : World) : Prop := ∃ A c, e = .returned (.slice A m c) ∧ Below w.heap.size w w' ∧ Sr w' A L ∧ (∀ b o, A = some ⟨b, o, none⟩ → w.heap.size ≤ b)
/-- Get of a rule, and where its symbols lie. -/
def GmE (v : Int) (m : Nat) (L : List Sq) (w : World) (e : Ending) (w' : World) : Prop := ∃ A c, e = .returned (.tuple #[.agg #[.int .i64 v, .slice A m c], .bool true]) ∧ Below w.heap.size w w' ∧ Sr w' A L ∧ (∀ b o, A = some ⟨b, o, none⟩ → w.heap.size ≤ b)
theorem get_m {v i : Int} (hi : isR v i = true) {m : Nat} {L : List Sq} (hL : symI i = L) (hm : L.length = m) {w : World} (ht : TabR w) :
    Calls Tryd.prog 21 #[.int .i64 i] w fun e w' => GmE v m L w e w' := by
  obtain ⟨a, rfl, h1, rfl⟩ := isR_yes hi
  rw [symI_at] at hL
  subst hL hm
  refine (get_lies h1 ht).mono ?_
  rintro e w' ⟨A, c, rfl, hb, hs, -, hl⟩
  exact ⟨A, c, rfl, hb, hs, fun b o e => hl b (by rw [e]; rfl)⟩
set_option maxHeartbeats 1000000 in
theorem rep_nil {v : Int} {A : Option Addr} {c : Nat} (w : World) : Calls Tryd.prog 32 #[.int .i64 v, .slice A 0 c] w fun e w' => e = wrY ∧ Below w.heap.size w w' := by
  go_enter Tryd.func32, Tryd.ntmps32
  go_wp2
  exact ⟨rfl, rfl, Below.refl _ _⟩
set_option maxHeartbeats 1000000 in
theorem rep_no {v i : Int} {b o n c : Nat} (hi : isR v i = false) {w : World} (c0 : w.cell? ⟨b, o, none⟩ = some (.int .i64 i)) (ht : TabR w) :
    Calls Tryd.prog 32 #[.int .i64 v, .slice (some ⟨b, o, none⟩) (n + 1) c] w fun e w' => e = wrY ∧ Below w.heap.size w w' := by
  obtain ⟨L, hL⟩ : ∃ L, symI i = L := ⟨_, rfl⟩
  obtain ⟨m, hm⟩ : ∃ n, L.length = n := ⟨_, rfl⟩
  obtain ⟨x, hx⟩ : ∃ v, varI i = v := ⟨_, rfl⟩
  obtain ⟨y, hy⟩ : ∃ v, isI i = v := ⟨_, rfl⟩
  rw [isR_eq, hx, hy] at hi
  have r1 := getp_any i hL hm hx hy ht
  have q0 : ((n : Int) + 1 == 0) = false := by simp; omega
  clear hL hm hx hy ht
  cases y
  · clear hi
    go_enter Tryd.func32, Tryd.ntmps32
    go_wp2_with fail
    ((with_reducible refine r1.mono ?_))
    rintro e w1 ⟨B, d, rfl, hb1, hs1⟩
    have HB1 := Lib.hid (bel_alloc hb1 (.cells #[.int .i64 x, .slice B m d] 37))
    clear hb1 hs1 r1
    go_wp2
    exact ⟨rfl, rfl, HB1.out⟩
  · have q1 : (x != v) = true := by simpa using hi
    clear hi
    go_enter Tryd.func32, Tryd.ntmps32
    go_wp2_with fail
    ((with_reducible refine r1.mono ?_))
    rintro e w1 ⟨B, d, rfl, hb1, hs1⟩
    have HB1 := Lib.hid (bel_alloc hb1 (.cells #[.int .i64 x, .slice B m d] 37))
    clear hb1 hs1 r1
    go_wp2
    exact ⟨rfl, rfl, HB1.out⟩
set_option maxHeartbeats 1000000 in
theorem rep_yes {v i : Int} {b o n c m : Nat} {L : List Sq} (hi : isR v i = true) (hL : symI i = L) (hm : L.length = m) {w : World} (c0 : w.cell? ⟨b, o, none⟩ = some (.int .i64 i)) (ht : TabR w) :
    Calls Tryd.prog 32 #[.int .i64 v, .slice (some ⟨b, o, none⟩) (n + 1) c] w fun e w' => RpE m L w e w' := by
  have r1 := get_m hi hL hm ht
  have q0 : ((n : Int) + 1 == 0) = false := by simp; omega
  have q1 : (v != v) = false := by simp
  clear hi hL hm ht
  go_enter Tryd.func32, Tryd.ntmps32
  go_wp2_with fail
  ((with_reducible refine r1.mono ?_))
  rintro e w1 ⟨B, d, rfl, hb1, hs1, hl1⟩
  have HB1 := Lib.hid (bel_alloc hb1 (.cells #[.int .i64 v, .slice B m d] 37))
  have HS1 := Lib.hid (hs1.below (bel_alloc (Below.refl _ _) (.cells #[.int .i64 v, .slice B m d] 37)))
  have HL1 := Lib.hid hl1
  clear hb1 hs1 hl1 r1
  go_wp2
  go_ret
  exact ⟨B, d, rfl, HB1.out, HS1.out, HL1.out⟩
end Go.Proofs.YtcipfipfamecmaaDoor
