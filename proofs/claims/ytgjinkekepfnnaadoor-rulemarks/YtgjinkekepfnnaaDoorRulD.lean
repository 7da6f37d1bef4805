/- Stage 11's common beginning: awake. -/
import Derived.Test.YtgjinkekepfnnaaDoorRulB
import Derived.Test.YtgjinkekepfnnaaDoorRulC
namespace Go.Proofs.YtgjinkekepfnnaaDoor
open Go.RowKit
set_option linter.unusedVariables false
set_option maxRecDepth 100000

theorem TabR.drew {w : World} (h : TabR w) : TabR w.drew := h
/-- How Get ends, whatever the number. -/
def GaE (w : World) (e : Ending) (w' : World) : Prop := ∃ (v : Int) (A : Option Addr) (n c : Nat) (b : Bool), e = .returned (.tuple #[.agg #[.int .i64 v, .slice A n c], .bool b]) ∧ Below w.heap.size w w'
theorem get_all (k : Int) {w : World} (ht : TabR w) : Calls Tryd.prog 10 #[.int .i64 k] w fun e w' => GaE w e w' := by
  by_cases h : 0 ≤ k ∧ k < 90
  · obtain ⟨i, rfl⟩ := Int.eq_ofNat_of_zero_le h.1
    refine (get_yes (i := i) (by omega) ht).mono ?_
    rintro e w' ⟨A, c, rfl, hb, -, -⟩
    exact ⟨_, _, _, _, _, rfl, hb⟩
  · refine (get_no (by omega) w).mono ?_
    rintro e w' ⟨rfl, hb⟩
    exact ⟨_, _, _, _, _, rfl, hb⟩
/-- How Get ends where there is the rule: its variable v, its symbols L, n of them. -/
def GyE (v : Int) (n : Nat) (L : List Sq) (w : World) (e : Ending) (w' : World) : Prop := ∃ A c, e = .returned (.tuple #[.agg #[.int .i64 v, .slice A n c], .bool true]) ∧ Below w.heap.size w w' ∧ Sr w' A L ∧ (A = none → n = 0 ∧ c = 0)
theorem get_as {i : Nat} (h : i < 90) {v : Int} {n : Nat} {L : List Sq} (hv : (varR i : Int) = v) (hL : symR i = L) (hn : L.length = n) {w : World} (ht : TabR w) : Calls Tryd.prog 10 #[.int .i64 i] w fun e w' => GyE v n L w e w' := by
  subst hv hL hn
  exact get_yes h ht
def G3E (w : World) (e : Ending) (w' : World) : Prop := ∃ b o c, e = .returned (.tuple #[.agg #[.int .i64 2, .slice (some ⟨b, o, none⟩) 1 c], .bool true]) ∧ Below w.heap.size w w' ∧ w'.cell? ⟨b, o, none⟩ = some (.int .i64 1) ∧ w'.cell? ⟨b, o + 1, none⟩ = some (.int .i64 18)
theorem get3 {w : World} (ht : TabR w) : Calls Tryd.prog 10 #[.int .i64 3] w fun e w' => G3E w e w' := by
  refine (get_yes (i := 3) (by decide) ht).mono ?_
  rintro e w' ⟨A, c, rfl, hb, hs, hA⟩
  obtain ⟨b, o, rfl, c0, c1⟩ := hs 0 ⟨1, 18⟩ (by kernel_rfl)
  exact ⟨b, o, c, rfl, hb, c0, c1⟩
def O0E (w : World) (e : Ending) (w' : World) : Prop := ∃ A c, e = .returned (.slice A 1 c) ∧ Below w.heap.size w w'
theorem of0 {w : World} (ht : TabR w) : Calls Tryd.prog 14 #[.int .i64 0] w fun e w' => O0E w e w' := by
  refine (of_any 0 (L := [0]) (by decide +kernel) ht).mono ?_
  rintro e w' ⟨A, c, rfl, hb, hs, hA⟩
  exact ⟨A, c, rfl, hb⟩
def P0E (w : World) (e : Ending) (w' : World) : Prop := ∃ A c, e = .returned (.slice A 0 c) ∧ Below w.heap.size w w'
theorem plain0 (w : World) : Calls Tryd.prog 16 #[.slice (some ⟨w.heap.size, 0, none⟩) 1 1] (w.alloc (.cells #[.int .i64 3, .int .i64 0] 37)) fun e w' => P0E w e w' := by
  refine (plain_any (ts := [⟨3, 0⟩]) (L := []) rfl (sr_one (heap_alloc_new w _)) rfl (by decide)).mono ?_
  rintro e w' ⟨A, c, rfl, hb, hs, hA⟩
  exact ⟨A, c, rfl, bel_trans (bel_alloc (Below.refl _ _) _) hb⟩
set_option maxHeartbeats 1000000 in
theorem awake_any (w : World) (ht : TabR w) : Calls Tryd.prog 9 #[] w fun e w' => e = .returned (.bool true) ∧ Below w.heap.size w w' := by
  have HT := Lib.hid ht
  clear ht
  go_enter Tryd.func9, Tryd.ntmps9
  go_wp2_with fail
  refine (get3 HT.out).mono ?_
  rintro e w1 ⟨b, o, c, rfl, hb1, c0, c1⟩
  have lb := World.block_lt_of_cell? _ _ c0
  have HB := Lib.hid (bel_alloc hb1 (.cells #[.int .i64 2, .slice (some ⟨b, o, none⟩) 1 c] 25))
  clear hb1
  go_wp2_with fail
  refine (count_any _).mono ?_
  rintro e w' ⟨rfl, rfl⟩
  go_wp2_with fail
  refine (vars_any _).mono ?_
  rintro e w' ⟨rfl, rfl⟩
  go_wp2_with fail
  refine (of0 (HT.out.below HB.out)).mono ?_
  rintro e w2 ⟨A, cc, rfl, hb2⟩
  have HB2 := Lib.hid (bel_trans HB.out hb2)
  clear hb2
  go_wp2_with fail
  refine (plain0 _).mono ?_
  rintro e w3 ⟨A', cc', rfl, hb3⟩
  have HB3 := Lib.hid (bel_trans HB2.out hb3)
  clear hb3
  go_wp2_with fail
  go_ret
  exact ⟨by simp, HB3.out⟩
end Go.Proofs.YtgjinkekepfnnaaDoor
