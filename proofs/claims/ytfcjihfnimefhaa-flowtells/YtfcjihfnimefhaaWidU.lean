/- The document's own answers for layer 18 (copperplateref18): Upto, Room, Lay, Col; the law WideTells. -/
import Derived.Test.YtfcjihfnimefhaaWidS
import Derived.Test.YtfcjihfnimefhaaWidE
namespace Go.Proofs.Ytfcjihfnimefhaa
open Go.RowKit
set_option linter.unusedVariables false
set_option maxRecDepth 100000

theorem B5.other5 {w : World} {b : Nat} {v0 v1 v2 v3 v4 : Value} (h : B5 w b v0 v1 v2 v3 v4) {q : Nat} (hq : q ≠ b) (u0 u1 u2 u3 u4 : Value) : B5 (set5 w q u0 u1 u2 u3 u4) b v0 v1 v2 v3 v4 :=
  ((((h.other (p := ⟨q, 0, none⟩) hq u0).other (p := ⟨q, 1, none⟩) hq u1).other (p := ⟨q, 2, none⟩) hq u2).other (p := ⟨q, 3, none⟩) hq u3).other (p := ⟨q, 4, none⟩) hq u4
set_option maxHeartbeats 1000000 in
theorem rroom_any {w : World} {A : Option Addr} {n c : Nat} {l : List Bq} {W : Int} {r : Bool} (hr : rmF l W = r) (hA : Br w A l) (hn : l.length = n) (hz : n ≤ 100000) :
    Calls Try.prog 24 #[.slice A n c, .int .i64 W] w fun e w' => e = .returned (.bool r) ∧ w = w' := by
  have r1 := fun w h => rmay_any (w := w) (A := A) (n := n) (c := c) (r := mayL l) rfl h hn hz
  have HA := Lib.hid hA
  rw [rmF] at hr
  cases hm : mayL l
  · rw [hm] at hr r1
    obtain rfl : r = false := by rw [← hr]; simp
    clear hr hA hn hm
    go_enter Try.func24, Try.ntmps24
    go_wp2_with fail
    ((with_reducible refine (r1 _ HA.out).mono ?_))
    rintro e w1 ⟨rfl, rfl⟩
    clear r1
    go_wp2
    go_ret
    exact ⟨rfl, rfl⟩
  · rw [hm] at hr r1
    by_cases h1 : 1 ≤ W
    · by_cases h2 : W ≤ 65535
      · obtain rfl : r = true := by rw [← hr, decide_eq_true h1, decide_eq_true h2]; rfl
        clear hr hA hn hm
        go_enter Try.func24, Try.ntmps24
        go_wp2_with fail
        ((with_reducible refine (r1 _ HA.out).mono ?_))
        rintro e w1 ⟨rfl, rfl⟩
        clear r1
        go_wp2
        go_ret
        exact ⟨rfl, rfl⟩
      · obtain rfl : r = false := by rw [← hr, decide_eq_false h2]; simp
        have h2' : 65535 < W := Int.not_le.1 h2
        clear hr hA hn hm h2
        go_enter Try.func24, Try.ntmps24
        go_wp2_with fail
        ((with_reducible refine (r1 _ HA.out).mono ?_))
        rintro e w1 ⟨rfl, rfl⟩
        clear r1
        go_wp2
        go_ret
        exact ⟨by first | rfl | (show Ending.returned (.bool (decide (W ≤ 65535))) = _; rw [decide_eq_false (Int.not_le.2 h2')]), rfl⟩
    · obtain rfl : r = false := by rw [← hr, decide_eq_false h1]; rfl
      clear hr hA hn hm
      go_enter Try.func24, Try.ntmps24
      go_wp2_with fail
      ((with_reducible refine (r1 _ HA.out).mono ?_))
      rintro e w1 ⟨rfl, rfl⟩
      clear r1
      go_wp2
      go_ret
      exact ⟨rfl, rfl⟩
end Go.Proofs.Ytfcjihfnimefhaa
