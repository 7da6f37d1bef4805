/- The law ParseTells: its walk. -/
import Derived.Test.YtkgljjinegphdaaDoorParU
import Derived.Test.YtkgljjinegphdaaDoorIntF
namespace Go.Proofs.YtkgljjinegphdaaDoor
open Go.RowKit
set_option linter.unusedVariables false
set_option maxRecDepth 100000

set_option maxHeartbeats 2000000 in
theorem tells_law {w : World} {A : Option Addr} {n c : Nat} {L : List Int} (hl : L.length = n) (hA : Ri w A L) (ht : TabR w) :
    Calls Tryd.prog 3 #[.slice A n c] w fun e w' => e = .returned (.bool true) ∧ Below w.heap.size w w' := by
  have HT := Lib.hid ht
  by_cases h300 : 300 < n
  · have q1 : (300 : Int) < (n : Int) := by omega
    clear hl hA ht h300
    go_enter Tryd.func3, Tryd.ntmps3
    go_wp2_with fail
    ((with_reducible refine (awake_any _ HT.out).mono ?_))
    rintro e w1 ⟨rfl, hb1⟩
    have HB1 := Lib.hid hb1
    clear hb1
    go_wp2_with fail
    go_ret
    exact ⟨rfl, HB1.out⟩
  · obtain ⟨R, z, f, hp⟩ := par_ex L
    obtain ⟨R', hR'⟩ : ∃ R', outR L R z f = R' := ⟨_, rfl⟩
    obtain ⟨m, hm⟩ : ∃ m, R'.length = m := ⟨_, rfl⟩
    obtain ⟨p, hpz⟩ : ∃ p, outZ L z f = p := ⟨_, rfl⟩
    obtain ⟨k, hk⟩ : ∃ k, R.length = k := ⟨_, rfl⟩
    have hn : n ≤ 1000 := by omega
    have hk2 : k ≤ 10000 := by have := hp.steps; have := hp.within; omega
    have hm2 : m ≤ 10000 := by
      rw [← hm, ← hR', outR]
      split
      · omega
      · exact Nat.zero_le _
    have q1 : ¬ (300 : Int) < (n : Int) := by omega
    have r1 := fun w h h' => parse_any (w := w) (A := A) (c := c) hp hR' hm hpz hl hn h h'
    have r2 := fun w h => rparse_any (w := w) (A := A) (c := c) hp hR' hm hpz hl hn h
    have r3 := fun w h h' => viable_any (w := w) (A := A) (c := c) hp hl hn h h'
    have r4 := fun w h => rviable_any (w := w) (A := A) (c := c) hp hl hn h
    have r5 := fun w h h' => steps_any (w := w) (A := A) (c := c) hp hk hl hn h h'
    have r6 := fun w h => rsteps_any (w := w) (A := A) (c := c) hp hk hl hn h
    have r7 := fun {w : World} {A B : Option Addr} {c d : Nat} (h1 : Ri w A R') (h2 : Ri w B R') => ints_any (c := c) (d := d) h1 h2 hm (by omega)
    have HA := Lib.hid hA
    clear hl hA ht h300 hp hR' hm hpz hk
    go_enter Tryd.func3, Tryd.ntmps3
    go_wp2_with fail
    ((with_reducible refine (awake_any _ HT.out).mono ?_))
    rintro e w1 ⟨rfl, hb1⟩
    have HB1 := Lib.hid hb1
    clear hb1
    go_wp2_with fail
    ((with_reducible refine (r1 _ (HA.out.below HB1.out) (HT.out.below HB1.out)).mono ?_))
    rintro e w2 ⟨B, d, rfl, hb2, hs2, -⟩
    have HB2 := Lib.hid (bel_trans HB1.out hb2)
    have HS2 := Lib.hid hs2
    clear hb2 hs2
    go_wp2_with fail
    ((with_reducible refine (r2 _ (HA.out.below HB2.out)).mono ?_))
    rintro e w3 ⟨B', d', rfl, hb3, hs3, -⟩
    have HB3 := Lib.hid (bel_trans HB2.out hb3)
    have HS3 := Lib.hid hs3
    have HS2 := Lib.hid (HS2.out.below hb3)
    clear hb3 hs3
    go_wp2_with fail
    ((with_reducible refine (r7 HS2.out HS3.out).mono ?_))
    rintro e w4 ⟨rfl, hb4⟩
    have HB4 := Lib.hid (bel_trans HB3.out hb4)
    clear hb4
    go_wp2_with fail
    ((with_reducible refine (r3 _ (HA.out.below HB4.out) (HT.out.below HB4.out)).mono ?_))
    rintro e w5 ⟨rfl, hb5⟩
    have HB5 := Lib.hid (bel_trans HB4.out hb5)
    clear hb5
    go_wp2_with fail
    ((with_reducible refine (r4 _ (HA.out.below HB5.out)).mono ?_))
    rintro e w6 ⟨rfl, hb6⟩
    have HB6 := Lib.hid (bel_trans HB5.out hb6)
    clear hb6
    go_wp2_with fail
    ((with_reducible refine (r5 _ (HA.out.below HB6.out) (HT.out.below HB6.out)).mono ?_))
    rintro e w7 ⟨rfl, hb7⟩
    have HB7 := Lib.hid (bel_trans HB6.out hb7)
    clear hb7
    go_wp2_with fail
    ((with_reducible refine (r6 _ (HA.out.below HB7.out)).mono ?_))
    rintro e w8 ⟨rfl, hb8⟩
    have HB8 := Lib.hid (bel_trans HB7.out hb8)
    clear hb8
    go_wp2_with fail
    go_ret
    exact ⟨by simp, HB8.out⟩
end Go.Proofs.YtkgljjinegphdaaDoor
