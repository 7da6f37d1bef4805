/- The law SpanFlat: its walk. -/
import Derived.Test.YtmknjhmfgapejaaSpaE
namespace Go.Proofs.Ytmknjhmfgapejaa
open Go.RowKit
set_option linter.unusedVariables false
set_option maxRecDepth 100000

set_option maxHeartbeats 4000000 in
theorem flat_law {w : World} {t : Int} {v : ByteArray} (hwf : (Lit.int .i64 t).wf = true) :
    Calls Try.prog 8 #[.int .i64 t, .string v] w fun e w' => e = .returned (.bool true) ∧ Below w.heap.size w w' := by
  have r1 := fun w => awake_any w
  by_cases h3 : 300 < v.size
  · have q3 : (300 : Int) < (v.size : Int) := by omega
    go_enter Try.func8, Try.ntmps8
    go_wp2_with fail
    ((with_reducible refine (r1 _).mono ?_))
    rintro e w1 ⟨rfl, hb1⟩
    have HB1 := Lib.hid hb1
    clear hb1
    go_wp2
    go_ret
    exact ⟨rfl, HB1.out⟩
  have q3 : ¬ (300 : Int) < (v.size : Int) := by omega
  obtain ⟨S, hS⟩ : ∃ S, flV ⟨t, v⟩ = S := ⟨_, rfl⟩
  obtain ⟨is, hi⟩ : ∃ is, flI ⟨t, v⟩ = is := ⟨_, rfl⟩
  obtain ⟨y, hy⟩ : ∃ y, brF t = y := ⟨_, rfl⟩
  obtain ⟨q, hq⟩ : ∃ q, cols S.data.toList = q := ⟨_, rfl⟩
  have hqs := cols_le S.data.toList
  rw [← size_list, hq] at hqs
  have r2 := fun w => sflat_any (w := w) hwf hS hi
  have r3 := fun w => sbreaks_any (w := w) (v := v) hwf hy
  have r4 := fun w (h : S.size ≤ 9223372036854775807) => scols_any S h hq w
  by_cases h0 : t = 0
  · subst h0
    obtain rfl : v = S := hS
    obtain rfl : true = is := hi
    obtain rfl : false = y := hy
    have r5 := fun w => r4 w (by omega)
    clear hq r4 h3
    go_enter Try.func8, Try.ntmps8
    go_wp2_with fail
    ((with_reducible refine (r1 _).mono ?_))
    rintro e w1 ⟨rfl, hb1⟩
    have HB1 := Lib.hid hb1
    clear hb1
    go_wp2_with fail
    ((with_reducible refine (r2 _).mono ?_))
    rintro e w2 ⟨rfl, hb2⟩
    have HB2 := Lib.hid (bel_trans HB1.out hb2)
    clear hb2
    go_wp2_with fail
    ((with_reducible refine (r3 _).mono ?_))
    rintro e w3 ⟨rfl, hb3⟩
    have HB3 := Lib.hid (bel_trans HB2.out hb3)
    clear hb3
    go_wp2_with fail
    ((with_reducible refine (r5 _).mono ?_))
    rintro e w4 ⟨rfl, hb4⟩
    have HB4 := Lib.hid (bel_trans HB3.out hb4)
    clear hb4
    go_wp2
    go_ret
    exact ⟨rfl, HB4.out⟩
  by_cases h1 : t = 1
  · subst h1
    obtain rfl : (⟨#[32]⟩ : ByteArray) = S := hS
    obtain rfl : true = is := hi
    obtain rfl : false = y := hy
    have r5 := fun w => r4 w (by decide)
    have hqz : (q : Int) ≤ 1 := Int.ofNat_le.2 hqs
    have hqd : decide ((q : Int) ≤ 1) = true := decide_eq_true hqz
    clear hqs
    clear hq r4 h3 h0
    go_enter Try.func8, Try.ntmps8
    go_wp2_with fail
    ((with_reducible refine (r1 _).mono ?_))
    rintro e w1 ⟨rfl, hb1⟩
    have HB1 := Lib.hid hb1
    clear hb1
    go_wp2_with fail
    ((with_reducible refine (r2 _).mono ?_))
    rintro e w2 ⟨rfl, hb2⟩
    have HB2 := Lib.hid (bel_trans HB1.out hb2)
    clear hb2
    go_wp2_with fail
    ((with_reducible refine (r3 _).mono ?_))
    rintro e w3 ⟨rfl, hb3⟩
    have HB3 := Lib.hid (bel_trans HB2.out hb3)
    clear hb3
    go_wp2_with fail
    ((with_reducible refine (r5 _).mono ?_))
    rintro e w4 ⟨rfl, hb4⟩
    have HB4 := Lib.hid (bel_trans HB3.out hb4)
    clear hb4
    go_wp2
    go_ret
    exact ⟨rfl, HB4.out⟩
  by_cases h2 : t = 2
  · subst h2
    obtain rfl : (⟨#[32]⟩ : ByteArray) = S := hS
    obtain rfl : true = is := hi
    obtain rfl : true = y := hy
    have r5 := fun w => r4 w (by decide)
    have hqz : (q : Int) ≤ 1 := Int.ofNat_le.2 hqs
    have hqd : decide ((q : Int) ≤ 1) = true := decide_eq_true hqz
    clear hqs
    clear hq r4 h3 h0 h1
    go_enter Try.func8, Try.ntmps8
    go_wp2_with fail
    ((with_reducible refine (r1 _).mono ?_))
    rintro e w1 ⟨rfl, hb1⟩
    have HB1 := Lib.hid hb1
    clear hb1
    go_wp2_with fail
    ((with_reducible refine (r2 _).mono ?_))
    rintro e w2 ⟨rfl, hb2⟩
    have HB2 := Lib.hid (bel_trans HB1.out hb2)
    clear hb2
    go_wp2_with fail
    ((with_reducible refine (r3 _).mono ?_))
    rintro e w3 ⟨rfl, hb3⟩
    have HB3 := Lib.hid (bel_trans HB2.out hb3)
    clear hb3
    go_wp2_with fail
    ((with_reducible refine (r5 _).mono ?_))
    rintro e w4 ⟨rfl, hb4⟩
    have HB4 := Lib.hid (bel_trans HB3.out hb4)
    clear hb4
    go_wp2
    go_ret
    exact ⟨rfl, HB4.out⟩
  by_cases k3 : t = 3
  · subst k3
    obtain rfl : (⟨#[]⟩ : ByteArray) = S := hS
    obtain rfl : true = is := hi
    obtain rfl : true = y := hy
    have r5 := fun w => r4 w (by decide)
    obtain rfl : q = 0 := Nat.le_zero.1 hqs
    clear hqs
    clear hq r4 h3 h0 h1 h2
    go_enter Try.func8, Try.ntmps8
    go_wp2_with fail
    ((with_reducible refine (r1 _).mono ?_))
    rintro e w1 ⟨rfl, hb1⟩
    have HB1 := Lib.hid hb1
    clear hb1
    go_wp2_with fail
    ((with_reducible refine (r2 _).mono ?_))
    rintro e w2 ⟨rfl, hb2⟩
    have HB2 := Lib.hid (bel_trans HB1.out hb2)
    clear hb2
    go_wp2_with fail
    ((with_reducible refine (r3 _).mono ?_))
    rintro e w3 ⟨rfl, hb3⟩
    have HB3 := Lib.hid (bel_trans HB2.out hb3)
    clear hb3
    go_wp2_with fail
    ((with_reducible refine (r5 _).mono ?_))
    rintro e w4 ⟨rfl, hb4⟩
    have HB4 := Lib.hid (bel_trans HB3.out hb4)
    clear hb4
    go_wp2
    go_ret
    exact ⟨rfl, HB4.out⟩
  by_cases h4 : t = 4
  · subst h4
    obtain rfl : (⟨#[44, 32]⟩ : ByteArray) = S := hS
    obtain rfl : true = is := hi
    obtain rfl : true = y := hy
    have r5 := fun w => r4 w (by decide)
    have hqz : (q : Int) ≤ 2 := Int.ofNat_le.2 hqs
    have hqd : decide ((q : Int) ≤ 2) = true := decide_eq_true hqz
    clear hqs
    clear hq r4 h3 h0 h1 h2
    go_enter Try.func8, Try.ntmps8
    go_wp2_with fail
    ((with_reducible refine (r1 _).mono ?_))
    rintro e w1 ⟨rfl, hb1⟩
    have HB1 := Lib.hid hb1
    clear hb1
    go_wp2_with fail
    ((with_reducible refine (r2 _).mono ?_))
    rintro e w2 ⟨rfl, hb2⟩
    have HB2 := Lib.hid (bel_trans HB1.out hb2)
    clear hb2
    go_wp2_with fail
    ((with_reducible refine (r3 _).mono ?_))
    rintro e w3 ⟨rfl, hb3⟩
    have HB3 := Lib.hid (bel_trans HB2.out hb3)
    clear hb3
    go_wp2_with fail
    ((with_reducible refine (r5 _).mono ?_))
    rintro e w4 ⟨rfl, hb4⟩
    have HB4 := Lib.hid (bel_trans HB3.out hb4)
    clear hb4
    go_wp2
    go_ret
    exact ⟨rfl, HB4.out⟩
  by_cases h5 : t = 5
  · subst h5
    obtain rfl : (⟨#[]⟩ : ByteArray) = S := hS
    obtain rfl : false = is := hi
    obtain rfl : true = y := hy
    have r5 := fun w => r4 w (by decide)
    obtain rfl : q = 0 := Nat.le_zero.1 hqs
    clear hqs
    clear hq r4 h3 h0 h1 h2 k3 h4
    go_enter Try.func8, Try.ntmps8
    go_wp2_with fail
    ((with_reducible refine (r1 _).mono ?_))
    rintro e w1 ⟨rfl, hb1⟩
    have HB1 := Lib.hid hb1
    clear hb1
    go_wp2_with fail
    ((with_reducible refine (r2 _).mono ?_))
    rintro e w2 ⟨rfl, hb2⟩
    have HB2 := Lib.hid (bel_trans HB1.out hb2)
    clear hb2
    go_wp2_with fail
    ((with_reducible refine (r3 _).mono ?_))
    rintro e w3 ⟨rfl, hb3⟩
    have HB3 := Lib.hid (bel_trans HB2.out hb3)
    clear hb3
    go_wp2_with fail
    ((with_reducible refine (r5 _).mono ?_))
    rintro e w4 ⟨rfl, hb4⟩
    have HB4 := Lib.hid (bel_trans HB3.out hb4)
    clear hb4
    go_wp2
    go_ret
    exact ⟨rfl, HB4.out⟩
  by_cases h6 : t = 6
  · subst h6
    obtain rfl : (⟨#[]⟩ : ByteArray) = S := hS
    obtain rfl : true = is := hi
    obtain rfl : false = y := hy
    have r5 := fun w => r4 w (by decide)
    obtain rfl : q = 0 := Nat.le_zero.1 hqs
    clear hqs
    clear hq r4 h3 h0 h1 h2 k3 h4 h5
    go_enter Try.func8, Try.ntmps8
    go_wp2_with fail
    ((with_reducible refine (r1 _).mono ?_))
    rintro e w1 ⟨rfl, hb1⟩
    have HB1 := Lib.hid hb1
    clear hb1
    go_wp2_with fail
    ((with_reducible refine (r2 _).mono ?_))
    rintro e w2 ⟨rfl, hb2⟩
    have HB2 := Lib.hid (bel_trans HB1.out hb2)
    clear hb2
    go_wp2_with fail
    ((with_reducible refine (r3 _).mono ?_))
    rintro e w3 ⟨rfl, hb3⟩
    have HB3 := Lib.hid (bel_trans HB2.out hb3)
    clear hb3
    go_wp2_with fail
    ((with_reducible refine (r5 _).mono ?_))
    rintro e w4 ⟨rfl, hb4⟩
    have HB4 := Lib.hid (bel_trans HB3.out hb4)
    clear hb4
    go_wp2
    go_ret
    exact ⟨rfl, HB4.out⟩
  by_cases h7 : t = 7
  · subst h7
    obtain rfl : (⟨#[]⟩ : ByteArray) = S := hS
    obtain rfl : true = is := hi
    obtain rfl : false = y := hy
    have r5 := fun w => r4 w (by decide)
    obtain rfl : q = 0 := Nat.le_zero.1 hqs
    clear hqs
    clear hq r4 h3 h0 h1 h2 k3 h4 h5 h6
    go_enter Try.func8, Try.ntmps8
    go_wp2_with fail
    ((with_reducible refine (r1 _).mono ?_))
    rintro e w1 ⟨rfl, hb1⟩
    have HB1 := Lib.hid hb1
    clear hb1
    go_wp2_with fail
    ((with_reducible refine (r2 _).mono ?_))
    rintro e w2 ⟨rfl, hb2⟩
    have HB2 := Lib.hid (bel_trans HB1.out hb2)
    clear hb2
    go_wp2_with fail
    ((with_reducible refine (r3 _).mono ?_))
    rintro e w3 ⟨rfl, hb3⟩
    have HB3 := Lib.hid (bel_trans HB2.out hb3)
    clear hb3
    go_wp2_with fail
    ((with_reducible refine (r5 _).mono ?_))
    rintro e w4 ⟨rfl, hb4⟩
    have HB4 := Lib.hid (bel_trans HB3.out hb4)
    clear hb4
    go_wp2
    go_ret
    exact ⟨rfl, HB4.out⟩
  by_cases h8 : t = 8
  · subst h8
    obtain rfl : (⟨#[]⟩ : ByteArray) = S := hS
    obtain rfl : true = is := hi
    obtain rfl : false = y := hy
    have r5 := fun w => r4 w (by decide)
    obtain rfl : q = 0 := Nat.le_zero.1 hqs
    clear hqs
    clear hq r4 h3 h0 h1 h2 k3 h4 h5 h6 h7
    go_enter Try.func8, Try.ntmps8
    go_wp2_with fail
    ((with_reducible refine (r1 _).mono ?_))
    rintro e w1 ⟨rfl, hb1⟩
    have HB1 := Lib.hid hb1
    clear hb1
    go_wp2_with fail
    ((with_reducible refine (r2 _).mono ?_))
    rintro e w2 ⟨rfl, hb2⟩
    have HB2 := Lib.hid (bel_trans HB1.out hb2)
    clear hb2
    go_wp2_with fail
    ((with_reducible refine (r3 _).mono ?_))
    rintro e w3 ⟨rfl, hb3⟩
    have HB3 := Lib.hid (bel_trans HB2.out hb3)
    clear hb3
    go_wp2_with fail
    ((with_reducible refine (r5 _).mono ?_))
    rintro e w4 ⟨rfl, hb4⟩
    have HB4 := Lib.hid (bel_trans HB3.out hb4)
    clear hb4
    go_wp2
    go_ret
    exact ⟨rfl, HB4.out⟩
  by_cases h9 : t = 9
  · subst h9
    obtain rfl : (⟨#[]⟩ : ByteArray) = S := hS
    obtain rfl : true = is := hi
    obtain rfl : false = y := hy
    have r5 := fun w => r4 w (by decide)
    obtain rfl : q = 0 := Nat.le_zero.1 hqs
    clear hqs
    clear hq r4 h3 h0 h1 h2 k3 h4 h5 h6 h7 h8
    go_enter Try.func8, Try.ntmps8
    go_wp2_with fail
    ((with_reducible refine (r1 _).mono ?_))
    rintro e w1 ⟨rfl, hb1⟩
    have HB1 := Lib.hid hb1
    clear hb1
    go_wp2_with fail
    ((with_reducible refine (r2 _).mono ?_))
    rintro e w2 ⟨rfl, hb2⟩
    have HB2 := Lib.hid (bel_trans HB1.out hb2)
    clear hb2
    go_wp2_with fail
    ((with_reducible refine (r3 _).mono ?_))
    rintro e w3 ⟨rfl, hb3⟩
    have HB3 := Lib.hid (bel_trans HB2.out hb3)
    clear hb3
    go_wp2_with fail
    ((with_reducible refine (r5 _).mono ?_))
    rintro e w4 ⟨rfl, hb4⟩
    have HB4 := Lib.hid (bel_trans HB3.out hb4)
    clear hb4
    go_wp2
    go_ret
    exact ⟨rfl, HB4.out⟩
  obtain rfl : (⟨#[]⟩ : ByteArray) = S := by
    rw [← hS]
    unfold flV
    rw [flF, if_neg (show ¬ t = 0 from h0), if_neg (show ¬ (t = 1 ∨ t = 2) by omega), if_neg (show ¬ t = 4 by omega), if_neg (show ¬ (t = 3 ∨ t = 6 ∨ t = 7 ∨ t = 8 ∨ t = 9) by omega)]
    rfl
  obtain rfl : false = is := by
    rw [← hi]
    unfold flI
    rw [flF, if_neg (show ¬ t = 0 from h0), if_neg (show ¬ (t = 1 ∨ t = 2) by omega), if_neg (show ¬ t = 4 by omega), if_neg (show ¬ (t = 3 ∨ t = 6 ∨ t = 7 ∨ t = 8 ∨ t = 9) by omega)]
    rfl
  obtain rfl : false = y := by rw [← hy, brF, decide_eq_false (by omega)]
  have r5 := fun w => r4 w (by decide)
  obtain rfl : q = 0 := Nat.le_zero.1 hqs
  have e0 : (t == 0) = false := by simpa using h0
  have e1 : (t != 0) = true := by simpa using h0
  by_cases hk : 0 ≤ t
  · have hk9 : ¬ t ≤ 9 := by omega
    clear hq hqs r4 h3 h0 h1 h2 k3 h4 h5 h6 h7 h8 h9
    go_enter Try.func8, Try.ntmps8
    go_wp2_with fail
    ((with_reducible refine (r1 _).mono ?_))
    rintro e w1 ⟨rfl, hb1⟩
    have HB1 := Lib.hid hb1
    clear hb1
    go_wp2_with fail
    ((with_reducible refine (r2 _).mono ?_))
    rintro e w2 ⟨rfl, hb2⟩
    have HB2 := Lib.hid (bel_trans HB1.out hb2)
    clear hb2
    go_wp2_with fail
    ((with_reducible refine (r3 _).mono ?_))
    rintro e w3 ⟨rfl, hb3⟩
    have HB3 := Lib.hid (bel_trans HB2.out hb3)
    clear hb3
    go_wp2_with fail
    ((with_reducible refine (r5 _).mono ?_))
    rintro e w4 ⟨rfl, hb4⟩
    have HB4 := Lib.hid (bel_trans HB3.out hb4)
    clear hb4
    go_wp2
    go_ret
    exact ⟨rfl, HB4.out⟩
  · clear hq hqs r4 h3 h0 h1 h2 k3 h4 h5 h6 h7 h8 h9
    go_enter Try.func8, Try.ntmps8
    go_wp2_with fail
    ((with_reducible refine (r1 _).mono ?_))
    rintro e w1 ⟨rfl, hb1⟩
    have HB1 := Lib.hid hb1
    clear hb1
    go_wp2_with fail
    ((with_reducible refine (r2 _).mono ?_))
    rintro e w2 ⟨rfl, hb2⟩
    have HB2 := Lib.hid (bel_trans HB1.out hb2)
    clear hb2
    go_wp2_with fail
    ((with_reducible refine (r3 _).mono ?_))
    rintro e w3 ⟨rfl, hb3⟩
    have HB3 := Lib.hid (bel_trans HB2.out hb3)
    clear hb3
    go_wp2_with fail
    ((with_reducible refine (r5 _).mono ?_))
    rintro e w4 ⟨rfl, hb4⟩
    have HB4 := Lib.hid (bel_trans HB3.out hb4)
    clear hb4
    go_wp2
    go_ret
    exact ⟨rfl, HB4.out⟩
end Go.Proofs.Ytmknjhmfgapejaa
