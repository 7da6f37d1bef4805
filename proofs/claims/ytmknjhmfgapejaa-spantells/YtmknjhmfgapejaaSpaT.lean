/- The law SpanTells: its walk. -/
import Derived.Test.YtmknjhmfgapejaaSpaE
import Derived.Test.YtmknjhmfgapejaaSpaR
namespace Go.Proofs.Ytmknjhmfgapejaa
open Go.RowKit
set_option linter.unusedVariables false
set_option maxRecDepth 100000

set_option maxHeartbeats 4000000 in
theorem tells_law {w : World} {s v : ByteArray} {t i : Int} {A : Option Addr} {n c : Nat} {ts : List Bq} (hz : s.size ≤ 9223372036854775807) (hwf : (Lit.int .i64 t).wf = true) (hl : ts.length = n) (hA : Br w A ts) (hc : n ≤ c) (hw : ∀ x ∈ ts, (Lit.int .i64 x.m).wf = true) (hs : SzB ts) :
    Calls Try.prog 3 #[.string s, .agg #[.int .i64 t, .string v], .slice A n c, .int .i64 i] w fun e w' => e = .returned (.bool true) ∧ Below w.heap.size w w' := by
  obtain ⟨us, rfl⟩ := bz_ex ts hw hs
  rw [List.length_map] at hl
  have hb0 := bel_alloc (Below.refl _ w) (.cells #[.int .i64 t, .string v] 23)
  obtain ⟨S, hS⟩ : ∃ S, flV ⟨t, v⟩ = S := ⟨_, rfl⟩
  obtain ⟨is, hi⟩ : ∃ is, flI ⟨t, v⟩ = is := ⟨_, rfl⟩
  obtain ⟨y, hy⟩ : ∃ y, brF t = y := ⟨_, rfl⟩
  obtain ⟨q, hq⟩ : ∃ q, cols s.data.toList = q := ⟨_, rfl⟩
  obtain ⟨r, hr⟩ := mtA_ex (us.map (·.b)) i
  obtain ⟨r', hr'⟩ := neA_ex (us.map (·.b)) i
  have r1 := fun w => awake_any w
  have r2 := fun w => sflat_any (w := w) hwf hS hi
  have r3 := fun w => rflat_any hS hi w
  have r4 := fun w => rbreaks_any (v := v) hy w
  have r5 := fun w => scols_any s hz hq w
  have r6 := fun w => rcols_any s hz hq w
  have r7 := fun w => sbreaks_any (w := w) (v := v) hwf hy
  have HA := Lib.hid hA
  have H0 := Lib.hid hb0
  have HL := Lib.hid hl
  have HS := Lib.hid hs
  have HR := Lib.hid (And.intro hr hr')
  have d0 : (w.alloc (.cells #[.int .i64 t, .string v] 23)).cell? ⟨w.heap.size, 0, none⟩ = some (.int .i64 t) := by simp [go_sem]
  have d1 : (w.alloc (.cells #[.int .i64 t, .string v] 23)).cell? ⟨w.heap.size, 1, none⟩ = some (.string v) := by simp [go_sem]
  clear hA hb0 hl hs hw hS hi hy hq hr hr' hwf
  go_enter Try.func3, Try.ntmps3
  go_wp2_with fail
  ((with_reducible refine (r1 _).mono ?_))
  rintro e w1 ⟨rfl, hb1⟩
  have HB1 := Lib.hid (bel_trans H0.out hb1)
  have c10 := bel_cell hb1 d0
  have c11 := bel_cell hb1 d1
  clear hb1 r1 d0 d1
  by_cases h6 : 600 < s.size
  · have q6 : (600 : Int) < (s.size : Int) := by omega
    go_wp2
    go_ret
    exact ⟨rfl, HB1.out⟩
  have q6 : ¬ (600 : Int) < (s.size : Int) := by omega
  by_cases h3 : 300 < n
  · have q3 : (300 : Int) < (n : Int) := by omega
    go_wp2
    go_ret
    exact ⟨rfl, HB1.out⟩
  have q3 : ¬ (300 : Int) < (n : Int) := by omega
  have r8 := fun w h => smatch_any (w := w) (A := A) (c := c) HR.out.1 HL.out (by omega) h
  have r9 := fun w h => rmatch_any (w := w) (A := A) (n := n) (c := c) HR.out.1 (by rw [List.length_map, HL.out]) (by omega) h
  have r10 := fun w h => sneed_any (w := w) (A := A) (c := c) HR.out.2 HL.out (by omega) hc h
  have r11 := fun w h => rneed_any (w := w) (A := A) (n := n) (c := c) HR.out.2 HS.out (by rw [List.length_map, HL.out]) (by omega) h
  clear h6 h3
  go_wp2_with fail
  ((with_reducible refine (r2 _).mono ?_))
  rintro e w2 ⟨rfl, hb2⟩
  have HB2 := Lib.hid (bel_trans HB1.out hb2)
  have c20 := bel_cell hb2 c10
  have c21 := bel_cell hb2 c11
  clear hb2 c10 c11
  go_wp2_with fail
  ((with_reducible refine (r3 _).mono ?_))
  rintro e w3 ⟨rfl, hb3⟩
  have HB3 := Lib.hid (bel_trans HB2.out hb3)
  have c30 := bel_cell hb3 c20
  have c31 := bel_cell hb3 c21
  clear hb3 c20 c21
  go_wp2_with fail
  ((with_reducible refine (r4 _).mono ?_))
  rintro e w4 ⟨rfl, hb4⟩
  have HB4 := Lib.hid (bel_trans HB3.out hb4)
  have c40 := bel_cell hb4 c30
  have c41 := bel_cell hb4 c31
  clear hb4 c30 c31
  go_wp2_with fail
  ((with_reducible refine (r5 _).mono ?_))
  rintro e w5 ⟨rfl, hb5⟩
  have HB5 := Lib.hid (bel_trans HB4.out hb5)
  have c50 := bel_cell hb5 c40
  have c51 := bel_cell hb5 c41
  clear hb5 c40 c41
  go_wp2_with fail
  ((with_reducible refine (r6 _).mono ?_))
  rintro e w6 ⟨rfl, hb6⟩
  have HB6 := Lib.hid (bel_trans HB5.out hb6)
  have c60 := bel_cell hb6 c50
  have c61 := bel_cell hb6 c51
  clear hb6 c50 c51
  go_wp2_with fail
  ((with_reducible refine (r7 _).mono ?_))
  rintro e w7 ⟨rfl, hb7⟩
  have HB7 := Lib.hid (bel_trans HB6.out hb7)
  have c70 := bel_cell hb7 c60
  have c71 := bel_cell hb7 c61
  clear hb7 c60 c61
  go_wp2_with fail
  ((with_reducible refine (r8 _ (HA.out.below (HB7.out))).mono ?_))
  rintro e w8 ⟨rfl, hb8⟩
  have HB8 := Lib.hid (bel_trans HB7.out hb8)
  clear hb8
  go_wp2_with fail
  ((with_reducible refine (r9 _ (HA.out.below (HB8.out))).mono ?_))
  rintro e w9 ⟨rfl, hb9⟩
  have HB9 := Lib.hid (bel_trans HB8.out hb9)
  clear hb9
  go_wp2_with fail
  ((with_reducible refine (r10 _ (HA.out.below (HB9.out))).mono ?_))
  rintro e w10 ⟨rfl, hb10⟩
  have HB10 := Lib.hid (bel_trans HB9.out hb10)
  clear hb10
  go_wp2_with fail
  ((with_reducible refine (r11 _ (HA.out.below (HB10.out))).mono ?_))
  rintro e w11 ⟨rfl, hb11⟩
  have HB11 := Lib.hid (bel_trans HB10.out hb11)
  clear hb11
  go_wp2
  go_ret
  exact ⟨rfl, HB11.out⟩
end Go.Proofs.Ytmknjhmfgapejaa
