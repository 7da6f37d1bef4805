/- The law MarkTells: its walk. -/
import Derived.Test.YtpcijjdlppoblaaGreatDoorMarE
import Derived.Test.YtpcijjdlppoblaaGreatDoorMarR
import Derived.Test.YtpcijjdlppoblaaGreatDoorMarS
namespace Go.Proofs.YtpcijjdlppoblaaGreatDoor
open Go.RowKit
set_option linter.unusedVariables false
set_option maxRecDepth 100000

set_option maxHeartbeats 4000000 in
theorem tells_law {w : World} {A A2 A3 : Option Addr} {n c n2 c2 n3 c3 : Nat} {R : List Int} {ts : List Tq} {k a z : Int} {v : ByteArray} {us : List Bq} (hl : R.length = n) (hc : n ≤ c) (hA : Ri w A R) (hl2 : ts.length = n2) (hc2 : n2 ≤ c2) (hn2 : n2 ≤ 9223372036854775807) (hv2 : ∀ t ∈ ts, t.v.size ≤ 9223372036854775807) (hA2 : Tr w A2 ts) (hzv : v.size ≤ 9223372036854775807) (hl3 : us.length = n3) (hA3 : Br w A3 us) (ht : TabR w) (hk : TabK w) (hq : Tab w) :
    Calls Tryz.prog 3 #[.slice A n c, .slice A2 n2 c2, .agg #[.int .i64 k, .string v, .int .i64 a, .int .i64 z], .slice A3 n3 c3] w fun e w' => e = .returned (.bool true) ∧ Below w.heap.size w w' := by
  have HTR := Lib.hid ht
  have HTK := Lib.hid hk
  have HTQ := Lib.hid hq
  have HA := Lib.hid hA
  have HA2 := Lib.hid hA2
  have HA3 := Lib.hid hA3
  have HL := Lib.hid hl
  have HL2 := Lib.hid hl2
  have HL3 := Lib.hid hl3
  have HV2 := Lib.hid hv2
  have HB0 := Lib.hid (bel_alloc (Below.refl _ w) (.cells #[.int .i64 k, .string v, .int .i64 a, .int .i64 z] 25))
  have HX0 := Lib.hid (B4.new w (.int .i64 k) (.string v) (.int .i64 a) (.int .i64 z) 25)
  have r1 := fun w h => fewF_any (w := w) (A := A2) (c := c2) h HL2.out hn2 HV2.out
  obtain ⟨X, is, hf⟩ := ful_ex R
  obtain ⟨L, hL⟩ : ∃ L, ts.map teQ = L := ⟨_, rfl⟩
  obtain ⟨r, hr⟩ : ∃ r, derB is X L = r := ⟨_, rfl⟩
  obtain ⟨O, hO⟩ : ∃ O, biL r X ts = O := ⟨_, rfl⟩
  obtain ⟨o, ho⟩ : ∃ o, O.isSome = o := ⟨_, rfl⟩
  obtain ⟨bs, hbs⟩ : ∃ bs, O.getD [] = bs := ⟨_, rfl⟩
  obtain ⟨m, hm⟩ : ∃ m, bs.length = m := ⟨_, rfl⟩
  obtain ⟨S, hS⟩ : ∃ S, shV (shQ ⟨k, v, a, z⟩) = S := ⟨_, rfl⟩
  obtain ⟨i, hi⟩ : ∃ i, (shQ ⟨k, v, a, z⟩).isSome = i := ⟨_, rfl⟩
  obtain ⟨xs, hxs⟩ : ∃ xs, txL us = xs := ⟨_, rfl⟩
  obtain ⟨mx, hmx⟩ : ∃ mx, xs.length = mx := ⟨_, rfl⟩
  obtain ⟨y, hy⟩ : ∃ y, mayL us = y := ⟨_, rfl⟩
  have hmb : m ≤ 1 + 10 * n := by
    rw [← hm, ← hbs]
    cases O with
    | none => exact Nat.zero_le _
    | some q =>
      have h2 : biL r X ts = some q := hO
      cases r with
      | false => cases h2
      | true =>
        have := btF_len h2
        have h3 := ful_len hf
        rw [hl] at h3
        show q.length ≤ _
        omega
  have hmx3 : mx ≤ n3 := by rw [← hmx, ← hxs, ← hl3]; exact txL_le us
  have HF := Lib.hid hf
  have HLL := Lib.hid hL
  have HR := Lib.hid hr
  have HO := Lib.hid hO
  have Ho := Lib.hid ho
  have Hbs := Lib.hid hbs
  have Hm := Lib.hid hm
  have HS := Lib.hid hS
  have HI := Lib.hid hi
  have HXS := Lib.hid hxs
  have HMX := Lib.hid hmx
  have HY := Lib.hid hy
  have s1 : (o == o) = true := by simp
  have s2 : (S.toList == S.toList) = true := by simp
  have s3 : (i == i) = true := by simp
  have s4 : (y == y) = true := by simp
  clear ht hk hq hA hA2 hA3 hl hl2 hl3 hv2 hf hL hr hO ho hbs hm hS hi hxs hmx hy
  go_enter Tryz.func3, Tryz.ntmps3
  go_wp2_with fail
  ((with_reducible refine (awm_any _ (HTR.out.below HB0.out) (HTK.out.below HB0.out) (HTQ.out.below HB0.out)).mono ?_))
  rintro e w1 ⟨rfl, hb1⟩
  have HB1 := Lib.hid (bel_trans HB0.out hb1)
  have HX1 := Lib.hid (HX0.out.below hb1)
  clear hb1 HX0
  go_wp2_with fail
  ((with_reducible refine (r1 _ (HA2.out.below HB1.out)).mono ?_))
  rintro e w2 ⟨b, rfl, hfew, rfl⟩
  obtain ⟨x0, x1, x2, x3, -, -, -, -⟩ := HX1.out
  cases b with
  | false =>
    clear hfew
    go_wp2_with fail
    go_ret
    exact ⟨rfl, HB1.out⟩
  | true =>
    obtain ⟨hn100, hsz⟩ := hfew rfl
    have HSZ := Lib.hid hsz
    clear hfew hsz r1
    by_cases h6 : 600 < n
    · have q6 : (600 : Int) < (n : Int) := by omega
      clear h6
      go_wp2_with fail
      go_ret
      exact ⟨rfl, HB1.out⟩
    have q6 : ¬ (600 : Int) < (n : Int) := by omega
    by_cases h5 : 5000 < n3
    · have q5 : (5000 : Int) < (n3 : Int) := by omega
      clear h5
      go_wp2_with fail
      go_ret
      exact ⟨rfl, HB1.out⟩
    have q5 : ¬ (5000 : Int) < (n3 : Int) := by omega
    by_cases hv : 600 < v.size
    · have qv : (600 : Int) < (v.size : Int) := by omega
      clear hv
      go_wp2_with fail
      go_ret
      exact ⟨rfl, HB1.out⟩
    have qv : ¬ (600 : Int) < (v.size : Int) := by omega
    have r2 := fun w h h' h1 h2 h3 => bits_any (w := w) (A := A) (A2 := A2) (c := c) (c2 := c2) HF.out HLL.out HR.out HO.out Ho.out Hbs.out Hm.out HL.out hc (by omega) h HL2.out hc2 (by omega) (fun t ht => Nat.le_trans (HSZ.out t ht) (by decide)) h' h1 h2 h3
    have r3 := fun w h h' => rbits_any (w := w) (A := A) (A2 := A2) (c := c) (c2 := c2) HF.out HLL.out HR.out HO.out Ho.out Hbs.out Hm.out HL.out (by omega) h HL2.out (by omega) (fun t ht => Nat.le_trans (HSZ.out t ht) (by decide)) h'
    have r4 := fun w h => msh_any (k := k) (v := v) (a := a) (z := z) (w := w) HS.out HI.out (by omega) h
    have r5 := fun w => rsh_any (k := k) (v := v) (a := a) (z := z) HS.out HI.out (by omega) w
    have r6 := fun w B d B' d' h h' => bsame_eq (w := w) (A := B) (c := d) (A' := B') (d := d') h h' Hm.out (by omega)
    have r7 := fun w h => mtxt_any (w := w) (A := A3) (c := c3) HXS.out HMX.out h HL3.out (by omega)
    have r8 := fun w h => rtxt_any (w := w) (A := A3) (c := c3) HXS.out HMX.out h HL3.out (by omega)
    have r9 := fun w B d B' d' h h' => xtexts_eq (w := w) (A := B) (c := d) (A' := B') (d := d') h h' HMX.out (by omega)
    have r10 := fun w h => rmay_any (w := w) (A := A3) (c := c3) HY.out h HL3.out (by omega)
    have r11 := fun w h => mmay_any (w := w) (A := A3) (c := c3) HY.out h HL3.out (by omega)
    clear h6 h5 hv
    go_wp2_with fail
    ((with_reducible refine (r2 _ (HA.out.below HB1.out) (HA2.out.below HB1.out) (HTR.out.below HB1.out) (HTK.out.below HB1.out) (HTQ.out.below HB1.out)).mono ?_))
    rintro e w3 ⟨B3, d3, rfl, hb3, hr3, -⟩
    have HB3 := Lib.hid (bel_trans HB1.out hb3)
    have HX3 := Lib.hid (HX1.out.below hb3)
    have HR3 := Lib.hid hr3
    clear hb3 hr3 HX1 x0 x1 x2 x3
    go_wp2_with fail
    ((with_reducible refine (r3 _ (HA.out.below HB3.out) (HA2.out.below HB3.out)).mono ?_))
    rintro e w4 ⟨B4, d4, rfl, hb4, hr4, -⟩
    have HB4 := Lib.hid (bel_trans HB3.out hb4)
    have HX4 := Lib.hid (HX3.out.below hb4)
    have HR34 := Lib.hid (HR3.out.below hb4)
    have HR4 := Lib.hid hr4
    clear hb4 hr4 HX3 HR3
    obtain ⟨x0, x1, x2, x3, -, -, -, -⟩ := HX4.out
    go_wp2_with fail
    ((with_reducible refine (r4 _ (HTQ.out.below HB4.out)).mono ?_))
    rintro e w5 ⟨rfl, hb5⟩
    have HB5 := Lib.hid (bel_trans HB4.out hb5)
    have HX5 := Lib.hid (HX4.out.below hb5)
    have HR35 := Lib.hid (HR34.out.below hb5)
    have HR45 := Lib.hid (HR4.out.below hb5)
    clear hb5 HX4 HR34 HR4 x0 x1 x2 x3
    obtain ⟨x0, x1, x2, x3, -, -, -, -⟩ := HX5.out
    go_wp2_with fail
    ((with_reducible refine (r5 _).mono ?_))
    rintro e w6 ⟨rfl, hb6⟩
    have HB6 := Lib.hid (bel_trans HB5.out hb6)
    have HR36 := Lib.hid (HR35.out.below hb6)
    have HR46 := Lib.hid (HR45.out.below hb6)
    clear hb6 HX5 HR35 HR45 x0 x1 x2 x3
    go_wp2_with fail
    ((with_reducible refine (r6 _ _ _ _ _ HR36.out HR46.out).mono ?_))
    rintro e w7 ⟨rfl, hb7⟩
    have HB7 := Lib.hid (bel_trans HB6.out hb7)
    clear hb7 HR36 HR46
    go_wp2_with fail
    ((with_reducible refine (r7 _ (HA3.out.below HB7.out)).mono ?_))
    rintro e w8 ⟨B8, d8, rfl, hb8, hx8, -⟩
    have HB8 := Lib.hid (bel_trans HB7.out hb8)
    have HX8 := Lib.hid hx8
    clear hb8 hx8
    go_wp2_with fail
    ((with_reducible refine (r8 _ (HA3.out.below HB8.out)).mono ?_))
    rintro e w9 ⟨B9, d9, rfl, hb9, hx9, -⟩
    have HB9 := Lib.hid (bel_trans HB8.out hb9)
    have HX89 := Lib.hid (HX8.out.below hb9)
    have HX9 := Lib.hid hx9
    clear hb9 hx9 HX8
    go_wp2_with fail
    ((with_reducible refine (r9 _ _ _ _ _ HX89.out HX9.out).mono ?_))
    rintro e w10 ⟨rfl, hb10⟩
    have HB10 := Lib.hid (bel_trans HB9.out hb10)
    clear hb10 HX89 HX9
    go_wp2_with fail
    ((with_reducible refine (r10 _ (HA3.out.below HB10.out)).mono ?_))
    rintro e w11 ⟨rfl, rfl⟩
    go_wp2_with fail
    ((with_reducible refine (r11 _ (HA3.out.below HB10.out)).mono ?_))
    rintro e w12 ⟨rfl, hb12⟩
    have HB12 := Lib.hid (bel_trans HB10.out hb12)
    clear hb12
    go_wp2_with fail
    go_ret
    exact ⟨by simp, HB12.out⟩
end Go.Proofs.YtpcijjdlppoblaaGreatDoor
