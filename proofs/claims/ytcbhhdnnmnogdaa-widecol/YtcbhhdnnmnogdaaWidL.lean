/- The law WideCol: its walk. -/
import Derived.Test.YtcbhhdnnmnogdaaWidE
import Derived.Test.YtcbhhdnnmnogdaaWidO
namespace Go.Proofs.Ytcbhhdnnmnogdaa
open Go.RowKit
set_option linter.unusedVariables false
set_option maxRecDepth 100000

set_option maxHeartbeats 4000000 in
theorem col_law {w : World} {A : Option Addr} {n c : Nat} {l : List Bq} {W k : Int} (hA : Br w A l) (hn : l.length = n) (h0 : A = none → n = 0 ∧ c = 0) (hc : n ≤ c) (hv : vS l ≤ 1048576) :
    Calls Try.prog 8 #[.slice A n c, .int .i64 W, .int .i64 k] w fun e w' => e = .returned (.bool true) ∧ Below w.heap.size w w' := by
  have r1 := fun w => awake_any w
  have HA := Lib.hid hA
  have HL := Lib.hid hn
  have H0 := Lib.hid h0
  have HV := Lib.hid (Nat.le_trans hv (by decide) : vS l ≤ 100000000)
  obtain ⟨r, hr⟩ : ∃ r, rmF l W = r := ⟨_, rfl⟩
  have r2 := fun w h => wroom_all (w := w) (A := A) (n := n) (c := c) hr h hn
  have r3 := fun (e : r = false) w h => wcol_no (w := w) (A := A) (n := n) (c := c) (hr.trans e) h hn
  have HR := Lib.hid hr
  clear hA hn h0 hv hr
  go_enter Try.func8, Try.ntmps8
  go_wp2_with fail
  ((with_reducible refine (r1 _).mono ?_))
  rintro e w1 ⟨rfl, hb1⟩
  have HB1 := Lib.hid hb1
  clear hb1 r1
  by_cases h3 : 300 < n
  · have q3 : (300 : Int) < (n : Int) := by omega
    go_wp2_with fail
    ((with_reducible refine (r2 _ (HA.out.below HB1.out)).mono ?_))
    rintro e w2 ⟨rfl, hb2⟩
    have HB2 := Lib.hid (bel_trans HB1.out hb2)
    clear hb2 r2
    cases r with
    | true =>
      go_wp2
      go_ret
      exact ⟨rfl, HB2.out⟩
    | false =>
      go_wp2_with fail
      ((with_reducible refine (r3 (by first | rfl | trivial) _ (HA.out.below HB2.out)).mono ?_))
      rintro e w3 ⟨rfl, hb3⟩
      have HB3 := Lib.hid (bel_trans HB2.out hb3)
      clear hb3 r3
      go_wp2
      go_ret
      exact ⟨rfl, HB3.out⟩
  have q3 : ¬ (300 : Int) < (n : Int) := by omega
  go_wp2_with fail
  ((with_reducible refine (r2 _ (HA.out.below HB1.out)).mono ?_))
  rintro e w2 ⟨rfl, hb2⟩
  have HB2 := Lib.hid (bel_trans HB1.out hb2)
  clear hb2
  cases r with
  | false =>
    go_wp2_with fail
    ((with_reducible refine (r2 _ (HA.out.below HB2.out)).mono ?_))
    rintro e w3 ⟨rfl, hb3⟩
    have HB3 := Lib.hid (bel_trans HB2.out hb3)
    clear hb3 r2
    go_wp2_with fail
    ((with_reducible refine (r3 (by first | rfl | trivial) _ (HA.out.below HB3.out)).mono ?_))
    rintro e w4 ⟨rfl, hb4⟩
    have HB4 := Lib.hid (bel_trans HB3.out hb4)
    clear hb4 r3
    go_wp2
    go_ret
    exact ⟨rfl, HB4.out⟩
  | true =>
  clear r3
  by_cases k0 : k < 0
  · go_wp2_with fail
    ((with_reducible refine (r2 _ (HA.out.below HB2.out)).mono ?_))
    rintro e w3 ⟨rfl, hb3⟩
    have HB3 := Lib.hid (bel_trans HB2.out hb3)
    clear hb3 r2
    go_wp2
    go_ret
    exact ⟨rfl, HB3.out⟩
  obtain ⟨K, rfl⟩ : ∃ K : Nat, k = K := ⟨k.toNat, by omega⟩
  by_cases k1 : n ≤ K
  · have q4 : (n : Int) ≤ (K : Int) := by omega
    go_wp2_with fail
    ((with_reducible refine (r2 _ (HA.out.below HB2.out)).mono ?_))
    rintro e w3 ⟨rfl, hb3⟩
    have HB3 := Lib.hid (bel_trans HB2.out hb3)
    clear hb3 r2
    go_wp2
    go_ret
    exact ⟨rfl, HB3.out⟩
  have q4 : ¬ (n : Int) ≤ (K : Int) := by omega
  clear r2
  have hm := mayL_yes (rm_yes HR.out).2.2
  obtain ⟨t, ht⟩ : ∃ t, l[K]? = some t := ⟨_, List.getElem?_eq_getElem (by rw [HL.out]; omega)⟩
  obtain ⟨m1, m2, m3⟩ := col_math (w := W) hm (by rw [HL.out]; omega) ht
  have hi := pgs_inv W hm (by rw [HL.out]; omega) K (by rw [HL.out]; omega)
  have hok := mayF_ok hm t (List.mem_of_getElem? ht)
  have hmk := (ok_marks hok).2.2
  have hca : colF l W (K : Int) = (pgs l W K).col := by rw [colF, if_pos ⟨HR.out, by omega, by rw [HL.out]; omega⟩]; rfl
  have hcb : colF l W ((K : Int) + 1) = (pgs l W (K + 1)).col := by rw [colF, if_pos ⟨HR.out, by omega, by rw [HL.out]; omega⟩]; rfl
  have hc0 : colF l W 0 = 0 := by rw [colF, if_pos ⟨HR.out, by omega, by omega⟩]; rfl
  have hcn : colF l W ((n : Int) + 1) = -1 := by rw [colF, if_neg (by rw [HL.out]; omega)]
  have i3 := hi.col0
  have i4 := hi.colk
  have hvl := vS_le l K
  have hv2 := HV.out
  have hvx := vS_next ht
  have hvy := vS_le l (K + 1)
  have hfz := flV_le t
  have hcs := cols_le (flV t).data.toList
  rw [← size_list] at hcs
  generalize (pgs l W K).col = a at *
  generalize (pgs l W (K + 1)).col = b at *
  obtain ⟨S, hS⟩ : ∃ S, flV t = S := ⟨_, rfl⟩
  obtain ⟨is, his⟩ : ∃ is, flI t = is := ⟨_, rfl⟩
  rw [hS] at m1 m3 hfz hcs
  obtain ⟨z, hz⟩ : ∃ z, cols S.data.toList = z := ⟨_, rfl⟩
  rw [hz] at m1 m3 hcs
  have r4 := fun w h => wcol_any (w := w) (A := A) (n := n) (c := c) hca h HL.out H0.out hc (by omega) HV.out
  have r5 := fun w h => wcol_any (w := w) (A := A) (n := n) (c := c) hcb h HL.out H0.out hc (by omega) HV.out
  have r6 := fun w h => wcol_any (w := w) (A := A) (n := n) (c := c) hc0 h HL.out H0.out hc (by omega) HV.out
  have r7 := fun w h => wcol_any (w := w) (A := A) (n := n) (c := c) hcn h HL.out H0.out hc (by omega) HV.out
  have r9 := fun w => scols_any S (by omega) hz w
  have hwa : IntKind.i64.wrap (a + (z : Int)) = a + (z : Int) := IntWalk.i64_in _ (by omega)
  have hw1 : IntKind.i64.wrap ((K : Int) + 1) = (K : Int) + 1 := IntWalk.i64_in _ (by omega)
  have hw2 : IntKind.i64.wrap ((n : Int) + 1) = (n : Int) + 1 := IntWalk.i64_in _ (by omega)
  have ha : ¬ a < 0 := by omega
  obtain ⟨b0, o0, rfl, d0, d1⟩ := (HA.out.below HB2.out) K t ht
  have HT := Lib.hid ht
  obtain ⟨tm, tv⟩ := t
  dsimp only at d0 d1 m1 m2 hmk hvx hfz
  have r8 := fun w => sflat_any (w := w) hmk hS his
  have M1 := Lib.hid m1
  have M2 := Lib.hid m2
  have M3 := Lib.hid m3
  clear hca hcb hc0 hcn hm hi hok ht m1 m2 m3 hz hS his hv2 hvl hvx hvy hfz hcs i4 h3 k0
  go_wp2_with fail
  ((with_reducible refine (r4 _ (HA.out.below HB2.out)).mono ?_))
  rintro e w3 ⟨rfl, hb3⟩
  have HB3 := Lib.hid (bel_trans HB2.out hb3)
  clear hb3 r4 d0 d1
  go_wp2_with fail
  ((with_reducible refine (r5 _ (HA.out.below HB3.out)).mono ?_))
  rintro e w4 ⟨rfl, hb4⟩
  have HB4 := Lib.hid (bel_trans HB3.out hb4)
  clear hb4 r5
  go_wp2_with fail
  ((with_reducible refine (r6 _ (HA.out.below HB4.out)).mono ?_))
  rintro e w5 ⟨rfl, hb5⟩
  have HB5 := Lib.hid (bel_trans HB4.out hb5)
  clear hb5 r6
  go_wp2_with fail
  ((with_reducible refine (r7 _ (HA.out.below HB5.out)).mono ?_))
  rintro e w6 ⟨rfl, hb6⟩
  have HB6 := Lib.hid (bel_trans HB5.out hb6)
  clear hb6 r7
  obtain ⟨b0, o0, he, d0, d1⟩ := (HA.out.below HB6.out) K _ HT.out
  obtain ⟨rfl, rfl⟩ : b0 = _ ∧ o0 = _ := by injection he with he; injection he with e1 e2; exact ⟨e1.symm, e2.symm⟩
  have lb := World.block_lt_of_cell? _ _ d0
  dsimp only at d0 d1
  clear he
  by_cases t5 : tm = 5
  · subst t5
    obtain ⟨y, hy0, rfl⟩ := M2.out rfl
    clear M1 M2 M3 r8 r9 hwa
    go_wp2
    go_ret
    exact ⟨rfl, HB6.out⟩
  have g5 : (tm == 5) = false := beq_eq_false_iff_ne.2 t5
  by_cases t0 : tm = 0
  · subst t0
    obtain rfl := M1.out (.inl rfl)
    clear M1 M2 M3
    go_wp2_with fail
    ((with_reducible refine (r8 _).mono ?_))
    rintro e w7 ⟨rfl, hb7⟩
    have HB7 := Lib.hid (bel_trans HB6.out hb7)
    clear hb7 r8
    go_wp2_with fail
    ((with_reducible refine (r9 _).mono ?_))
    rintro e w8 ⟨rfl, hb8⟩
    have HB8 := Lib.hid (bel_trans HB7.out hb8)
    clear hb8 r9
    go_wp2
    go_ret
    exact ⟨by first | rfl | (simp; done), HB8.out⟩
  by_cases t1 : tm = 1
  · subst t1
    obtain rfl := M1.out (.inr rfl)
    clear M1 M2 M3
    go_wp2_with fail
    ((with_reducible refine (r8 _).mono ?_))
    rintro e w7 ⟨rfl, hb7⟩
    have HB7 := Lib.hid (bel_trans HB6.out hb7)
    clear hb7 r8
    go_wp2_with fail
    ((with_reducible refine (r9 _).mono ?_))
    rintro e w8 ⟨rfl, hb8⟩
    have HB8 := Lib.hid (bel_trans HB7.out hb8)
    clear hb8 r9
    go_wp2
    go_ret
    exact ⟨by first | rfl | (simp; done), HB8.out⟩
  have g0 : (tm == 0) = false := beq_eq_false_iff_ne.2 t0
  have g1 : (tm == 1) = false := beq_eq_false_iff_ne.2 t1
  by_cases hba : b = a
  · subst hba
    clear M1 M2 M3 t0 t1 t5
    go_wp2_with fail
    ((with_reducible refine (r8 _).mono ?_))
    rintro e w7 ⟨rfl, hb7⟩
    have HB7 := Lib.hid (bel_trans HB6.out hb7)
    clear hb7 r8
    go_wp2
    go_ret
    exact ⟨rfl, HB7.out⟩
  have gba : (b == a) = false := beq_eq_false_iff_ne.2 hba
  by_cases hev : ∃ y : Int, b = 2 * y
  · obtain ⟨y, rfl⟩ := hev
    clear M1 M2 M3 t0 t1 t5 hba
    go_wp2_with fail
    ((with_reducible refine (r8 _).mono ?_))
    rintro e w7 ⟨rfl, hb7⟩
    have HB7 := Lib.hid (bel_trans HB6.out hb7)
    clear hb7 r8
    go_wp2
    go_ret
    exact ⟨rfl, HB7.out⟩
  have hbz : b = a + z := by
    rcases M3.out with h | ⟨y, -, h⟩ | h
    · exact absurd h hba
    · exact absurd ⟨y, h⟩ hev
    · exact h
  have hb0 : 0 ≤ b := by omega
  have hmod : b % 2 = 1 := by
    rcases Int.emod_two_eq b with h | h
    · exact absurd ⟨b / 2, by omega⟩ hev
    · exact h
  have gz : (b == a + (z : Int)) = true := by rw [hbz]; exact beq_self_eq_true _
  have hmt : b.tmod 2 = 1 := by rw [Int.tmod_eq_emod_of_nonneg hb0]; exact hmod
  clear M1 M2 M3 t0 t1 t5 hba hbz hev
  go_wp2_with fail
  ((with_reducible refine (r8 _).mono ?_))
  rintro e w7 ⟨rfl, hb7⟩
  have HB7 := Lib.hid (bel_trans HB6.out hb7)
  clear hb7 r8
  go_wp2_with fail
  ((with_reducible refine (r9 _).mono ?_))
  rintro e w8 ⟨rfl, hb8⟩
  have HB8 := Lib.hid (bel_trans HB7.out hb8)
  clear hb8 r9
  go_wp2
  go_ret
  exact ⟨by first | rfl | (simp; done), HB8.out⟩
end Go.Proofs.Ytcbhhdnnmnogdaa
