/- The laws of layer 19: the example, awake. -/
import Derived.Test.YtfcjihfnimefhaaFloK
namespace Go.Proofs.Ytfcjihfnimefhaa
open Go.RowKit
set_option linter.unusedVariables false
set_option maxRecDepth 100000

theorem exBe : (bet exP 0 10).all flI = true ∧ colS (bet exP 0 10) + beF (exP.drop (10 + 1)) = 6 := by
  have h := pexNd
  have hall : (bet exP 0 10).all flI = true := by
    cases e : (bet exP 0 10).all flI
    · rw [ndF_no e] at h; cases h
    · rfl
  rw [ndF_yes hall] at h
  exact ⟨hall, by omega⟩
theorem exDec (w : Int) : decF exP w 11 0 0 = if w < 6 then some false else none := by
  obtain ⟨n1, n2, n3⟩ := need_from pexMt
  obtain ⟨h1, h2⟩ := exBe
  have e : exP.take 11 = exP := rfl
  have hs : segF exP 11 0 (10 : Int) = (exP.take 10).drop 0 := by rw [segF, if_pos (by decide)]; rfl
  have h10 : ((10 : Int)).toNat = 10 := rfl
  unfold decF
  rw [e, exM, hs, n1, h1, if_neg (by decide), if_pos (show (0 : Int) ≤ 10 by decide), h10, n2, n3, h2]
  have hany : (exP.drop 10).any (fun b => brF b.m) = false := by rfl
  rw [hany, if_neg (show ¬ ((0 : Int) ≤ 10 ∧ false = true) by decide)]
  have hz : (0 : Int) + ((6 : Nat) : Int) = 6 := rfl
  rw [hz]
theorem xpU {w : Int} (h : 6 ≤ w) : stF exP w 11 = 0 := by
  rcases Nat.eq_zero_or_pos (stF exP w 11) with h0 | h0
  · exact h0
  · refine absurd ⟨_, rfl, rfl, rfl, ?_⟩ ((stF_spec exP w 11).no 0 h0)
    show decF exP w 11 0 0 = none
    rw [exDec, if_neg (by omega)]
theorem xpV {w : Int} (h : w < 6) : 0 < stF exP w 11 := by
  rcases Nat.eq_zero_or_pos (stF exP w 11) with h0 | h0
  · obtain ⟨b, h1, h2, h3, h4⟩ := (stF_spec exP w 11).un (by omega)
    rw [h0] at h4
    have h5 : decF exP w 11 0 0 = none := h4
    rw [exDec, if_pos h] at h5
    cases h5
  · exact h0
theorem exF6 : mkb (flwF exP 6 11) = ⟨#[]⟩ ∧ hldN exP 6 11 = 11 ∧ mostN exP 6 11 = 11 := by
  have h := xpU (w := 6) (by decide)
  have h2 : hldN exP 6 11 = 11 := by unfold hldN; rw [h]
  refine ⟨by unfold flwF; rw [h]; rfl, h2, ?_⟩
  have h3 := mostN_le exP 6 11
  have h4 := hldN_most exP 6 11
  omega
theorem exF3 : mostN exP 3 11 < 11 := by
  have h := xpV (w := 3) (by decide)
  have h2 : hldN exP 3 11 < 11 := by unfold hldN; omega
  have h3 := mostN_le exP 3 10
  show max (mostN exP 3 10) (hldN exP 3 11) < 11
  omega
set_option maxHeartbeats 2000000 in
theorem awake_any (w : World) : Calls Try.prog 9 #[] w fun e w' => e = .returned (.bool true) ∧ Below w.heap.size w w' := by
  have r1 := fun w => pair_any w
  obtain ⟨S6, h6⟩ : ∃ S, mkb (layF exP 6) = S := ⟨_, rfl⟩
  have r2 := fun w (g : Nat) h => flow_yes (w := w) (A := some ⟨g, 0, none⟩) (n := 11) (c := 11) (l := exP) (W := 6) (k := 11) (by rfl) h rfl (fun e => by cases e) (Nat.le_refl _) (by decide) (by decide) (by decide)
  have r3 := fun w (g : Nat) h => all_yes (w := w) (A := some ⟨g, 0, none⟩) (n := 11) (c := 11) (l := exP) (W := 6) (by rfl) h rfl (fun e => by cases e) (by decide) (by decide)
  have r4 := fun w (g : Nat) h => held_yes (w := w) (A := some ⟨g, 0, none⟩) (n := 11) (c := 11) (l := exP) (W := 6) (k := 11) (by rfl) h rfl (fun e => by cases e) (Nat.le_refl _) (by decide) (by decide) (by decide)
  have r5 := fun w (g : Nat) h => held_yes (w := w) (A := some ⟨g, 0, none⟩) (n := 11) (c := 11) (l := exP) (W := 3) (k := 11) (by rfl) h rfl (fun e => by cases e) (Nat.le_refl _) (by decide) (by decide) (by decide)
  rw [exF6.1, exF6.2.1] at r2
  rw [h6] at r3
  rw [exF6.2.2] at r4
  obtain ⟨M, hM⟩ : ∃ M, mostN exP 3 11 = M := ⟨_, rfl⟩
  have hM2 : M < 11 := by rw [← hM]; exact exF3
  rw [hM] at r5
  have q6 : (S6.toList == [40, 97, 44, 32, 98, 41]) = true := by rw [← h6, mkb_toList, exL6]; rfl
  have qM : (M : Int) < 11 := by omega
  clear h6 hM hM2
  have e11 : ((11 : Nat) : Int) = 11 := rfl
  simp only [e11] at r2 r4 r5
  have HB0 := Lib.hid (Below.refl w.heap.size w)
  go_enter Try.func9, Try.ntmps9
  go_wp2_with fail
  ((with_reducible refine (r1 _).mono ?_))
  rintro e w1 ⟨g1, rfl, hr1, hb1⟩
  have HB1 := Lib.hid (bel_trans HB0.out hb1)
  have HR1 := Lib.hid hr1
  clear hr1 hb1
  go_wp2_with fail
  ((with_reducible refine (r2 _ _ HR1.out).mono ?_))
  rintro e w2 ⟨rfl, hb2⟩
  have HB2 := Lib.hid (bel_trans HB1.out hb2)
  have HR2 := Lib.hid (HR1.out.below hb2)
  clear hb2 r2
  go_wp2_with fail
  ((with_reducible refine (r3 _ _ HR2.out).mono ?_))
  rintro e w3 ⟨rfl, hb3⟩
  have HB3 := Lib.hid (bel_trans HB2.out hb3)
  have HR3 := Lib.hid (HR2.out.below hb3)
  clear hb3 r3
  go_wp2_with fail
  ((with_reducible refine (r4 _ _ HR3.out).mono ?_))
  rintro e w4 ⟨rfl, hb4⟩
  have HB4 := Lib.hid (bel_trans HB3.out hb4)
  have HR4 := Lib.hid (HR3.out.below hb4)
  clear hb4 r4
  go_wp2_with fail
  ((with_reducible refine (r5 _ _ HR4.out).mono ?_))
  rintro e w5 ⟨rfl, hb5⟩
  have HB5 := Lib.hid (bel_trans HB4.out hb5)
  clear hb5 r5
  go_wp2_with fail
  go_ret
  exact ⟨rfl, HB5.out⟩
end Go.Proofs.Ytfcjihfnimefhaa
