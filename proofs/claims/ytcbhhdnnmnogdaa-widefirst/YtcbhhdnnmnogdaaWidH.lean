/- The law WideFirst: its walk. -/
import Derived.Test.YtcbhhdnnmnogdaaWidE
import Derived.Test.YtcbhhdnnmnogdaaWidO
import Derived.Test.YtcbhhdnnmnogdaaWidX
import Derived.Test.YtcbhhdnnmnogdaaBitW
import Derived.Deep.RegionLaw
import Derived.Deep.CutRange
namespace Go.Proofs.Ytcbhhdnnmnogdaa
open Go.RowKit
set_option linter.unusedVariables false
set_option maxRecDepth 100000

theorem mayF_hard {a : List Bq} (h : mayF 0 0 a = true) : mayF 0 0 (a ++ [⟨5, noV⟩]) = true :=
  (mayF_app 0 0 _ h (Int.le_refl _) (Int.le_refl _)).trans (by decide)
theorem mayF_hards {a b : List Bq} (h : mayF 0 0 a = true) (k : mayF 0 0 b = true) : mayF 0 0 (a ++ ⟨5, noV⟩ :: b) = true := by
  have e : a ++ ⟨5, noV⟩ :: b = (a ++ [⟨5, noV⟩]) ++ b := by simp
  rw [e]
  exact (mayF_app 0 0 _ (mayF_hard h) (Int.le_refl _) (Int.le_refl _)).trans k
set_option maxHeartbeats 4000000 in
theorem first_law {w : World} {A E : Option Addr} {n c m d : Nat} {l r : List Bq} {W : Int} (hA : Br w A l) (hn : l.length = n) (h0 : A = none → n = 0 ∧ c = 0) (hc : n ≤ c)
    (hE : Br w E r) (hm : r.length = m) (e0 : E = none → m = 0 ∧ d = 0) (hd : m ≤ d) (hv : vS l + vS r ≤ 1048576) :
    Calls Try.prog 9 #[.slice A n c, .slice E m d, .int .i64 W] w fun e w' => e = .returned (.bool true) ∧ Below w.heap.size w w' := by
  have r1 := fun w => awake_any w
  have HA := Lib.hid hA
  have HL := Lib.hid hn
  have H0 := Lib.hid h0
  have HE := Lib.hid hE
  have HM := Lib.hid hm
  have E0 := Lib.hid e0
  have HV := Lib.hid hv
  clear hA hn h0 hv hE hm e0
  go_enter Try.func9, Try.ntmps9
  go_wp2_with fail
  ((with_reducible refine (r1 _).mono ?_))
  rintro e w1 ⟨rfl, hb1⟩
  have HB1 := Lib.hid hb1
  clear hb1 r1
  by_cases h3 : 150 < n
  · have q3 : (150 : Int) < (n : Int) := by omega
    go_wp2
    go_ret
    exact ⟨rfl, HB1.out⟩
  have q3 : ¬ (150 : Int) < (n : Int) := by omega
  by_cases h4 : 150 < m
  · have q4 : (150 : Int) < (m : Int) := by omega
    go_wp2
    go_ret
    exact ⟨rfl, HB1.out⟩
  have q4 : ¬ (150 : Int) < (m : Int) := by omega
  obtain ⟨x, hx⟩ : ∃ x, rmF l W = x := ⟨_, rfl⟩
  have r5 := fun w h => wroom_any (w := w) (A := A) (n := n) (c := c) hx h HL.out (by omega)
  have HR := Lib.hid hx
  clear hx
  go_wp2_with fail
  ((with_reducible refine (r5 _ (HA.out.below HB1.out)).mono ?_))
  rintro e w2 ⟨rfl, hb2⟩
  have HB2 := Lib.hid (bel_trans HB1.out hb2)
  clear hb2 r5
  cases x with
  | false =>
    go_wp2
    go_ret
    exact ⟨rfl, HB2.out⟩
  | true =>
  obtain ⟨x, hx⟩ : ∃ x, rmF r W = x := ⟨_, rfl⟩
  have r5 := fun w h => wroom_any (w := w) (A := E) (n := m) (c := d) hx h HM.out (by omega)
  have HR2 := Lib.hid hx
  clear hx
  go_wp2_with fail
  ((with_reducible refine (r5 _ (HE.out.below HB2.out)).mono ?_))
  rintro e w3 ⟨rfl, hb3⟩
  have HB3 := Lib.hid (bel_trans HB2.out hb3)
  clear hb3 r5
  cases x with
  | false =>
    go_wp2
    go_ret
    exact ⟨rfl, HB3.out⟩
  | true =>
  have ha := mayL_yes (rm_yes HR.out).2.2
  have hb := mayL_yes (rm_yes HR2.out).2.2
  have hlen1 : (l ++ [(⟨5, noV⟩ : Bq)]).length = n + 1 := by simp [HL.out]
  have hlen2 : (l ++ (⟨5, noV⟩ : Bq) :: r).length = n + 1 + m := by simp [HL.out, HM.out]; omega
  have hrm1 : rmF (l ++ [⟨5, noV⟩]) W = true := rm_mk (rm_yes HR.out).1 (rm_yes HR.out).2.1 (by rw [mayL_is (by rw [hlen1]; omega)]; exact mayF_hard ha)
  have hrm2 : rmF (l ++ ⟨5, noV⟩ :: r) W = true := rm_mk (rm_yes HR.out).1 (rm_yes HR.out).2.1 (by rw [mayL_is (by rw [hlen2]; omega)]; exact mayF_hards ha hb)
  have e5 : vS [(⟨5, noV⟩ : Bq)] = 0 := rfl
  have hv1 : vS (l ++ [(⟨5, noV⟩ : Bq)]) = vS l := by rw [vS_app, e5, Nat.add_zero]
  have hv2 : vS (l ++ (⟨5, noV⟩ : Bq) :: r) = vS l + vS r := by
    rw [show l ++ (⟨5, noV⟩ : Bq) :: r = (l ++ [⟨5, noV⟩]) ++ r by simp, vS_app, hv1]
  have hvv := HV.out
  obtain ⟨X, hX⟩ : ∃ X, mkb (layF (l ++ [⟨5, noV⟩]) W) = X := ⟨_, rfl⟩
  obtain ⟨Y, hY⟩ : ∃ Y, mkb (layF r W) = Y := ⟨_, rfl⟩
  obtain ⟨Z, hZ⟩ : ∃ Z, mkb (layF (l ++ ⟨5, noV⟩ :: r) W) = Z := ⟨_, rfl⟩
  have lX : layF (l ++ [⟨5, noV⟩]) W = (pgs (l ++ [⟨5, noV⟩]) W (l.length + 1)).out := by rw [layF, if_pos hrm1, hlen1, HL.out]
  have lY : layF r W = (pgs r W r.length).out := by rw [layF, if_pos HR2.out]
  have lZ : layF (l ++ ⟨5, noV⟩ :: r) W = (pgs (l ++ ⟨5, noV⟩ :: r) W (l.length + 1 + r.length)).out := by rw [layF, if_pos hrm2, hlen2, HL.out, HM.out]
  have hsum : layF (l ++ ⟨5, noV⟩ :: r) W = layF (l ++ [⟨5, noV⟩]) W ++ layF r W := by rw [lX, lY, lZ, first_math ha hb (by rw [HL.out]; omega) (by rw [HM.out]; omega)]
  have hXl : (layF (l ++ [⟨5, noV⟩]) W).length ≤ 100000000 := by
    have h1 := (pgs_inv W (mayF_hard ha) (by rw [hlen1]; omega) (l.length + 1) (by rw [hlen1, HL.out]; omega)).outk
    have h2 := vS_le (l ++ [⟨5, noV⟩]) (l.length + 1)
    rw [← lX] at h1
    rw [hv1] at h2
    have := HL.out
    omega
  have hYl : (layF r W).length ≤ 100000000 := by
    have h1 := (pgs_inv W hb (by rw [HM.out]; omega) r.length (Nat.le_refl _)).outk
    rw [List.take_length, ← lY] at h1
    have := HM.out
    omega
  obtain ⟨R, hR, hadd⟩ := sadd2 (A := X) (B := Y) hX.symm hY.symm (by omega)
  obtain rfl : R = Z := by rw [hR, ← hZ, hsum]
  have r2 := fun w (F : Option Addr) (q : Nat) (h : Br w F (l ++ [⟨5, noV⟩])) h0 hq => wlay_any (w := w) (A := F) (n := n + 1) (c := q) hrm1 hX h hlen1 h0 hq (by omega) (by rw [hv1]; omega)
  have r3 := fun w (h : Br w E r) => wlay_any (w := w) (A := E) (n := m) (c := d) HR2.out hY h HM.out E0.out hd (by omega) (by omega)
  have r4 := fun w (F : Option Addr) (q : Nat) (h : Br w F (l ++ ⟨5, noV⟩ :: r)) h0 hq => wlay_any (w := w) (A := F) (n := n + 1 + m) (c := q) hrm2 hZ h hlen2 h0 hq (by omega) (by rw [hv2]; omega)
  have g1 : ([] : List Bq).length + n ≤ 1000000 := by simp; omega
  have g2 : l.length + [(⟨5, noV⟩ : Bq)].length ≤ 1000000 := by rw [HL.out]; simp; omega
  have g3 : (l ++ [(⟨5, noV⟩ : Bq)]).length + m ≤ 1000000 := by rw [hlen1]; omega
  have HN1 := Lib.hid hlen1
  have HN2 := Lib.hid hlen2
  clear ha hb hlen1 hlen2 hrm1 hrm2 e5 hv1 hv2 hvv hX hY hZ lX lY lZ hsum hXl hYl hR h3 h4
  obtain ⟨g, hg⟩ : ∃ g, w3.heap.size = g := ⟨_, rfl⟩
  have HG := Lib.hid hg
  have B4 := Lib.hid (bel_alloc HB3.out (.cells #[.int .i64 5, .string ⟨#[]⟩] 31))
  have c40 : (w3.alloc (.cells #[.int .i64 5, .string ⟨#[]⟩] 31)).cell? ⟨w3.heap.size, 0, none⟩ = some (.int .i64 5) := by simp [go_sem]
  have c41 : (w3.alloc (.cells #[.int .i64 5, .string ⟨#[]⟩] 31)).cell? ⟨w3.heap.size, 1, none⟩ = some (.string ⟨#[]⟩) := by simp [go_sem]
  have C40 := Lib.hid c40
  have C41 := Lib.hid c41
  clear hg c40 c41
  go_wp2_with fail
  generalize w3.alloc (.cells #[.int .i64 5, .string ⟨#[]⟩] 31) = W4 at B4 C40 C41 ⊢
  rw [HG.out] at C40 C41 ⊢
  go_cut [9, 10] from 42 to 51 (fun v y V => v = .string X ∧ y = .bool true ∧ Hid (Below W4.heap.size W4 V))
  case first =>
    clear r3 r4 g3 hadd
    have c40 := C40.out
    have c41 := C41.out
    have lb := World.block_lt_of_cell? _ _ c40
    have N1a := Lib.hid (show Bn W4 [] (.slice none 0 0) W4.drew from ⟨World.ownsRow_nil _ _ _ _, (Below.refl _ _).drew⟩)
    have N1b := Lib.hid (N1a.out.alloc (.cells #[.int .i64 5, .string ⟨#[]⟩] 31))
    have A1a := Lib.hid ((HA.out.below B4.out).below (Below.refl _ W4).drew)
    have A1b := Lib.hid (A1a.out.below (bel_alloc (Below.refl _ _) (.cells #[.int .i64 5, .string ⟨#[]⟩] 31)))
    go_region_law (first
      | (refine step_app_bits (A := A) (m := n) (c := c) (w0 := W4) (by rfl) (.const (.slice none 0 0)) (.tmp 43) (by rfl) (.slice none 0 0) [] (by rfl) (by first | with_reducible exact N1a.out | exact N1b.out) (by go_simp) (by first | with_reducible exact A1a.out | exact A1b.out) HL.out H0.out g1 ?_; intro v10 w10 hn10 hg10
         have d40 : w10.cell? ⟨g, 0, none⟩ = some (.int .i64 5) := by first | exact bel_cell (grown_below hg10) (show W4.drew.cell? ⟨g, 0, none⟩ = some (.int .i64 5) from c40) | exact bel_cell (bel_trans (bel_alloc (Below.refl _ W4.drew) (.cells #[.int .i64 5, .string ⟨#[]⟩] 31)) (grown_below hg10)) (show W4.drew.cell? ⟨g, 0, none⟩ = some (.int .i64 5) from c40)
         have d41 : w10.cell? ⟨g, 1, none⟩ = some (.string ⟨#[]⟩) := by first | exact bel_cell (grown_below hg10) (show W4.drew.cell? ⟨g, 1, none⟩ = some (.string ⟨#[]⟩) from c41) | exact bel_cell (bel_trans (bel_alloc (Below.refl _ W4.drew) (.cells #[.int .i64 5, .string ⟨#[]⟩] 31)) (grown_below hg10)) (show W4.drew.cell? ⟨g, 1, none⟩ = some (.string ⟨#[]⟩) from c41)
         have hk10 := by first | exact (br_blk (bs := [(⟨5, noV⟩ : Bq)]) (heap_alloc_new W4.drew (.cells #[.int .i64 5, .string ⟨#[]⟩] 31)) rfl).below (grown_below hg10) | exact br_blk (bs := [(⟨5, noV⟩ : Bq)]) (heap_alloc_new w10 (.cells #[.int .i64 5, .string ⟨#[]⟩] 31)) rfl
         have HK10 := Lib.hid hk10
         have HN10 := Lib.hid (show Bn W4 l v10 w10 by simpa using hn10)
         clear hn10 hk10)
      | (refine step_app_bits (m := 1) (c := 1) (w0 := W4) (by rfl) (.tmp 44) (.tmp 46) (by rfl) v10 l (by go_simp) (by first | with_reducible exact HN10.out | exact HN10.out.alloc _) (by go_simp) HK10.out rfl (fun e => by cases e) g2 ?_; intro v11 w11 hn11 hg11
         obtain ⟨F, q, e11, hF, hF0, hFq⟩ := hn11.row
         rw [HN1.out] at e11 hF0 hFq
         subst e11
         have HF := Lib.hid hF
         have HF0 := Lib.hid hF0
         have BF := Lib.hid hn11.bel
         clear hn11 hF hF0 hg11)
      | (go_simp; go_at_call 11; refine (r2 _ _ _ HF.out HF0.out hFq).mono ?_; rintro e w12 ⟨rfl, hb12⟩; have HB12 := Lib.hid (bel_trans BF.out hb12); clear hb12))
    all_goals (go_wp2_with fail)
    all_goals go_meet
    all_goals exact ⟨rfl, rfl, HB12⟩
  case rest =>
  obtain ⟨rfl, rfl, k1⟩ := hcut
  rename_i V5
  have B5 := Lib.hid (bel_trans B4.out k1.out)
  have C50 := Lib.hid (bel_cell k1.out C40.out)
  have C51 := Lib.hid (bel_cell k1.out C41.out)
  clear k1 C40 C41 r2
  go_wp2_with fail
  ((with_reducible refine (r3 _ (HE.out.below B5.out)).mono ?_))
  rintro e w6 ⟨rfl, hb6⟩
  have B6 := Lib.hid (bel_trans B5.out hb6)
  have C60 := Lib.hid (bel_cell hb6 C50.out)
  have C61 := Lib.hid (bel_cell hb6 C51.out)
  clear hb6 r3 C50 C51
  go_wp2_with fail
  go_cut [13, 14] from 58 to 69 (fun v y V => v = .string R ∧ y = .bool true ∧ Hid (Below w6.heap.size w6 V))
  case first =>
    clear hadd
    have c40 := C60.out
    have c41 := C61.out
    have lb := World.block_lt_of_cell? _ _ c40
    have N1a := Lib.hid (show Bn w6 [] (.slice none 0 0) w6.drew from ⟨World.ownsRow_nil _ _ _ _, (Below.refl _ _).drew⟩)
    have N1b := Lib.hid (N1a.out.alloc (.cells #[.int .i64 5, .string ⟨#[]⟩] 31))
    have A1a := Lib.hid ((HA.out.below B6.out).below (Below.refl _ w6).drew)
    have A1b := Lib.hid (A1a.out.below (bel_alloc (Below.refl _ _) (.cells #[.int .i64 5, .string ⟨#[]⟩] 31)))
    go_region_law (first
      | (refine step_app_bits (A := A) (m := n) (c := c) (w0 := w6) (by rfl) (.const (.slice none 0 0)) (.tmp 59) (by rfl) (.slice none 0 0) [] (by rfl) (by first | with_reducible exact N1a.out | exact N1b.out) (by go_simp) (by first | with_reducible exact A1a.out | exact A1b.out) HL.out H0.out g1 ?_; intro v10 w10 hn10 hg10
         have d40 : w10.cell? ⟨g, 0, none⟩ = some (.int .i64 5) := by first | exact bel_cell (grown_below hg10) (show w6.drew.cell? ⟨g, 0, none⟩ = some (.int .i64 5) from c40) | exact bel_cell (bel_trans (bel_alloc (Below.refl _ w6.drew) (.cells #[.int .i64 5, .string ⟨#[]⟩] 31)) (grown_below hg10)) (show w6.drew.cell? ⟨g, 0, none⟩ = some (.int .i64 5) from c40)
         have d41 : w10.cell? ⟨g, 1, none⟩ = some (.string ⟨#[]⟩) := by first | exact bel_cell (grown_below hg10) (show w6.drew.cell? ⟨g, 1, none⟩ = some (.string ⟨#[]⟩) from c41) | exact bel_cell (bel_trans (bel_alloc (Below.refl _ w6.drew) (.cells #[.int .i64 5, .string ⟨#[]⟩] 31)) (grown_below hg10)) (show w6.drew.cell? ⟨g, 1, none⟩ = some (.string ⟨#[]⟩) from c41)
         have hk10 := by first | exact (br_blk (bs := [(⟨5, noV⟩ : Bq)]) (heap_alloc_new w6.drew (.cells #[.int .i64 5, .string ⟨#[]⟩] 31)) rfl).below (grown_below hg10) | exact br_blk (bs := [(⟨5, noV⟩ : Bq)]) (heap_alloc_new w10 (.cells #[.int .i64 5, .string ⟨#[]⟩] 31)) rfl
         have HK10 := Lib.hid hk10
         have HN10 := Lib.hid (show Bn w6 l v10 w10 by simpa using hn10)
         clear hn10 hk10)
      | (refine step_app_bits (m := 1) (c := 1) (w0 := w6) (by rfl) (.tmp 60) (.tmp 62) (by rfl) v10 l (by go_simp) (by first | with_reducible exact HN10.out | exact HN10.out.alloc _) (by go_simp) HK10.out rfl (fun e => by cases e) g2 ?_; intro v11 w11 hn11 hg11
         have HN11 := Lib.hid (show Bn w6 (l ++ [(⟨5, noV⟩ : Bq)]) v11 w11 from hn11)
         clear hn11 hg11)
      | (refine step_app_bits (A := E) (m := m) (c := d) (w0 := w6) (by rfl) (.tmp 63) (.tmp 64) (by rfl) v11 (l ++ [(⟨5, noV⟩ : Bq)]) (by go_simp) HN11.out (by go_simp) ((HE.out.below B6.out).below HN11.out.bel) HM.out E0.out g3 ?_; intro v12 w12 hn12 hg12
         have hn12' : Bn w6 (l ++ (⟨5, noV⟩ : Bq) :: r) v12 w12 := by have h := hn12; rw [List.append_assoc] at h; exact h
         obtain ⟨F, q, e12, hF, hF0, hFq⟩ := hn12'.row
         rw [HN2.out] at e12 hF0 hFq
         subst e12
         have HF := Lib.hid hF
         have HF0 := Lib.hid hF0
         have BF := Lib.hid hn12'.bel
         clear hn12 hn12' hF hF0 hg12)
      | (go_simp; go_at_call 11; refine (r4 _ _ _ HF.out HF0.out hFq).mono ?_; rintro e w13 ⟨rfl, hb13⟩; have HB13 := Lib.hid (bel_trans BF.out hb13); clear hb13))
    all_goals (go_wp2_with fail)
    all_goals go_meet
    all_goals exact ⟨rfl, rfl, HB13⟩
  case rest =>
  obtain ⟨rfl, rfl, k1⟩ := hcut
  have B7 := Lib.hid (bel_trans B6.out k1.out)
  clear k1 r4 C60 C61
  go_wp2
  go_ret
  exact ⟨rfl, B7.out⟩
end Go.Proofs.Ytcbhhdnnmnogdaa
