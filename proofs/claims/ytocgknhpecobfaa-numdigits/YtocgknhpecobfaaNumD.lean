/- The laws NumDigits and NumTells: their mathematics and walks. -/
import Derived.Test.YtocgknhpecobfaaNumC
import Derived.Test.YtocgknhpecobfaaNumS
namespace Go.Proofs.Ytocgknhpecobfaa
open Go.RowKit
set_option linter.unusedVariables false

theorem sd_left {p : Int → Bool} {a t : List UInt8} {j : Int} (h : j < a.length) : sd p (a ++ t) j = sd p a j := by
  by_cases h0 : 0 ≤ j
  · obtain ⟨k, rfl⟩ := Int.eq_ofNat_of_zero_le h0
    unfold sd
    rw [Int.toNat_natCast, List.getD_eq_getElem?_getD, List.getD_eq_getElem?_getD, List.getElem?_append_left (by omega), List.length_append]
    congr 1
    exact decide_eq_decide.2 (by omega)
  · rw [sd_out (.inl (by omega)), sd_out (.inl (by omega))]
theorem sd_right {p : Int → Bool} {a t : List UInt8} {j : Int} (h : 0 ≤ j) : sd p (a ++ t) (j + a.length) = sd p t j := sh_app a t p j h

/-- All digits. -/
def Dg (a : List UInt8) : Prop := ∀ j : Int, 0 ≤ j → j < a.length → sd dgI a j = true
theorem dg_of {a : List UInt8} (h : dgE a 0 = a.length) : Dg a := fun j h0 h1 => dgE_go h0 (by rw [h]; exact h1)
theorem dg_end {a : List UInt8} (h : Dg a) (t : List UInt8) (ht : sd dgI t 0 = false) : dgE (a ++ t) 0 = a.length := by
  refine dgE_uniq (by omega) (fun k h1 h2 => ?_) ?_
  · rw [sd_left h2]; exact h k h1 h2
  · have := sd_right (p := dgI) (a := a) (t := t) (j := 0) (Int.le_refl _)
    rw [Int.zero_add] at this; rw [this]; exact ht
theorem minus_dg {a : List UInt8} (h : Dg a) (hne : a ≠ []) (t : List UInt8) : numA (a ++ t) 0 = bodyA (a ++ t) 0 := by
  have hl : (0 : Int) < a.length := by
    cases a with
    | nil => exact absurd rfl hne
    | cons c a => simp
  refine minus_no ?_
  rw [sd_left hl]
  exact sd_not (p := dgI) (fun x hx hm => by rw [dg_iff] at hx; rw [minus_iff] at hm; omega) (h 0 (Int.le_refl _) hl)
theorem num_digits {a : List UInt8} (h : Dg a) (hne : a ≠ []) (hz : sd (inS zeroB) a 0 = false ∨ a.length = 1) (t : List UInt8) (ht : sd dgI t 0 = false) : numA (a ++ t) 0 = shift a.length (fracA t 0) := by
  have hl : (0 : Int) < a.length := by
    cases a with
    | nil => exact absurd rfl hne
    | cons c a => simp
  have hs := frac_sh (sh_app a t) (j := 0) (Int.le_refl _)
  rw [Int.zero_add] at hs
  rw [minus_dg h hne, ← hs]
  cases e : sd (inS zeroB) (a ++ t) 0
  · rw [bodyA_y e (by rw [sd_left hl]; exact h 0 (Int.le_refl _) hl), dg_end h t ht]
  · have h1 : a.length = 1 := by
      rcases hz with hz | hz
      · rw [sd_left hl, hz] at e; cases e
      · exact hz
    rw [bodyA_z e, h1]; rfl
theorem num_zero {a : List UInt8} (h : Dg a) (hz : sd (inS zeroB) a 0 = true) (hl : 1 < a.length) : numA a 0 = ⟨0, 1, false⟩ := by
  have hne : a ≠ [] := by intro e; rw [e] at hl; simp at hl
  have hm := minus_dg h hne []
  rw [List.append_nil] at hm
  have h1 := h 1 (by decide) (by omega)
  rw [hm, bodyA_z hz]
  show fracA a 1 = _
  rw [fracA_n (sd_not (p := dgI) (fun x hx hm => by rw [dg_iff] at hx; rw [dot_iff] at hm; omega) h1),
    expA_n (sd_not (p := dgI) (fun x hx hm => by rw [dg_iff] at hx; rw [e_iff] at hm; omega) h1),
    finA_t (sd_imp (p := dgI) (fun x hx => by rw [dg_iff] at hx; rw [more_iff]; omega) h1)]
theorem frac_nil : fracA [] 0 = ⟨3, 0, true⟩ := by kernel_rfl
theorem end_false {p : Int → Bool} {l : List UInt8} {j : Int} (h : j = l.length) : sd p l j = false := sd_out (.inr (by omega))
theorem dg_at {pre b : List UInt8} (h : Dg b) : dgE (pre ++ b) pre.length = (pre.length : Int) + b.length := by
  have hs := dgE_sh (sh_app pre b) (j := 0) (Int.le_refl _)
  rw [Int.zero_add] at hs
  rw [hs]
  have := dg_end h [] (sd_out (.inr (by simp)))
  rw [List.append_nil] at this
  rw [this]; omega
theorem frac_dot {b : List UInt8} (h : Dg b) (hne : b ≠ []) : fracA ([46] ++ b) 0 = ⟨4, 1 + b.length, true⟩ := by
  have hl : (0 : Int) < b.length := by
    cases b with
    | nil => exact absurd rfl hne
    | cons c b => simp
  have hd : sd dgI ([46] ++ b) 1 = true := by
    have := sd_right (p := dgI) (a := [46]) (t := b) (j := 0) (Int.le_refl _)
    rw [show (0 : Int) + (([46] : List UInt8).length : Int) = 1 from rfl] at this
    rw [this]; exact h 0 (Int.le_refl _) hl
  have he : dgE ([46] ++ b) 1 = 1 + (b.length : Int) := dg_at (pre := [46]) h
  have hz : (([46] ++ b : List UInt8).length : Int) = 1 + (b.length : Int) := by rw [List.length_append]; simp
  rw [fracA_y (by rw [List.singleton_append, sd_0]; rfl) hd]
  show expA 4 _ (dgE ([46] ++ b) 1) = _
  rw [he, expA_n (end_false hz.symm), finA_f (end_false hz.symm)]
theorem frac_exp {b : List UInt8} (h : Dg b) (hne : b ≠ []) : fracA ([101, 45] ++ b) 0 = ⟨4, 2 + b.length, true⟩ := by
  have hl : (0 : Int) < b.length := by
    cases b with
    | nil => exact absurd rfl hne
    | cons c b => simp
  have hsg : signA ([101, 45] ++ b) (0 + 1) = 2 := by
    show adv (sd (inS signB) (101 :: 45 :: b) 1) 1 = 2
    rw [sd_1]; rfl
  have hd : sd dgI ([101, 45] ++ b) 2 = true := by
    have := sd_right (p := dgI) (a := [101, 45]) (t := b) (j := 0) (Int.le_refl _)
    rw [show (0 : Int) + (([101, 45] : List UInt8).length : Int) = 2 from rfl] at this
    rw [this]; exact h 0 (Int.le_refl _) hl
  have he : dgE ([101, 45] ++ b) 2 = 2 + (b.length : Int) := dg_at (pre := [101, 45]) h
  have hz : (([101, 45] ++ b : List UInt8).length : Int) = 2 + (b.length : Int) := by rw [List.length_append]; simp
  have s0 : ∀ p, sd p ([101, 45] ++ b) 0 = p 101 := fun p => sd_0 p 101 (45 :: b)
  rw [fracA_n (by rw [s0]; rfl), expA_y (by rw [s0]; rfl) (by rw [hsg]; exact hd), hsg, he, finA_f (end_false hz.symm)]
theorem ne_empty {a : ByteArray} (h : a.size ≠ 0) : ¬ a.toList = [] ∧ a.toList.isEmpty = false := by
  have h1 : ¬ a.toList = [] := by
    intro e; rw [Lib.toList_data] at e
    have := congrArg List.length e
    rw [← Lib.size_eq, List.length_nil] at this; exact h this
  exact ⟨h1, by simpa using h1⟩
theorem is_empty {a : ByteArray} (h : a.size = 0) : a.toList = [] ∧ a.toList.isEmpty = true := by
  have h1 : a.toList = [] := by rw [Lib.toList_data]; exact List.eq_nil_of_length_eq_zero (by rw [← Lib.size_eq]; exact h)
  exact ⟨h1, by rw [h1]; rfl⟩
theorem list_ne {a : ByteArray} (h : a.size ≠ 0) : a.data.toList ≠ [] := by rw [← Lib.toList_data]; exact (ne_empty h).1

set_option maxHeartbeats 1000000 in
set_option maxRecDepth 100000 in
theorem digits_law (a b : ByteArray) (w : World) (za : a.size ≤ 9223372036854775807) (zb : b.size ≤ 9223372036854775807) :
    Calls Try.prog 6 #[.string a, .string b] w fun e w' => e = .returned (.bool true) ∧ Below w.heap.size w w' := by
  by_cases a0 : a.size = 0
  · obtain ⟨n1, n2⟩ := is_empty a0
    clear a0
    go_enter Try.func6, Try.ntmps6
    (try simp only [List.append_eq, List.cons_append, List.nil_append])
    go_wp2_with fail
    (with_reducible refine (awake_any _).mono ?_)
    rintro e w1 ⟨rfl, hb1⟩
    go_wp2_with fail
    go_ret
    exact ⟨by first | (simp; done) | (simp; omega), hb1⟩
  obtain ⟨n1, n2⟩ := ne_empty a0
  by_cases b0 : b.size = 0
  · obtain ⟨m1, m2⟩ := is_empty b0
    clear a0 b0
    go_enter Try.func6, Try.ntmps6
    (try simp only [List.append_eq, List.cons_append, List.nil_append])
    go_wp2_with fail
    (with_reducible refine (awake_any _).mono ?_)
    rintro e w1 ⟨rfl, hb1⟩
    go_wp2_with fail
    go_ret
    exact ⟨by first | (simp; done) | (simp; omega), hb1⟩
  obtain ⟨m1, m2⟩ := ne_empty b0
  by_cases ha : 100 < a.size
  · have ga : (100 : Int) < (a.size : Int) := by omega
    clear ha a0 b0
    go_enter Try.func6, Try.ntmps6
    (try simp only [List.append_eq, List.cons_append, List.nil_append])
    go_wp2_with fail
    (with_reducible refine (awake_any _).mono ?_)
    rintro e w1 ⟨rfl, hb1⟩
    go_wp2_with fail
    go_ret
    exact ⟨by first | (simp; done) | (simp; omega), hb1⟩
  have ga : ¬ (100 : Int) < (a.size : Int) := by omega
  by_cases hb : 100 < b.size
  · have gb : (100 : Int) < (b.size : Int) := by omega
    clear ha hb a0 b0
    go_enter Try.func6, Try.ntmps6
    (try simp only [List.append_eq, List.cons_append, List.nil_append])
    go_wp2_with fail
    (with_reducible refine (awake_any _).mono ?_)
    rintro e w1 ⟨rfl, hb1⟩
    go_wp2_with fail
    go_ret
    exact ⟨by first | (simp; done) | (simp; omega), hb1⟩
  have gb : ¬ (100 : Int) < (b.size : Int) := by omega
  have la : a.data.toList.length = a.size := (Lib.size_eq a).symm
  have lb : b.data.toList.length = b.size := (Lib.size_eq b).symm
  have rda := fun w => digits_b (w := w) (i := 0) (mkb_of a).symm rfl (by omega)
  have rdb := fun w => digits_b (w := w) (i := 0) (mkb_of b).symm rfl (by omega)
  by_cases qa : dgE a.data.toList 0 = (a.size : Int)
  · by_cases qb : dgE b.data.toList 0 = (b.size : Int)
    · have Da := dg_of (qa.trans (by rw [la]))
      have Db := dg_of (qb.trans (by rw [lb]))
      rw [qa] at rda
      rw [qb] at rdb
      have hna := list_ne a0
      have hnb := list_ne b0
      have h0 : 0 < a.size := by omega
      have g0 : (0 : Int) < (a.size : Int) := by omega
      have hzz : sd (inS zeroB) a.data.toList 0 = inS zeroB ((a[0]'h0).toNat : Int) := sd_head h0 _
      have main : (sd (inS zeroB) a.data.toList 0 = false ∨ a.data.toList.length = 1) → ((((a[0]'h0).toNat : Int) == 48) = false ∨ ((((a[0]'h0).toNat : Int) == 48) = true ∧ ¬ (1 : Int) < (a.size : Int))) →
          Calls Try.prog 6 #[.string a, .string b] w fun e w' => e = .returned (.bool true) ∧ Below w.heap.size w w' := by
        intro hz hc
        have e1 : numA a.data.toList 0 = ⟨3, a.size, true⟩ := by
          have := num_digits Da hna hz [] (sd_out (.inr (by simp)))
          rw [List.append_nil, frac_nil] at this
          rw [this, la]; simp [shift]
        have e2 : numA (a.data.toList ++ [46] ++ b.data.toList) 0 = ⟨4, (a.size : Int) + 1 + (b.size : Int), true⟩ := by
          have := num_digits Da hna hz ([46] ++ b.data.toList) (by rw [List.singleton_append, sd_0]; rfl)
          rw [frac_dot Db hnb] at this
          rw [List.append_assoc, this, la, lb]
          simp only [shift, Nm.mk.injEq, true_and, and_true]; omega
        have e3 : numA (a.data.toList ++ [101, 45] ++ b.data.toList) 0 = ⟨4, (a.size : Int) + 2 + (b.size : Int), true⟩ := by
          have := num_digits Da hna hz ([101, 45] ++ b.data.toList) (by show sd dgI (101 :: 45 :: b.data.toList) 0 = false; rw [sd_0]; rfl)
          rw [frac_exp Db hnb] at this
          rw [List.append_assoc, this, la, lb]
          simp only [shift, Nm.mk.injEq, true_and, and_true]; omega
        obtain ⟨S1, h1, s1⟩ := sadd' (A := a) (B := ⟨#[46]⟩) (b := [46]) (mkb_of a).symm rfl (by first | (simp; done) | (simp; omega))
        obtain ⟨S2, h2, s2⟩ := sadd' (A := S1) (B := b) h1 (mkb_of b).symm (by first | (simp; done) | (simp; omega))
        obtain ⟨S3, h3, s3⟩ := sadd' (A := a) (B := ⟨#[101, 45]⟩) (b := [101, 45]) (mkb_of a).symm rfl (by first | (simp; done) | (simp; omega))
        obtain ⟨S4, h4, s4⟩ := sadd' (A := S3) (B := b) h3 (mkb_of b).symm (by first | (simp; done) | (simp; omega))
        have r1 := fun w => number_b (w := w) (mkb_of a).symm e1 (by omega) (by decide) (by decide)
        have r2 := fun w => number_b (w := w) h2 e2 (by first | (simp; done) | (simp; omega)) (by decide) (by decide)
        have r3 := fun w => number_b (w := w) h4 e3 (by first | (simp; done) | (simp; omega)) (by decide) (by decide)
        clear Da Db hz hna hnb hzz e1 e2 e3 h1 h2 h3 h4 la lb qa qb ha hb a0 b0
        rcases hc with hc | ⟨hc, hc2⟩
        · skip
          go_enter Try.func6, Try.ntmps6
          (try simp only [List.append_eq, List.cons_append, List.nil_append])
          go_wp2_with fail
          (with_reducible refine (awake_any _).mono ?_)
          rintro e w1 ⟨rfl, hb1⟩
          go_wp2_with fail
          (with_reducible refine (rda _).mono ?_)
          rintro e w2 ⟨rfl, hb2⟩
          go_wp2_with fail
          (with_reducible refine (rdb _).mono ?_)
          rintro e w3 ⟨rfl, hb3⟩
          go_wp2_with fail
          (with_reducible refine (r1 _).mono ?_)
          rintro e w4 ⟨rfl, hb4⟩
          go_wp2_with fail
          (with_reducible refine (r2 _).mono ?_)
          rintro e w5 ⟨rfl, hb5⟩
          go_wp2_with fail
          (with_reducible refine (r3 _).mono ?_)
          rintro e w6 ⟨rfl, hb6⟩
          go_wp2_with fail
          go_ret
          exact ⟨by first | (simp; done) | (simp; omega), (bel_trans (bel_trans (bel_trans (bel_trans (bel_trans hb1 hb2) hb3) hb4) hb5) hb6)⟩
        · skip
          go_enter Try.func6, Try.ntmps6
          (try simp only [List.append_eq, List.cons_append, List.nil_append])
          go_wp2_with fail
          (with_reducible refine (awake_any _).mono ?_)
          rintro e w1 ⟨rfl, hb1⟩
          go_wp2_with fail
          (with_reducible refine (rda _).mono ?_)
          rintro e w2 ⟨rfl, hb2⟩
          go_wp2_with fail
          (with_reducible refine (rdb _).mono ?_)
          rintro e w3 ⟨rfl, hb3⟩
          go_wp2_with fail
          (with_reducible refine (r1 _).mono ?_)
          rintro e w4 ⟨rfl, hb4⟩
          go_wp2_with fail
          (with_reducible refine (r2 _).mono ?_)
          rintro e w5 ⟨rfl, hb5⟩
          go_wp2_with fail
          (with_reducible refine (r3 _).mono ?_)
          rintro e w6 ⟨rfl, hb6⟩
          go_wp2_with fail
          go_ret
          exact ⟨by first | (simp; done) | (simp; omega), (bel_trans (bel_trans (bel_trans (bel_trans (bel_trans hb1 hb2) hb3) hb4) hb5) hb6)⟩
      by_cases hc : ((a[0]'h0).toNat : Int) = 48
      · have hz1 : sd (inS zeroB) a.data.toList 0 = true := by rw [hzz]; exact (zero_iff _).2 hc
        have tc : (((a[0]'h0).toNat : Int) == 48) = true := by simp [hc]
        by_cases h1 : 1 < a.size
        · have g1 : (1 : Int) < (a.size : Int) := by omega
          have r1 := fun w => number_b (w := w) (mkb_of a).symm (num_zero Da hz1 (by omega)) (by omega) (by decide) (by decide)
          clear main Da Db hna hnb hzz hz1 hc la lb qa qb ha hb a0 b0 h1
          go_enter Try.func6, Try.ntmps6
          (try simp only [List.append_eq, List.cons_append, List.nil_append])
          go_wp2_with fail
          (with_reducible refine (awake_any _).mono ?_)
          rintro e w1 ⟨rfl, hb1⟩
          go_wp2_with fail
          (with_reducible refine (rda _).mono ?_)
          rintro e w2 ⟨rfl, hb2⟩
          go_wp2_with fail
          (with_reducible refine (rdb _).mono ?_)
          rintro e w3 ⟨rfl, hb3⟩
          go_wp2_with fail
          (with_reducible refine (r1 _).mono ?_)
          rintro e w4 ⟨rfl, hb4⟩
          go_wp2_with fail
          go_ret
          exact ⟨by first | (simp; done) | (simp; omega), (bel_trans (bel_trans (bel_trans hb1 hb2) hb3) hb4)⟩
        · exact main (.inr (by omega)) (.inr ⟨tc, by omega⟩)
      · have hz1 : sd (inS zeroB) a.data.toList 0 = false := by
          rw [hzz]
          cases e : inS zeroB ((a[0]'h0).toNat : Int)
          · rfl
          · exact absurd ((zero_iff _).1 e) hc
        exact main (.inl hz1) (.inl (beq_false_of_ne hc))
    · rw [qa] at rda
      generalize dgE b.data.toList 0 = D at rdb qb
      have t : (D != (b.size : Int)) = true := by simp [qb]
      clear qa qb la lb ha hb a0 b0
      go_enter Try.func6, Try.ntmps6
      (try simp only [List.append_eq, List.cons_append, List.nil_append])
      go_wp2_with fail
      (with_reducible refine (awake_any _).mono ?_)
      rintro e w1 ⟨rfl, hb1⟩
      go_wp2_with fail
      (with_reducible refine (rda _).mono ?_)
      rintro e w2 ⟨rfl, hb2⟩
      go_wp2_with fail
      (with_reducible refine (rdb _).mono ?_)
      rintro e w3 ⟨rfl, hb3⟩
      go_wp2_with fail
      go_ret
      exact ⟨by first | (simp; done) | (simp; omega), (bel_trans (bel_trans hb1 hb2) hb3)⟩
  · generalize dgE a.data.toList 0 = D at rda qa
    have t : (D != (a.size : Int)) = true := by simp [qa]
    clear qa la lb ha hb a0 b0 rdb
    go_enter Try.func6, Try.ntmps6
    (try simp only [List.append_eq, List.cons_append, List.nil_append])
    go_wp2_with fail
    (with_reducible refine (awake_any _).mono ?_)
    rintro e w1 ⟨rfl, hb1⟩
    go_wp2_with fail
    (with_reducible refine (rda _).mono ?_)
    rintro e w2 ⟨rfl, hb2⟩
    go_wp2_with fail
    go_ret
    exact ⟨by first | (simp; done) | (simp; omega), (bel_trans hb1 hb2)⟩

/-! ### NumTells -/
theorem rnumber_b {A : ByteArray} {l : List UInt8} {i k e : Int} {b : Bool} (hA : A = mkb l) (hv : numA l i = ⟨k, e, b⟩) (hl : l.length ≤ 1000000) (w : World) :
    Calls Try.prog 10 #[.string A, .int .i64 i] w fun e' w' => e' = .returned (.tuple #[.int .i64 k, .int .i64 e, .bool b]) ∧ Below w.heap.size w w' := by
  have h := rnumber_any (mkb l) i w (by rw [mkb_size]; omega)
  rw [mkb_data, hv] at h
  rw [hA]; exact h
set_option maxHeartbeats 400000 in
theorem rwhole_b {A : ByteArray} {l : List UInt8} {v : Bool} (hA : A = mkb l) (hv : whB l = v) (hl : l.length ≤ 1000000) (w : World) :
    Calls Try.prog 11 #[.string A] w fun e w' => e = .returned (.bool v) ∧ Below w.heap.size w w' := by
  have hz : A.size = l.length := by rw [hA, mkb_size]
  obtain ⟨⟨k, e, b⟩, hN⟩ : ∃ r, numA l 0 = r := ⟨_, rfl⟩
  have r1 := fun w => rnumber_b (w := w) (i := 0) hA hN hl
  have hv2 : v = (b && decide (e = (l.length : Int))) := by rw [← hv]; unfold whB; rw [hN]
  subst hv2
  rw [← hz]
  clear hN hv hz hA
  cases b
  · clear hl
    go_enter Try.func11, Try.ntmps11
    (try simp only [List.append_eq, List.cons_append, List.nil_append])
    go_wp2_with fail
    (with_reducible refine (r1 _).mono ?_)
    rintro e w1 ⟨rfl, hb1⟩
    go_wp2_with fail
    go_ret
    exact ⟨by rfl, hb1⟩
  · by_cases he : e = (A.size : Int)
    · have t : (e == (A.size : Int)) = true := by simp [he]
      have d : decide (e = (A.size : Int)) = true := decide_eq_true he
      rw [d]
      clear he d
      go_enter Try.func11, Try.ntmps11
      (try simp only [List.append_eq, List.cons_append, List.nil_append])
      go_wp2_with fail
      (with_reducible refine (r1 _).mono ?_)
      rintro e w1 ⟨rfl, hb1⟩
      go_wp2_with fail
      go_ret
      exact ⟨by simp, hb1⟩
    · have t : (e == (A.size : Int)) = false := beq_false_of_ne he
      have d : decide (e = (A.size : Int)) = false := decide_eq_false he
      rw [d]
      clear he d
      go_enter Try.func11, Try.ntmps11
      (try simp only [List.append_eq, List.cons_append, List.nil_append])
      go_wp2_with fail
      (with_reducible refine (r1 _).mono ?_)
      rintro e w1 ⟨rfl, hb1⟩
      go_wp2_with fail
      go_ret
      exact ⟨by simp, hb1⟩
set_option maxHeartbeats 1000000 in
set_option maxRecDepth 100000 in
theorem tells_any (s : ByteArray) (i : Int) (w : World) (zs : s.size ≤ 9223372036854775807) (hi0 : -9223372036854775808 ≤ i) (hi : i ≤ 9223372036854775807) :
    Calls Try.prog 3 #[.string s, .int .i64 i] w fun e w' => e = .returned (.bool true) ∧ Below w.heap.size w w' := by
  by_cases hs : 600 < s.size
  · have gs : (600 : Int) < (s.size : Int) := by omega
    clear hs
    go_enter Try.func3, Try.ntmps3
    (try simp only [List.append_eq, List.cons_append, List.nil_append])
    go_wp2_with fail
    (with_reducible refine (awake_any _).mono ?_)
    rintro e w1 ⟨rfl, hb1⟩
    go_wp2_with fail
    go_ret
    exact ⟨by first | (simp; done) | (simp; omega), hb1⟩
  have gs : ¬ (600 : Int) < (s.size : Int) := by omega
  have ls : s.data.toList.length = s.size := (Lib.size_eq s).symm
  obtain ⟨⟨k, e, b⟩, hN⟩ : ∃ r, numA s.data.toList i = r := ⟨_, rfl⟩
  obtain ⟨v, hv⟩ : ∃ v, whB s.data.toList = v := ⟨_, rfl⟩
  have r1 := fun w => number_b (w := w) (mkb_of s).symm hN (by omega) hi0 hi
  have r2 := fun w => rnumber_b (w := w) (mkb_of s).symm hN (by omega)
  have r3 := fun w => rwhole_b (w := w) (mkb_of s).symm hv (by omega)
  have r4 := fun w => whole_b (w := w) (mkb_of s).symm hv (by omega)
  clear hN hv ls hs
  go_enter Try.func3, Try.ntmps3
  (try simp only [List.append_eq, List.cons_append, List.nil_append])
  go_wp2_with fail
  (with_reducible refine (awake_any _).mono ?_)
  rintro e w1 ⟨rfl, hb1⟩
  go_wp2_with fail
  (with_reducible refine (r1 _).mono ?_)
  rintro e w2 ⟨rfl, hb2⟩
  go_wp2_with fail
  (with_reducible refine (r2 _).mono ?_)
  rintro e w3 ⟨rfl, hb3⟩
  go_wp2_with fail
  (with_reducible refine (r3 _).mono ?_)
  rintro e w4 ⟨rfl, hb4⟩
  go_wp2_with fail
  (with_reducible refine (r4 _).mono ?_)
  rintro e w5 ⟨rfl, hb5⟩
  go_wp2_with fail
  go_ret
  exact ⟨by first | (simp; done) | (simp; omega), (bel_trans (bel_trans (bel_trans (bel_trans hb1 hb2) hb3) hb4) hb5)⟩
end Go.Proofs.Ytocgknhpecobfaa
