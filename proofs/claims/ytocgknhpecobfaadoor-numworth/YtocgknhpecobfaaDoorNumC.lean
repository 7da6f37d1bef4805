/- The contract of Whole; contracts over strings of bytes; the chapter's examples (awake); the laws NumMinus and NumPlace: their mathematics and walks. -/
import Derived.Test.YtocgknhpecobfaaDoorNumB
import Derived.Test.YtocgknhpecobfaaDoorBytes
namespace Go.Proofs.YtocgknhpecobfaaDoor.Sc
open Go.RowKit
set_option linter.unusedVariables false

theorem number_b {A : ByteArray} {l : List UInt8} {i k e : Int} {b : Bool} (hA : A = mkb l) (hv : numA l i = ⟨k, e, b⟩) (hl : l.length ≤ 1000000) (hi0 : -9223372036854775808 ≤ i) (hi : i ≤ 9223372036854775807) (w : World) :
    Calls Tryd.prog 6 #[.string A, .int .i64 i] w fun e' w' => e' = .returned (.tuple #[.int .i64 k, .int .i64 e, .bool b]) ∧ Below w.heap.size w w' := by
  have h := number_any (mkb l) i w (by rw [mkb_size]; omega) hi hi0
  rw [mkb_data, hv] at h
  rw [hA]; exact h
theorem digits_b {A : ByteArray} {l : List UInt8} {i v : Int} (hA : A = mkb l) (hv : dgE l i = v) (hl : l.length ≤ 1000000) (w : World) :
    Calls Tryd.prog 7 #[.string A, .int .i64 i] w fun e w' => e = .returned (.int .i64 v) ∧ Below w.heap.size w w' := by
  rw [hA, ← hv]; exact digits_any (mkb l) i w (by rw [mkb_size]; omega)

/-- Is a text a number, and nothing else? -/
def whB (l : List UInt8) : Bool := (numA l 0).b && decide ((numA l 0).e = l.length)
set_option maxHeartbeats 400000 in
theorem whole_b {A : ByteArray} {l : List UInt8} {v : Bool} (hA : A = mkb l) (hv : whB l = v) (hl : l.length ≤ 1000000) (w : World) :
    Calls Tryd.prog 5 #[.string A] w fun e w' => e = .returned (.bool v) ∧ Below w.heap.size w w' := by
  have hz : A.size = l.length := by rw [hA, mkb_size]
  have hlo := num_lo l 0
  obtain ⟨⟨k, e, b⟩, hN⟩ : ∃ r, numA l 0 = r := ⟨_, rfl⟩
  have r1 := fun w => number_b (w := w) (i := 0) hA hN hl (by decide) (by decide)
  have hv2 : v = (b && decide (e = (l.length : Int))) := by rw [← hv]; unfold whB; rw [hN]
  rw [hN] at hlo
  subst hv2
  rw [← hz]
  clear hN hv hz hA
  cases b
  · clear hlo hl
    go_enter Tryd.func5, Tryd.ntmps5
    (try simp only [List.append_eq, List.cons_append, List.nil_append])
    go_wp2_with fail
    (with_reducible refine (r1 _).mono ?_)
    rintro e w1 ⟨rfl, hb1⟩
    go_wp2_with fail
    go_ret
    exact ⟨by rfl, hb1⟩
  · by_cases he : e = (A.size : Int)
    · have t : (e == (A.size : Int)) = true := by simp [he]
      have d : decide (e = (A.size : Int)) = true := decide_eq_true he
      rw [d]
      clear he d
      go_enter Tryd.func5, Tryd.ntmps5
      (try simp only [List.append_eq, List.cons_append, List.nil_append])
      go_wp2_with fail
      (with_reducible refine (r1 _).mono ?_)
      rintro e w1 ⟨rfl, hb1⟩
      go_wp2_with fail
      go_ret
      exact ⟨by simp, hb1⟩
    · have t : (e == (A.size : Int)) = false := beq_false_of_ne he
      have d : decide (e = (A.size : Int)) = false := decide_eq_false he
      rw [d]
      clear he d
      go_enter Tryd.func5, Tryd.ntmps5
      (try simp only [List.append_eq, List.cons_append, List.nil_append])
      go_wp2_with fail
      (with_reducible refine (r1 _).mono ?_)
      rintro e w1 ⟨rfl, hb1⟩
      go_wp2_with fail
      go_ret
      exact ⟨by simp, hb1⟩

theorem ex1 : numA [45, 49, 50, 46, 53, 101, 51] 0 = ⟨4, 7, true⟩ := by kernel_rfl
theorem ex2 : numA [48, 49] 0 = ⟨0, 1, false⟩ := by kernel_rfl
theorem ex3 : numA [49, 46] 0 = ⟨0, 2, false⟩ := by kernel_rfl
theorem ex4 : numA [49, 97] 0 = ⟨0, 1, false⟩ := by kernel_rfl
theorem ex5 : whB [48] = true := by kernel_rfl
theorem ex6 : whB [48, 32] = false := by kernel_rfl

set_option maxHeartbeats 400000 in
set_option maxRecDepth 100000 in
theorem awake_any (w : World) : Calls Tryd.prog 4 #[] w fun e w' => e = .returned (.bool true) ∧ Below w.heap.size w w' := by
  have r1 := fun w => number_b (w := w) (A := ⟨#[45, 49, 50, 46, 53, 101, 51]⟩) rfl ex1 (by decide) (by decide) (by decide)
  have r2 := fun w => number_b (w := w) (A := ⟨#[48, 49]⟩) rfl ex2 (by decide) (by decide) (by decide)
  have r3 := fun w => number_b (w := w) (A := ⟨#[49, 46]⟩) rfl ex3 (by decide) (by decide) (by decide)
  have r4 := fun w => number_b (w := w) (A := ⟨#[49, 97]⟩) rfl ex4 (by decide) (by decide) (by decide)
  have r5 := fun w => whole_b (w := w) (A := ⟨#[48]⟩) rfl ex5 (by decide)
  have r6 := fun w => whole_b (w := w) (A := ⟨#[48, 32]⟩) rfl ex6 (by decide)
  go_enter Tryd.func4, Tryd.ntmps4
  (try simp only [List.append_eq, List.cons_append, List.nil_append])
  go_wp2_with fail
  (with_reducible refine (r1 _).mono ?_)
  rintro e w1 ⟨rfl, hb1⟩
  go_wp2_with fail
  (with_reducible refine (r2 _).mono ?_)
  rintro e w2 ⟨rfl, hb2⟩
  go_wp2_with fail
  (with_reducible refine (r3 _).mono ?_)
  rintro e w3 ⟨rfl, hb3⟩
  go_wp2_with fail
  (with_reducible refine (r4 _).mono ?_)
  rintro e w4 ⟨rfl, hb4⟩
  go_wp2_with fail
  (with_reducible refine (r5 _).mono ?_)
  rintro e w5 ⟨rfl, hb5⟩
  go_wp2_with fail
  (with_reducible refine (r6 _).mono ?_)
  rintro e w6 ⟨rfl, hb6⟩
  go_wp2_with fail
  go_ret
  exact ⟨by first | (simp; done) | (simp; omega), (bel_trans (bel_trans (bel_trans (bel_trans (bel_trans hb1 hb2) hb3) hb4) hb5) hb6)⟩

/-! ### NumMinus -/
theorem sd_0 (p : Int → Bool) (c : UInt8) (l : List UInt8) : sd p (c :: l) 0 = p c.toNat := by simp [sd]
theorem sd_1 (p : Int → Bool) (c d : UInt8) (l : List UInt8) : sd p (c :: d :: l) 1 = p d.toNat := by
  unfold sd; rw [decide_eq_true (by first | (simp; done) | (simp; omega))]; rfl
theorem minus_no {l : List UInt8} {i : Int} (h : sd (inS minusB) l i = false) : numA l i = bodyA l i := by
  unfold numA minusA; rw [h, adv_f]
theorem minus_yes {l : List UInt8} {i : Int} (h : sd (inS minusB) l i = true) : numA l i = bodyA l (i + 1) := by
  unfold numA minusA; rw [h, adv_t]
theorem minus_one {l : List UInt8} (h : sd (inS minusB) l 0 = false) : numA ([45] ++ l) 0 = shift 1 (numA l 0) := by
  rw [minus_yes (by rw [List.singleton_append, sd_0]; rfl), minus_no h]
  exact body_sh (sh_app [45] l) (j := 0) (Int.le_refl _)
theorem minus_two (l : List UInt8) : numA ([45, 45] ++ l) 0 = ⟨0, 1, false⟩ := by
  show numA (45 :: 45 :: l) 0 = _
  rw [minus_yes (by rw [sd_0]; rfl)]
  exact bodyA_w (by rw [show (0 : Int) + 1 = 1 from rfl, sd_1]; rfl) (by rw [show (0 : Int) + 1 = 1 from rfl, sd_1]; rfl)
theorem sd_head {s : ByteArray} (h : 0 < s.size) (p : Int → Bool) : sd p s.data.toList 0 = p ((s[0]'h).toNat : Int) := sd_in (k := 0) h


/-! ### NumPlace -/
end Go.Proofs.YtocgknhpecobfaaDoor.Sc
