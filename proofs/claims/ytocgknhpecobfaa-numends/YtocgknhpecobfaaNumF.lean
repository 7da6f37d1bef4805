/- The law NumEnds: its mathematics and its walk. -/
import Derived.Test.YtocgknhpecobfaaNumC
namespace Go.Proofs.Ytocgknhpecobfaa
open Go.RowKit
set_option linter.unusedVariables false

theorem sd_fore {p : Int → Bool} {a t : List UInt8} {j : Int} (h : j < a.length) : sd p (a ++ t) j = sd p a j := by
  by_cases h0 : 0 ≤ j
  · obtain ⟨k, rfl⟩ := Int.eq_ofNat_of_zero_le h0
    unfold sd
    rw [Int.toNat_natCast, List.getD_eq_getElem?_getD, List.getD_eq_getElem?_getD, List.getElem?_append_left (by omega), List.length_append]
    congr 1
    exact decide_eq_decide.2 (by omega)
  · rw [sd_out (.inl (by omega)), sd_out (.inl (by omega))]
theorem sd_aft {p : Int → Bool} {a t : List UInt8} {j : Int} (h : 0 ≤ j) : sd p (a ++ t) (a.length + j) = sd p t j := by
  rw [Int.add_comm]; exact sh_app a t p j h

/-- A number's own bytes, and something behind them. -/
theorem own_ag {r t : List UInt8} {N : Nat} (hN : N ≤ r.length) (h1 : sd dgI t 0 = false) (h2 : sd (inS eB) t 0 = false) (h3 : sd dgI t 1 = false) : Ag r (r.take N ++ t) N := by
  have hl : (r.take N).length = N := by rw [List.length_take]; omega
  have e0 : ∀ p, sd p (r.take N ++ t) N = sd p t 0 := fun p => by
    have := sd_aft (p := p) (a := r.take N) (t := t) (j := 0) (Int.le_refl _)
    rw [hl, Int.add_zero] at this; exact this
  refine ⟨fun p j h0 hj => ?_, by rw [e0]; exact h1, by rw [e0]; exact h2, fun _ => ?_⟩
  · have a := sd_fore (p := p) (a := r.take N) (t := t) (j := j) (by rw [hl]; exact hj)
    have b := sd_fore (p := p) (a := r.take N) (t := r.drop N) (j := j) (by rw [hl]; exact hj)
    rw [List.take_append_drop] at b
    rw [a, b]
  · have := sd_aft (p := dgI) (a := r.take N) (t := t) (j := 1) (by decide)
    rw [hl] at this; rw [this]; exact h3
theorem own_yes {r t : List UInt8} {N : Nat} {k : Int} (hr : numA r 0 = ⟨k, N, true⟩) (h1 : sd moreI t 0 = false) (h3 : sd dgI t 1 = false) : numA (r.take N ++ t) 0 = ⟨k, N, true⟩ := by
  have hy := num_yes (l := r) (i := 0) (by rw [hr])
  rw [hr] at hy
  have hN : N ≤ r.length := by have := hy.2.2.1; simp at this; omega
  have hl : (r.take N).length = N := by rw [List.length_take]; omega
  have hA := own_ag hN (sd_less (p := dgI) (fun x hx => by rw [dg_iff] at hx; rw [more_iff]; omega) h1) (sd_less (p := inS eB) (fun x hx => by rw [e_iff] at hx; rw [more_iff]; omega) h1) h3
  have e0 : ∀ p, sd p (r.take N ++ t) N = sd p t 0 := fun p => by
    have := sd_aft (p := p) (a := r.take N) (t := t) (j := 0) (Int.le_refl _)
    rw [hl, Int.add_zero] at this; exact this
  rcases ag_num hA (by rw [hr]) (by rw [hr]) with h | ⟨h, _⟩
  · rw [h, finA_f (by rw [e0]; exact h1), hr]
  · rw [e0, sd_less (p := inS dotB) (fun x hx => by rw [dot_iff] at hx; rw [more_iff]; omega) h1] at h; cases h
theorem own_no {r t : List UInt8} {N : Nat} {k : Int} (hr : numA r 0 = ⟨k, N, true⟩) (h0 : sd moreI t 0 = true) (h1 : sd dgI t 0 = false) (h2 : sd (inS eB) t 0 = false) (h3 : sd dgI t 1 = false) : ∃ k' e', numA (r.take N ++ t) 0 = ⟨k', e', false⟩ := by
  have hy := num_yes (l := r) (i := 0) (by rw [hr])
  rw [hr] at hy
  have hN : N ≤ r.length := by have := hy.2.2.1; simp at this; omega
  have hl : (r.take N).length = N := by rw [List.length_take]; omega
  have hA := own_ag hN h1 h2 h3
  have e0 : ∀ p, sd p (r.take N ++ t) N = sd p t 0 := fun p => by
    have := sd_aft (p := p) (a := r.take N) (t := t) (j := 0) (Int.le_refl _)
    rw [hl, Int.add_zero] at this; exact this
  rcases ag_num hA (by rw [hr]) (by rw [hr]) with h | ⟨_, h⟩
  · rw [h, finA_t (by rw [e0]; exact h0)]; exact ⟨_, _, rfl⟩
  · obtain ⟨⟨a, b, c⟩, he⟩ : ∃ x, numA (r.take N ++ t) 0 = x := ⟨_, rfl⟩
    rw [he] at h
    exact ⟨a, b, by rw [he]; congr 1⟩

set_option maxHeartbeats 2000000 in
set_option maxRecDepth 100000 in
theorem ends_any (s : ByteArray) (i : Int) (w : World) (zs : s.size ≤ 9223372036854775807) (hi0 : -9223372036854775808 ≤ i) (hi : i ≤ 9223372036854775807) :
    Calls Try.prog 4 #[.string s, .int .i64 i] w fun e w' => e = .returned (.bool true) ∧ Below w.heap.size w w' := by
  by_cases hs : 600 < s.size
  · have gs : (600 : Int) < (s.size : Int) := by omega
    clear hs
    go_enter Try.func4, Try.ntmps4
    (try simp only [List.append_eq, List.cons_append, List.nil_append])
    go_wp2_with fail
    (with_reducible refine (awake_any _).mono ?_)
    rintro e w1 ⟨rfl, hb1⟩
    go_wp2_with fail
    go_ret
    exact ⟨by first | (simp; done) | (simp; omega), hb1⟩
  have gs : ¬ (600 : Int) < (s.size : Int) := by omega
  have ls : s.data.toList.length = s.size := (Lib.size_eq s).symm
  have hno := @num_no s.data.toList i
  have hyes := @num_yes s.data.toList i
  obtain ⟨⟨k, e, b⟩, hN⟩ : ∃ r, numA s.data.toList i = r := ⟨_, rfl⟩
  have r1 := fun w => number_b (w := w) (mkb_of s).symm hN (by omega) hi0 hi
  rw [hN] at hno hyes
  cases b
  · obtain ⟨q1, q2⟩ := hno rfl
    have q3 : k = 0 := q1
    have q4 : e = i ∨ i < e ∧ e ≤ (s.data.toList.length : Int) := q2
    subst q3
    clear hno hyes hN q1 q2
    by_cases he : e = i
    · subst he
      clear q4 ls hs
      go_enter Try.func4, Try.ntmps4
      (try simp only [List.append_eq, List.cons_append, List.nil_append])
      go_wp2_with fail
      (with_reducible refine (awake_any _).mono ?_)
      rintro e w1 ⟨rfl, hb1⟩
      go_wp2_with fail
      (with_reducible refine (r1 _).mono ?_)
      rintro e w2 ⟨rfl, hb2⟩
      go_wp2_with fail
      go_ret
      exact ⟨by first | (simp; done) | (simp; omega), (bel_trans hb1 hb2)⟩
    · have t1 : (e == i) = false := beq_false_of_ne he
      have t2 : i < e := by omega
      have t3 : e ≤ (s.size : Int) := by omega
      clear q4 ls hs he
      go_enter Try.func4, Try.ntmps4
      (try simp only [List.append_eq, List.cons_append, List.nil_append])
      go_wp2_with fail
      (with_reducible refine (awake_any _).mono ?_)
      rintro e w1 ⟨rfl, hb1⟩
      go_wp2_with fail
      (with_reducible refine (r1 _).mono ?_)
      rintro e w2 ⟨rfl, hb2⟩
      go_wp2_with fail
      go_ret
      exact ⟨by first | (simp; done) | (simp; omega), (bel_trans hb1 hb2)⟩
  · obtain ⟨q1, q2, q3, q4⟩ := hyes rfl
    have p2 : i < e := q2
    have p3 : e ≤ (s.data.toList.length : Int) := q3
    have p4 : k = 3 ∨ k = 4 := q4
    clear hno hyes q2 q3 q4
    obtain ⟨n, rfl⟩ := Int.eq_ofNat_of_zero_le q1
    obtain ⟨M, rfl⟩ := Int.eq_ofNat_of_zero_le (a := e) (by omega)
    obtain ⟨N, hMN⟩ : ∃ N : Nat, M = n + N := ⟨M - n, by omega⟩
    have hr : numA (s.data.toList.drop n) 0 = ⟨k, N, true⟩ := by
      have := num_sh (sh_drop s.data.toList n (by omega)) (j := 0) (Int.le_refl _)
      rw [Int.zero_add, hN] at this
      obtain ⟨⟨a, b, c⟩, he⟩ : ∃ x, numA (s.data.toList.drop n) 0 = x := ⟨_, rfl⟩
      rw [he] at this ⊢
      simp only [shift, Nm.mk.injEq] at this ⊢
      exact ⟨this.1.symm, by omega, this.2.2.symm⟩
    obtain ⟨O, hO⟩ : ∃ O, O = s.extract n M := ⟨_, rfl⟩
    have hO2 : O = mkb ((s.data.toList.drop n).take N) := by
      rw [hO, hMN]
      have := Lib.extract_mk s.data.toList n (n + N)
      rw [show n + N - n = N by omega] at this
      exact this
    have hOl : ((s.data.toList.drop n).take N).length = N := by rw [List.length_take, List.length_drop]; omega
    have zO : O.size = N := by rw [hO2, mkb_size, hOl]
    have y0 := own_yes (t := []) hr (sd_out (.inr (by simp))) (sd_out (.inr (by simp)))
    have y1 := own_yes (t := [32, 120]) hr (by rw [sd_0]; decide) (by rw [sd_1]; decide)
    have y2 := own_yes (t := [93]) hr (by rw [sd_0]; decide) (sd_out (.inr (by simp)))
    obtain ⟨k3, e3, y3⟩ := own_no (t := [46]) hr (by rw [sd_0]; decide) (by rw [sd_0]; decide) (by rw [sd_0]; decide) (sd_out (.inr (by simp)))
    obtain ⟨k4, e4, y4⟩ := own_no (t := [120]) hr (by rw [sd_0]; decide) (by rw [sd_0]; decide) (by rw [sd_0]; decide) (sd_out (.inr (by simp)))
    rw [List.append_nil] at y0
    have yw : whB ((s.data.toList.drop n).take N) = true := by unfold whB; rw [y0, hOl]; simp
    obtain ⟨S1, h1, s1⟩ := sadd' (A := O) (B := ⟨#[32, 120]⟩) (b := [32, 120]) hO2 rfl (by first | (simp; done) | (simp; omega))
    obtain ⟨S2, h2, s2⟩ := sadd' (A := O) (B := ⟨#[93]⟩) (b := [93]) hO2 rfl (by first | (simp; done) | (simp; omega))
    obtain ⟨S3, h3, s3⟩ := sadd' (A := O) (B := ⟨#[46]⟩) (b := [46]) hO2 rfl (by first | (simp; done) | (simp; omega))
    obtain ⟨S4, h4, s4⟩ := sadd' (A := O) (B := ⟨#[120]⟩) (b := [120]) hO2 rfl (by first | (simp; done) | (simp; omega))
    have c1 := fun w => number_b (w := w) h1 (by rw [zO]; exact y1 : numA _ 0 = ⟨k, (O.size : Int), true⟩) (by first | (simp; done) | (simp; omega)) (by decide) (by decide)
    have c2 := fun w => number_b (w := w) h2 (by rw [zO]; exact y2 : numA _ 0 = ⟨k, (O.size : Int), true⟩) (by first | (simp; done) | (simp; omega)) (by decide) (by decide)
    have c3 := fun w => number_b (w := w) h3 y3 (by first | (simp; done) | (simp; omega)) (by decide) (by decide)
    have c4 := fun w => number_b (w := w) h4 y4 (by first | (simp; done) | (simp; omega)) (by decide) (by decide)
    have c5 := fun w => whole_b (w := w) hO2 yw (by omega)
    have g1 : ¬ (n : Int) < 0 := by omega
    have g2 : ¬ (M : Int) ≤ (n : Int) := by omega
    have g3 : ¬ (s.size : Int) < (M : Int) := by omega
    have g4 : n ≤ M := by omega
    have g5 : M ≤ s.size := by omega
    clear y0 y1 y2 y3 y4 yw h1 h2 h3 h4 hO2 hOl zO hr hMN p2 p3 hN ls hs q1
    subst hO
    rcases p4 with p4 | p4
    · subst p4
      go_enter Try.func4, Try.ntmps4
      (try simp only [List.append_eq, List.cons_append, List.nil_append])
      go_wp2_with fail
      (with_reducible refine (awake_any _).mono ?_)
      rintro e w1 ⟨rfl, hb1⟩
      go_wp2_with fail
      (with_reducible refine (r1 _).mono ?_)
      rintro e w2 ⟨rfl, hb2⟩
      go_wp2_with fail
      (with_reducible refine (c1 _).mono ?_)
      rintro e w3 ⟨rfl, hb3⟩
      go_wp2_with fail
      (with_reducible refine (c2 _).mono ?_)
      rintro e w4 ⟨rfl, hb4⟩
      go_wp2_with fail
      (with_reducible refine (c3 _).mono ?_)
      rintro e w5 ⟨rfl, hb5⟩
      go_wp2_with fail
      (with_reducible refine (c4 _).mono ?_)
      rintro e w6 ⟨rfl, hb6⟩
      go_wp2_with fail
      (with_reducible refine (c5 _).mono ?_)
      rintro e w7 ⟨rfl, hb7⟩
      go_wp2_with fail
      go_ret
      exact ⟨by first | (simp; done) | (simp; omega), (bel_trans (bel_trans (bel_trans (bel_trans (bel_trans (bel_trans hb1 hb2) hb3) hb4) hb5) hb6) hb7)⟩
    · subst p4
      go_enter Try.func4, Try.ntmps4
      (try simp only [List.append_eq, List.cons_append, List.nil_append])
      go_wp2_with fail
      (with_reducible refine (awake_any _).mono ?_)
      rintro e w1 ⟨rfl, hb1⟩
      go_wp2_with fail
      (with_reducible refine (r1 _).mono ?_)
      rintro e w2 ⟨rfl, hb2⟩
      go_wp2_with fail
      (with_reducible refine (c1 _).mono ?_)
      rintro e w3 ⟨rfl, hb3⟩
      go_wp2_with fail
      (with_reducible refine (c2 _).mono ?_)
      rintro e w4 ⟨rfl, hb4⟩
      go_wp2_with fail
      (with_reducible refine (c3 _).mono ?_)
      rintro e w5 ⟨rfl, hb5⟩
      go_wp2_with fail
      (with_reducible refine (c4 _).mono ?_)
      rintro e w6 ⟨rfl, hb6⟩
      go_wp2_with fail
      (with_reducible refine (c5 _).mono ?_)
      rintro e w7 ⟨rfl, hb7⟩
      go_wp2_with fail
      go_ret
      exact ⟨by first | (simp; done) | (simp; omega), (bel_trans (bel_trans (bel_trans (bel_trans (bel_trans (bel_trans hb1 hb2) hb3) hb4) hb5) hb6) hb7)⟩
end Go.Proofs.Ytocgknhpecobfaa
