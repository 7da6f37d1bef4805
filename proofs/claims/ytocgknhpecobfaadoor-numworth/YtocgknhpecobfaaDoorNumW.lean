/- The walk of NumWorth. -/
import Derived.Test.YtocgknhpecobfaaDoorNumV
namespace Go.Proofs.YtocgknhpecobfaaDoor.Sc
open Go.RowKit
set_option linter.unusedVariables false

theorem sortv_bd (f : Nat) : 0 ≤ sortv f ∧ sortv f ≤ 3 := by
  unfold sortv
  split
  · decide
  · split
    · decide
    · split <;> decide

set_option maxHeartbeats 4000000 in
set_option maxRecDepth 100000 in
theorem worth_any (s : ByteArray) (w : World) (zs : s.size ≤ 9223372036854775807) :
    Calls Tryd.prog 3 #[.string s] w fun e w' => e = .returned (.bool true) ∧ Below w.heap.size w w' := by
  by_cases hs : 600 < s.size
  · have gs : (600 : Int) < (s.size : Int) := by omega
    clear hs
    go_enter Tryd.func3, Tryd.ntmps3
    (try simp only [List.append_eq, List.cons_append, List.nil_append])
    go_wp2_with fail
    (with_reducible refine (awake_any _).mono ?_)
    rintro e w1 ⟨rfl, hb1⟩
    go_wp2_with fail
    go_ret
    exact ⟨by first | (simp; done) | (simp; omega), hb1⟩
  have gs : ¬ (600 : Int) < (s.size : Int) := by omega
  have ls : s.data.toList.length = s.size := (Lib.size_eq s).symm
  cases hv : whB s.data.toList
  · have rw1 := fun w => whole_b (w := w) (mkb_of s).symm hv (by omega)
    clear hv hs ls
    go_enter Tryd.func3, Tryd.ntmps3
    (try simp only [List.append_eq, List.cons_append, List.nil_append])
    go_wp2_with fail
    (with_reducible refine (awake_any _).mono ?_)
    rintro e w1 ⟨rfl, hb1⟩
    go_wp2_with fail
    (with_reducible refine (rw1 _).mono ?_)
    rintro e w2 ⟨rfl, hb2⟩
    go_wp2_with fail
    go_ret
    exact ⟨by first | (simp; done) | (simp; omega), (bel_trans hb1 hb2)⟩
  have rw1 := fun w => whole_b (w := w) (mkb_of s).symm hv (by omega)
  have hN : ∃ k, numA s.data.toList 0 = ⟨k, s.data.toList.length, true⟩ := by
    unfold whB at hv
    rw [Bool.and_eq_true, decide_eq_true_iff] at hv
    exact ⟨(numA s.data.toList 0).k, by
      obtain ⟨⟨a, b, c⟩, he⟩ : ∃ x, numA s.data.toList 0 = x := ⟨_, rfl⟩
      rw [he] at hv ⊢
      simp only [Nm.mk.injEq, true_and]
      exact ⟨hv.2, hv.1⟩⟩
  obtain ⟨k, hN⟩ := hN
  obtain ⟨i, d, hW, hc⟩ := wo_of hN
  rw [ls] at hN
  have r1 := fun w => number_b (w := w) (mkb_of s).symm hN (by omega) (by decide) (by decide)
  obtain ⟨w1, w2, w3, w4, w5, w6, w7⟩ := hW
  have rd := fun w => digits_b (w := w) (mkb_of s).symm w3 (by omega)
  rw [ls] at w2 w4 w7
  have h0 : 0 < s.size := by omega
  have g0 : ((s.size : Int) == 0) = false := beq_false_of_ne (by omega)
  have hil : i < s.size := by omega
  have hfl := rv_lt s.data.toList
  have rr := fun w => real_b (w := w) (A := s) (l := s.data.toList) rfl rfl (by omega)
  have rs := fun w => sort_any (rv s.data.toList) w hfl
  have rn := fun w => negative_any (rv s.data.toList) w hfl
  have hsb := sortv_bd (rv s.data.toList)
  rw [sd_head h0] at hc
  rw [sd_in hil] at w5
  generalize rv s.data.toList = f at rr rs rn w6 w7 hsb
  generalize sortv f = sv at rs w6 w7 hsb
  generalize negv f = nv at rn w6
  have gi : ¬ (s.size : Int) ≤ (i : Int) := by omega
  have gd : ((d : Int) == (i : Int)) = false := beq_false_of_ne (by omega)
  have z0 : ((((s[i]'hil).toNat : Int) == 48) = true ∧ ¬ (i : Int) + 1 < (d : Int)) ∨ (((s[i]'hil).toNat : Int) == 48) = false := by
    by_cases h : ((s[i]'hil).toNat : Int) = 48
    · exact .inl ⟨by simp [h], by have := w5 ((zero_iff _).2 h); omega⟩
    · exact .inr (beq_false_of_ne h)
  have zk : (k = 3 ∧ ((d : Int) == (s.size : Int)) = true) ∨ (k = 4 ∧ ((d : Int) == (s.size : Int)) = false) := by
    rcases w4 with ⟨a, b⟩ | ⟨a, b⟩
    · exact .inl ⟨a, by simp [b]⟩
    · exact .inr ⟨a, beq_false_of_ne (by omega)⟩
  have hi1 : i ≤ 1 := by omega
  have hb45 : (((s[0]'h0).toNat : Int) == 45) = decide (i = 1) := by
    rcases hc with ⟨a, b⟩ | ⟨a, b⟩
    · rw [minus_iff] at b; simp [a, b]
    · have : ¬ ((s[0]'h0).toNat : Int) = 45 := fun e => by rw [(minus_iff _).2 e] at b; cases b
      rw [a]; exact beq_false_of_ne this
  clear hc w3 w4 w5 hN hv ls hs hfl
  obtain ⟨I, hI⟩ : ∃ I : Int, I = (i : Int) := ⟨_, rfl⟩
  rw [← hI] at rd gi gd
  by_cases hi0 : i = 0
  · subst hi0
    obtain rfl : I = 0 := by rw [hI]; rfl
    have n1 : ¬ s = ByteArray.empty := fun e => by rw [e] at h0; exact absurd h0 (by decide)
    have n2 : ¬ s.size = 0 := by omega
    have n3 : decide ((s.size : Int) ≤ 0) = false := decide_eq_false (by omega)
    have t45 : (((s[0]'h0).toNat : Int) == 45) = false := by rw [hb45]; rfl
    have nz : ¬ sv = 0 → nv = false := fun h => (w6 h).trans rfl
    clear hb45 w6 hI hi1
    rcases z0 with ⟨z0, z1⟩ | z0
    · have z2 : ¬ (1 : Int) < (d : Int) := by omega
      clear z1
      rcases zk with ⟨rfl, zk⟩ | ⟨rfl, zk⟩
      · by_cases hl : 15 < (s.size : Int) - 0
        · by_cases h9 : sv = 0
          · subst h9
            clear nz w7 rn
            go_enter Tryd.func3, Tryd.ntmps3
            (try simp only [List.append_eq, List.cons_append, List.nil_append])
            go_wp2_with fail
            (with_reducible refine (awake_any _).mono ?_)
            rintro e w1 ⟨rfl, hb1⟩
            go_wp2_with fail
            (with_reducible refine (rw1 _).mono ?_)
            rintro e w2 ⟨rfl, hb2⟩
            go_wp2_with fail
            (with_reducible refine (r1 _).mono ?_)
            rintro e w3 ⟨rfl, hb3⟩
            go_wp2_with fail
            (with_reducible refine (rd _).mono ?_)
            rintro e w4 ⟨rfl, hb4⟩
            go_wp2_with fail
            (with_reducible refine (rr _).mono ?_)
            rintro e w5 ⟨rfl, hb5⟩
            go_wp2_with fail
            (with_reducible refine (rs _).mono ?_)
            rintro e w' ⟨rfl, rfl⟩
            go_wp2_with fail
            go_ret
            exact ⟨by first | (simp; done) | (simp; omega), (bel_trans (bel_trans (bel_trans (bel_trans hb1 hb2) hb3) hb4) hb5)⟩
          · obtain rfl := nz h9
            have h8 : (sv != 0) = true := bne_iff_ne.2 h9
            clear nz w7 h9
            go_enter Tryd.func3, Tryd.ntmps3
            (try simp only [List.append_eq, List.cons_append, List.nil_append])
            go_wp2_with fail
            (with_reducible refine (awake_any _).mono ?_)
            rintro e w1 ⟨rfl, hb1⟩
            go_wp2_with fail
            (with_reducible refine (rw1 _).mono ?_)
            rintro e w2 ⟨rfl, hb2⟩
            go_wp2_with fail
            (with_reducible refine (r1 _).mono ?_)
            rintro e w3 ⟨rfl, hb3⟩
            go_wp2_with fail
            (with_reducible refine (rd _).mono ?_)
            rintro e w4 ⟨rfl, hb4⟩
            go_wp2_with fail
            (with_reducible refine (rr _).mono ?_)
            rintro e w5 ⟨rfl, hb5⟩
            go_wp2_with fail
            (with_reducible refine (rs _).mono ?_)
            rintro e w' ⟨rfl, rfl⟩
            go_wp2_with fail
            (with_reducible refine (rn _).mono ?_)
            rintro e w' ⟨rfl, rfl⟩
            go_wp2_with fail
            go_ret
            exact ⟨by first | (simp; done) | (simp; omega), (bel_trans (bel_trans (bel_trans (bel_trans hb1 hb2) hb3) hb4) hb5)⟩
        · have h2 : 2 ≤ sv := w7 rfl (by omega)
          obtain rfl := nz (by omega)
          have h8 : (sv != 0) = true := bne_iff_ne.2 (by omega)
          clear nz w7
          go_enter Tryd.func3, Tryd.ntmps3
          (try simp only [List.append_eq, List.cons_append, List.nil_append])
          go_wp2_with fail
          (with_reducible refine (awake_any _).mono ?_)
          rintro e w1 ⟨rfl, hb1⟩
          go_wp2_with fail
          (with_reducible refine (rw1 _).mono ?_)
          rintro e w2 ⟨rfl, hb2⟩
          go_wp2_with fail
          (with_reducible refine (r1 _).mono ?_)
          rintro e w3 ⟨rfl, hb3⟩
          go_wp2_with fail
          (with_reducible refine (rd _).mono ?_)
          rintro e w4 ⟨rfl, hb4⟩
          go_wp2_with fail
          (with_reducible refine (rr _).mono ?_)
          rintro e w5 ⟨rfl, hb5⟩
          go_wp2_with fail
          (with_reducible refine (rs _).mono ?_)
          rintro e w' ⟨rfl, rfl⟩
          go_wp2_with fail
          (with_reducible refine (rn _).mono ?_)
          rintro e w' ⟨rfl, rfl⟩
          go_wp2_with fail
          (with_reducible refine (rs _).mono ?_)
          rintro e w' ⟨rfl, rfl⟩
          go_wp2_with fail
          go_ret
          exact ⟨by first | (simp; done) | (simp; omega), (bel_trans (bel_trans (bel_trans (bel_trans hb1 hb2) hb3) hb4) hb5)⟩
      · by_cases h9 : sv = 0
        · subst h9
          clear nz w7 rn
          go_enter Tryd.func3, Tryd.ntmps3
          (try simp only [List.append_eq, List.cons_append, List.nil_append])
          go_wp2_with fail
          (with_reducible refine (awake_any _).mono ?_)
          rintro e w1 ⟨rfl, hb1⟩
          go_wp2_with fail
          (with_reducible refine (rw1 _).mono ?_)
          rintro e w2 ⟨rfl, hb2⟩
          go_wp2_with fail
          (with_reducible refine (r1 _).mono ?_)
          rintro e w3 ⟨rfl, hb3⟩
          go_wp2_with fail
          (with_reducible refine (rd _).mono ?_)
          rintro e w4 ⟨rfl, hb4⟩
          go_wp2_with fail
          (with_reducible refine (rr _).mono ?_)
          rintro e w5 ⟨rfl, hb5⟩
          go_wp2_with fail
          (with_reducible refine (rs _).mono ?_)
          rintro e w' ⟨rfl, rfl⟩
          go_wp2_with fail
          go_ret
          exact ⟨by first | (simp; done) | (simp; omega), (bel_trans (bel_trans (bel_trans (bel_trans hb1 hb2) hb3) hb4) hb5)⟩
        · obtain rfl := nz h9
          have h8 : (sv != 0) = true := bne_iff_ne.2 h9
          clear nz w7 h9
          go_enter Tryd.func3, Tryd.ntmps3
          (try simp only [List.append_eq, List.cons_append, List.nil_append])
          go_wp2_with fail
          (with_reducible refine (awake_any _).mono ?_)
          rintro e w1 ⟨rfl, hb1⟩
          go_wp2_with fail
          (with_reducible refine (rw1 _).mono ?_)
          rintro e w2 ⟨rfl, hb2⟩
          go_wp2_with fail
          (with_reducible refine (r1 _).mono ?_)
          rintro e w3 ⟨rfl, hb3⟩
          go_wp2_with fail
          (with_reducible refine (rd _).mono ?_)
          rintro e w4 ⟨rfl, hb4⟩
          go_wp2_with fail
          (with_reducible refine (rr _).mono ?_)
          rintro e w5 ⟨rfl, hb5⟩
          go_wp2_with fail
          (with_reducible refine (rs _).mono ?_)
          rintro e w' ⟨rfl, rfl⟩
          go_wp2_with fail
          (with_reducible refine (rn _).mono ?_)
          rintro e w' ⟨rfl, rfl⟩
          go_wp2_with fail
          go_ret
          exact ⟨by first | (simp; done) | (simp; omega), (bel_trans (bel_trans (bel_trans (bel_trans hb1 hb2) hb3) hb4) hb5)⟩
    · skip
      rcases zk with ⟨rfl, zk⟩ | ⟨rfl, zk⟩
      · by_cases hl : 15 < (s.size : Int) - 0
        · by_cases h9 : sv = 0
          · subst h9
            clear nz w7 rn
            go_enter Tryd.func3, Tryd.ntmps3
            (try simp only [List.append_eq, List.cons_append, List.nil_append])
            go_wp2_with fail
            (with_reducible refine (awake_any _).mono ?_)
            rintro e w1 ⟨rfl, hb1⟩
            go_wp2_with fail
            (with_reducible refine (rw1 _).mono ?_)
            rintro e w2 ⟨rfl, hb2⟩
            go_wp2_with fail
            (with_reducible refine (r1 _).mono ?_)
            rintro e w3 ⟨rfl, hb3⟩
            go_wp2_with fail
            (with_reducible refine (rd _).mono ?_)
            rintro e w4 ⟨rfl, hb4⟩
            go_wp2_with fail
            (with_reducible refine (rr _).mono ?_)
            rintro e w5 ⟨rfl, hb5⟩
            go_wp2_with fail
            (with_reducible refine (rs _).mono ?_)
            rintro e w' ⟨rfl, rfl⟩
            go_wp2_with fail
            go_ret
            exact ⟨by first | (simp; done) | (simp; omega), (bel_trans (bel_trans (bel_trans (bel_trans hb1 hb2) hb3) hb4) hb5)⟩
          · obtain rfl := nz h9
            have h8 : (sv != 0) = true := bne_iff_ne.2 h9
            clear nz w7 h9
            go_enter Tryd.func3, Tryd.ntmps3
            (try simp only [List.append_eq, List.cons_append, List.nil_append])
            go_wp2_with fail
            (with_reducible refine (awake_any _).mono ?_)
            rintro e w1 ⟨rfl, hb1⟩
            go_wp2_with fail
            (with_reducible refine (rw1 _).mono ?_)
            rintro e w2 ⟨rfl, hb2⟩
            go_wp2_with fail
            (with_reducible refine (r1 _).mono ?_)
            rintro e w3 ⟨rfl, hb3⟩
            go_wp2_with fail
            (with_reducible refine (rd _).mono ?_)
            rintro e w4 ⟨rfl, hb4⟩
            go_wp2_with fail
            (with_reducible refine (rr _).mono ?_)
            rintro e w5 ⟨rfl, hb5⟩
            go_wp2_with fail
            (with_reducible refine (rs _).mono ?_)
            rintro e w' ⟨rfl, rfl⟩
            go_wp2_with fail
            (with_reducible refine (rn _).mono ?_)
            rintro e w' ⟨rfl, rfl⟩
            go_wp2_with fail
            go_ret
            exact ⟨by first | (simp; done) | (simp; omega), (bel_trans (bel_trans (bel_trans (bel_trans hb1 hb2) hb3) hb4) hb5)⟩
        · have h2 : 2 ≤ sv := w7 rfl (by omega)
          obtain rfl := nz (by omega)
          have h8 : (sv != 0) = true := bne_iff_ne.2 (by omega)
          clear nz w7
          go_enter Tryd.func3, Tryd.ntmps3
          (try simp only [List.append_eq, List.cons_append, List.nil_append])
          go_wp2_with fail
          (with_reducible refine (awake_any _).mono ?_)
          rintro e w1 ⟨rfl, hb1⟩
          go_wp2_with fail
          (with_reducible refine (rw1 _).mono ?_)
          rintro e w2 ⟨rfl, hb2⟩
          go_wp2_with fail
          (with_reducible refine (r1 _).mono ?_)
          rintro e w3 ⟨rfl, hb3⟩
          go_wp2_with fail
          (with_reducible refine (rd _).mono ?_)
          rintro e w4 ⟨rfl, hb4⟩
          go_wp2_with fail
          (with_reducible refine (rr _).mono ?_)
          rintro e w5 ⟨rfl, hb5⟩
          go_wp2_with fail
          (with_reducible refine (rs _).mono ?_)
          rintro e w' ⟨rfl, rfl⟩
          go_wp2_with fail
          (with_reducible refine (rn _).mono ?_)
          rintro e w' ⟨rfl, rfl⟩
          go_wp2_with fail
          (with_reducible refine (rs _).mono ?_)
          rintro e w' ⟨rfl, rfl⟩
          go_wp2_with fail
          go_ret
          exact ⟨by first | (simp; done) | (simp; omega), (bel_trans (bel_trans (bel_trans (bel_trans hb1 hb2) hb3) hb4) hb5)⟩
      · by_cases h9 : sv = 0
        · subst h9
          clear nz w7 rn
          go_enter Tryd.func3, Tryd.ntmps3
          (try simp only [List.append_eq, List.cons_append, List.nil_append])
          go_wp2_with fail
          (with_reducible refine (awake_any _).mono ?_)
          rintro e w1 ⟨rfl, hb1⟩
          go_wp2_with fail
          (with_reducible refine (rw1 _).mono ?_)
          rintro e w2 ⟨rfl, hb2⟩
          go_wp2_with fail
          (with_reducible refine (r1 _).mono ?_)
          rintro e w3 ⟨rfl, hb3⟩
          go_wp2_with fail
          (with_reducible refine (rd _).mono ?_)
          rintro e w4 ⟨rfl, hb4⟩
          go_wp2_with fail
          (with_reducible refine (rr _).mono ?_)
          rintro e w5 ⟨rfl, hb5⟩
          go_wp2_with fail
          (with_reducible refine (rs _).mono ?_)
          rintro e w' ⟨rfl, rfl⟩
          go_wp2_with fail
          go_ret
          exact ⟨by first | (simp; done) | (simp; omega), (bel_trans (bel_trans (bel_trans (bel_trans hb1 hb2) hb3) hb4) hb5)⟩
        · obtain rfl := nz h9
          have h8 : (sv != 0) = true := bne_iff_ne.2 h9
          clear nz w7 h9
          go_enter Tryd.func3, Tryd.ntmps3
          (try simp only [List.append_eq, List.cons_append, List.nil_append])
          go_wp2_with fail
          (with_reducible refine (awake_any _).mono ?_)
          rintro e w1 ⟨rfl, hb1⟩
          go_wp2_with fail
          (with_reducible refine (rw1 _).mono ?_)
          rintro e w2 ⟨rfl, hb2⟩
          go_wp2_with fail
          (with_reducible refine (r1 _).mono ?_)
          rintro e w3 ⟨rfl, hb3⟩
          go_wp2_with fail
          (with_reducible refine (rd _).mono ?_)
          rintro e w4 ⟨rfl, hb4⟩
          go_wp2_with fail
          (with_reducible refine (rr _).mono ?_)
          rintro e w5 ⟨rfl, hb5⟩
          go_wp2_with fail
          (with_reducible refine (rs _).mono ?_)
          rintro e w' ⟨rfl, rfl⟩
          go_wp2_with fail
          (with_reducible refine (rn _).mono ?_)
          rintro e w' ⟨rfl, rfl⟩
          go_wp2_with fail
          go_ret
          exact ⟨by first | (simp; done) | (simp; omega), (bel_trans (bel_trans (bel_trans (bel_trans hb1 hb2) hb3) hb4) hb5)⟩
  · obtain rfl : i = 1 := by omega
    obtain rfl : I = 1 := by rw [hI]; rfl
    have t45 : (((s[0]'h0).toNat : Int) == 45) = true := by rw [hb45]; rfl
    have nz : ¬ sv = 0 → nv = true := fun h => (w6 h).trans rfl
    clear hb45 w6 hI hi1
    rcases z0 with ⟨z0, z1⟩ | z0
    · have z2 : ¬ (2 : Int) < (d : Int) := by omega
      clear z1
      rcases zk with ⟨rfl, zk⟩ | ⟨rfl, zk⟩
      · by_cases hl : 15 < (s.size : Int) - 1
        · by_cases h9 : sv = 0
          · subst h9
            clear nz w7 rn
            go_enter Tryd.func3, Tryd.ntmps3
            (try simp only [List.append_eq, List.cons_append, List.nil_append])
            go_wp2_with fail
            (with_reducible refine (awake_any _).mono ?_)
            rintro e w1 ⟨rfl, hb1⟩
            go_wp2_with fail
            (with_reducible refine (rw1 _).mono ?_)
            rintro e w2 ⟨rfl, hb2⟩
            go_wp2_with fail
            (with_reducible refine (r1 _).mono ?_)
            rintro e w3 ⟨rfl, hb3⟩
            go_wp2_with fail
            (with_reducible refine (rd _).mono ?_)
            rintro e w4 ⟨rfl, hb4⟩
            go_wp2_with fail
            (with_reducible refine (rr _).mono ?_)
            rintro e w5 ⟨rfl, hb5⟩
            go_wp2_with fail
            (with_reducible refine (rs _).mono ?_)
            rintro e w' ⟨rfl, rfl⟩
            go_wp2_with fail
            go_ret
            exact ⟨by first | (simp; done) | (simp; omega), (bel_trans (bel_trans (bel_trans (bel_trans hb1 hb2) hb3) hb4) hb5)⟩
          · obtain rfl := nz h9
            have h8 : (sv != 0) = true := bne_iff_ne.2 h9
            clear nz w7 h9
            go_enter Tryd.func3, Tryd.ntmps3
            (try simp only [List.append_eq, List.cons_append, List.nil_append])
            go_wp2_with fail
            (with_reducible refine (awake_any _).mono ?_)
            rintro e w1 ⟨rfl, hb1⟩
            go_wp2_with fail
            (with_reducible refine (rw1 _).mono ?_)
            rintro e w2 ⟨rfl, hb2⟩
            go_wp2_with fail
            (with_reducible refine (r1 _).mono ?_)
            rintro e w3 ⟨rfl, hb3⟩
            go_wp2_with fail
            (with_reducible refine (rd _).mono ?_)
            rintro e w4 ⟨rfl, hb4⟩
            go_wp2_with fail
            (with_reducible refine (rr _).mono ?_)
            rintro e w5 ⟨rfl, hb5⟩
            go_wp2_with fail
            (with_reducible refine (rs _).mono ?_)
            rintro e w' ⟨rfl, rfl⟩
            go_wp2_with fail
            (with_reducible refine (rn _).mono ?_)
            rintro e w' ⟨rfl, rfl⟩
            go_wp2_with fail
            go_ret
            exact ⟨by first | (simp; done) | (simp; omega), (bel_trans (bel_trans (bel_trans (bel_trans hb1 hb2) hb3) hb4) hb5)⟩
        · have h2 : 2 ≤ sv := w7 rfl (by omega)
          obtain rfl := nz (by omega)
          have h8 : (sv != 0) = true := bne_iff_ne.2 (by omega)
          clear nz w7
          go_enter Tryd.func3, Tryd.ntmps3
          (try simp only [List.append_eq, List.cons_append, List.nil_append])
          go_wp2_with fail
          (with_reducible refine (awake_any _).mono ?_)
          rintro e w1 ⟨rfl, hb1⟩
          go_wp2_with fail
          (with_reducible refine (rw1 _).mono ?_)
          rintro e w2 ⟨rfl, hb2⟩
          go_wp2_with fail
          (with_reducible refine (r1 _).mono ?_)
          rintro e w3 ⟨rfl, hb3⟩
          go_wp2_with fail
          (with_reducible refine (rd _).mono ?_)
          rintro e w4 ⟨rfl, hb4⟩
          go_wp2_with fail
          (with_reducible refine (rr _).mono ?_)
          rintro e w5 ⟨rfl, hb5⟩
          go_wp2_with fail
          (with_reducible refine (rs _).mono ?_)
          rintro e w' ⟨rfl, rfl⟩
          go_wp2_with fail
          (with_reducible refine (rn _).mono ?_)
          rintro e w' ⟨rfl, rfl⟩
          go_wp2_with fail
          (with_reducible refine (rs _).mono ?_)
          rintro e w' ⟨rfl, rfl⟩
          go_wp2_with fail
          go_ret
          exact ⟨by first | (simp; done) | (simp; omega), (bel_trans (bel_trans (bel_trans (bel_trans hb1 hb2) hb3) hb4) hb5)⟩
      · by_cases h9 : sv = 0
        · subst h9
          clear nz w7 rn
          go_enter Tryd.func3, Tryd.ntmps3
          (try simp only [List.append_eq, List.cons_append, List.nil_append])
          go_wp2_with fail
          (with_reducible refine (awake_any _).mono ?_)
          rintro e w1 ⟨rfl, hb1⟩
          go_wp2_with fail
          (with_reducible refine (rw1 _).mono ?_)
          rintro e w2 ⟨rfl, hb2⟩
          go_wp2_with fail
          (with_reducible refine (r1 _).mono ?_)
          rintro e w3 ⟨rfl, hb3⟩
          go_wp2_with fail
          (with_reducible refine (rd _).mono ?_)
          rintro e w4 ⟨rfl, hb4⟩
          go_wp2_with fail
          (with_reducible refine (rr _).mono ?_)
          rintro e w5 ⟨rfl, hb5⟩
          go_wp2_with fail
          (with_reducible refine (rs _).mono ?_)
          rintro e w' ⟨rfl, rfl⟩
          go_wp2_with fail
          go_ret
          exact ⟨by first | (simp; done) | (simp; omega), (bel_trans (bel_trans (bel_trans (bel_trans hb1 hb2) hb3) hb4) hb5)⟩
        · obtain rfl := nz h9
          have h8 : (sv != 0) = true := bne_iff_ne.2 h9
          clear nz w7 h9
          go_enter Tryd.func3, Tryd.ntmps3
          (try simp only [List.append_eq, List.cons_append, List.nil_append])
          go_wp2_with fail
          (with_reducible refine (awake_any _).mono ?_)
          rintro e w1 ⟨rfl, hb1⟩
          go_wp2_with fail
          (with_reducible refine (rw1 _).mono ?_)
          rintro e w2 ⟨rfl, hb2⟩
          go_wp2_with fail
          (with_reducible refine (r1 _).mono ?_)
          rintro e w3 ⟨rfl, hb3⟩
          go_wp2_with fail
          (with_reducible refine (rd _).mono ?_)
          rintro e w4 ⟨rfl, hb4⟩
          go_wp2_with fail
          (with_reducible refine (rr _).mono ?_)
          rintro e w5 ⟨rfl, hb5⟩
          go_wp2_with fail
          (with_reducible refine (rs _).mono ?_)
          rintro e w' ⟨rfl, rfl⟩
          go_wp2_with fail
          (with_reducible refine (rn _).mono ?_)
          rintro e w' ⟨rfl, rfl⟩
          go_wp2_with fail
          go_ret
          exact ⟨by first | (simp; done) | (simp; omega), (bel_trans (bel_trans (bel_trans (bel_trans hb1 hb2) hb3) hb4) hb5)⟩
    · skip
      rcases zk with ⟨rfl, zk⟩ | ⟨rfl, zk⟩
      · by_cases hl : 15 < (s.size : Int) - 1
        · by_cases h9 : sv = 0
          · subst h9
            clear nz w7 rn
            go_enter Tryd.func3, Tryd.ntmps3
            (try simp only [List.append_eq, List.cons_append, List.nil_append])
            go_wp2_with fail
            (with_reducible refine (awake_any _).mono ?_)
            rintro e w1 ⟨rfl, hb1⟩
            go_wp2_with fail
            (with_reducible refine (rw1 _).mono ?_)
            rintro e w2 ⟨rfl, hb2⟩
            go_wp2_with fail
            (with_reducible refine (r1 _).mono ?_)
            rintro e w3 ⟨rfl, hb3⟩
            go_wp2_with fail
            (with_reducible refine (rd _).mono ?_)
            rintro e w4 ⟨rfl, hb4⟩
            go_wp2_with fail
            (with_reducible refine (rr _).mono ?_)
            rintro e w5 ⟨rfl, hb5⟩
            go_wp2_with fail
            (with_reducible refine (rs _).mono ?_)
            rintro e w' ⟨rfl, rfl⟩
            go_wp2_with fail
            go_ret
            exact ⟨by first | (simp; done) | (simp; omega), (bel_trans (bel_trans (bel_trans (bel_trans hb1 hb2) hb3) hb4) hb5)⟩
          · obtain rfl := nz h9
            have h8 : (sv != 0) = true := bne_iff_ne.2 h9
            clear nz w7 h9
            go_enter Tryd.func3, Tryd.ntmps3
            (try simp only [List.append_eq, List.cons_append, List.nil_append])
            go_wp2_with fail
            (with_reducible refine (awake_any _).mono ?_)
            rintro e w1 ⟨rfl, hb1⟩
            go_wp2_with fail
            (with_reducible refine (rw1 _).mono ?_)
            rintro e w2 ⟨rfl, hb2⟩
            go_wp2_with fail
            (with_reducible refine (r1 _).mono ?_)
            rintro e w3 ⟨rfl, hb3⟩
            go_wp2_with fail
            (with_reducible refine (rd _).mono ?_)
            rintro e w4 ⟨rfl, hb4⟩
            go_wp2_with fail
            (with_reducible refine (rr _).mono ?_)
            rintro e w5 ⟨rfl, hb5⟩
            go_wp2_with fail
            (with_reducible refine (rs _).mono ?_)
            rintro e w' ⟨rfl, rfl⟩
            go_wp2_with fail
            (with_reducible refine (rn _).mono ?_)
            rintro e w' ⟨rfl, rfl⟩
            go_wp2_with fail
            go_ret
            exact ⟨by first | (simp; done) | (simp; omega), (bel_trans (bel_trans (bel_trans (bel_trans hb1 hb2) hb3) hb4) hb5)⟩
        · have h2 : 2 ≤ sv := w7 rfl (by omega)
          obtain rfl := nz (by omega)
          have h8 : (sv != 0) = true := bne_iff_ne.2 (by omega)
          clear nz w7
          go_enter Tryd.func3, Tryd.ntmps3
          (try simp only [List.append_eq, List.cons_append, List.nil_append])
          go_wp2_with fail
          (with_reducible refine (awake_any _).mono ?_)
          rintro e w1 ⟨rfl, hb1⟩
          go_wp2_with fail
          (with_reducible refine (rw1 _).mono ?_)
          rintro e w2 ⟨rfl, hb2⟩
          go_wp2_with fail
          (with_reducible refine (r1 _).mono ?_)
          rintro e w3 ⟨rfl, hb3⟩
          go_wp2_with fail
          (with_reducible refine (rd _).mono ?_)
          rintro e w4 ⟨rfl, hb4⟩
          go_wp2_with fail
          (with_reducible refine (rr _).mono ?_)
          rintro e w5 ⟨rfl, hb5⟩
          go_wp2_with fail
          (with_reducible refine (rs _).mono ?_)
          rintro e w' ⟨rfl, rfl⟩
          go_wp2_with fail
          (with_reducible refine (rn _).mono ?_)
          rintro e w' ⟨rfl, rfl⟩
          go_wp2_with fail
          (with_reducible refine (rs _).mono ?_)
          rintro e w' ⟨rfl, rfl⟩
          go_wp2_with fail
          go_ret
          exact ⟨by first | (simp; done) | (simp; omega), (bel_trans (bel_trans (bel_trans (bel_trans hb1 hb2) hb3) hb4) hb5)⟩
      · by_cases h9 : sv = 0
        · subst h9
          clear nz w7 rn
          go_enter Tryd.func3, Tryd.ntmps3
          (try simp only [List.append_eq, List.cons_append, List.nil_append])
          go_wp2_with fail
          (with_reducible refine (awake_any _).mono ?_)
          rintro e w1 ⟨rfl, hb1⟩
          go_wp2_with fail
          (with_reducible refine (rw1 _).mono ?_)
          rintro e w2 ⟨rfl, hb2⟩
          go_wp2_with fail
          (with_reducible refine (r1 _).mono ?_)
          rintro e w3 ⟨rfl, hb3⟩
          go_wp2_with fail
          (with_reducible refine (rd _).mono ?_)
          rintro e w4 ⟨rfl, hb4⟩
          go_wp2_with fail
          (with_reducible refine (rr _).mono ?_)
          rintro e w5 ⟨rfl, hb5⟩
          go_wp2_with fail
          (with_reducible refine (rs _).mono ?_)
          rintro e w' ⟨rfl, rfl⟩
          go_wp2_with fail
          go_ret
          exact ⟨by first | (simp; done) | (simp; omega), (bel_trans (bel_trans (bel_trans (bel_trans hb1 hb2) hb3) hb4) hb5)⟩
        · obtain rfl := nz h9
          have h8 : (sv != 0) = true := bne_iff_ne.2 h9
          clear nz w7 h9
          go_enter Tryd.func3, Tryd.ntmps3
          (try simp only [List.append_eq, List.cons_append, List.nil_append])
          go_wp2_with fail
          (with_reducible refine (awake_any _).mono ?_)
          rintro e w1 ⟨rfl, hb1⟩
          go_wp2_with fail
          (with_reducible refine (rw1 _).mono ?_)
          rintro e w2 ⟨rfl, hb2⟩
          go_wp2_with fail
          (with_reducible refine (r1 _).mono ?_)
          rintro e w3 ⟨rfl, hb3⟩
          go_wp2_with fail
          (with_reducible refine (rd _).mono ?_)
          rintro e w4 ⟨rfl, hb4⟩
          go_wp2_with fail
          (with_reducible refine (rr _).mono ?_)
          rintro e w5 ⟨rfl, hb5⟩
          go_wp2_with fail
          (with_reducible refine (rs _).mono ?_)
          rintro e w' ⟨rfl, rfl⟩
          go_wp2_with fail
          (with_reducible refine (rn _).mono ?_)
          rintro e w' ⟨rfl, rfl⟩
          go_wp2_with fail
          go_ret
          exact ⟨by first | (simp; done) | (simp; omega), (bel_trans (bel_trans (bel_trans (bel_trans hb1 hb2) hb3) hb4) hb5)⟩
end Go.Proofs.YtocgknhpecobfaaDoor.Sc
