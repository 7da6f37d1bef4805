/- The law ScanFirst: its mathematics and its walk. -/
import Derived.Test.YtpibpfeimbipkaaScanD
namespace Go.Proofs.Ytpibpfeimbipkaa
open Go.RowKit
set_option linter.unusedVariables false

theorem atE_app (f : List UInt8 → Nat) (a x : List UInt8) : atE f (a ++ x) (a.length : Nat) = a.length + f x := by
  rw [atE_in (by simp), List.drop_left]
theorem nm_app (s b : List UInt8) : nmT (s ++ 32 :: b) = nmT s := by
  cases s with
  | nil => rw [List.nil_append, nmT_cons, if_neg (by decide)]; rfl
  | cons c t =>
    rw [List.cons_append, nmT_cons, nmT_cons]
    split
    · rw [← List.cons_append, rn_halt _ _ (by decide)]
    · rfl
theorem st_app {s b : List UInt8} (h : st s ≠ 0) (hb : st s < s.length ∨ ∃ t, b = 10 :: t) : st (s ++ b) = st s := by
  cases s with
  | nil => exact absurd rfl h
  | cons c t =>
    rw [st_cons] at h hb ⊢
    rw [List.cons_append, st_cons]
    by_cases h1 : wsI c.toNat = true
    · rw [if_pos h1, if_pos h1]
    · rw [if_neg h1] at h hb ⊢
      rw [if_neg h1]
      by_cases h2 : c = 35
      · rw [if_pos h2] at hb ⊢
        rw [if_pos h2, ← List.cons_append]
        rcases hb with hb | ⟨u, rfl⟩
        · exact rn_part _ hb
        · exact rn_halt _ _ (by decide)
      · rw [if_neg h2] at h hb ⊢
        rw [if_neg h2]
        by_cases h3 : mkL.isPrefixOf (c :: t) = true
        · have h4 : mkL.isPrefixOf (c :: (t ++ b)) = true := by
            have := List.isPrefixOf_iff_prefix.1 h3
            exact List.isPrefixOf_iff_prefix.2 (by rw [← List.cons_append]; exact this.trans (List.prefix_append _ _))
          rw [if_pos h3, if_pos h4]
        · rw [if_neg h3] at h; exact absurd rfl h
theorem st_none {s : List UInt8} (b : List UInt8) (h : st s = 0) (hl : 0 < s.length) (hc : (s[0]'hl).toNat ≠ 239) : st (s ++ b) = 0 := by
  cases s with
  | nil => simp at hl
  | cons c t =>
    rw [st_cons] at h
    rw [List.cons_append, st_cons]
    by_cases h1 : wsI c.toNat = true
    · rw [if_pos h1] at h; omega
    · rw [if_neg h1] at h ⊢
      by_cases h2 : c = 35
      · rw [if_pos h2, rn_yes _ (by rw [h2]; decide)] at h; omega
      · rw [if_neg h2]
        have h4 : mkL.isPrefixOf (c :: (t ++ b)) = false := by
          have hc2 : (239 == c) = false := beq_false_of_ne (fun e => hc (by rw [show (c :: t)[0] = c from rfl, ← e]; rfl))
          simp only [mkL, List.isPrefixOf, hc2, Bool.false_and]
        rw [h4]; rfl
theorem bl_app (s b : List UInt8) (h : blT s < s.length) (hc : (s[blT s]'h).toNat ≠ 239) : blT (s ++ b) = blT s := by
  rcases Nat.eq_zero_or_pos (st s) with h0 | h0
  · have e := blT_stop h0
    have hc2 : (s[0]'(by omega)).toNat ≠ 239 := by
      have : s[blT s]'h = s[0]'(by omega) := by congr 1
      rw [← this]; exact hc
    rw [e, blT_stop (st_none b h0 (by omega) hc2)]
  · have h1 := st_le s
    have hd : (s.drop (st s)).length = s.length - st s := by simp
    have e := blT_go (l := s) rfl (by omega)
    have ha := st_app (b := b) (s := s) (by omega) (.inl (by omega))
    have hlt : blT (s.drop (st s)) < (s.drop (st s)).length := by omega
    have hc2 : ((s.drop (st s))[blT (s.drop (st s))]'hlt).toNat ≠ 239 := by
      rw [List.getElem_drop]
      have : s[blT s]'h = s[st s + blT (s.drop (st s))]'(by omega) := by congr 1
      rw [← this]; exact hc
    have ih := bl_app (s.drop (st s)) b hlt hc2
    rw [blT_go ha (by omega), List.drop_append_of_le_length h1, ih, ← e]
termination_by s.length
theorem bl_over (s b : List UInt8) (h : blT s = s.length) : s.length ≤ blT (s ++ 10 :: b) := by
  rcases Nat.eq_zero_or_pos (st s) with h0 | h0
  · rw [blT_stop h0] at h; omega
  · have h1 := st_le s
    have hd : (s.drop (st s)).length = s.length - st s := by simp
    have e := blT_go (l := s) rfl (by omega)
    have ha := st_app (b := 10 :: b) (s := s) (by omega) (.inr ⟨b, rfl⟩)
    have ih := bl_over (s.drop (st s)) b (by omega)
    rw [blT_go ha (by omega), List.drop_append_of_le_length h1]
    omega
termination_by s.length

set_option maxHeartbeats 2000000 in
set_option maxRecDepth 100000 in
theorem first_any (a s b : ByteArray) (w : World) (za : a.size ≤ 9223372036854775807) (zs : s.size ≤ 9223372036854775807) (zb : b.size ≤ 9223372036854775807) :
    Calls Try.prog 5 #[.string a, .string s, .string b] w fun e w' => e = .returned (.bool true) ∧ Below w.heap.size w w' := by
  by_cases ha : 300 < a.size
  · have ga : (300 : Int) < (a.size : Int) := by omega
    clear ha
    go_enter Try.func5, Try.ntmps5
    (try simp only [List.append_eq, List.cons_append, List.nil_append])
    go_wp2_with fail
    (with_reducible refine (awake_any _).mono ?_)
    rintro e w1 ⟨rfl, hb1⟩
    go_wp2_with fail
    go_ret
    exact ⟨by first | (simp; done) | (simp; omega), hb1⟩
  by_cases hs : 300 < s.size
  · have ga : ¬ (300 : Int) < (a.size : Int) := by omega
    have gs : (300 : Int) < (s.size : Int) := by omega
    clear ha hs
    go_enter Try.func5, Try.ntmps5
    (try simp only [List.append_eq, List.cons_append, List.nil_append])
    go_wp2_with fail
    (with_reducible refine (awake_any _).mono ?_)
    rintro e w1 ⟨rfl, hb1⟩
    go_wp2_with fail
    go_ret
    exact ⟨by first | (simp; done) | (simp; omega), hb1⟩
  by_cases hb : 300 < b.size
  · have ga : ¬ (300 : Int) < (a.size : Int) := by omega
    have gs : ¬ (300 : Int) < (s.size : Int) := by omega
    have gb : (300 : Int) < (b.size : Int) := by omega
    clear ha hs hb
    go_enter Try.func5, Try.ntmps5
    (try simp only [List.append_eq, List.cons_append, List.nil_append])
    go_wp2_with fail
    (with_reducible refine (awake_any _).mono ?_)
    rintro e w1 ⟨rfl, hb1⟩
    go_wp2_with fail
    go_ret
    exact ⟨by first | (simp; done) | (simp; omega), hb1⟩
  have ga : ¬ (300 : Int) < (a.size : Int) := by omega
  have gs : ¬ (300 : Int) < (s.size : Int) := by omega
  have gb : ¬ (300 : Int) < (b.size : Int) := by omega
  have la : a.data.toList.length = a.size := (Lib.size_eq a).symm
  have ls : s.data.toList.length = s.size := (Lib.size_eq s).symm
  have lb : b.data.toList.length = b.size := (Lib.size_eq b).symm
  obtain ⟨S1, h1, s1⟩ := sadd' (A := a) (B := s) (mkb_of a).symm (mkb_of s).symm (by omega)
  obtain ⟨S2, h2, s2⟩ := sadd' (A := S1) (B := ⟨#[32]⟩) (b := [32]) h1 rfl (by simp; omega)
  obtain ⟨S3, h3, s3⟩ := sadd' (A := S2) (B := b) h2 (mkb_of b).symm (by simp; omega)
  obtain ⟨S4, h4, s4⟩ := sadd' (A := S1) (B := ⟨#[120]⟩) (b := [120]) h1 rfl (by simp; omega)
  obtain ⟨S5, h5, s5⟩ := sadd' (A := S4) (B := b) h4 (mkb_of b).symm (by simp; omega)
  obtain ⟨S6, h6, s6⟩ := sadd' (A := S1) (B := b) h1 (mkb_of b).symm (by simp; omega)
  obtain ⟨S7, h7, s7⟩ := sadd' (A := S1) (B := ⟨#[10]⟩) (b := [10]) h1 rfl (by simp; omega)
  obtain ⟨S8, h8, s8⟩ := sadd' (A := S7) (B := b) h7 (mkb_of b).symm (by simp; omega)
  have r1 := fun w => name_b (w := w) (mkb_of s).symm (atE_zero (f := nmT)) (by omega)
  have r2 := fun w => digits_b (w := w) (mkb_of s).symm (atE_zero (f := rn dgI)) (by omega)
  have r3 := fun w => blank_b (w := w) (mkb_of s).symm (atE_zero (f := blT)) (by omega)
  have v4 : atE nmT (a.data.toList ++ s.data.toList ++ [32] ++ b.data.toList) (a.size : Int) = a.size + nmT s.data.toList := by
    have := atE_app nmT a.data.toList (s.data.toList ++ 32 :: b.data.toList)
    rw [nm_app, la] at this
    rw [← this]; simp
  have v5 : atE (rn dgI) (a.data.toList ++ s.data.toList ++ [120] ++ b.data.toList) (a.size : Int) = a.size + rn dgI s.data.toList := by
    have := atE_app (rn dgI) a.data.toList (s.data.toList ++ 120 :: b.data.toList)
    rw [rn_halt _ _ (by decide), la] at this
    rw [← this]; simp
  have r4 := fun w => name_b (w := w) h3 v4 (by simp; omega)
  have r5 := fun w => digits_b (w := w) h5 v5 (by simp; omega)
  have hn := nmT_le s.data.toList
  have hd := rn_le dgI s.data.toList
  have hB := blT_le s.data.toList
  rw [ls] at hn hd hB
  clear v4 v5
  by_cases hB2 : blT s.data.toList < s.size
  · have g1 : ((blT s.data.toList : Nat) : Int) < (s.size : Int) := by omega
    by_cases hc : ((s[blT s.data.toList]'hB2).toNat : Int) = 239
    · generalize nmT s.data.toList = N at *
      generalize rn dgI s.data.toList = D at *
      generalize blT s.data.toList = B at *
      clear ha hs hb la ls lb h1 h2 h3 h4 h5 h6 h7 h8 s6 s7 s8
      go_enter Try.func5, Try.ntmps5
      (try simp only [List.append_eq, List.cons_append, List.nil_append])
      go_wp2_with fail
      (with_reducible refine (awake_any _).mono ?_)
      rintro e w1 ⟨rfl, hb1⟩
      go_wp2_with fail
      (with_reducible refine (r1 _).mono ?_)
      rintro e w2 ⟨rfl, hb2⟩
      go_wp2_with fail
      (with_reducible refine (r2 _).mono ?_)
      rintro e w3 ⟨rfl, hb3⟩
      go_wp2_with fail
      (with_reducible refine (r3 _).mono ?_)
      rintro e w4 ⟨rfl, hb4⟩
      go_wp2_with fail
      (with_reducible refine (r4 _).mono ?_)
      rintro e w5 ⟨rfl, hb5⟩
      go_wp2_with fail
      (with_reducible refine (r5 _).mono ?_)
      rintro e w6 ⟨rfl, hb6⟩
      go_wp2_with fail
      go_ret
      exact ⟨by first | (simp; done) | (simp; omega), (bel_trans (bel_trans (bel_trans (bel_trans (bel_trans hb1 hb2) hb3) hb4) hb5) hb6)⟩
    · have v6 : atE blT (a.data.toList ++ s.data.toList ++ b.data.toList) (a.size : Int) = a.size + blT s.data.toList := by
        have := atE_app blT a.data.toList (s.data.toList ++ b.data.toList)
        rw [bl_app s.data.toList b.data.toList (by rw [ls]; exact hB2) (by intro e; apply hc; exact congrArg (fun n : Nat => (n : Int)) e), la] at this
        rw [← this]; simp
      have r6 := fun w => blank_b (w := w) h6 v6 (by simp; omega)
      have hc2 := beq_false_of_ne hc
      clear v6
      generalize nmT s.data.toList = N at *
      generalize rn dgI s.data.toList = D at *
      generalize blT s.data.toList = B at *
      clear ha hs hb la ls lb h1 h2 h3 h4 h5 h6 h7 h8 s7 s8 hc
      go_enter Try.func5, Try.ntmps5
      (try simp only [List.append_eq, List.cons_append, List.nil_append])
      go_wp2_with fail
      (with_reducible refine (awake_any _).mono ?_)
      rintro e w1 ⟨rfl, hb1⟩
      go_wp2_with fail
      (with_reducible refine (r1 _).mono ?_)
      rintro e w2 ⟨rfl, hb2⟩
      go_wp2_with fail
      (with_reducible refine (r2 _).mono ?_)
      rintro e w3 ⟨rfl, hb3⟩
      go_wp2_with fail
      (with_reducible refine (r3 _).mono ?_)
      rintro e w4 ⟨rfl, hb4⟩
      go_wp2_with fail
      (with_reducible refine (r4 _).mono ?_)
      rintro e w5 ⟨rfl, hb5⟩
      go_wp2_with fail
      (with_reducible refine (r5 _).mono ?_)
      rintro e w6 ⟨rfl, hb6⟩
      go_wp2_with fail
      (with_reducible refine (r6 _).mono ?_)
      rintro e w7 ⟨rfl, hb7⟩
      go_wp2_with fail
      go_ret
      exact ⟨by first | (simp; done) | (simp; omega), (bel_trans (bel_trans (bel_trans (bel_trans (bel_trans (bel_trans hb1 hb2) hb3) hb4) hb5) hb6) hb7)⟩
  · have hB3 : blT s.data.toList = s.size := by omega
    have v6 : atE blT (a.data.toList ++ s.data.toList ++ [10] ++ b.data.toList) (a.size : Int) = a.size + blT (s.data.toList ++ 10 :: b.data.toList) := by
      have := atE_app blT a.data.toList (s.data.toList ++ 10 :: b.data.toList)
      rw [la] at this
      rw [← this]; simp
    have r6 := fun w => blank_b (w := w) h8 v6 (by simp; omega)
    have hov := bl_over s.data.toList b.data.toList (by omega)
    have hov2 := blT_le (s.data.toList ++ 10 :: b.data.toList)
    rw [ls] at hov
    rw [List.length_append, List.length_cons, ls, lb] at hov2
    rw [hB3] at r3
    clear v6 hB3 hB hB2
    generalize nmT s.data.toList = N at *
    generalize rn dgI s.data.toList = D at *
    generalize blT (s.data.toList ++ 10 :: b.data.toList) = B at *
    have g1 : ¬ (s.size : Int) < (s.size : Int) := by omega
    have g2 : (a.size : Int) + (s.size : Int) ≤ (a.size : Int) + (B : Int) := by omega
    clear ha hs hb la ls lb h1 h2 h3 h4 h5 h6 h7 h8 s6
    go_enter Try.func5, Try.ntmps5
    (try simp only [List.append_eq, List.cons_append, List.nil_append])
    go_wp2_with fail
    (with_reducible refine (awake_any _).mono ?_)
    rintro e w1 ⟨rfl, hb1⟩
    go_wp2_with fail
    (with_reducible refine (r1 _).mono ?_)
    rintro e w2 ⟨rfl, hb2⟩
    go_wp2_with fail
    (with_reducible refine (r2 _).mono ?_)
    rintro e w3 ⟨rfl, hb3⟩
    go_wp2_with fail
    (with_reducible refine (r3 _).mono ?_)
    rintro e w4 ⟨rfl, hb4⟩
    go_wp2_with fail
    (with_reducible refine (r4 _).mono ?_)
    rintro e w5 ⟨rfl, hb5⟩
    go_wp2_with fail
    (with_reducible refine (r5 _).mono ?_)
    rintro e w6 ⟨rfl, hb6⟩
    go_wp2_with fail
    (with_reducible refine (r6 _).mono ?_)
    rintro e w7 ⟨rfl, hb7⟩
    go_wp2_with fail
    go_ret
    exact ⟨by first | (simp; done) | (simp; omega), (bel_trans (bel_trans (bel_trans (bel_trans (bel_trans (bel_trans hb1 hb2) hb3) hb4) hb5) hb6) hb7)⟩
end Go.Proofs.Ytpibpfeimbipkaa
