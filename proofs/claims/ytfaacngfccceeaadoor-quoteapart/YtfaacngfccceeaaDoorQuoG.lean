/- The law QuoteApart: its walk. -/
import Derived.Test.YtfaacngfccceeaaDoorQuoF
namespace Go.Proofs.YtfaacngfccceeaaDoor
open Go.RowKit
set_option linter.unusedVariables false

theorem bel_drewN {B : Nat} {a w : World} (h : Below B a w) (n : Nat) : Below B a (w.drewN n) := ⟨h.os, h.tape, h.output, h.size, h.block⟩

set_option maxHeartbeats 1000000 in
set_option maxRecDepth 100000 in
theorem apart_any (a b : ByteArray) (w : World) (za : a.size ≤ 9223372036854775807) (zb : b.size ≤ 9223372036854775807) (ht : Tab w) :
    Calls Tryd.prog 5 #[.string a, .string b] w fun e w' => e = .returned (.bool true) ∧ Below w.heap.size w w' := by
  by_cases ha : 300 < a.size
  · have ga : (300 : Int) < (a.size : Int) := by omega
    clear ha
    go_enter Tryd.func5, Tryd.ntmps5
    (try simp only [List.append_eq, List.cons_append, List.nil_append])
    go_wp2_with fail
    (with_reducible refine (awake_any _ ht).mono ?_)
    rintro e w1 ⟨rfl, hb1⟩
    go_wp2_with fail
    go_ret
    exact ⟨by first | (simp; done) | (simp; omega), hb1⟩
  have ga : ¬ (300 : Int) < (a.size : Int) := by omega
  by_cases hb : 300 < b.size
  · have gb : (300 : Int) < (b.size : Int) := by omega
    clear ha hb
    go_enter Tryd.func5, Tryd.ntmps5
    (try simp only [List.append_eq, List.cons_append, List.nil_append])
    go_wp2_with fail
    (with_reducible refine (awake_any _ ht).mono ?_)
    rintro e w1 ⟨rfl, hb1⟩
    go_wp2_with fail
    go_ret
    exact ⟨by first | (simp; done) | (simp; omega), hb1⟩
  have gb : ¬ (300 : Int) < (b.size : Int) := by omega
  have la : a.data.toList.length = a.size := (Lib.size_eq a).symm
  have lb : b.data.toList.length = b.size := (Lib.size_eq b).symm
  cases hqa : qtA a.data.toList with
  | none =>
    have r1 := quote_n (A := a) (l := a.data.toList) rfl hqa
    cases hqb : qtA b.data.toList with
    | none =>
      have r2 := quote_n (A := b) (l := b.data.toList) rfl hqb
      clear hqa hqb la lb ha hb
      go_enter Tryd.func5, Tryd.ntmps5
      (try simp only [List.append_eq, List.cons_append, List.nil_append])
      go_wp2_with fail
      (with_reducible refine (awake_any _ ht).mono ?_)
      rintro e w1 ⟨rfl, hb1⟩
      go_wp2_with fail
      (with_reducible refine (r1 _).mono ?_)
      rintro e w2 ⟨rfl, hb2⟩
      go_wp2_with fail
      (with_reducible refine (r2 _).mono ?_)
      rintro e w3 ⟨rfl, hb3⟩
      go_wp2_with fail
      go_ret
      exact ⟨by first | (simp; done) | (simp; omega), (bel_trans (bel_trans hb1 hb2) hb3)⟩
    | some ds =>
      obtain ⟨R2, hR2, r2⟩ := quote_y (A := b) (l := b.data.toList) rfl hqb (by omega)
      clear hqa hqb la lb ha hb hR2
      go_enter Tryd.func5, Tryd.ntmps5
      (try simp only [List.append_eq, List.cons_append, List.nil_append])
      go_wp2_with fail
      (with_reducible refine (awake_any _ ht).mono ?_)
      rintro e w1 ⟨rfl, hb1⟩
      go_wp2_with fail
      (with_reducible refine (r1 _).mono ?_)
      rintro e w2 ⟨rfl, hb2⟩
      go_wp2_with fail
      (with_reducible refine (r2 _ (ht.below (bel_trans hb1 hb2))).mono ?_)
      rintro e w3 ⟨rfl, hb3⟩
      go_wp2_with fail
      go_ret
      exact ⟨by first | (simp; done) | (simp; omega), (bel_trans (bel_trans hb1 hb2) hb3)⟩
  | some cs =>
    obtain ⟨R1, hR1, r1⟩ := quote_y (A := a) (l := a.data.toList) rfl hqa (by omega)
    cases hqb : qtA b.data.toList with
    | none =>
      have r2 := quote_n (A := b) (l := b.data.toList) rfl hqb
      clear hqa hqb la lb ha hb hR1
      go_enter Tryd.func5, Tryd.ntmps5
      (try simp only [List.append_eq, List.cons_append, List.nil_append])
      go_wp2_with fail
      (with_reducible refine (awake_any _ ht).mono ?_)
      rintro e w1 ⟨rfl, hb1⟩
      go_wp2_with fail
      (with_reducible refine (r1 _ (ht.below hb1)).mono ?_)
      rintro e w2 ⟨rfl, hb2⟩
      go_wp2_with fail
      (with_reducible refine (r2 _).mono ?_)
      rintro e w3 ⟨rfl, hb3⟩
      go_wp2_with fail
      go_ret
      exact ⟨by first | (simp; done) | (simp; omega), (bel_trans (bel_trans hb1 hb2) hb3)⟩
    | some ds =>
      obtain ⟨R2, hR2, r2⟩ := quote_y (A := b) (l := b.data.toList) rfl hqb (by omega)
      have qa := qtA_iff.1 hqa
      have qb' := qtA_iff.1 hqb
      have hqc : qtA (a.data.toList ++ b.data.toList) = some (cs ++ ds) := qtA_iff.2 (qa.append qb')
      obtain ⟨S, hS, s1⟩ := sadd' (A := a) (B := b) (a := a.data.toList) (b := b.data.toList) rfl rfl (by omega)
      obtain ⟨R3, hR3, r3⟩ := quote_y (A := S) hS hqc (by simp; omega)
      have z1 := qa.len
      have z2 := qb'.len
      obtain ⟨P1, hP1, e1⟩ : ∃ P, P = mkb (34 :: qb cs) ∧ R1.extract 0 ((qb cs).length + 1) = P := ⟨_, rfl, by
        rw [← mkb_of (R1.extract 0 ((qb cs).length + 1)), Lib.extract_data, hR1, mkb_data]
        congr 1; simp [quo]⟩
      obtain ⟨P2, hP2, e2⟩ : ∃ P, P = mkb (qb ds ++ [34]) ∧ R2.extract 1 R2.size = P := ⟨_, rfl, by
        rw [← mkb_of (R2.extract 1 R2.size), Lib.extract_data, hR2, mkb_data, mkb_size]
        congr 1; simp [quo]; apply List.take_of_length_le; simp⟩
      obtain ⟨R4, hR4, s2⟩ := sadd' hP1 hP2 (by simp; omega)
      obtain rfl : R4 = R3 := by rw [hR4, hR3]; congr 1; simp [quo, qb_app]
      have k1 : R1.size = (qb cs).length + 1 + 1 := by rw [hR1, mkb_size, quo_len]
      have k2 : R2.size = (qb ds).length + 2 := by rw [hR2, mkb_size, quo_len]
      have t3 : (R4.toList == R4.toList) = true := by simp
      have hcase : ((R1.toList == R2.toList) = true ∧ (a.toList == b.toList) = true) ∨ ((R1.toList == R2.toList) = false ∧ (a.toList == b.toList) = false) := by
        by_cases e : a = b
        · subst e
          rw [hqa] at hqb
          cases hqb
          left; rw [hR1, hR2]; simp
        · right
          have e3 : ¬ a.toList = b.toList := fun h => e (by
            rw [Lib.toList_data, Lib.toList_data] at h
            rw [← mkb_of a, ← mkb_of b, h])
          have e4 : ¬ R1.toList = R2.toList := fun h => e (by
            rw [hR1, hR2, mkb_toList, mkb_toList] at h
            have := qa.inj qb' h
            rw [← mkb_of a, ← mkb_of b, this])
          simp [e3, e4]
      generalize (qb cs).length = n1 at *
      generalize (qb ds).length = n2 at *
      have g1 : ¬ ((n1 : Int) + 1 + 1 < 2) := by omega
      have g2 : ¬ ((n2 : Int) + 2 < 2) := by omega
      have g3 : ¬ ((R1.size : Int) < 2) := by omega
      have g4 : ¬ ((R2.size : Int) < 2) := by omega
      have g5 : (1 : Int) ≤ (R2.size : Int) := by omega
      have g6 : 1 ≤ R2.size := by omega
      have g7 : IntKind.i64.wrap ((R1.size : Int) - 1) = ((n1 + 1 : Nat) : Int) := by
        rw [k1]; unfold IntKind.wrap; simp [IntKind.bits, IntKind.signed]; omega
      have g8 : n1 + 1 ≤ R1.size := by omega
      have K1 := Lib.hid k1
      have K2 := Lib.hid k2
      clear hqa hqb la lb ha hb hR1 hR2 hR3 hR4 hP1 hP2 hS hqc qa qb' z1 z2 k1 k2
      rcases hcase with ⟨c1, c2⟩ | ⟨c1, c2⟩
      all_goals
        go_enter Tryd.func5, Tryd.ntmps5
        (try simp only [List.append_eq, List.cons_append, List.nil_append])
        go_wp2_with fail
        (with_reducible refine (awake_any _ ht).mono ?_)
        rintro e w1 ⟨rfl, hb1⟩
        go_wp2_with fail
        (with_reducible refine (r1 _ (ht.below hb1)).mono ?_)
        rintro e w2 ⟨rfl, hb2⟩
        go_wp2_with fail
        (with_reducible refine (r2 _ (ht.below (bel_trans hb1 hb2))).mono ?_)
        rintro e w3 ⟨rfl, hb3⟩
        go_wp2_with fail
        (with_reducible refine (r3 _ (ht.below (bel_trans (bel_trans hb1 hb2) hb3))).mono ?_)
        rintro e w4 ⟨rfl, hb4⟩
        go_wp2_with fail
        go_quiet (fail)
        go_wp2_with fail
        go_ret
        exact ⟨by first | rfl | (simp; done) | (simp [c1, c2]; done), bel_drewN (bel_trans (bel_trans (bel_trans hb1 hb2) hb3) hb4) _⟩
end Go.Proofs.YtfaacngfccceeaaDoor
