/- The law FoldEnds: its walk. -/
import Derived.Test.YtpmdkjbkcncnnaaFoldF
namespace Go.Proofs.Ytpmdkjbkcncnnaa
open Go.RowKit
set_option linter.unusedVariables false

theorem raw_c {A : ByteArray} {l : List UInt8} {i e : Int} {v : List UInt8} {n : Nat} {b : Bool} (hA : A = mkb l) (hv : rawA l i = ⟨v, n, b⟩) (he : i + (n : Int) = e) (hl : l.length ≤ 100000000) (w : World) :
    Calls Try.prog 11 #[.string A, .int .i64 i] w fun e' w' => e' = .returned (.tuple #[.string (mkb v), .int .i64 e, .bool b]) ∧ Below w.heap.size w w' := by
  subst he; exact raw_b hA hv hl w

set_option maxHeartbeats 1000000 in
set_option maxRecDepth 100000 in
theorem ends_any (s : ByteArray) (i : Int) (b : ByteArray) (w : World) (zs : s.size ≤ 9223372036854775807) (hi0 : -9223372036854775808 ≤ i) (hi : i ≤ 9223372036854775807) (zb : b.size ≤ 9223372036854775807) :
    Calls Try.prog 4 #[.string s, .int .i64 i, .string b] w fun e w' => e = .returned (.bool true) ∧ Below w.heap.size w w' := by
  by_cases hs : 300 < s.size
  · have gs : (300 : Int) < (s.size : Int) := by omega
    clear hs
    go_enter Try.func4, Try.ntmps4
    (try simp only [List.append_eq, List.cons_append, List.nil_append])
    go_wp2_with fail
    (with_reducible refine (awake_any _).mono ?_)
    rintro e w1 ⟨rfl, hb1⟩
    go_wp2_with fail
    go_ret
    exact ⟨by first | (simp; done) | (simp; omega), hb1⟩
  have gs : ¬ (300 : Int) < (s.size : Int) := by omega
  by_cases hb : 300 < b.size
  · have gb : (300 : Int) < (b.size : Int) := by omega
    clear hs hb
    go_enter Try.func4, Try.ntmps4
    (try simp only [List.append_eq, List.cons_append, List.nil_append])
    go_wp2_with fail
    (with_reducible refine (awake_any _).mono ?_)
    rintro e w1 ⟨rfl, hb1⟩
    go_wp2_with fail
    go_ret
    exact ⟨by first | (simp; done) | (simp; omega), hb1⟩
  have gb : ¬ (300 : Int) < (b.size : Int) := by omega
  have ls : s.data.toList.length = s.size := (Lib.size_eq s).symm
  have lb : b.data.toList.length = b.size := (Lib.size_eq b).symm
  obtain ⟨⟨v, n, o⟩, hN⟩ : ∃ r, rawA s.data.toList i = r := ⟨_, rfl⟩
  have hbd := rawA_n s.data.toList i
  cases o
  · have hv : v = [] := by have := hbd.2.2.2.1 (by rw [hN]); rw [hN] at this; exact this
    subst hv
    have r1 : ∀ w, Calls Try.prog 11 #[.string s, .int .i64 i] w fun e w' => e = .returned (.tuple #[.string ⟨#[]⟩, .int .i64 (i + (n : Int)), .bool false]) ∧ Below w.heap.size w w' := fun w => raw_b (mkb_of s).symm hN (by omega) w
    by_cases h0 : n = 0
    · subst h0
      have e0 : i + ((0 : Nat) : Int) = i := by omega
      rw [e0] at r1
      have t1 : (i == i) = true := by simp
      clear hN e0 ls lb hbd
      go_enter Try.func4, Try.ntmps4
      (try simp only [List.append_eq, List.cons_append, List.nil_append])
      go_wp2_with fail
      (with_reducible refine (awake_any _).mono ?_)
      rintro e w1 ⟨rfl, hb1⟩
      go_wp2_with fail
      (with_reducible refine (r1 _).mono ?_)
      rintro e w2 ⟨rfl, hb2⟩
      go_wp2_with fail
      go_ret
      exact ⟨by first | (simp; done) | (simp; omega), (bel_trans hb1 hb2)⟩
    · have h2 := hbd.2.2.1 (by rw [hN]; show 0 < n; omega)
      rw [hN] at h2
      have t1 : (i + (n : Int) == i) = false := beq_false_of_ne (by omega)
      have t2 : i < i + (n : Int) := by omega
      have t3 : i + (n : Int) ≤ (s.size : Int) := by rw [← ls]; exact h2.2
      clear hN lb ls h2 hbd
      generalize i + (n : Int) = e at *
      go_enter Try.func4, Try.ntmps4
      (try simp only [List.append_eq, List.cons_append, List.nil_append])
      go_wp2_with fail
      (with_reducible refine (awake_any _).mono ?_)
      rintro e w1 ⟨rfl, hb1⟩
      go_wp2_with fail
      (with_reducible refine (r1 _).mono ?_)
      rintro e w2 ⟨rfl, hb2⟩
      go_wp2_with fail
      go_ret
      exact ⟨by first | (simp; done) | (simp; omega), (bel_trans hb1 hb2)⟩
  · have h1 := hbd.2.1 (by rw [hN])
    obtain ⟨k, rfl⟩ := Int.eq_ofNat_of_zero_le h1.1
    have h2 := hbd.2.2.1 (by have := h1.2.1; omega)
    have hst := rawA_stay (l := s.data.toList) (k := k) (by rw [hN]) b.data.toList
    have hen := rawA_ends (l := s.data.toList) (k := k) (by rw [hN])
    rw [hN] at h1 h2 hst hen
    simp only at h1 h2 hst hen
    have h6 : 6 ≤ n := h1.2.1
    have hkn : k + n ≤ s.size := by omega
    have r1 := fun w => raw_b (w := w) (mkb_of s).symm hN (by omega)
    have ex := ext_mkb s k n
    obtain ⟨P, hP⟩ : ∃ P, P = (s.data.toList.drop k).take n := ⟨_, rfl⟩
    have lP : P.length = n := by rw [hP, List.length_take, List.length_drop]; omega
    rw [← hP] at ex hst hen
    obtain ⟨O, hO⟩ : ∃ O, O = mkb P := ⟨_, rfl⟩
    rw [← hO] at ex
    have zO : O.size = n := by rw [hO, mkb_size]; exact lP
    obtain ⟨S1, h5, s1⟩ := sadd' (A := O) (B := b) hO (mkb_of b).symm (by omega)
    have r2 := fun w => raw_c (w := w) (e := (O.size : Int)) h5 hst (by rw [zO]; omega) (by rw [List.length_append]; omega)
    obtain ⟨Q1, hQ1⟩ : ∃ Q, O.extract 0 3 = Q := ⟨_, rfl⟩
    have q1 : (Q1.toList == [34, 34, 34]) = true := by
      have : Q1 = mkb q3 := by rw [← hQ1, ext_mkb', hO, mkb_data, List.drop_zero]; exact congrArg mkb hen.1
      rw [this, mkb_toList]; rfl
    obtain ⟨Q2, hQ2⟩ : ∃ Q, O.extract (O.size - 3) O.size = Q := ⟨_, rfl⟩
    have q2 : (Q2.toList == [34, 34, 34]) = true := by
      have : Q2 = mkb q3 := by rw [← hQ2, ext_drop, zO, hO, mkb_data]; exact congrArg mkb hen.2
      rw [this, mkb_toList]; rfl
    have t1 : ¬ (s.size : Int) < (k : Int) + (n : Int) := by omega
    have t2 : ¬ (k : Int) + (n : Int) < (k : Int) + 6 := by omega
    have t3 : (3 : Int) ≤ (O.size : Int) := by omega
    have t4 : (O.size : Int) ≤ 1000 := by omega
    clear hN hbd h1 h2 hst hen hP lP hO h5 zO lb ls
    go_enter Try.func4, Try.ntmps4
    (try simp only [List.append_eq, List.cons_append, List.nil_append])
    go_wp2_with fail
    (with_reducible refine (awake_any _).mono ?_)
    rintro e w1 ⟨rfl, hb1⟩
    go_wp2_with fail
    (with_reducible refine (r1 _).mono ?_)
    rintro e w2 ⟨rfl, hb2⟩
    go_wp2_with fail
    (with_reducible refine (r2 _).mono ?_)
    rintro e w3 ⟨rfl, hb3⟩
    go_wp2_with fail
    go_ret
    exact ⟨by first | (simp; done) | (simp; omega), (bel_trans (bel_trans hb1 hb2) hb3)⟩
end Go.Proofs.Ytpmdkjbkcncnnaa
