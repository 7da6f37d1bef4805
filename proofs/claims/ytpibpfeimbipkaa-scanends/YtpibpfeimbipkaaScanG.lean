/- The law ScanEnds: its mathematics and its walk. -/
import Derived.Test.YtpibpfeimbipkaaScanD
namespace Go.Proofs.Ytpibpfeimbipkaa
open Go.RowKit
set_option linter.unusedVariables false

theorem bg_dg {x : Int} (h : bgI x = true) : dgI x = false := by
  unfold bgI at h; unfold dgI
  have := of_decide_eq_true h
  exact decide_eq_false (by omega)
theorem nm_part {l : List UInt8} {i : Nat} (hi : i ≤ l.length) (h : nmT (l.drop i) ≠ 0) :
    ∃ hl : i < l.length, bgI (l[i]).toNat = true ∧ nmT (l.drop i) = rn nmI (l.drop i) := by
  by_cases hl : i < l.length
  · refine ⟨hl, ?_⟩
    rw [List.drop_eq_getElem_cons hl, nmT_cons] at h ⊢
    split at h
    · rename_i hb; exact ⟨hb, by rw [if_pos hb]⟩
    · exact absurd rfl h
  · rw [List.drop_eq_nil_of_le (by omega)] at h; exact absurd rfl h
theorem rn_in {p : Int → Bool} {l : List UInt8} {i j : Nat} (h1 : i ≤ j) (h2 : j < i + rn p (l.drop i)) : ∃ hl : j < l.length, p (l[j]).toNat = true := by
  obtain ⟨h3, h4⟩ := rn_lt (n := j - i) (p := p) (l := l.drop i) (by omega)
  rw [List.length_drop] at h3
  rw [List.getElem_drop] at h4
  refine ⟨by omega, ?_⟩
  have e : l[i + (j - i)]'(by omega) = l[j]'(by omega) := by congr 1; omega
  rw [← e]; exact h4
theorem rn_out {p : Int → Bool} {l : List UInt8} {i : Nat} (h : i + rn p (l.drop i) < l.length) : p (l[i + rn p (l.drop i)]).toNat = false := by
  have h4 := rn_stop (p := p) (l := l.drop i) (by rw [List.length_drop]; omega)
  rw [List.getElem_drop] at h4
  exact h4
theorem rn_zero {p : Int → Bool} {l : List UInt8} {i : Nat} (h : i < l.length) (hp : p (l[i]).toNat = false) : rn p (l.drop i) = 0 := by
  rw [List.drop_eq_getElem_cons h, rn_no _ hp]

set_option maxHeartbeats 4000000 in
set_option maxRecDepth 100000 in
theorem ends_any (s : ByteArray) (i k : Int) (w : World) (zs : s.size ≤ 9223372036854775807) :
    Calls Try.prog 4 #[.string s, .int .i64 i, .int .i64 k] w fun e w' => e = .returned (.bool true) ∧ Below w.heap.size w w' := by
  by_cases hs : 600 < s.size
  · have gs : (600 : Int) < (s.size : Int) := by omega
    clear hs
    go_enter Try.func4, Try.ntmps4
    (try simp only [List.append_eq, List.cons_append, List.nil_append])
    go_wp2_with fail
    (with_reducible refine (awake_any _).mono ?_)
    rintro e w1 ⟨rfl, hb1⟩
    go_wp2_with fail
    go_ret
    exact ⟨by first | (simp; done) | (simp; omega), hb1⟩
  have gs : ¬ (600 : Int) < (s.size : Int) := by omega
  have ls : s.data.toList.length = s.size := (Lib.size_eq s).symm
  by_cases ho : i < 0 ∨ (s.size : Int) < i
  · have r1 := fun w => name_b (w := w) (i := i) (mkb_of s).symm (atE_out (f := nmT) (by omega)) (by omega)
    have r2 := fun w => digits_b (w := w) (i := i) (mkb_of s).symm (atE_out (f := rn dgI) (by omega)) (by omega)
    have r3 := fun w => blank_b (w := w) (i := i) (mkb_of s).symm (atE_out (f := blT) (by omega)) (by omega)
    by_cases g0 : i < 0
    · clear hs ls ho
      go_enter Try.func4, Try.ntmps4
      (try simp only [List.append_eq, List.cons_append, List.nil_append])
      go_wp2_with fail
      (with_reducible refine (awake_any _).mono ?_)
      rintro e w1 ⟨rfl, hb1⟩
      go_wp2_with fail
      (with_reducible refine (r1 _).mono ?_)
      rintro e w2 ⟨rfl, hb2⟩
      go_wp2_with fail
      (with_reducible refine (r2 _).mono ?_)
      rintro e w3 ⟨rfl, hb3⟩
      go_wp2_with fail
      (with_reducible refine (r3 _).mono ?_)
      rintro e w4 ⟨rfl, hb4⟩
      go_wp2_with fail
      go_ret
      exact ⟨by first | (simp; done) | (simp; omega), (bel_trans (bel_trans (bel_trans hb1 hb2) hb3) hb4)⟩
    · have g1 : (s.size : Int) < i := by omega
      clear hs ls ho
      go_enter Try.func4, Try.ntmps4
      (try simp only [List.append_eq, List.cons_append, List.nil_append])
      go_wp2_with fail
      (with_reducible refine (awake_any _).mono ?_)
      rintro e w1 ⟨rfl, hb1⟩
      go_wp2_with fail
      (with_reducible refine (r1 _).mono ?_)
      rintro e w2 ⟨rfl, hb2⟩
      go_wp2_with fail
      (with_reducible refine (r2 _).mono ?_)
      rintro e w3 ⟨rfl, hb3⟩
      go_wp2_with fail
      (with_reducible refine (r3 _).mono ?_)
      rintro e w4 ⟨rfl, hb4⟩
      go_wp2_with fail
      go_ret
      exact ⟨by first | (simp; done) | (simp; omega), (bel_trans (bel_trans (bel_trans hb1 hb2) hb3) hb4)⟩
  obtain ⟨n, rfl⟩ := Int.eq_ofNat_of_zero_le (a := i) (by omega)
  have hn : n ≤ s.size := by omega
  have u1 : ¬ (n : Int) < 0 := by omega
  have u2 : ¬ (s.size : Int) < (n : Int) := by omega
  have hnl : n ≤ s.data.toList.length := by omega
  clear ho hs
  have np := nmT_le (s.data.toList.drop n)
  have nq := rn_le dgI (s.data.toList.drop n)
  have nr := blT_le (s.data.toList.drop n)
  rw [List.length_drop, ls] at np nq nr
  obtain ⟨p, hp⟩ : ∃ p : Nat, p = n + nmT (s.data.toList.drop n) := ⟨_, rfl⟩
  obtain ⟨q, hq⟩ : ∃ q : Nat, q = n + rn dgI (s.data.toList.drop n) := ⟨_, rfl⟩
  obtain ⟨r, hr⟩ : ∃ r : Nat, r = n + blT (s.data.toList.drop n) := ⟨_, rfl⟩
  have r1 := fun w => name_b (w := w) (i := (n : Int)) (v := (p : Int)) (mkb_of s).symm (by rw [atE_in hnl]; omega) (by omega)
  have r2 := fun w => digits_b (w := w) (i := (n : Int)) (v := (q : Int)) (mkb_of s).symm (by rw [atE_in hnl]; omega) (by omega)
  have r3 := fun w => blank_b (w := w) (i := (n : Int)) (v := (r : Int)) (mkb_of s).symm (by rw [atE_in hnl]; omega) (by omega)
  have r4 := fun w => digits_b (w := w) (i := (q : Int)) (v := (q : Int)) (mkb_of s).symm (by
    have := rn_end dgI (s.data.toList.drop n)
    rw [List.drop_drop, ← hq] at this
    rw [atE_in (by omega), this]; omega) (by omega)
  have r5 := fun w => blank_b (w := w) (i := (r : Int)) (v := (r : Int)) (mkb_of s).symm (by
    have := blT_end (s.data.toList.drop n)
    rw [List.drop_drop, ← hr] at this
    rw [atE_in (by omega), blT_stop this]; omega) (by omega)
  have u3 : ¬ (p : Int) < (n : Int) := by omega
  have u4 : ¬ (q : Int) < (n : Int) := by omega
  have u5 : ¬ (r : Int) < (n : Int) := by omega
  have u6 : ¬ (s.size : Int) < (p : Int) := by omega
  have u7 : ¬ (s.size : Int) < (q : Int) := by omega
  have u8 : ¬ (s.size : Int) < (r : Int) := by omega
  have hqd : ∀ j : Nat, n ≤ j → j < q → ∃ hl : j < s.size, dgI (s[j]'hl).toNat = true := fun j h1 h2 => by
    rw [hq] at h2
    obtain ⟨h3, h4⟩ := rn_in h1 h2
    exact ⟨by omega, h4⟩
  have HP := Lib.hid hp
  have HQ := Lib.hid hq
  have HLS := Lib.hid ls
  have HNL := Lib.hid hnl
  have HNP := Lib.hid np
  have HNQ := Lib.hid nq
  clear hp hq hr ls hnl np nq nr
  go_enter Try.func4, Try.ntmps4
  (try simp only [List.append_eq, List.cons_append, List.nil_append])
  go_wp2_with fail
  (with_reducible refine (awake_any _).mono ?_)
  rintro e w1 ⟨rfl, hb1⟩
  go_wp2_with fail
  (with_reducible refine (r1 _).mono ?_)
  rintro e w2 ⟨rfl, hb2⟩
  go_wp2_with fail
  (with_reducible refine (r2 _).mono ?_)
  rintro e w3 ⟨rfl, hb3⟩
  go_wp2_with fail
  (with_reducible refine (r3 _).mono ?_)
  rintro e w4 ⟨rfl, hb4⟩
  go_wp2_with fail
  (with_reducible refine (r4 _).mono ?_)
  rintro e w5 ⟨rfl, hb5⟩
  go_wp2_with fail
  (with_reducible refine (r5 _).mono ?_)
  rintro e w6 ⟨rfl, hb6⟩
  clear r1 r2 r3 r4 r5
  have hp := HP.out
  have hq := HQ.out
  have ls := HLS.out
  have hnl := HNL.out
  have np := HNP.out
  have nq := HNQ.out
  by_cases h0 : nmT (s.data.toList.drop n) = 0
  · obtain rfl : p = n := by omega
    have w1 : ∀ x : Int, (x ≤ x) := fun x => Int.le_refl x
    clear hp np h0 HP HQ HLS HNL HNP HNQ
    by_cases kl : k < (p : Int)
    · clear hqd hq nq w1
      by_cases e : p = s.size
      · have t1 : ((p : Int) == (s.size : Int)) = true := by simp; omega
        clear e hnl ls
        go_wp2_with fail
        go_ret
        exact ⟨by first | (simp; done) | (simp; omega), (bel_trans (bel_trans (bel_trans (bel_trans (bel_trans hb1 hb2) hb3) hb4) hb5) hb6)⟩
      · have t1 : ((p : Int) == (s.size : Int)) = false := by simp; omega
        clear e hnl ls
        go_wp2_with fail
        go_ret
        exact ⟨by first | (simp; done) | (simp; omega), (bel_trans (bel_trans (bel_trans (bel_trans (bel_trans hb1 hb2) hb3) hb4) hb5) hb6)⟩
    obtain ⟨j, rfl⟩ := Int.eq_ofNat_of_zero_le (a := k) (by omega)
    by_cases kq : j < q
    · obtain ⟨hj, hd⟩ := hqd j (by omega) kq
      have hd2 : 48 ≤ ((s[j]'hj).toNat : Int) ∧ ((s[j]'hj).toNat : Int) ≤ 57 := by unfold dgI at hd; exact of_decide_eq_true hd
      obtain ⟨hd3, hd4⟩ := hd2
      have v1 : ¬ (q : Int) ≤ (j : Int) := by omega
      clear hqd hq nq hd w1
      have t1 : ((p : Int) == (s.size : Int)) = false := by simp; omega
      clear hnl ls kq
      go_wp2_with fail
      go_ret
      exact ⟨by first | (simp; done) | (simp; omega), (bel_trans (bel_trans (bel_trans (bel_trans (bel_trans hb1 hb2) hb3) hb4) hb5) hb6)⟩
    · have v1 : (q : Int) ≤ (j : Int) := by omega
      clear hqd hq nq w1 kq
      by_cases e : p = s.size
      · have t1 : ((p : Int) == (s.size : Int)) = true := by simp; omega
        clear e hnl ls
        go_wp2_with fail
        go_ret
        exact ⟨by first | (simp; done) | (simp; omega), (bel_trans (bel_trans (bel_trans (bel_trans (bel_trans hb1 hb2) hb3) hb4) hb5) hb6)⟩
      · have t1 : ((p : Int) == (s.size : Int)) = false := by simp; omega
        clear e hnl ls
        go_wp2_with fail
        go_ret
        exact ⟨by first | (simp; done) | (simp; omega), (bel_trans (bel_trans (bel_trans (bel_trans (bel_trans hb1 hb2) hb3) hb4) hb5) hb6)⟩
  · obtain ⟨hl, hbg, hrn⟩ := nm_part hnl h0
    have hq0 := rn_zero hl (bg_dg hbg)
    obtain rfl : q = n := by omega
    have hl2 : q < s.size := by omega
    have rbn : ∀ w, Calls Try.prog 11 #[.int .u8 ((s[q]'hl2).toNat : Int)] w fun e w' => e = .returned (.bool true) ∧ w = w' := fun w => begins_b hbg w
    have t0 : ((p : Int) == (q : Int)) = false := by simp; omega
    have hin : ∀ j : Nat, q ≤ j → j < p → ∃ hl : j < s.size, nmI (s[j]'hl).toNat = true := fun j h1 h2 => by
      rw [hp, hrn] at h2
      obtain ⟨h3, h4⟩ := rn_in h1 h2
      exact ⟨by omega, h4⟩
    have hout : ∀ h : p < s.size, nmI (s[p]'h).toNat = false := fun h => by
      have e : p = q + rn nmI (s.data.toList.drop q) := by omega
      have h5 : q + rn nmI (s.data.toList.drop q) < s.data.toList.length := by omega
      have h6 := rn_out h5
      have e2 : s[p]'h = (s.data.toList)[q + rn nmI (s.data.toList.drop q)]'h5 := by
        show (s.data.toList)[p]'(by omega) = _
        congr 1
      rw [e2]; exact h6
    clear hqd hp hq np nq h0 hbg hrn hq0 HP HQ HLS HNL HNP HNQ
    have end_ : (p = s.size) ∨ (∃ h : p < s.size, bgI (s[p]'h).toNat = false ∧ dgI (s[p]'h).toNat = false) := by
      by_cases e : p = s.size
      · exact .inl e
      · have h : p < s.size := by omega
        have := hout h
        unfold nmI at this
        rw [Bool.or_eq_false_iff] at this
        exact .inr ⟨h, this.1, this.2⟩
    clear hout
    have kk : (k < (q : Int)) ∨ (∃ j : Nat, k = j ∧ q ≤ j ∧ p ≤ j) ∨ (∃ j : Nat, k = j ∧ q ≤ j ∧ j < p ∧ ∃ hl : j < s.size, bgI (s[j]'hl).toNat = true) ∨ (∃ j : Nat, k = j ∧ q ≤ j ∧ j < p ∧ ∃ hl : j < s.size, bgI (s[j]'hl).toNat = false ∧ dgI (s[j]'hl).toNat = true) := by
      by_cases k1 : k < (q : Int)
      · exact .inl k1
      · obtain ⟨j, rfl⟩ := Int.eq_ofNat_of_zero_le (a := k) (by omega)
        by_cases k2 : j < p
        · obtain ⟨h1, h2⟩ := hin j (by omega) k2
          cases h3 : bgI (s[j]'h1).toNat
          · unfold nmI at h2
            rw [h3, Bool.false_or] at h2
            exact .inr (.inr (.inr ⟨j, rfl, by omega, k2, h1, h3, h2⟩))
          · exact .inr (.inr (.inl ⟨j, rfl, by omega, k2, h1, h3⟩))
        · exact .inr (.inl ⟨j, rfl, by omega, by omega⟩)
    clear hin
    rcases end_ with e | ⟨hpl, pb, pd⟩
    · have t1 : ((p : Int) == (s.size : Int)) = true := by simp; omega
      clear e ls hnl hl
      rcases kk with kl | ⟨j, rfl, j1, j2⟩ | ⟨j, rfl, j1, j2, jl, jb⟩ | ⟨j, rfl, j1, j2, jl, jb, jd⟩
      · skip
        go_wp2_with fail
        (with_reducible refine (rbn _).mono ?_)
        rintro e w' ⟨rfl, rfl⟩
        go_wp2_with fail
        go_ret
        exact ⟨by first | (simp; done) | (simp; omega), (bel_trans (bel_trans (bel_trans (bel_trans (bel_trans hb1 hb2) hb3) hb4) hb5) hb6)⟩
      · have m1 : (q : Int) ≤ (j : Int) := by omega
        have m2 : ¬ (j : Int) < (p : Int) := by omega
        have m3 : ¬ (j : Int) < (q : Int) := by omega
        clear j1 j2
        go_wp2_with fail
        (with_reducible refine (rbn _).mono ?_)
        rintro e w' ⟨rfl, rfl⟩
        go_wp2_with fail
        go_ret
        exact ⟨by first | (simp; done) | (simp; omega), (bel_trans (bel_trans (bel_trans (bel_trans (bel_trans hb1 hb2) hb3) hb4) hb5) hb6)⟩
      · have m1 : (q : Int) ≤ (j : Int) := by omega
        have m2 : (j : Int) < (p : Int) := by omega
        have m3 : ¬ (j : Int) < (q : Int) := by omega
        have rbj : ∀ w, Calls Try.prog 11 #[.int .u8 ((s[j]'jl).toNat : Int)] w fun e w' => e = .returned (.bool true) ∧ w = w' := fun w => begins_b jb w
        clear j1 j2 jb
        go_wp2_with fail
        (with_reducible refine (rbj _).mono ?_)
        rintro e w' ⟨rfl, rfl⟩
        go_wp2_with fail
        (with_reducible refine (rbn _).mono ?_)
        rintro e w' ⟨rfl, rfl⟩
        go_wp2_with fail
        go_ret
        exact ⟨by first | (simp; done) | (simp; omega), (bel_trans (bel_trans (bel_trans (bel_trans (bel_trans hb1 hb2) hb3) hb4) hb5) hb6)⟩
      · have m1 : (q : Int) ≤ (j : Int) := by omega
        have m2 : (j : Int) < (p : Int) := by omega
        have m3 : ¬ (j : Int) < (q : Int) := by omega
        have rbj : ∀ w, Calls Try.prog 11 #[.int .u8 ((s[j]'jl).toNat : Int)] w fun e w' => e = .returned (.bool false) ∧ w = w' := fun w => begins_b jb w
        have hd2 : 48 ≤ ((s[j]'jl).toNat : Int) ∧ ((s[j]'jl).toNat : Int) ≤ 57 := by unfold dgI at jd; exact of_decide_eq_true jd
        obtain ⟨hd3, hd4⟩ := hd2
        have hd5 : ¬ ((s[j]'jl).toNat : Int) < 48 := by omega
        have hd6 : ¬ 57 < ((s[j]'jl).toNat : Int) := by omega
        clear j1 j2 jb jd
        go_wp2_with fail
        (with_reducible refine (rbj _).mono ?_)
        rintro e w' ⟨rfl, rfl⟩
        go_wp2_with fail
        (with_reducible refine (rbn _).mono ?_)
        rintro e w' ⟨rfl, rfl⟩
        go_wp2_with fail
        go_ret
        exact ⟨by first | (simp; done) | (simp; omega), (bel_trans (bel_trans (bel_trans (bel_trans (bel_trans hb1 hb2) hb3) hb4) hb5) hb6)⟩
    · have t1 : ((p : Int) == (s.size : Int)) = false := by simp; omega
      have rbp : ∀ w, Calls Try.prog 11 #[.int .u8 ((s[p]'hpl).toNat : Int)] w fun e w' => e = .returned (.bool false) ∧ w = w' := fun w => begins_b pb w
      have r6 := fun w => digits_b (w := w) (i := (p : Int)) (v := (p : Int)) (mkb_of s).symm (by
        have hpl2 : p < s.data.toList.length := by omega
        rw [atE_in (by omega), rn_zero hpl2 pd]; omega) (by omega)
      clear ls hnl hl pb pd
      rcases kk with kl | ⟨j, rfl, j1, j2⟩ | ⟨j, rfl, j1, j2, jl, jb⟩ | ⟨j, rfl, j1, j2, jl, jb, jd⟩
      · skip
        go_wp2_with fail
        (with_reducible refine (rbn _).mono ?_)
        rintro e w' ⟨rfl, rfl⟩
        go_wp2_with fail
        (with_reducible refine (rbp _).mono ?_)
        rintro e w' ⟨rfl, rfl⟩
        go_wp2_with fail
        (with_reducible refine (r6 _).mono ?_)
        rintro e w7 ⟨rfl, hb7⟩
        go_wp2_with fail
        go_ret
        exact ⟨by first | (simp; done) | (simp; omega), (bel_trans (bel_trans (bel_trans (bel_trans (bel_trans (bel_trans hb1 hb2) hb3) hb4) hb5) hb6) hb7)⟩
      · have m1 : (q : Int) ≤ (j : Int) := by omega
        have m2 : ¬ (j : Int) < (p : Int) := by omega
        have m3 : ¬ (j : Int) < (q : Int) := by omega
        clear j1 j2
        go_wp2_with fail
        (with_reducible refine (rbn _).mono ?_)
        rintro e w' ⟨rfl, rfl⟩
        go_wp2_with fail
        (with_reducible refine (rbp _).mono ?_)
        rintro e w' ⟨rfl, rfl⟩
        go_wp2_with fail
        (with_reducible refine (r6 _).mono ?_)
        rintro e w7 ⟨rfl, hb7⟩
        go_wp2_with fail
        go_ret
        exact ⟨by first | (simp; done) | (simp; omega), (bel_trans (bel_trans (bel_trans (bel_trans (bel_trans (bel_trans hb1 hb2) hb3) hb4) hb5) hb6) hb7)⟩
      · have m1 : (q : Int) ≤ (j : Int) := by omega
        have m2 : (j : Int) < (p : Int) := by omega
        have m3 : ¬ (j : Int) < (q : Int) := by omega
        have rbj : ∀ w, Calls Try.prog 11 #[.int .u8 ((s[j]'jl).toNat : Int)] w fun e w' => e = .returned (.bool true) ∧ w = w' := fun w => begins_b jb w
        clear j1 j2 jb
        go_wp2_with fail
        (with_reducible refine (rbj _).mono ?_)
        rintro e w' ⟨rfl, rfl⟩
        go_wp2_with fail
        (with_reducible refine (rbn _).mono ?_)
        rintro e w' ⟨rfl, rfl⟩
        go_wp2_with fail
        (with_reducible refine (rbp _).mono ?_)
        rintro e w' ⟨rfl, rfl⟩
        go_wp2_with fail
        (with_reducible refine (r6 _).mono ?_)
        rintro e w7 ⟨rfl, hb7⟩
        go_wp2_with fail
        go_ret
        exact ⟨by first | (simp; done) | (simp; omega), (bel_trans (bel_trans (bel_trans (bel_trans (bel_trans (bel_trans hb1 hb2) hb3) hb4) hb5) hb6) hb7)⟩
      · have m1 : (q : Int) ≤ (j : Int) := by omega
        have m2 : (j : Int) < (p : Int) := by omega
        have m3 : ¬ (j : Int) < (q : Int) := by omega
        have rbj : ∀ w, Calls Try.prog 11 #[.int .u8 ((s[j]'jl).toNat : Int)] w fun e w' => e = .returned (.bool false) ∧ w = w' := fun w => begins_b jb w
        have hd2 : 48 ≤ ((s[j]'jl).toNat : Int) ∧ ((s[j]'jl).toNat : Int) ≤ 57 := by unfold dgI at jd; exact of_decide_eq_true jd
        obtain ⟨hd3, hd4⟩ := hd2
        have hd5 : ¬ ((s[j]'jl).toNat : Int) < 48 := by omega
        have hd6 : ¬ 57 < ((s[j]'jl).toNat : Int) := by omega
        clear j1 j2 jb jd
        go_wp2_with fail
        (with_reducible refine (rbj _).mono ?_)
        rintro e w' ⟨rfl, rfl⟩
        go_wp2_with fail
        (with_reducible refine (rbn _).mono ?_)
        rintro e w' ⟨rfl, rfl⟩
        go_wp2_with fail
        (with_reducible refine (rbp _).mono ?_)
        rintro e w' ⟨rfl, rfl⟩
        go_wp2_with fail
        (with_reducible refine (r6 _).mono ?_)
        rintro e w7 ⟨rfl, hb7⟩
        go_wp2_with fail
        go_ret
        exact ⟨by first | (simp; done) | (simp; omega), (bel_trans (bel_trans (bel_trans (bel_trans (bel_trans (bel_trans hb1 hb2) hb3) hb4) hb5) hb6) hb7)⟩
end Go.Proofs.Ytpibpfeimbipkaa
