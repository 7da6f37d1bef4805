/- The law LexFirst: its walk. -/
import Derived.Test.YtcedfonkahffcaaLexI
import Derived.Test.YtcedfonkahffcaaLexJ
namespace Go.Proofs.Ytcedfonkahffcaa
open Go.RowKit
set_option linter.unusedVariables false

theorem err_kind {l : List UInt8} {er p : Int} (h : allOk (ylds l 0) = false) (he : errOf (ylds l 0) = (er, p)) : er = 2 ∨ er = 3 ∨ er = 4 := by
  obtain ⟨y, hy, e, hne⟩ := errOf_bd h
  rw [he] at e
  have e1 : er = y.t.e := (Prod.mk.inj e).1
  have := (ylds_in l 0 y hy).2.2.1.kind
  rcases this with h | h | h | h
  · exact absurd h hne
  · exact .inl (e1.trans h)
  · exact .inr (.inl (e1.trans h))
  · exact .inr (.inr (e1.trans h))

set_option maxHeartbeats 8000000 in
set_option maxRecDepth 100000 in
theorem first_any (a b : ByteArray) (w : World) (za : a.size ≤ 9223372036854775807) (zb : b.size ≤ 9223372036854775807) :
    Calls Try.prog 6 #[.string a, .string b] w fun e w' => e = .returned (.bool true) ∧ Below w.heap.size w w' := by
  by_cases ha : 300 < a.size
  · have ga : (300 : Int) < (a.size : Int) := by omega
    clear ha
    go_enter Try.func6, Try.ntmps6
    (try simp only [List.append_eq, List.cons_append, List.nil_append])
    go_wp2_with fail
    (with_reducible refine (awake_any _).mono ?_)
    rintro e w1 ⟨rfl, hb1⟩
    go_wp2_with fail
    go_ret
    exact ⟨by first | (simp; done) | (simp; omega), hb1⟩
  have ga : ¬ (300 : Int) < (a.size : Int) := by omega
  by_cases hb : 300 < b.size
  · have gb : (300 : Int) < (b.size : Int) := by omega
    clear ha hb
    go_enter Try.func6, Try.ntmps6
    (try simp only [List.append_eq, List.cons_append, List.nil_append])
    go_wp2_with fail
    (with_reducible refine (awake_any _).mono ?_)
    rintro e w1 ⟨rfl, hb1⟩
    go_wp2_with fail
    go_ret
    exact ⟨by first | (simp; done) | (simp; omega), hb1⟩
  have gb : ¬ (300 : Int) < (b.size : Int) := by omega
  cases hma : mayB a.data.toList
  · have m1 := fun w => may_b (s := a) (by omega) hma w
    clear ha hb hma
    go_enter Try.func6, Try.ntmps6
    (try simp only [List.append_eq, List.cons_append, List.nil_append])
    go_wp2_with fail
    (with_reducible refine (awake_any _).mono ?_)
    rintro e w1 ⟨rfl, hb1⟩
    go_wp2_with fail
    (with_reducible refine (m1 _).mono ?_)
    rintro e w2 ⟨rfl, hb2⟩
    go_wp2_with fail
    go_ret
    exact ⟨by first | (simp; done) | (simp; omega), (bel_trans hb1 hb2)⟩
  cases hmb : mayB b.data.toList
  · have m1 := fun w => may_b (s := a) (by omega) hma w
    have m2 := fun w => may_b (s := b) (by omega) hmb w
    clear ha hb hma hmb
    go_enter Try.func6, Try.ntmps6
    (try simp only [List.append_eq, List.cons_append, List.nil_append])
    go_wp2_with fail
    (with_reducible refine (awake_any _).mono ?_)
    rintro e w1 ⟨rfl, hb1⟩
    go_wp2_with fail
    (with_reducible refine (m1 _).mono ?_)
    rintro e w2 ⟨rfl, hb2⟩
    go_wp2_with fail
    (with_reducible refine (m2 _).mono ?_)
    rintro e w3 ⟨rfl, hb3⟩
    go_wp2_with fail
    go_ret
    exact ⟨by first | (simp; done) | (simp; omega), (bel_trans (bel_trans hb1 hb2) hb3)⟩
  have m1 := fun w => may_b (s := a) (by omega) hma w
  have m2 := fun w => may_b (s := b) (by omega) hmb w
  have la : a.data.toList.length = a.size := (Lib.size_eq a).symm
  have lb : b.data.toList.length = b.size := (Lib.size_eq b).symm
  obtain ⟨S1, hS1, s1⟩ := sadd' (A := a) (B := ⟨#[10]⟩) (a := a.data.toList) (b := [10]) (mkb_of a).symm rfl (by simp; omega)
  obtain ⟨S, hS, s2⟩ := sadd' (A := S1) (B := b) hS1 (mkb_of b).symm (by simp; omega)
  have hL : S.data.toList = a.data.toList ++ 10 :: b.data.toList := by rw [hS, mkb_data, List.append_assoc]; rfl
  have hSz : S.size ≤ 1000000 := by rw [hS, mkb_size]; simp; omega
  have hta := may_iff.1 hma
  have htS : thru S.data.toList = S.data.toList.length := by rw [hL]; exact thru_nl hta (may_iff.1 hmb)
  have HH := Lib.hid (And.intro la (And.intro lb (And.intro hL (And.intro hSz (And.intro hta htS)))))
  have HA := Lib.hid (And.intro ha hb)
  clear hS hS1 hma hmb la lb hL hSz hta htS ha hb
  go_enter Try.func6, Try.ntmps6
  (try simp only [List.append_eq, List.cons_append, List.nil_append])
  go_wp2_with fail
  (with_reducible refine (awake_any _).mono ?_)
  rintro e w1 ⟨rfl, hb1⟩
  go_wp2_with fail
  (with_reducible refine (m1 _).mono ?_)
  rintro e w2 ⟨rfl, hb2⟩
  go_wp2_with fail
  (with_reducible refine (m2 _).mono ?_)
  rintro e w3 ⟨rfl, hb3⟩
  have hb0 := bel_trans (bel_trans hb1 hb2) hb3
  clear hb1 hb2 hb3 m1 m2
  obtain ⟨la, lb, hL, hSz, hta, htS⟩ := HH.out
  obtain ⟨ha, hb⟩ := HA.out
  clear HH HA
  cases ho : allOk (ylds a.data.toList 0)
  · obtain ⟨⟨er, p⟩, hE⟩ : ∃ r, errOf (ylds a.data.toList 0) = r := ⟨_, rfl⟩
    have hk := err_kind ho hE
    have r1 := fun w => lex_no (s := a) (by omega) hta rfl ho hE w
    by_cases h4 : er = 4
    · cases hz : allOk (ylds S.data.toList 0)
      · obtain ⟨⟨er', p'⟩, hE'⟩ : ∃ r, errOf (ylds S.data.toList 0) = r := ⟨_, rfl⟩
        have r2 := fun w => lex_no (s := S) hSz htS rfl hz hE' w
        subst h4
        clear ha hb la lb hL hSz hta htS hk ho hE hz hE'
        go_wp2_with fail
        (with_reducible refine (r1 _).mono ?_)
        rintro e w4 ⟨rfl, hb4⟩
        go_wp2_with fail
        (with_reducible refine (r2 _).mono ?_)
        rintro e w5 ⟨rfl, hb5⟩
        go_wp2
        go_quiet (fail)
        go_wp2
        go_ret
        exact ⟨by simp, below_drewN (bel_trans (bel_trans hb0 hb4) hb5) _⟩
      · have r2 := fun w => lex_yes (s := S) hSz htS rfl hz w
        generalize (ylds S.data.toList 0).length = n at *
        generalize ylds S.data.toList 0 = Z at *
        subst h4
        clear ha hb la lb hL hSz hta htS hk ho hE hz
        go_wp2_with fail
        (with_reducible refine (r1 _).mono ?_)
        rintro e w4 ⟨rfl, hb4⟩
        go_wp2_with fail
        (with_reducible refine (r2 _).mono ?_)
        rintro e w5 ⟨A, c, rfl, hb5, -⟩
        go_wp2
        go_quiet (fail)
        go_wp2
        go_ret
        exact ⟨by simp, below_drewN (bel_trans (bel_trans hb0 hb4) hb5) _⟩
    · have hZ : ylds S.data.toList 0 = ylds a.data.toList 0 := by rw [hL]; exact ylds_nl_err _ _ 0 ho (by rw [hE]; exact h4)
      have r2 := fun w => lex_no (s := S) hSz htS hZ ho hE w
      have hk' : er = 2 ∨ er = 3 := by omega
      clear ha hb la lb hL hSz hta htS hk ho hE hZ h4
      rcases hk' with rfl | rfl
      · skip
        go_wp2_with fail
        (with_reducible refine (r1 _).mono ?_)
        rintro e w4 ⟨rfl, hb4⟩
        go_wp2_with fail
        (with_reducible refine (r2 _).mono ?_)
        rintro e w5 ⟨rfl, hb5⟩
        go_wp2
        go_ret
        exact ⟨by simp, bel_trans (bel_trans hb0 hb4) hb5⟩
      · skip
        go_wp2_with fail
        (with_reducible refine (r1 _).mono ?_)
        rintro e w4 ⟨rfl, hb4⟩
        go_wp2_with fail
        (with_reducible refine (r2 _).mono ?_)
        rintro e w5 ⟨rfl, hb5⟩
        go_wp2
        go_ret
        exact ⟨by simp, bel_trans (bel_trans hb0 hb4) hb5⟩
  · have hZ : ylds S.data.toList 0 = ylds a.data.toList 0 ++ ylds b.data.toList (0 + (a.data.toList.length + 1)) := by rw [hL]; exact ylds_nl _ _ 0 ho
    have r1 := fun w => lex_yes (s := a) (by omega) hta rfl ho w
    have hya := ylds_bd a.data.toList 0
    have hyS := ylds_bd S.data.toList 0
    rw [← Lib.size_eq] at hya hyS
    cases hz : allOk (ylds S.data.toList 0)
    · obtain ⟨⟨er', p'⟩, hE'⟩ : ∃ r, errOf (ylds S.data.toList 0) = r := ⟨_, rfl⟩
      have r2 := fun w => lex_no (s := S) hSz htS rfl hz hE' w
      have hne := errOf_ne hz
      rw [hE'] at hne
      have e2 : (er' != 0) = true := by simpa using hne
      generalize ylds a.data.toList 0 = Y at *
      obtain ⟨n, hn⟩ : ∃ n, Y.length = n := ⟨_, rfl⟩
      rw [hn] at r1 hya
      clear ha hb la lb hL hta htS ho hE' hz hZ hne hn
      by_cases h0 : n = 0
      · subst h0
        go_wp2_with fail
        (with_reducible refine (r1 _).mono ?_)
        rintro e w4 ⟨A, c, rfl, hb4, -⟩
        go_wp2_with fail
        (with_reducible refine (r2 _).mono ?_)
        rintro e w5 ⟨rfl, hb5⟩
        go_wp2
        go_quiet (fail)
        go_wp2
        go_ret
        exact ⟨by simp, below_drewN (bel_trans (bel_trans hb0 hb4) hb5) _⟩
      · obtain ⟨m, rfl⟩ : ∃ m, n = m + 1 := ⟨n - 1, by omega⟩
        have e0 : ((m : Int) + 1 == 0) = false := by rw [beq_eq_false_iff_ne]; omega
        clear h0
        go_wp2_with fail
        (with_reducible refine (r1 _).mono ?_)
        rintro e w4 ⟨A, c, rfl, hb4, -⟩
        go_wp2_with fail
        (with_reducible refine (r2 _).mono ?_)
        rintro e w5 ⟨rfl, hb5⟩
        go_wp2
        go_quiet (fail)
        go_wp2
        go_ret
        exact ⟨by simp, below_drewN (bel_trans (bel_trans hb0 hb4) hb5) _⟩
    · have r2 := fun w => lex_yes (s := S) hSz htS rfl hz w
      generalize ylds S.data.toList 0 = Z at *
      generalize ylds a.data.toList 0 = Y at *
      clear ha hb la lb hL hta htS ho hz
      cases Y with
      | nil =>
        rw [List.length_nil] at r1
        generalize Z.length = n at *
        clear hZ
        go_wp2_with fail
        (with_reducible refine (r1 _).mono ?_)
        rintro e w4 ⟨A, c, rfl, hb4, -⟩
        go_wp2_with fail
        (with_reducible refine (r2 _).mono ?_)
        rintro e w5 ⟨A', c', rfl, hb5, -⟩
        go_wp2
        go_quiet (fail)
        go_wp2
        go_ret
        exact ⟨by simp, below_drewN (bel_trans (bel_trans hb0 hb4) hb5) _⟩
      | cons y Y =>
        obtain ⟨Z', rfl⟩ : ∃ Z', Z = y :: Z' := ⟨_, hZ⟩
        rw [List.length_cons] at r1 r2 hya hyS
        generalize hm : Y.length = m at *
        generalize hn : Z'.length = n at *
        have e0 : ((m : Int) + 1 == 0) = false := by rw [beq_eq_false_iff_ne]; omega
        have e9 : (0 : Int) < (n : Int) + 1 := by omega
        clear hZ
        go_wp2_with fail
        (with_reducible refine (r1 _).mono ?_)
        rintro e w4 ⟨A, c, rfl, hb4, tr4⟩
        go_wp2_with fail
        (with_reducible refine (r2 _).mono ?_)
        rintro e w5 ⟨A', c', rfl, hb5, tr5⟩
        obtain ⟨b1, o1, rfl, c0, c1, c2, c3⟩ := (tr4.below hb5) 0 y.q rfl
        obtain ⟨b2, o2, rfl, d0, d1, d2, d3⟩ := tr5 0 y.q rfl
        rw [Nat.zero_mul, Nat.add_zero] at c0 c1 c2 c3 d0 d1 d2 d3
        clear tr4 tr5
        generalize y.q = q at *
        have hbb := bel_trans (bel_trans hb0 hb4) hb5
        clear hb0 hb4 hb5 r1 r2
        go_wp2
        go_quiet (fail)
        go_wp2
        go_ret
        exact ⟨by simp, below_drewN hbb _⟩
end Go.Proofs.Ytcedfonkahffcaa
