/- The laws LexNumber and LexNone: their walks. -/
import Derived.Test.YtcedfonkahffcaaLexG
namespace Go.Proofs.Ytcedfonkahffcaa
open Go.RowKit
set_option linter.unusedVariables false

/-- What is known of a byte that begins a number. -/
theorem num_way {c : UInt8} {t : List UInt8} (h : c = 45 ∨ Sc.dgI c.toNat = true) : tk (c :: t) = tkNum (c :: t) := by
  refine way_eq (.num ?_ ?_ ?_ h)
  · rintro rfl; rcases h with h | h <;> revert h <;> decide
  · rcases h with rfl | h
    · decide
    · have h2 := (Sc.dg_iff _).1 h
      cases e : sgL.contains c with
      | false => rfl
      | true =>
        have hm : c ∈ sgL := by simpa using e
        have : ∀ c ∈ sgL, ¬ (48 ≤ c.toNat ∧ c.toNat ≤ 57) := by decide
        exact absurd ⟨by omega, by omega⟩ (this c hm)
  · rcases h with rfl | h
    · decide
    · have h2 := (Sc.dg_iff _).1 h
      cases e : Sc.bgI c.toNat with
      | false => rfl
      | true => have := (Sc.bg_iff _).1 e; omega

set_option maxHeartbeats 1000000 in
set_option maxRecDepth 100000 in
theorem number_any' (s : ByteArray) (w : World) (zs : s.size ≤ 9223372036854775807) :
    Calls Try.prog 7 #[.string s] w fun e w' => e = .returned (.bool true) ∧ Below w.heap.size w w' := by
  by_cases h0 : s.size = 0
  · have g0 : ((s.size : Int) == 0) = true := by simp [h0]
    go_enter Try.func7, Try.ntmps7
    (try simp only [List.append_eq, List.cons_append, List.nil_append])
    go_wp2_with fail
    (with_reducible refine (awake_any _).mono ?_)
    rintro e w1 ⟨rfl, hb1⟩
    go_wp2_with fail
    go_ret
    exact ⟨by simp, hb1⟩
  by_cases ha : 600 < s.size
  · have g0 : ((s.size : Int) == 0) = false := by rw [beq_eq_false_iff_ne]; omega
    have ga : (600 : Int) < (s.size : Int) := by omega
    clear ha h0
    go_enter Try.func7, Try.ntmps7
    (try simp only [List.append_eq, List.cons_append, List.nil_append])
    go_wp2_with fail
    (with_reducible refine (awake_any _).mono ?_)
    rintro e w1 ⟨rfl, hb1⟩
    go_wp2_with fail
    go_ret
    exact ⟨by simp, hb1⟩
  have g0 : ((s.size : Int) == 0) = false := by rw [beq_eq_false_iff_ne]; omega
  have ga : ¬ (600 : Int) < (s.size : Int) := by omega
  have hk : 0 < s.size := by omega
  clear h0
  obtain ⟨c, hc⟩ : ∃ c, s[0] = c := ⟨_, rfl⟩
  by_cases hnum : c = 45 ∨ Sc.dgI c.toNat = true
  · have hl : s.data.toList = c :: s.data.toList.drop 1 := by
      have := List.drop_eq_getElem_cons (l := s.data.toList) (i := 0) (by rw [← Lib.size_eq]; exact hk)
      rw [List.drop_zero] at this
      rw [← hc]; exact this
    have ht : tk (s.data.toList.drop 0) = tkNum s.data.toList := by rw [List.drop_zero, hl]; exact num_way hnum
    have r1 := fun w => one_at (k := 0) (by omega) hk ht w
    have h0 := num0 s.data.toList
    rw [← Lib.size_eq] at h0
    have r2 := fun w => Sc.number_any s 0 w (by omega) (by omega) (by omega)
    unfold Sc.Nm.end at r2
    have htk : tkNum s.data.toList = if (Sc.numA s.data.toList 0).b = true then ⟨(Sc.numA s.data.toList 0).k, s.data.toList.take (Sc.numA s.data.toList 0).e.toNat, (Sc.numA s.data.toList 0).e.toNat, 0⟩ else ⟨0, [], (Sc.numA s.data.toList 0).e.toNat, 3⟩ := rfl
    rw [htk] at r1
    clear htk ht hl
    generalize Sc.numA s.data.toList 0 = r at *
    obtain ⟨kd, e, b⟩ := r
    dsimp only at h0 r1 r2
    obtain ⟨m, rfl⟩ := Int.eq_ofNat_of_zero_le h0.1
    have hm : m ≤ s.size := by omega
    clear h0
    have hw : ∀ b, (((c.toNat : Int) != 45) = false ∧ b = 0) ∨ (((c.toNat : Int) != 45) = true ∧ 48 ≤ (c.toNat : Int) ∧ (c.toNat : Int) ≤ 57 ∧ b = 0) ∨ b ≠ 0 := by
      intro b
      by_cases hb : b = 0
      · by_cases h45 : c = 45
        · subst h45; exact .inl ⟨by decide, hb⟩
        · have h5 := (Sc.dg_iff _).1 (hnum.resolve_left h45)
          exact .inr (.inl ⟨by rw [bne, show ((c.toNat : Int) == 45) = false from neB (n := 45) h45 (by decide)]; rfl, h5.1, h5.2, hb⟩)
      · exact .inr (.inr hb)
    have HX := Lib.hid (ext_take s 0 m)
    rw [Nat.zero_add, List.drop_zero] at HX
    cases b
    · have q1 : ∀ w, Calls Try.prog 11 #[.string s, .int .i64 0] w fun r w' => r = .returned (.tuple #[.agg #[.int .i64 0, .string ⟨#[]⟩, .int .i64 0, .int .i64 0], .int .i64 3, .int .i64 m]) ∧ Below w.heap.size w w' := fun w => by
        have := r1 w
        rw [if_neg (by decide), oneE_no (by simp)] at this
        unfold tokE at this
        simpa using this
      clear r1
      rcases hw 0 with ⟨x1, -⟩ | ⟨x1, x2, x3, -⟩ | x1
      rotate_left 2
      · exact absurd rfl x1
      all_goals
        clear hw hnum
        go_enter Try.func7, Try.ntmps7
        (try simp only [List.append_eq, List.cons_append, List.nil_append])
        go_wp2_with fail
        (with_reducible refine (awake_any _).mono ?_)
        rintro e w1 ⟨rfl, hb1⟩
        go_wp2_with fail
        (with_reducible refine (q1 _).mono ?_)
        rintro e w2 ⟨rfl, hb2⟩
        go_wp2_with fail
        (with_reducible refine (r2 _).mono ?_)
        rintro e w3 ⟨rfl, hb3⟩
        obtain ⟨c0, c1, c2, c3, f0, f1, f2, f3⟩ := (B4.new w2 (.int .i64 0) (.string ⟨#[]⟩) (.int .i64 0) (.int .i64 0) 28).below hb3
        have hb := bel_trans (bel_alloc (bel_trans hb1 hb2) _) hb3
        clear hb1 hb2 hb3 q1 r2 f0 f1 f2 f3
        go_wp2
        go_quiet (fail)
        go_wp2
        go_ret
        exact ⟨rfl, below_drewN hb _⟩
    · have q1 : ∀ w, Calls Try.prog 11 #[.string s, .int .i64 0] w fun r w' => r = .returned (.tuple #[.agg #[.int .i64 kd, .string (s.extract 0 m), .int .i64 0, .int .i64 m], .int .i64 0, .int .i64 m]) ∧ Below w.heap.size w w' := fun w => by
        have := r1 w
        rw [if_pos rfl] at this
        unfold oneE tokE at this
        rw [HX.out]
        simpa using this
      clear r1
      rcases hw 0 with ⟨x1, -⟩ | ⟨x1, x2, x3, -⟩ | x1
      rotate_left 2
      · exact absurd rfl x1
      all_goals
        clear hw hnum
        go_enter Try.func7, Try.ntmps7
        (try simp only [List.append_eq, List.cons_append, List.nil_append])
        go_wp2_with fail
        (with_reducible refine (awake_any _).mono ?_)
        rintro e w1 ⟨rfl, hb1⟩
        go_wp2_with fail
        (with_reducible refine (q1 _).mono ?_)
        rintro e w2 ⟨rfl, hb2⟩
        go_wp2_with fail
        (with_reducible refine (r2 _).mono ?_)
        rintro e w3 ⟨rfl, hb3⟩
        obtain ⟨c0, c1, c2, c3, f0, f1, f2, f3⟩ := (B4.new w2 (.int .i64 kd) (.string (s.extract 0 m)) (.int .i64 0) (.int .i64 m) 28).below hb3
        have hb := bel_trans (bel_alloc (bel_trans hb1 hb2) _) hb3
        clear hb1 hb2 hb3 q1 r2 f0 f1 f2 f3
        go_wp2
        go_quiet (fail)
        go_wp2
        go_ret
        exact ⟨by simp, below_drewN hb _⟩
  · have e45 := neB (n := 45) (fun h => hnum (.inl h)) (by decide)
    have e45' : ((c.toNat : Int) != 45) = true := by rw [bne, show ((c.toNat : Int) == 45) = false from e45]; rfl
    have ed : ¬ (48 ≤ (c.toNat : Int) ∧ (c.toNat : Int) ≤ 57) := fun h => hnum (.inr ((Sc.dg_iff _).2 h))
    by_cases e48 : (c.toNat : Int) < 48
    · clear ed hnum e45
      go_enter Try.func7, Try.ntmps7
      (try simp only [List.append_eq, List.cons_append, List.nil_append])
      go_wp2_with fail
      (with_reducible refine (awake_any _).mono ?_)
      rintro e w1 ⟨rfl, hb1⟩
      go_wp2_with fail
      go_ret
      exact ⟨by simp, hb1⟩
    · have e57 : 57 < (c.toNat : Int) := by omega
      clear ed hnum e45
      go_enter Try.func7, Try.ntmps7
      (try simp only [List.append_eq, List.cons_append, List.nil_append])
      go_wp2_with fail
      (with_reducible refine (awake_any _).mono ?_)
      rintro e w1 ⟨rfl, hb1⟩
      go_wp2_with fail
      go_ret
      exact ⟨by simp, hb1⟩

/-! ### LexNone -/
theorem blank_0 {s : ByteArray} {b : Nat} (hs : s.size ≤ 1000000) (hb : Sc.blT s.data.toList = b) (w : World) :
    Calls Try.prog 10 #[.string s, .int .i64 0] w fun e w' => e = .returned (.int .i64 b) ∧ Below w.heap.size w w' := by
  have := Sc.blank_any s 0 w (by omega)
  rw [Sc.atE_zero, hb] at this
  exact this
theorem may_b {s : ByteArray} {v : Bool} (hs : s.size ≤ 1000000) (h : mayB s.data.toList = v) (w : World) :
    Calls Try.prog 12 #[.string s] w fun e w' => e = .returned (.bool v) ∧ Below w.heap.size w w' := by
  rw [← h]; exact may_any s (by omega) w
theorem may_iff {l : List UInt8} : mayB l = true ↔ thru l = l.length := by
  unfold mayB badI
  by_cases h : thru l = l.length
  · rw [if_pos h]; simp [h]
  · rw [if_neg h]; simp [h]
theorem errOf_ne {ys : List Yl} (h : allOk ys = false) : (errOf ys).1 ≠ 0 := by
  induction ys with
  | nil => cases h
  | cons y ys ih =>
    show (if y.t.e = 0 then errOf ys else _).1 ≠ 0
    by_cases he : y.t.e = 0
    · rw [if_pos he]; exact ih (by simpa [allOk_cons, he] using h)
    · rw [if_neg he]; exact he
theorem ylds_none {l : List UInt8} (h : Sc.blT l = l.length) : ylds l 0 = [] := ylds_stop 0 (by omega)
theorem ylds_some {l : List UInt8} (h : Sc.blT l ≠ l.length) : 0 < (ylds l 0).length := by
  have hle := Sc.blT_le l
  rw [ylds, dif_pos (by omega)]; simp

set_option maxHeartbeats 1000000 in
set_option maxRecDepth 100000 in
theorem none_any (s : ByteArray) (w : World) (zs : s.size ≤ 9223372036854775807) :
    Calls Try.prog 5 #[.string s] w fun e w' => e = .returned (.bool true) ∧ Below w.heap.size w w' := by
  by_cases ha : 600 < s.size
  · have ga : (600 : Int) < (s.size : Int) := by omega
    clear ha
    go_enter Try.func5, Try.ntmps5
    (try simp only [List.append_eq, List.cons_append, List.nil_append])
    go_wp2_with fail
    (with_reducible refine (awake_any _).mono ?_)
    rintro e w1 ⟨rfl, hb1⟩
    go_wp2_with fail
    go_ret
    exact ⟨by first | (simp; done) | (simp; omega), hb1⟩
  have ga : ¬ (600 : Int) < (s.size : Int) := by omega
  have la : s.data.toList.length = s.size := (Lib.size_eq s).symm
  obtain ⟨b, hb⟩ : ∃ b, Sc.blT s.data.toList = b := ⟨_, rfl⟩
  have r2 := fun w => blank_0 (s := s) (by omega) hb w
  cases hm : mayB s.data.toList
  · have r3 := fun w => may_b (s := s) (by omega) hm w
    have hth : thru s.data.toList ≠ s.data.toList.length := fun h => by rw [may_iff.2 h] at hm; cases hm
    have r1 := fun w => lex_bad (s := s) (b := (thru s.data.toList : Int)) (by omega) (by rw [badI, if_neg hth]) (by omega) w
    generalize (thru s.data.toList : Int) = x at *
    clear hb hm hth la ha
    by_cases e : b = s.size
    · have e1 : ((b : Int) == (s.size : Int)) = true := by simp [e]
      clear e
      go_enter Try.func5, Try.ntmps5
      (try simp only [List.append_eq, List.cons_append, List.nil_append])
      go_wp2_with fail
      (with_reducible refine (awake_any _).mono ?_)
      rintro e w1 ⟨rfl, hb1⟩
      go_wp2_with fail
      (with_reducible refine (r1 _).mono ?_)
      rintro e w2 ⟨rfl, hb2⟩
      go_wp2_with fail
      (with_reducible refine (r2 _).mono ?_)
      rintro e w3 ⟨rfl, hb3⟩
      go_wp2_with fail
      (with_reducible refine (r3 _).mono ?_)
      rintro e w4 ⟨rfl, hb4⟩
      go_wp2_with fail
      go_ret
      exact ⟨by first | (simp; done) | (simp; omega), (bel_trans (bel_trans (bel_trans hb1 hb2) hb3) hb4)⟩
    · have e1 : ((b : Int) == (s.size : Int)) = false := by rw [beq_eq_false_iff_ne]; omega
      clear e
      go_enter Try.func5, Try.ntmps5
      (try simp only [List.append_eq, List.cons_append, List.nil_append])
      go_wp2_with fail
      (with_reducible refine (awake_any _).mono ?_)
      rintro e w1 ⟨rfl, hb1⟩
      go_wp2_with fail
      (with_reducible refine (r1 _).mono ?_)
      rintro e w2 ⟨rfl, hb2⟩
      go_wp2_with fail
      (with_reducible refine (r2 _).mono ?_)
      rintro e w3 ⟨rfl, hb3⟩
      go_wp2_with fail
      go_ret
      exact ⟨by first | (simp; done) | (simp; omega), (bel_trans (bel_trans hb1 hb2) hb3)⟩
  · have hth := may_iff.1 hm
    have r3 := fun w => may_b (s := s) (by omega) hm w
    by_cases e : b = s.size
    · have hY : ylds s.data.toList 0 = [] := ylds_none (by rw [hb, e, la])
      have e1 : ((b : Int) == (s.size : Int)) = true := by simp [e]
      have r1 := fun w => lex_yes (s := s) (Y := []) (by omega) hth hY rfl w
      clear hb hm hth la ha hY e
      go_enter Try.func5, Try.ntmps5
      (try simp only [List.append_eq, List.cons_append, List.nil_append])
      go_wp2_with fail
      (with_reducible refine (awake_any _).mono ?_)
      rintro e w1 ⟨rfl, hb1⟩
      go_wp2_with fail
      (with_reducible refine (r1 _).mono ?_)
      rintro e w9 ⟨A, c, rfl, hb9, -⟩
      rw [List.length_nil]
      go_wp2_with fail
      (with_reducible refine (r2 _).mono ?_)
      rintro e w10 ⟨rfl, hb10⟩
      go_wp2_with fail
      (with_reducible refine (r3 _).mono ?_)
      rintro e w11 ⟨rfl, hb11⟩
      go_wp2
      go_ret
      exact ⟨by simp, bel_trans (bel_trans (bel_trans hb1 hb9) hb10) hb11⟩
    · have e1 : ((b : Int) == (s.size : Int)) = false := by rw [beq_eq_false_iff_ne]; omega
      have hpos := ylds_some (l := s.data.toList) (by rw [hb, la]; exact e)
      cases ho : allOk (ylds s.data.toList 0)
      · have hne := errOf_ne ho
        obtain ⟨⟨er, p⟩, hE⟩ : ∃ r, errOf (ylds s.data.toList 0) = r := ⟨_, rfl⟩
        have r1 := fun w => lex_no (s := s) (by omega) hth rfl ho hE w
        rw [hE] at hne
        have e2 : (er == 0) = false := by rw [beq_eq_false_iff_ne]; exact hne
        clear hb hm hth la ha e hpos ho hne hE
        go_enter Try.func5, Try.ntmps5
        (try simp only [List.append_eq, List.cons_append, List.nil_append])
        go_wp2_with fail
        (with_reducible refine (awake_any _).mono ?_)
        rintro e w1 ⟨rfl, hb1⟩
        go_wp2_with fail
        (with_reducible refine (r1 _).mono ?_)
        rintro e w2 ⟨rfl, hb2⟩
        go_wp2_with fail
        (with_reducible refine (r2 _).mono ?_)
        rintro e w3 ⟨rfl, hb3⟩
        go_wp2_with fail
        go_ret
        exact ⟨by first | (simp; done) | (simp; omega), (bel_trans (bel_trans hb1 hb2) hb3)⟩
      · have r1 := fun w => lex_yes (s := s) (by omega) hth rfl ho w
        generalize ylds s.data.toList 0 = Y at *
        obtain ⟨n, hn⟩ : ∃ n, Y.length = n + 1 := ⟨Y.length - 1, by omega⟩
        rw [hn] at r1
        have e3 : ((n : Int) + 1 == 0) = false := by rw [beq_eq_false_iff_ne]; omega
        clear hb hm hth la ha e hpos ho hn
        go_enter Try.func5, Try.ntmps5
        (try simp only [List.append_eq, List.cons_append, List.nil_append])
        go_wp2_with fail
        (with_reducible refine (awake_any _).mono ?_)
        rintro e w1 ⟨rfl, hb1⟩
        go_wp2_with fail
        (with_reducible refine (r1 _).mono ?_)
        rintro e w9 ⟨A, c, rfl, hb9, -⟩
        go_wp2_with fail
        (with_reducible refine (r2 _).mono ?_)
        rintro e w10 ⟨rfl, hb10⟩
        go_wp2
        go_ret
        exact ⟨by simp, bel_trans (bel_trans hb1 hb9) hb10⟩
end Go.Proofs.Ytcedfonkahffcaa
