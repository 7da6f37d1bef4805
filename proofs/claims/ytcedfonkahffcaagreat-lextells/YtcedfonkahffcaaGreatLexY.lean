/- The law LexTells: its walk. -/
import Derived.Test.YtcedfonkahffcaaGreatLexV
import Derived.Test.YtcedfonkahffcaaGreatLexG
import Derived.Test.YtcedfonkahffcaaGreatLexX
namespace Go.Proofs.YtcedfonkahffcaaGreat
open Go.RowKit
set_option linter.unusedVariables false
set_option maxRecDepth 100000

/-- What both Ones answer. -/
theorem ones (s : ByteArray) (hs : s.size ≤ 600) (i : Int) : ∃ (q : Tq) (er p : Int),
    (∀ w, Calls Tryz.prog 6 #[.string s, .int .i64 i] w fun r w' => r = .returned (.tuple #[.agg #[.int .i64 q.k, .string q.v, .int .i64 q.a, .int .i64 q.z], .int .i64 er, .int .i64 p]) ∧ Below w.heap.size w w') ∧
    (∀ w, Calls Tryz.prog 7 #[.string s, .int .i64 i] w fun r w' => r = .returned (.tuple #[.agg #[.int .i64 q.k, .string q.v, .int .i64 q.a, .int .i64 q.z], .int .i64 er, .int .i64 p]) ∧ Below w.heap.size w w') := by
  by_cases h : i < 0 ∨ (s.size : Int) ≤ i
  · exact ⟨⟨0, ⟨#[]⟩, 0, 0⟩, 2, i, fun w => one_out s h w, fun w => rone_out s h w⟩
  · obtain ⟨k, rfl⟩ := Int.eq_ofNat_of_zero_le (show 0 ≤ i by omega)
    have hk : k < s.size := by omega
    have he := (tk_ok (s.data.toList.drop k)).err
    have r1 := fun w => one_at (by omega) hk rfl w
    have r2 := fun w => rone_at (by omega) hk rfl w
    rw [oneE_yl he] at r1 r2
    exact ⟨⟨_, _, _, _⟩, _, _, r1, r2⟩

set_option maxHeartbeats 4000000 in
theorem tells_law (s : ByteArray) (i : Int) (A : Option Addr) (n c : Nat) (ts : List Tq) (B : Option Addr) (m d : Nat) (us : List Tq) (w : World) (zs : s.size ≤ 9223372036854775807)
    (ha : Tr w A ts) (hn : ts.length = n) (hn2 : n ≤ 9223372036854775807) (hv : ∀ t ∈ ts, t.v.size ≤ 9223372036854775807)
    (hb : Tr w B us) (hm : us.length = m) (hm2 : m ≤ 9223372036854775807) (hu : ∀ t ∈ us, t.v.size ≤ 9223372036854775807) :
    Calls Tryz.prog 3 #[.string s, .int .i64 i, .slice A n c, .slice B m d] w fun e w' => e = .returned (.bool true) ∧ Below w.heap.size w w' := by
  have HA := Lib.hid (And.intro ha (And.intro hn hv))
  have HB := Lib.hid (And.intro hb (And.intro hm hu))
  clear ha hn hv hb hm hu
  go_enter Tryz.func3, Tryz.ntmps3
  (try simp only [List.append_eq, List.cons_append, List.nil_append])
  go_wp2_with fail
  (with_reducible refine (awake_any _).mono ?_)
  rintro e w1 ⟨rfl, hb1⟩
  go_wp2_with fail
  refine (few_any (c := c) (HA.out.1.below hb1) HA.out.2.1 hn2 HA.out.2.2).mono ?_
  rintro e w' ⟨f1, rfl, hf1, rfl⟩
  go_wp2_with fail
  refine (few_any (c := d) (HB.out.1.below hb1) HB.out.2.1 hm2 HB.out.2.2).mono ?_
  rintro e w' ⟨f2, rfl, hf2, rfl⟩
  have HF1 := Lib.hid hf1
  have HF2 := Lib.hid hf2
  clear hf1 hf2
  cases f1
  · go_wp2
    go_ret
    exact ⟨by simp, hb1⟩
  cases f2
  · go_wp2
    go_ret
    exact ⟨by simp, hb1⟩
  have hn1 : n ≤ 100 := HF1.out rfl
  have hm1 : m ≤ 100 := HF2.out rfl
  clear HF1 HF2
  by_cases h6 : 600 < s.size
  · have g6 : (600 : Int) < (s.size : Int) := by omega
    clear h6
    go_wp2
    go_ret
    exact ⟨by simp, hb1⟩
  have g6 : ¬ (600 : Int) < (s.size : Int) := by omega
  obtain ⟨q, er, p, r1, r2⟩ := ones s (by omega) i
  have hone : ∀ (k : Nat) (t : Tk), k < s.size → tk (s.data.toList.drop k) = t → ∀ w, Calls Tryz.prog 7 #[.string s, .int .i64 k] w fun r w' => r = oneE t k ∧ Below w.heap.size w w' := fun k t hk ht w => rone_at (by omega) hk ht w
  have key : (∃ er p, (∀ w, Calls Tryz.prog 8 #[.string s] w fun e w' => e = .returned (.tuple #[.slice none 0 0, .int .i64 er, .int .i64 p]) ∧ Below w.heap.size w w') ∧ (∀ w, Calls Tryz.prog 9 #[.string s] w fun e w' => e = .returned (.tuple #[.slice none 0 0, .int .i64 er, .int .i64 p]) ∧ Below w.heap.size w w')) ∨
      (thru s.data.toList = s.data.toList.length ∧ allOk (ylds s.data.toList 0) = true) := by
    by_cases hth : thru s.data.toList = s.data.toList.length
    · cases ho : allOk (ylds s.data.toList 0)
      · obtain ⟨⟨er, p⟩, hE⟩ : ∃ r, errOf (ylds s.data.toList 0) = r := ⟨_, rfl⟩
        exact .inl ⟨er, p, fun w => lex_no (s := s) (by omega) hth rfl ho hE w, fun w => rlex_no (s := s) (by omega) hone hth rfl ho hE w⟩
      · exact .inr ⟨hth, rfl⟩
    · exact .inl ⟨2, (thru s.data.toList : Int), fun w => lex_bad (s := s) (b := (thru s.data.toList : Int)) (by omega) (by rw [badI, if_neg hth]) (by omega) w, fun w => rlex_bad (s := s) (b := (thru s.data.toList : Int)) (by omega) (by rw [badI, if_neg hth]) (by omega) w⟩
  have HA1 := Lib.hid (And.intro (HA.out.1.below hb1) HA.out.2.1)
  have HB1 := Lib.hid (And.intro (HB.out.1.below hb1) HB.out.2.1)
  clear HA HB
  have t1 : (q.v.toList == q.v.toList) = true := by simp
  obtain ⟨S, hS⟩ : ∃ S, sameT ts us = S := ⟨_, rfl⟩
  have HS := Lib.hid hS
  clear hS
  rcases key with ⟨er', p', r3, r4⟩ | ⟨hth, ho⟩
  · clear h6 hone
    go_wp2_with fail
    (with_reducible refine (r1 _).mono ?_)
    rintro e w2 ⟨rfl, hb2⟩
    go_wp2_with fail
    (with_reducible refine (r2 _).mono ?_)
    rintro e w3 ⟨rfl, hb3⟩
    go_wp2_with fail
    (with_reducible refine (r3 _).mono ?_)
    rintro e w4 ⟨rfl, hb4⟩
    go_wp2_with fail
    (with_reducible refine (r4 _).mono ?_)
    rintro e w5 ⟨rfl, hb5⟩
    go_wp2_with fail
    (with_reducible refine (exact_nil _).mono ?_)
    rintro e w6 ⟨rfl, hb6⟩
    obtain ⟨b0, b1, b2, b3, -, -, -, -⟩ := ((((B4.new w2 (.int .i64 q.k) (.string q.v) (.int .i64 q.a) (.int .i64 q.z) 26).below (bel_alloc hb3 (.cells #[.int .i64 q.k, .string q.v, .int .i64 q.a, .int .i64 q.z] 26))).below hb4).below hb5).below hb6
    obtain ⟨d0, d1, d2, d3, -, -, -, -⟩ := (((B4.new w3 (.int .i64 q.k) (.string q.v) (.int .i64 q.a) (.int .i64 q.z) 26).below hb4).below hb5).below hb6
    have hbb := bel_trans (bel_trans (bel_trans (bel_alloc (bel_trans (bel_alloc hb2 (.cells #[.int .i64 q.k, .string q.v, .int .i64 q.a, .int .i64 q.z] 26)) hb3) (.cells #[.int .i64 q.k, .string q.v, .int .i64 q.a, .int .i64 q.z] 26)) hb4) hb5) hb6
    have r5 := rsame_any (c := c) (d := d) (HA1.out.1.below hbb) (HB1.out.1.below hbb) HA1.out.2 HB1.out.2 (by omega) (by omega)
    rw [HS.out] at r5
    clear hb2 hb3 hb4 hb5 hb6 r1 r2 r3 r4
    go_wp2_with fail
    (with_reducible refine r5.mono ?_)
    rintro e w7 ⟨rfl, hb7⟩
    have a0 := bel_cell hb7 b0
    have a1 := bel_cell hb7 b1
    have a2 := bel_cell hb7 b2
    have a3 := bel_cell hb7 b3
    have c0 := bel_cell hb7 d0
    have c1 := bel_cell hb7 d1
    have c2 := bel_cell hb7 d2
    have c3 := bel_cell hb7 d3
    have hb8 := bel_trans hbb hb7
    have r6 := same_any (c := c) (d := d) (HA1.out.1.below hb8) (HB1.out.1.below hb8) HA1.out.2 HB1.out.2 (by omega) (by omega)
    rw [HS.out] at r6
    have t2 : (S == S) = true := by simp
    clear b0 b1 b2 b3 d0 d1 d2 d3 hbb hb7 r5
    go_wp2_with fail
    (with_reducible refine r6.mono ?_)
    rintro e w8 ⟨rfl, hb9⟩
    go_wp2
    go_ret
    exact ⟨by simp, bel_trans hb1 (bel_trans hb8 hb9)⟩
  · have r3 := fun w => lex_yes (s := s) (by omega) hth rfl ho w
    have r4 := fun w => rlex_yes (s := s) (by omega) hone hth rfl ho w
    have hyb := ylds_bd s.data.toList 0
    rw [← Lib.size_eq] at hyb
    generalize ylds s.data.toList 0 = Y at *
    obtain ⟨ny, hny⟩ : ∃ n, Y.length = n := ⟨_, rfl⟩
    rw [hny] at r3 r4 hyb
    have HY := Lib.hid hny
    clear h6 hone hth ho hny
    go_wp2_with fail
    (with_reducible refine (r1 _).mono ?_)
    rintro e w2 ⟨rfl, hb2⟩
    go_wp2_with fail
    (with_reducible refine (r2 _).mono ?_)
    rintro e w3 ⟨rfl, hb3⟩
    go_wp2_with fail
    (with_reducible refine (r3 _).mono ?_)
    rintro e w4 ⟨X, x, rfl, hb4, tr4⟩
    go_wp2_with fail
    (with_reducible refine (r4 _).mono ?_)
    rintro e w5 ⟨Z, z, rfl, hb5, tr5⟩
    have rx := exact_any (c := x) (d := z) (n := ny) (tr4.below hb5) tr5 (by rw [List.length_map]; exact HY.out) (by omega)
    clear tr4 tr5
    go_wp2_with fail
    (with_reducible refine rx.mono ?_)
    rintro e w6 ⟨rfl, hb6⟩
    obtain ⟨b0, b1, b2, b3, -, -, -, -⟩ := ((((B4.new w2 (.int .i64 q.k) (.string q.v) (.int .i64 q.a) (.int .i64 q.z) 26).below (bel_alloc hb3 (.cells #[.int .i64 q.k, .string q.v, .int .i64 q.a, .int .i64 q.z] 26))).below hb4).below hb5).below hb6
    obtain ⟨d0, d1, d2, d3, -, -, -, -⟩ := (((B4.new w3 (.int .i64 q.k) (.string q.v) (.int .i64 q.a) (.int .i64 q.z) 26).below hb4).below hb5).below hb6
    have hbb := bel_trans (bel_trans (bel_trans (bel_alloc (bel_trans (bel_alloc hb2 (.cells #[.int .i64 q.k, .string q.v, .int .i64 q.a, .int .i64 q.z] 26)) hb3) (.cells #[.int .i64 q.k, .string q.v, .int .i64 q.a, .int .i64 q.z] 26)) hb4) hb5) hb6
    have r5 := rsame_any (c := c) (d := d) (HA1.out.1.below hbb) (HB1.out.1.below hbb) HA1.out.2 HB1.out.2 (by omega) (by omega)
    rw [HS.out] at r5
    clear hb2 hb3 hb4 hb5 hb6 r1 r2 r3 r4 rx
    go_wp2_with fail
    (with_reducible refine r5.mono ?_)
    rintro e w7 ⟨rfl, hb7⟩
    have a0 := bel_cell hb7 b0
    have a1 := bel_cell hb7 b1
    have a2 := bel_cell hb7 b2
    have a3 := bel_cell hb7 b3
    have c0 := bel_cell hb7 d0
    have c1 := bel_cell hb7 d1
    have c2 := bel_cell hb7 d2
    have c3 := bel_cell hb7 d3
    have hb8 := bel_trans hbb hb7
    have r6 := same_any (c := c) (d := d) (HA1.out.1.below hb8) (HB1.out.1.below hb8) HA1.out.2 HB1.out.2 (by omega) (by omega)
    rw [HS.out] at r6
    have t2 : (S == S) = true := by simp
    clear b0 b1 b2 b3 d0 d1 d2 d3 hbb hb7 r5
    go_wp2_with fail
    (with_reducible refine r6.mono ?_)
    rintro e w8 ⟨rfl, hb9⟩
    go_wp2
    go_ret
    exact ⟨by simp, bel_trans hb1 (bel_trans hb8 hb9)⟩
end Go.Proofs.YtcedfonkahffcaaGreat
