/- Contracts of package lex's functions: quoted, One. -/
import Derived.Test.YtjfhcgolgabkkaaDoorLexA
namespace Go.Proofs.YtjfhcgolgabkkaaDoor
open Go.RowKit
set_option linter.unusedVariables false

theorem hp_b {s : ByteArray} {k : Nat} {p : ByteArray} {b : Bool} (h : p.data.toList.isPrefixOf (s.data.toList.drop k) = b) (w : World) :
    Calls Tryd.prog 37 #[.string (s.extract k s.size), .string p] w fun e w' => e = .returned (.bool b) ∧ w = w' := by
  have e : Lib.hasPrefix (s.extract k s.size).data.toList p.data.toList = b := by rw [Fo.ext_drop]; exact h
  have := hp_any (s.extract k s.size) p w
  rw [e] at this
  exact this

/-- What quoted, number and One end with, of the token t at place k. -/
def oneE (t : Tk) (k : Nat) : Ending :=
  if t.e = 0 then tokE t.k (mkb t.v) k ((k : Int) + (t.n : Int)) 0 ((k : Int) + (t.n : Int)) else tokE 0 ⟨#[]⟩ 0 0 t.e ((k : Int) + (t.n : Int))
theorem oneE_ok {kd : Int} {v : List UInt8} {n k : Nat} : oneE ⟨kd, v, n, 0⟩ k = tokE kd (mkb v) k ((k : Int) + (n : Int)) 0 ((k : Int) + (n : Int)) := rfl
theorem oneE_no {t : Tk} {k : Nat} (h : t.e ≠ 0) : oneE t k = tokE 0 ⟨#[]⟩ 0 0 t.e ((k : Int) + (t.n : Int)) := by unfold oneE; rw [if_neg h]

set_option maxHeartbeats 400000 in
theorem quoted_str {s : ByteArray} {k n : Nat} {v : List UInt8} {b : Bool} (hs : s.size ≤ 1000000) (hk : k ≤ s.size) (hq : Fo.q3.isPrefixOf (s.data.toList.drop k) = false) (hv : strA s.data.toList k = ⟨v, n, b⟩) (w : World) :
    Calls Tryd.prog 43 #[.string s, .int .i64 k] w fun r w' => r = (if b = true then tokE 5 (mkb v) k ((k : Int) + (n : Int)) 0 ((k : Int) + (n : Int)) else tokE 0 ⟨#[]⟩ 0 0 4 ((k : Int) + (n : Int))) ∧ Below w.heap.size w w' := by
  have r0 := hp_b (s := s) (k := k) (p := ⟨#[34, 34, 34]⟩) hq
  have r1 := fun w => string_b (mkb_of s).symm hv (by rw [← Lib.size_eq]; omega) w
  have ht := fun w => token_b (k := 5) (i := (k : Int)) (e := (k : Int) + (n : Int)) (v := mkb v) rfl w
  clear hq hv
  cases b
  · show Calls Tryd.prog 43 #[.string s, .int .i64 k] w fun r w' => r = tokE 0 ⟨#[]⟩ 0 0 4 ((k : Int) + (n : Int)) ∧ Below w.heap.size w w'
    go_enter Tryd.func43, Tryd.ntmps43
    go_wp2_with fail
    (with_reducible refine (r0 _).mono ?_)
    rintro e w' ⟨rfl, rfl⟩
    go_wp2_with fail
    (with_reducible refine (r1 _).mono ?_)
    rintro e w1 ⟨rfl, hb1⟩
    have H := ((B4.new w (.int .i64 0) (.string ⟨#[]⟩) (.int .i64 0) (.int .i64 0) 23).below hb1)
    obtain ⟨c0, c1, c2, c3, f0, f1, f2, f3⟩ := H
    have hb := bel_trans (bel_alloc (Below.refl _ w) _) hb1
    clear hb1
    go_wp2
    refine body_box rfl ⟨c0, c1, c2, c3, f0, f1, f2, f3⟩ rfl rfl ?_
    exact ⟨rfl, bel_set4 hb (Nat.le_refl _) _ _ _ _⟩
  · show Calls Tryd.prog 43 #[.string s, .int .i64 k] w fun r w' => r = tokE 5 (mkb v) k ((k : Int) + (n : Int)) 0 ((k : Int) + (n : Int)) ∧ Below w.heap.size w w'
    go_enter Tryd.func43, Tryd.ntmps43
    go_wp2_with fail
    (with_reducible refine (r0 _).mono ?_)
    rintro e w' ⟨rfl, rfl⟩
    go_wp2_with fail
    (with_reducible refine (r1 _).mono ?_)
    rintro e w1 ⟨rfl, hb1⟩
    go_wp2_with fail
    (with_reducible refine (ht _).mono ?_)
    rintro e w2 ⟨rfl, hb2⟩
    have H := ((B4.new w (.int .i64 0) (.string ⟨#[]⟩) (.int .i64 0) (.int .i64 0) 23).below hb1).below hb2
    obtain ⟨c0, c1, c2, c3, f0, f1, f2, f3⟩ := H
    have hb := bel_trans (bel_trans (bel_alloc (Below.refl _ w) _) hb1) hb2
    clear hb1 hb2
    go_wp2
    refine body_box rfl ⟨c0, c1, c2, c3, f0, f1, f2, f3⟩ rfl rfl ?_
    exact ⟨rfl, bel_set4 hb (Nat.le_refl _) _ _ _ _⟩

set_option maxHeartbeats 400000 in
theorem quoted_raw {s : ByteArray} {k n : Nat} {v : List UInt8} {b : Bool} (hs : s.size ≤ 1000000) (hk : k ≤ s.size) (hq : Fo.q3.isPrefixOf (s.data.toList.drop k) = true) (hv : Fo.rawA s.data.toList k = ⟨v, n, b⟩) (w : World) :
    Calls Tryd.prog 43 #[.string s, .int .i64 k] w fun r w' => r = (if b = true then tokE 5 (mkb (Fo.fld v)) k ((k : Int) + (n : Int)) 0 ((k : Int) + (n : Int)) else tokE 0 ⟨#[]⟩ 0 0 4 ((k : Int) + (n : Int))) ∧ Below w.heap.size w w' := by
  have r0 := hp_b (s := s) (k := k) (p := ⟨#[34, 34, 34]⟩) hq
  have r1 := fun w => folded_any s k hs w
  rw [hv] at r1
  dsimp only at r1
  have ht := fun w => token_b (k := 5) (i := (k : Int)) (e := (k : Int) + (n : Int)) (v := mkb (Fo.fld v)) rfl w
  clear hq hv
  generalize Fo.fld v = v at *
  cases b
  · show Calls Tryd.prog 43 #[.string s, .int .i64 k] w fun r w' => r = tokE 0 ⟨#[]⟩ 0 0 4 ((k : Int) + (n : Int)) ∧ Below w.heap.size w w'
    go_enter Tryd.func43, Tryd.ntmps43
    go_wp2_with fail
    (with_reducible refine (r0 _).mono ?_)
    rintro e w' ⟨rfl, rfl⟩
    go_wp2_with fail
    (with_reducible refine (r1 _).mono ?_)
    rintro e w1 ⟨rfl, hb1⟩
    have H := ((B4.new w (.int .i64 0) (.string ⟨#[]⟩) (.int .i64 0) (.int .i64 0) 23).below hb1)
    obtain ⟨c0, c1, c2, c3, f0, f1, f2, f3⟩ := H
    have hb := bel_trans (bel_alloc (Below.refl _ w) _) hb1
    clear hb1
    go_wp2
    refine body_box rfl ⟨c0, c1, c2, c3, f0, f1, f2, f3⟩ rfl rfl ?_
    exact ⟨rfl, bel_set4 hb (Nat.le_refl _) _ _ _ _⟩
  · show Calls Tryd.prog 43 #[.string s, .int .i64 k] w fun r w' => r = tokE 5 (mkb v) k ((k : Int) + (n : Int)) 0 ((k : Int) + (n : Int)) ∧ Below w.heap.size w w'
    go_enter Tryd.func43, Tryd.ntmps43
    go_wp2_with fail
    (with_reducible refine (r0 _).mono ?_)
    rintro e w' ⟨rfl, rfl⟩
    go_wp2_with fail
    (with_reducible refine (r1 _).mono ?_)
    rintro e w1 ⟨rfl, hb1⟩
    go_wp2_with fail
    (with_reducible refine (ht _).mono ?_)
    rintro e w2 ⟨rfl, hb2⟩
    have H := ((B4.new w (.int .i64 0) (.string ⟨#[]⟩) (.int .i64 0) (.int .i64 0) 23).below hb1).below hb2
    obtain ⟨c0, c1, c2, c3, f0, f1, f2, f3⟩ := H
    have hb := bel_trans (bel_trans (bel_alloc (Below.refl _ w) _) hb1) hb2
    clear hb1 hb2
    go_wp2
    refine body_box rfl ⟨c0, c1, c2, c3, f0, f1, f2, f3⟩ rfl rfl ?_
    exact ⟨rfl, bel_set4 hb (Nat.le_refl _) _ _ _ _⟩

set_option maxHeartbeats 400000 in
theorem one_out (s : ByteArray) {i : Int} (h : i < 0 ∨ (s.size : Int) ≤ i) (w : World) :
    Calls Tryd.prog 31 #[.string s, .int .i64 i] w fun r w' => r = tokE 0 ⟨#[]⟩ 0 0 2 i ∧ Below w.heap.size w w' := by
  by_cases h0 : i < 0
  · go_enter Tryd.func31, Tryd.ntmps31
    go_wp2
    go_returns
    exact ⟨rfl, by go_grown⟩
  · have h1 : (s.size : Int) ≤ i := by omega
    clear h
    go_enter Tryd.func31, Tryd.ntmps31
    go_wp2
    go_returns
    exact ⟨rfl, by go_grown⟩

/-! ### THE WAYS -/
theorem ixb {c : UInt8} {b : Bool} (h : sgL.contains c = b) : ∃ x : Int, (∀ w, Calls Tryd.prog 38 #[.string ⟨#[33, 36, 38, 40, 41, 58, 61, 64, 91, 93, 123, 124, 125]⟩, .int .u8 c.toNat] w fun e w' => e = .returned (.int .i64 x) ∧ w = w') ∧ decide (0 ≤ x) = b := by
  refine ⟨Lib.indexByte sgL c, fun w => Sc.index_any ⟨#[33, 36, 38, 40, 41, 58, 61, 64, 91, 93, 123, 124, 125]⟩ c w, ?_⟩
  rw [← h, Bool.eq_iff_iff, decide_eq_true_iff]; exact Sc.idx_nonneg sgL c
theorem bgb {c : UInt8} {b : Bool} (h : Sc.bgI c.toNat = b) (w : World) : Calls Tryd.prog 40 #[.int .u8 c.toNat] w fun e w' => e = .returned (.bool b) ∧ w = w' := by
  rw [← h]; exact Sc.begins_any c.toNat w
theorem neB {c : UInt8} {n : Nat} (h : c ≠ UInt8.ofNat n) (hn : n < 256) : ((c.toNat : Int) == (n : Int)) = false := by
  simp only [beq_eq_false_iff_ne, ne_eq]; intro e; exact h (by rw [← show c.toNat = n by exact_mod_cast e]; simp)
set_option maxHeartbeats 400000 in
theorem one_bad {s : ByteArray} {k : Nat} {c : UInt8} (hs : s.size ≤ 1000000) (hk : k < s.size) (hc : s[k] = c) (h46 : c ≠ 46) (hsg : sgL.contains c = false) (hbg : Sc.bgI c.toNat = false) (hnum : ¬ (c = 45 ∨ Sc.dgI c.toNat = true)) (h34 : c ≠ 34) (w : World) :
    Calls Tryd.prog 31 #[.string s, .int .i64 k] w fun r w' => r = tokE 0 ⟨#[]⟩ 0 0 2 k ∧ Below w.heap.size w w' := by
  have e46 := neB (n := 46) h46 (by decide)
  have e34 := neB (n := 34) h34 (by decide)
  have e45 := neB (n := 45) (fun h => hnum (.inl h)) (by decide)
  obtain ⟨x, r0, hx⟩ := ixb hsg; have ix : ¬ 0 ≤ x := of_decide_eq_false hx
  have r1 := fun w => bgb hbg w
  have ed : ¬ (48 ≤ (c.toNat : Int) ∧ (c.toNat : Int) ≤ 57) := fun h => hnum (.inr ((Sc.dg_iff _).2 h))
  clear h46 h34 hnum hsg hbg hx
  by_cases e48 : 48 ≤ (c.toNat : Int)
  · have e57 : ¬ (c.toNat : Int) ≤ 57 := fun h => ed ⟨e48, h⟩
    clear ed
    go_enter Tryd.func31, Tryd.ntmps31
    go_wp2_with fail
    (with_reducible refine (r0 _).mono ?_)
    rintro e w' ⟨rfl, rfl⟩
    go_wp2_with fail
    (with_reducible refine (r1 _).mono ?_)
    rintro e w' ⟨rfl, rfl⟩
    go_wp2
    go_returns
    exact ⟨rfl, by go_grown⟩
  · clear ed
    go_enter Tryd.func31, Tryd.ntmps31
    go_wp2_with fail
    (with_reducible refine (r0 _).mono ?_)
    rintro e w' ⟨rfl, rfl⟩
    go_wp2_with fail
    (with_reducible refine (r1 _).mono ?_)
    rintro e w' ⟨rfl, rfl⟩
    go_wp2
    go_returns
    exact ⟨rfl, by go_grown⟩
set_option maxHeartbeats 400000 in
theorem one_dot {s : ByteArray} {k : Nat} {c : UInt8} (hs : s.size ≤ 1000000) (hk : k < s.size) (hc : s[k] = c) (h46 : c = 46) (hp : d3.isPrefixOf (s.data.toList.drop k) = false) (w : World) :
    Calls Tryd.prog 31 #[.string s, .int .i64 k] w fun r w' => r = tokE 0 ⟨#[]⟩ 0 0 2 k ∧ Below w.heap.size w w' := by
  subst h46
  have r0 := hp_b (s := s) (k := k) (p := ⟨#[46, 46, 46]⟩) hp
  clear hp
  go_enter Tryd.func31, Tryd.ntmps31
  go_wp2_with fail
  (with_reducible refine (r0 _).mono ?_)
  rintro e w' ⟨rfl, rfl⟩
  go_wp2
  go_returns
  exact ⟨rfl, by go_grown⟩
set_option maxHeartbeats 400000 in
theorem one_dots {s : ByteArray} {k : Nat} {c : UInt8} (hs : s.size ≤ 1000000) (hk : k < s.size) (hc : s[k] = c) (h46 : c = 46) (hp : d3.isPrefixOf (s.data.toList.drop k) = true) (w : World) :
    Calls Tryd.prog 31 #[.string s, .int .i64 k] w fun r w' => r = tokE 1 (mkb ((s.data.toList.drop k).take 3)) k ((k : Int) + (3 : Int)) 0 ((k : Int) + (3 : Int)) ∧ Below w.heap.size w w' := by
  subst h46
  have hl := Fo.pre_len hp
  rw [List.length_drop, ← Lib.size_eq] at hl
  change 3 ≤ s.size - k at hl
  have hl3 : k + 3 ≤ s.size := by omega
  have r0 := hp_b (s := s) (k := k) (p := ⟨#[46, 46, 46]⟩) hp
  have ht := fun w => token_b (k := 1) (i := (k : Int)) (e := (k : Int) + 3) (v := s.extract k (k + 3)) (ext_take s k 3) w
  clear hp hl
  go_enter Tryd.func31, Tryd.ntmps31
  go_wp2_with fail
  (with_reducible refine (r0 _).mono ?_)
  rintro e w' ⟨rfl, rfl⟩
  go_wp2_with fail
  (with_reducible refine (ht _).mono ?_)
  rintro e w1 ⟨rfl, hb1⟩
  obtain ⟨c0, c1, c2, c3, f0, f1, f2, f3⟩ := ((B4.new w (.int .i64 0) (.string ⟨#[]⟩) (.int .i64 0) (.int .i64 0) 23).below hb1)
  have hb := (bel_trans (bel_alloc (Below.refl _ w) _) hb1)
  clear hb1
  go_wp2
  refine body_box rfl ⟨c0, c1, c2, c3, f0, f1, f2, f3⟩ rfl rfl ?_
  exact ⟨rfl, bel_set4 hb (Nat.le_refl _) _ _ _ _⟩
set_option maxHeartbeats 400000 in
theorem one_sign {s : ByteArray} {k : Nat} {c : UInt8} (hs : s.size ≤ 1000000) (hk : k < s.size) (hc : s[k] = c) (h46 : c ≠ 46) (hsg : sgL.contains c = true) (w : World) :
    Calls Tryd.prog 31 #[.string s, .int .i64 k] w fun r w' => r = tokE 1 (mkb ((s.data.toList.drop k).take 1)) k ((k : Int) + (1 : Int)) 0 ((k : Int) + (1 : Int)) ∧ Below w.heap.size w w' := by
  have e46 := neB (n := 46) h46 (by decide)
  obtain ⟨x, r0, hx⟩ := ixb hsg; have ix : 0 ≤ x := of_decide_eq_true hx
  have ht := fun w => token_b (k := 1) (i := (k : Int)) (e := (k : Int) + 1) (v := s.extract k (k + 1)) (ext_take s k 1) w
  clear h46 hsg hx
  go_enter Tryd.func31, Tryd.ntmps31
  go_wp2_with fail
  (with_reducible refine (r0 _).mono ?_)
  rintro e w' ⟨rfl, rfl⟩
  go_wp2_with fail
  (with_reducible refine (ht _).mono ?_)
  rintro e w1 ⟨rfl, hb1⟩
  obtain ⟨c0, c1, c2, c3, f0, f1, f2, f3⟩ := ((B4.new w (.int .i64 0) (.string ⟨#[]⟩) (.int .i64 0) (.int .i64 0) 23).below hb1)
  have hb := (bel_trans (bel_alloc (Below.refl _ w) _) hb1)
  clear hb1
  go_wp2
  refine body_box rfl ⟨c0, c1, c2, c3, f0, f1, f2, f3⟩ rfl rfl ?_
  exact ⟨rfl, bel_set4 hb (Nat.le_refl _) _ _ _ _⟩
set_option maxHeartbeats 400000 in
theorem one_name {s : ByteArray} {k : Nat} {c : UInt8} (hs : s.size ≤ 1000000) (hk : k < s.size) (hc : s[k] = c) (h46 : c ≠ 46) (hsg : sgL.contains c = false) (hbg : Sc.bgI c.toNat = true) {n : Nat} (hn : Sc.nmT (s.data.toList.drop k) = n) (w : World) :
    Calls Tryd.prog 31 #[.string s, .int .i64 k] w fun r w' => r = tokE 2 (mkb ((s.data.toList.drop k).take n)) k ((k : Int) + (n : Int)) 0 ((k : Int) + (n : Int)) ∧ Below w.heap.size w w' := by
  have e46 := neB (n := 46) h46 (by decide)
  obtain ⟨x, r0, hx⟩ := ixb hsg; have ix : ¬ 0 ≤ x := of_decide_eq_false hx
  have r1 := fun w => bgb hbg w
  have hle := Sc.nmT_le (s.data.toList.drop k)
  rw [List.length_drop, ← Lib.size_eq, hn] at hle
  have hl2 : k + n ≤ s.size := by omega
  have r2 := fun w => Sc.name_any s k w (by omega)
  rw [Sc.atE_in (by rw [← Lib.size_eq]; omega), hn] at r2
  have ht := fun w => token_b (k := 2) (i := (k : Int)) (e := (k : Int) + (n : Int)) (v := s.extract k (k + n)) (ext_take s k n) w
  clear h46 hsg hx hbg hn hle
  go_enter Tryd.func31, Tryd.ntmps31
  go_wp2_with fail
  (with_reducible refine (r0 _).mono ?_)
  rintro e w' ⟨rfl, rfl⟩
  go_wp2_with fail
  (with_reducible refine (r1 _).mono ?_)
  rintro e w' ⟨rfl, rfl⟩
  go_wp2_with fail
  (with_reducible refine (r2 _).mono ?_)
  rintro e w1 ⟨rfl, hb1⟩
  go_wp2_with fail
  (with_reducible refine (ht _).mono ?_)
  rintro e w2 ⟨rfl, hb2⟩
  obtain ⟨c0, c1, c2, c3, f0, f1, f2, f3⟩ := (((B4.new w (.int .i64 0) (.string ⟨#[]⟩) (.int .i64 0) (.int .i64 0) 23).below hb1).below hb2)
  have hb := (bel_trans (bel_trans (bel_alloc (Below.refl _ w) _) hb1) hb2)
  clear hb1 hb2
  go_wp2
  refine body_box rfl ⟨c0, c1, c2, c3, f0, f1, f2, f3⟩ rfl rfl ?_
  exact ⟨rfl, bel_set4 hb (Nat.le_refl _) _ _ _ _⟩
set_option maxHeartbeats 400000 in
theorem one_num_ok {s : ByteArray} {k : Nat} {c : UInt8} (hs : s.size ≤ 1000000) (hk : k < s.size) (hc : s[k] = c) (h46 : c ≠ 46) (hsg : sgL.contains c = false) (hbg : Sc.bgI c.toNat = false) (hnum : c = 45 ∨ Sc.dgI c.toNat = true) {m : Nat} {kd : Int} (hn : Sc.numA s.data.toList k = ⟨kd, (k : Int) + (m : Int), true⟩) (hle : k + m ≤ s.size) (w : World) :
    Calls Tryd.prog 31 #[.string s, .int .i64 k] w fun r w' => r = tokE kd (mkb ((s.data.toList.drop k).take m)) k ((k : Int) + (m : Int)) 0 ((k : Int) + (m : Int)) ∧ Below w.heap.size w w' := by
  have e46 := neB (n := 46) h46 (by decide)
  obtain ⟨x, r0, hx⟩ := ixb hsg; have ix : ¬ 0 ≤ x := of_decide_eq_false hx
  have r1 := fun w => bgb hbg w
  have r2 := fun w => number_ok hs rfl hn hle w
  clear h46 hsg hbg hx hn
  by_cases h45 : c = 45
  · subst h45
    have q0 : ∀ w, Calls Tryd.prog 38 #[.string ⟨#[33, 36, 38, 40, 41, 58, 61, 64, 91, 93, 123, 124, 125]⟩, .int .u8 45] w fun e w' => e = .returned (.int .i64 x) ∧ w = w' := r0
    have q1 : ∀ w, Calls Tryd.prog 40 #[.int .u8 45] w fun e w' => e = .returned (.bool false) ∧ w = w' := r1
    go_enter Tryd.func31, Tryd.ntmps31
    go_wp2_with fail
    (with_reducible refine (q0 _).mono ?_)
    rintro e w' ⟨rfl, rfl⟩
    go_wp2_with fail
    (with_reducible refine (q1 _).mono ?_)
    rintro e w' ⟨rfl, rfl⟩
    go_wp2_with fail
    (with_reducible refine (r2 _).mono ?_)
    rintro e w1 ⟨rfl, hb1⟩
    obtain ⟨c0, c1, c2, c3, f0, f1, f2, f3⟩ := ((B4.new w (.int .i64 0) (.string ⟨#[]⟩) (.int .i64 0) (.int .i64 0) 23).below hb1)
    have hb := (bel_trans (bel_alloc (Below.refl _ w) _) hb1)
    clear hb1
    go_wp2
    refine body_box rfl ⟨c0, c1, c2, c3, f0, f1, f2, f3⟩ rfl rfl ?_
    exact ⟨rfl, bel_set4 hb (Nat.le_refl _) _ _ _ _⟩
  · have hd := (Sc.dg_iff _).1 (hnum.resolve_left h45)
    have e45 := neB (n := 45) h45 (by decide)
    obtain ⟨e48, e57⟩ := hd
    clear hnum h45
    go_enter Tryd.func31, Tryd.ntmps31
    go_wp2_with fail
    (with_reducible refine (r0 _).mono ?_)
    rintro e w' ⟨rfl, rfl⟩
    go_wp2_with fail
    (with_reducible refine (r1 _).mono ?_)
    rintro e w' ⟨rfl, rfl⟩
    go_wp2_with fail
    (with_reducible refine (r2 _).mono ?_)
    rintro e w1 ⟨rfl, hb1⟩
    obtain ⟨c0, c1, c2, c3, f0, f1, f2, f3⟩ := ((B4.new w (.int .i64 0) (.string ⟨#[]⟩) (.int .i64 0) (.int .i64 0) 23).below hb1)
    have hb := (bel_trans (bel_alloc (Below.refl _ w) _) hb1)
    clear hb1
    go_wp2
    refine body_box rfl ⟨c0, c1, c2, c3, f0, f1, f2, f3⟩ rfl rfl ?_
    exact ⟨rfl, bel_set4 hb (Nat.le_refl _) _ _ _ _⟩
set_option maxHeartbeats 400000 in
theorem one_num_no {s : ByteArray} {k : Nat} {c : UInt8} (hs : s.size ≤ 1000000) (hk : k < s.size) (hc : s[k] = c) (h46 : c ≠ 46) (hsg : sgL.contains c = false) (hbg : Sc.bgI c.toNat = false) (hnum : c = 45 ∨ Sc.dgI c.toNat = true) {m : Nat} {kd : Int} (hn : Sc.numA s.data.toList k = ⟨kd, (k : Int) + (m : Int), false⟩) (w : World) :
    Calls Tryd.prog 31 #[.string s, .int .i64 k] w fun r w' => r = tokE 0 ⟨#[]⟩ 0 0 3 ((k : Int) + (m : Int)) ∧ Below w.heap.size w w' := by
  have e46 := neB (n := 46) h46 (by decide)
  obtain ⟨x, r0, hx⟩ := ixb hsg; have ix : ¬ 0 ≤ x := of_decide_eq_false hx
  have r1 := fun w => bgb hbg w
  have r2 := fun w => number_no hs (by omega) (by omega) hn w
  clear h46 hsg hbg hx hn
  by_cases h45 : c = 45
  · subst h45
    have q0 : ∀ w, Calls Tryd.prog 38 #[.string ⟨#[33, 36, 38, 40, 41, 58, 61, 64, 91, 93, 123, 124, 125]⟩, .int .u8 45] w fun e w' => e = .returned (.int .i64 x) ∧ w = w' := r0
    have q1 : ∀ w, Calls Tryd.prog 40 #[.int .u8 45] w fun e w' => e = .returned (.bool false) ∧ w = w' := r1
    go_enter Tryd.func31, Tryd.ntmps31
    go_wp2_with fail
    (with_reducible refine (q0 _).mono ?_)
    rintro e w' ⟨rfl, rfl⟩
    go_wp2_with fail
    (with_reducible refine (q1 _).mono ?_)
    rintro e w' ⟨rfl, rfl⟩
    go_wp2_with fail
    (with_reducible refine (r2 _).mono ?_)
    rintro e w1 ⟨rfl, hb1⟩
    obtain ⟨c0, c1, c2, c3, f0, f1, f2, f3⟩ := ((B4.new w (.int .i64 0) (.string ⟨#[]⟩) (.int .i64 0) (.int .i64 0) 23).below hb1)
    have hb := (bel_trans (bel_alloc (Below.refl _ w) _) hb1)
    clear hb1
    go_wp2
    refine body_box rfl ⟨c0, c1, c2, c3, f0, f1, f2, f3⟩ rfl rfl ?_
    exact ⟨rfl, bel_set4 hb (Nat.le_refl _) _ _ _ _⟩
  · have hd := (Sc.dg_iff _).1 (hnum.resolve_left h45)
    have e45 := neB (n := 45) h45 (by decide)
    obtain ⟨e48, e57⟩ := hd
    clear hnum h45
    go_enter Tryd.func31, Tryd.ntmps31
    go_wp2_with fail
    (with_reducible refine (r0 _).mono ?_)
    rintro e w' ⟨rfl, rfl⟩
    go_wp2_with fail
    (with_reducible refine (r1 _).mono ?_)
    rintro e w' ⟨rfl, rfl⟩
    go_wp2_with fail
    (with_reducible refine (r2 _).mono ?_)
    rintro e w1 ⟨rfl, hb1⟩
    obtain ⟨c0, c1, c2, c3, f0, f1, f2, f3⟩ := ((B4.new w (.int .i64 0) (.string ⟨#[]⟩) (.int .i64 0) (.int .i64 0) 23).below hb1)
    have hb := (bel_trans (bel_alloc (Below.refl _ w) _) hb1)
    clear hb1
    go_wp2
    refine body_box rfl ⟨c0, c1, c2, c3, f0, f1, f2, f3⟩ rfl rfl ?_
    exact ⟨rfl, bel_set4 hb (Nat.le_refl _) _ _ _ _⟩
set_option maxHeartbeats 400000 in
theorem one_str_ok {s : ByteArray} {k : Nat} {c : UInt8} (hs : s.size ≤ 1000000) (hk : k < s.size) (hc : s[k] = c) (h34 : c = 34) {n : Nat} {v : List UInt8} (hq : Fo.q3.isPrefixOf (s.data.toList.drop k) = false) (hv : strA s.data.toList k = ⟨v, n, true⟩) (w : World) :
    Calls Tryd.prog 31 #[.string s, .int .i64 k] w fun r w' => r = tokE 5 (mkb v) k ((k : Int) + (n : Int)) 0 ((k : Int) + (n : Int)) ∧ Below w.heap.size w w' := by
  subst h34
  have r2 : ∀ w, Calls Tryd.prog 43 #[.string s, .int .i64 k] w fun r w' => r = tokE 5 (mkb v) k ((k : Int) + (n : Int)) 0 ((k : Int) + (n : Int)) ∧ Below w.heap.size w w' := fun w => quoted_str hs (by omega) hq hv w
  unfold tokE at r2
  obtain ⟨x, r0, hx⟩ := ixb (c := 34) (b := false) (by decide); have ix : ¬ 0 ≤ x := of_decide_eq_false hx
  have r1 := fun w => bgb (c := 34) (b := false) (by decide) w
  have q0 : ∀ w, Calls Tryd.prog 38 #[.string ⟨#[33, 36, 38, 40, 41, 58, 61, 64, 91, 93, 123, 124, 125]⟩, .int .u8 34] w fun e w' => e = .returned (.int .i64 x) ∧ w = w' := r0
  have q1 : ∀ w, Calls Tryd.prog 40 #[.int .u8 34] w fun e w' => e = .returned (.bool false) ∧ w = w' := r1
  clear hx hq hv
  go_enter Tryd.func31, Tryd.ntmps31
  go_wp2_with fail
  (with_reducible refine (q0 _).mono ?_)
  rintro e w' ⟨rfl, rfl⟩
  go_wp2_with fail
  (with_reducible refine (q1 _).mono ?_)
  rintro e w' ⟨rfl, rfl⟩
  go_wp2_with fail
  (with_reducible refine (r2 _).mono ?_)
  rintro e w1 ⟨rfl, hb1⟩
  obtain ⟨c0, c1, c2, c3, f0, f1, f2, f3⟩ := ((B4.new w (.int .i64 0) (.string ⟨#[]⟩) (.int .i64 0) (.int .i64 0) 23).below hb1)
  have hb := (bel_trans (bel_alloc (Below.refl _ w) _) hb1)
  clear hb1
  go_wp2
  refine body_box rfl ⟨c0, c1, c2, c3, f0, f1, f2, f3⟩ rfl rfl ?_
  exact ⟨rfl, bel_set4 hb (Nat.le_refl _) _ _ _ _⟩
set_option maxHeartbeats 400000 in
theorem one_str_no {s : ByteArray} {k : Nat} {c : UInt8} (hs : s.size ≤ 1000000) (hk : k < s.size) (hc : s[k] = c) (h34 : c = 34) {n : Nat} {v : List UInt8} (hq : Fo.q3.isPrefixOf (s.data.toList.drop k) = false) (hv : strA s.data.toList k = ⟨v, n, false⟩) (w : World) :
    Calls Tryd.prog 31 #[.string s, .int .i64 k] w fun r w' => r = tokE 0 ⟨#[]⟩ 0 0 4 ((k : Int) + (n : Int)) ∧ Below w.heap.size w w' := by
  subst h34
  have r2 : ∀ w, Calls Tryd.prog 43 #[.string s, .int .i64 k] w fun r w' => r = tokE 0 ⟨#[]⟩ 0 0 4 ((k : Int) + (n : Int)) ∧ Below w.heap.size w w' := fun w => quoted_str hs (by omega) hq hv w
  unfold tokE at r2
  obtain ⟨x, r0, hx⟩ := ixb (c := 34) (b := false) (by decide); have ix : ¬ 0 ≤ x := of_decide_eq_false hx
  have r1 := fun w => bgb (c := 34) (b := false) (by decide) w
  have q0 : ∀ w, Calls Tryd.prog 38 #[.string ⟨#[33, 36, 38, 40, 41, 58, 61, 64, 91, 93, 123, 124, 125]⟩, .int .u8 34] w fun e w' => e = .returned (.int .i64 x) ∧ w = w' := r0
  have q1 : ∀ w, Calls Tryd.prog 40 #[.int .u8 34] w fun e w' => e = .returned (.bool false) ∧ w = w' := r1
  clear hx hq hv
  go_enter Tryd.func31, Tryd.ntmps31
  go_wp2_with fail
  (with_reducible refine (q0 _).mono ?_)
  rintro e w' ⟨rfl, rfl⟩
  go_wp2_with fail
  (with_reducible refine (q1 _).mono ?_)
  rintro e w' ⟨rfl, rfl⟩
  go_wp2_with fail
  (with_reducible refine (r2 _).mono ?_)
  rintro e w1 ⟨rfl, hb1⟩
  obtain ⟨c0, c1, c2, c3, f0, f1, f2, f3⟩ := ((B4.new w (.int .i64 0) (.string ⟨#[]⟩) (.int .i64 0) (.int .i64 0) 23).below hb1)
  have hb := (bel_trans (bel_alloc (Below.refl _ w) _) hb1)
  clear hb1
  go_wp2
  refine body_box rfl ⟨c0, c1, c2, c3, f0, f1, f2, f3⟩ rfl rfl ?_
  exact ⟨rfl, bel_set4 hb (Nat.le_refl _) _ _ _ _⟩
set_option maxHeartbeats 400000 in
theorem one_raw_ok {s : ByteArray} {k : Nat} {c : UInt8} (hs : s.size ≤ 1000000) (hk : k < s.size) (hc : s[k] = c) (h34 : c = 34) {n : Nat} {v : List UInt8} (hq : Fo.q3.isPrefixOf (s.data.toList.drop k) = true) (hv : Fo.rawA s.data.toList k = ⟨v, n, true⟩) (w : World) :
    Calls Tryd.prog 31 #[.string s, .int .i64 k] w fun r w' => r = tokE 5 (mkb (Fo.fld v)) k ((k : Int) + (n : Int)) 0 ((k : Int) + (n : Int)) ∧ Below w.heap.size w w' := by
  subst h34
  have r2 : ∀ w, Calls Tryd.prog 43 #[.string s, .int .i64 k] w fun r w' => r = tokE 5 (mkb (Fo.fld v)) k ((k : Int) + (n : Int)) 0 ((k : Int) + (n : Int)) ∧ Below w.heap.size w w' := fun w => quoted_raw hs (by omega) hq hv w
  unfold tokE at r2
  obtain ⟨x, r0, hx⟩ := ixb (c := 34) (b := false) (by decide); have ix : ¬ 0 ≤ x := of_decide_eq_false hx
  have r1 := fun w => bgb (c := 34) (b := false) (by decide) w
  have q0 : ∀ w, Calls Tryd.prog 38 #[.string ⟨#[33, 36, 38, 40, 41, 58, 61, 64, 91, 93, 123, 124, 125]⟩, .int .u8 34] w fun e w' => e = .returned (.int .i64 x) ∧ w = w' := r0
  have q1 : ∀ w, Calls Tryd.prog 40 #[.int .u8 34] w fun e w' => e = .returned (.bool false) ∧ w = w' := r1
  clear hx hq hv
  generalize Fo.fld v = v at *
  go_enter Tryd.func31, Tryd.ntmps31
  go_wp2_with fail
  (with_reducible refine (q0 _).mono ?_)
  rintro e w' ⟨rfl, rfl⟩
  go_wp2_with fail
  (with_reducible refine (q1 _).mono ?_)
  rintro e w' ⟨rfl, rfl⟩
  go_wp2_with fail
  (with_reducible refine (r2 _).mono ?_)
  rintro e w1 ⟨rfl, hb1⟩
  obtain ⟨c0, c1, c2, c3, f0, f1, f2, f3⟩ := ((B4.new w (.int .i64 0) (.string ⟨#[]⟩) (.int .i64 0) (.int .i64 0) 23).below hb1)
  have hb := (bel_trans (bel_alloc (Below.refl _ w) _) hb1)
  clear hb1
  go_wp2
  refine body_box rfl ⟨c0, c1, c2, c3, f0, f1, f2, f3⟩ rfl rfl ?_
  exact ⟨rfl, bel_set4 hb (Nat.le_refl _) _ _ _ _⟩
set_option maxHeartbeats 400000 in
theorem one_raw_no {s : ByteArray} {k : Nat} {c : UInt8} (hs : s.size ≤ 1000000) (hk : k < s.size) (hc : s[k] = c) (h34 : c = 34) {n : Nat} {v : List UInt8} (hq : Fo.q3.isPrefixOf (s.data.toList.drop k) = true) (hv : Fo.rawA s.data.toList k = ⟨v, n, false⟩) (w : World) :
    Calls Tryd.prog 31 #[.string s, .int .i64 k] w fun r w' => r = tokE 0 ⟨#[]⟩ 0 0 4 ((k : Int) + (n : Int)) ∧ Below w.heap.size w w' := by
  subst h34
  have r2 : ∀ w, Calls Tryd.prog 43 #[.string s, .int .i64 k] w fun r w' => r = tokE 0 ⟨#[]⟩ 0 0 4 ((k : Int) + (n : Int)) ∧ Below w.heap.size w w' := fun w => quoted_raw hs (by omega) hq hv w
  unfold tokE at r2
  obtain ⟨x, r0, hx⟩ := ixb (c := 34) (b := false) (by decide); have ix : ¬ 0 ≤ x := of_decide_eq_false hx
  have r1 := fun w => bgb (c := 34) (b := false) (by decide) w
  have q0 : ∀ w, Calls Tryd.prog 38 #[.string ⟨#[33, 36, 38, 40, 41, 58, 61, 64, 91, 93, 123, 124, 125]⟩, .int .u8 34] w fun e w' => e = .returned (.int .i64 x) ∧ w = w' := r0
  have q1 : ∀ w, Calls Tryd.prog 40 #[.int .u8 34] w fun e w' => e = .returned (.bool false) ∧ w = w' := r1
  clear hx hq hv
  generalize Fo.fld v = v at *
  go_enter Tryd.func31, Tryd.ntmps31
  go_wp2_with fail
  (with_reducible refine (q0 _).mono ?_)
  rintro e w' ⟨rfl, rfl⟩
  go_wp2_with fail
  (with_reducible refine (q1 _).mono ?_)
  rintro e w' ⟨rfl, rfl⟩
  go_wp2_with fail
  (with_reducible refine (r2 _).mono ?_)
  rintro e w1 ⟨rfl, hb1⟩
  obtain ⟨c0, c1, c2, c3, f0, f1, f2, f3⟩ := ((B4.new w (.int .i64 0) (.string ⟨#[]⟩) (.int .i64 0) (.int .i64 0) 23).below hb1)
  have hb := (bel_trans (bel_alloc (Below.refl _ w) _) hb1)
  clear hb1
  go_wp2
  refine body_box rfl ⟨c0, c1, c2, c3, f0, f1, f2, f3⟩ rfl rfl ?_
  exact ⟨rfl, bel_set4 hb (Nat.le_refl _) _ _ _ _⟩
end Go.Proofs.YtjfhcgolgabkkaaDoor
