/- The chapter's examples (awake); the laws TextEnds and TextJoins: their mathematics and walks. -/
import Derived.Test.YtfkokhagbdeahaaTextE
namespace Go.Proofs.Ytfkokhagbdeahaa
open Go.RowKit
set_option linter.unusedVariables false

theorem string_c {A : ByteArray} {l : List UInt8} {i e : Int} {v : List UInt8} {n : Nat} {b : Bool} (hA : A = mkb l) (hv : strA l i = ⟨v, n, b⟩) (he : i + (n : Int) = e) (hl : l.length ≤ 1000000) (w : World) :
    Calls Try.prog 11 #[.string A, .int .i64 i] w fun e' w' => e' = .returned (.tuple #[.string (mkb v), .int .i64 e, .bool b]) ∧ Below w.heap.size w w' := by
  subst he; exact string_b hA hv hl w

theorem ex1 : strA [34, 97, 92, 110, 92, 34, 34, 98] 0 = ⟨[97, 10, 34], 7, true⟩ := by kernel_rfl
theorem ex2 : hexA [48, 48, 101, 70] 0 = some 239 := by kernel_rfl
theorem ex3 : escA [92, 117, 48, 48, 101, 57] 0 = some ([195, 169], 6) := by kernel_rfl

set_option maxHeartbeats 400000 in
set_option maxRecDepth 100000 in
theorem awake_any (w : World) : Calls Try.prog 10 #[] w fun e w' => e = .returned (.bool true) ∧ Below w.heap.size w w' := by
  have r1 : ∀ w, Calls Try.prog 11 #[.string ⟨#[34, 97, 92, 110, 92, 34, 34, 98]⟩, .int .i64 0] w fun e w' => e = .returned (.tuple #[.string ⟨#[97, 10, 34]⟩, .int .i64 7, .bool true]) ∧ Below w.heap.size w w' := fun w => string_c rfl ex1 rfl (by decide) w
  have r2 : ∀ w, Calls Try.prog 15 #[.string ⟨#[48, 48, 101, 70]⟩, .int .i64 0] w fun e w' => e = .returned (.tuple #[.int .i64 239, .bool true]) ∧ w = w' := fun w => hex_by rfl ex2 (by decide) w
  have r3 : ∀ w, Calls Try.prog 13 #[.string ⟨#[92, 117, 48, 48, 101, 57]⟩, .int .i64 0] w fun e w' => e = .returned (.tuple #[.string ⟨#[195, 169]⟩, .int .i64 6, .bool true]) ∧ Below w.heap.size w w' := fun w => escape_y rfl ex3 (by decide) w
  go_enter Try.func10, Try.ntmps10
  (try simp only [List.append_eq, List.cons_append, List.nil_append])
  go_wp2_with fail
  (with_reducible refine (r1 _).mono ?_)
  rintro e w1 ⟨rfl, hb1⟩
  go_wp2_with fail
  (with_reducible refine (r2 _).mono ?_)
  rintro e w' ⟨rfl, rfl⟩
  go_wp2_with fail
  (with_reducible refine (r3 _).mono ?_)
  rintro e w2 ⟨rfl, hb2⟩
  go_wp2_with fail
  go_ret
  exact ⟨by first | (simp; done) | (simp; omega), (bel_trans hb1 hb2)⟩

/-! ### TextEnds -/
theorem strA_cut {l : List UInt8} {i : Int} {v : List UInt8} {n : Nat} (h : strA l i = ⟨v, n, true⟩) :
    ∃ (k : Nat) (p x : List UInt8), i = k ∧ l.drop k = 34 :: (p ++ 34 :: x) ∧ Bd p v ∧ n = p.length + 2 := by
  unfold strA at h
  split at h
  · rename_i hi
    obtain ⟨k, rfl⟩ := Int.eq_ofNat_of_zero_le hi.1
    rw [Int.toNat_natCast] at h hi
    have hd : (l.drop k).head? = some 34 := by rw [List.head?_drop]; exact hi.2
    injection h with h1 h2 h3
    obtain ⟨p, u, x, hx, hb, ⟨y, rfl, e⟩ | ⟨_, _, e⟩⟩ := bod_cut (l.drop (k + 1))
    · rw [e] at h1 h2
      simp only at h1 h2
      subst h1
      exact ⟨k, p, y, rfl, by rw [drop_cons hd, hx], hb, by omega⟩
    · rw [e] at h3; cases h3
  · injection h with _ _ h3; cases h3
theorem strA_wrong {l : List UInt8} {i : Int} {v : List UInt8} {n : Nat} (h : strA l i = ⟨v, n, false⟩) : n = 0 ∨ (0 ≤ i ∧ 1 ≤ n ∧ i + n ≤ l.length) := by
  unfold strA at h
  split at h
  · rename_i hi
    injection h with h1 h2 h3
    have := (bod_le (l.drop (i.toNat + 1))).1
    obtain ⟨h5, _⟩ := List.getElem?_eq_some_iff.1 hi.2
    rw [List.length_drop] at this
    exact .inr ⟨hi.1, by omega, by omega⟩
  · injection h with _ h2; exact .inl h2.symm
theorem strA_ends {p v : List UInt8} (h : Bd p v) (x : List UInt8) : strA (34 :: (p ++ 34 :: x)) 0 = ⟨v, p.length + 2, true⟩ := by
  have := strA_at (l := 34 :: (p ++ 34 :: x)) (k := 0) rfl
  rw [show ((0 : Nat) : Int) = 0 from rfl] at this
  rw [this]
  show Tx.mk (bod (p ++ 34 :: x)).v _ _ = _
  rw [bod_ends h]
  show Tx.mk v (((bod (p ++ 34 :: x)).n) + 1) ((bod (p ++ 34 :: x)).b) = _
  rw [bod_ends h]
theorem strA_open {p v x : List UInt8} (h : Bd p v) (hq : x.head? ≠ some 34) (hx : pce x = none) : strA (34 :: (p ++ x)) 0 = ⟨[], p.length + 1, false⟩ := by
  have := strA_at (l := 34 :: (p ++ x)) (k := 0) rfl
  rw [show ((0 : Nat) : Int) = 0 from rfl] at this
  rw [this]
  show Tx.mk (bod (p ++ x)).v ((bod (p ++ x)).n + 1) (bod (p ++ x)).b = _
  rw [bod_open h hq hx]
theorem strA_alone {p v : List UInt8} (h : Bd p v) : strA (34 :: p) 0 = ⟨[], p.length + 1, false⟩ := by
  have := strA_open (x := []) h (by simp) pce_nil
  rwa [List.append_nil] at this

set_option maxHeartbeats 1000000 in
set_option maxRecDepth 100000 in
theorem ends_any (s : ByteArray) (i : Int) (b : ByteArray) (w : World) (zs : s.size ≤ 9223372036854775807) (hi0 : -9223372036854775808 ≤ i) (hi : i ≤ 9223372036854775807) (zb : b.size ≤ 9223372036854775807) :
    Calls Try.prog 4 #[.string s, .int .i64 i, .string b] w fun e w' => e = .returned (.bool true) ∧ Below w.heap.size w w' := by
  by_cases hs : 300 < s.size
  · have gs : (300 : Int) < (s.size : Int) := by omega
    clear hs
    go_enter Try.func4, Try.ntmps4
    (try simp only [List.append_eq, List.cons_append, List.nil_append])
    go_wp2_with fail
    (with_reducible refine (awake_any _).mono ?_)
    rintro e w1 ⟨rfl, hb1⟩
    go_wp2_with fail
    go_ret
    exact ⟨by first | (simp; done) | (simp; omega), hb1⟩
  have gs : ¬ (300 : Int) < (s.size : Int) := by omega
  by_cases hb : 300 < b.size
  · have gb : (300 : Int) < (b.size : Int) := by omega
    clear hs hb
    go_enter Try.func4, Try.ntmps4
    (try simp only [List.append_eq, List.cons_append, List.nil_append])
    go_wp2_with fail
    (with_reducible refine (awake_any _).mono ?_)
    rintro e w1 ⟨rfl, hb1⟩
    go_wp2_with fail
    go_ret
    exact ⟨by first | (simp; done) | (simp; omega), hb1⟩
  have gb : ¬ (300 : Int) < (b.size : Int) := by omega
  have ls : s.data.toList.length = s.size := (Lib.size_eq s).symm
  have lb : b.data.toList.length = b.size := (Lib.size_eq b).symm
  obtain ⟨⟨v, n, o⟩, hN⟩ : ∃ r, strA s.data.toList i = r := ⟨_, rfl⟩
  cases o
  · obtain rfl := strA_no_v hN
    have r1 : ∀ w, Calls Try.prog 11 #[.string s, .int .i64 i] w fun e w' => e = .returned (.tuple #[.string ⟨#[]⟩, .int .i64 (i + (n : Int)), .bool false]) ∧ Below w.heap.size w w' := fun w => string_b (mkb_of s).symm hN (by omega) w
    rcases strA_wrong hN with h0 | ⟨h0, h1, h2⟩
    · subst h0
      have e0 : i + ((0 : Nat) : Int) = i := by omega
      rw [e0] at r1
      have t1 : (i == i) = true := by simp
      clear hN e0 ls lb
      go_enter Try.func4, Try.ntmps4
      (try simp only [List.append_eq, List.cons_append, List.nil_append])
      go_wp2_with fail
      (with_reducible refine (awake_any _).mono ?_)
      rintro e w1 ⟨rfl, hb1⟩
      go_wp2_with fail
      (with_reducible refine (r1 _).mono ?_)
      rintro e w2 ⟨rfl, hb2⟩
      go_wp2_with fail
      go_ret
      exact ⟨by first | (simp; done) | (simp; omega), (bel_trans hb1 hb2)⟩
    · have t1 : (i + (n : Int) == i) = false := beq_false_of_ne (by omega)
      have t2 : i < i + (n : Int) := by omega
      have t3 : i + (n : Int) ≤ (s.size : Int) := by omega
      clear hN lb ls h1 h2
      generalize i + (n : Int) = e at *
      go_enter Try.func4, Try.ntmps4
      (try simp only [List.append_eq, List.cons_append, List.nil_append])
      go_wp2_with fail
      (with_reducible refine (awake_any _).mono ?_)
      rintro e w1 ⟨rfl, hb1⟩
      go_wp2_with fail
      (with_reducible refine (r1 _).mono ?_)
      rintro e w2 ⟨rfl, hb2⟩
      go_wp2_with fail
      go_ret
      exact ⟨by first | (simp; done) | (simp; omega), (bel_trans hb1 hb2)⟩
  · obtain ⟨k, p, x, rfl, hd, hbd, rfl⟩ := strA_cut hN
    have hlen := congrArg List.length hd
    rw [List.length_drop] at hlen
    simp only [List.length_cons, List.length_append] at hlen
    have r1 := fun w => string_b (w := w) (mkb_of s).symm hN (by omega)
    have ex : s.extract k (k + (p.length + 2)) = mkb (34 :: (p ++ [34])) := by
      rw [← mkb_of (s.extract k (k + (p.length + 2))), Lib.extract_data, Nat.add_sub_cancel_left, hd]
      congr 1
      have e2 : 34 :: (p ++ 34 :: x) = (34 :: (p ++ [34])) ++ x := by simp
      rw [e2]
      have e3 : p.length + 2 = (34 :: (p ++ [34]) : List UInt8).length := by simp
      rw [e3, List.take_left]
    obtain ⟨O, hO⟩ : ∃ O, O = mkb (34 :: (p ++ [34])) := ⟨_, rfl⟩
    rw [← hO] at ex
    have zO : O.size = p.length + 2 := by rw [hO, mkb_size]; simp
    obtain ⟨S1, h1, s1⟩ := sadd' (A := O) (B := b) hO (mkb_of b).symm (by first | (simp; done) | (simp; omega))
    have e1 := strA_ends hbd b.data.toList
    have r2 := fun w => string_c (w := w) (e := (O.size : Int)) h1 (by rw [← e1]; congr 1; simp) (by rw [zO]; omega) (by first | (simp; done) | (simp; omega))
    have ex2 : O.extract 0 (O.size - 1) = mkb (34 :: p) := by
      rw [← mkb_of (O.extract 0 (O.size - 1)), Lib.extract_data, zO, hO, mkb_data]
      congr 1
      simp
    obtain ⟨T1, hT⟩ : ∃ T, T = mkb (34 :: p) := ⟨_, rfl⟩
    rw [← hT] at ex2
    have r3 := fun w => string_c (w := w) (e := (p.length : Int) + 1) hT (strA_alone hbd) (by omega) (by first | (simp; done) | (simp; omega))
    rw [← zO] at r1 ex
    have g2 : 2 ≤ O.size := by omega
    have g3 : k + O.size ≤ s.size := by omega
    have q0 : 0 < O.size := by omega
    have q1 : O.size - 1 < O.size := by omega
    have t0 : ((O[0]'q0).toNat : Int) = 34 := by
      have : O.data.toList[0]? = some 34 := by rw [hO]; rfl
      have h9 := List.getElem?_eq_some_iff.1 this
      rw [show (O[0]'q0) = O.data.toList[0]'h9.1 from rfl, h9.2]; rfl
    have t1 : ((O[O.size - 1]'q1).toNat : Int) = 34 := by
      have : O.data.toList[O.size - 1]? = some 34 := by
        rw [zO, hO, mkb_data]
        show (34 :: (p ++ [34]))[p.length + 1]? = some 34
        simp
      have h9 := List.getElem?_eq_some_iff.1 this
      rw [show (O[O.size - 1]'q1) = O.data.toList[O.size - 1]'h9.1 from rfl, h9.2]; rfl
    have u0 : (((O[0]'q0).toNat : Int) == 34) = true := by rw [t0]; rfl
    have u1 : (((O[O.size - 1]'q1).toNat : Int) == 34) = true := by rw [t1]; rfl
    clear hN hlen hd hbd hO zO h1 e1 hT ls lb hs hb t0 t1
    generalize (p.length : Int) + 1 = pe at r3
    go_enter Try.func4, Try.ntmps4
    (try simp only [List.append_eq, List.cons_append, List.nil_append])
    go_wp2_with fail
    (with_reducible refine (awake_any _).mono ?_)
    rintro e w1 ⟨rfl, hb1⟩
    go_wp2_with fail
    (with_reducible refine (r1 _).mono ?_)
    rintro e w2 ⟨rfl, hb2⟩
    go_wp2_with fail
    (with_reducible refine (r2 _).mono ?_)
    rintro e w3 ⟨rfl, hb3⟩
    go_wp2_with fail
    (with_reducible refine (r3 _).mono ?_)
    rintro e w4 ⟨rfl, hb4⟩
    go_wp2_with fail
    go_ret
    exact ⟨by first | (simp; done) | (simp; omega), (bel_trans (bel_trans (bel_trans hb1 hb2) hb3) hb4)⟩

/-! ### TextJoins -/
theorem join_cut {a p x : List UInt8} (h : a = 34 :: (p ++ 34 :: x)) : a.take (p.length + 1) = 34 :: p := by
  rw [h]; simp
theorem join_cut2 {a p x : List UInt8} (h : a = 34 :: (p ++ 34 :: x)) : (a.drop 1).take (p.length + 1) = p ++ [34] := by
  rw [h]
  show (p ++ 34 :: x).take (p.length + 1) = _
  have e : p ++ 34 :: x = (p ++ [34]) ++ x := by simp
  have e2 : p.length + 1 = (p ++ [34]).length := by simp
  rw [e, e2, List.take_left]

set_option maxHeartbeats 1000000 in
set_option maxRecDepth 100000 in
theorem joins_any (a b : ByteArray) (w : World) (za : a.size ≤ 9223372036854775807) (zb : b.size ≤ 9223372036854775807) :
    Calls Try.prog 6 #[.string a, .string b] w fun e w' => e = .returned (.bool true) ∧ Below w.heap.size w w' := by
  by_cases ha : 300 < a.size
  · have ga : (300 : Int) < (a.size : Int) := by omega
    clear ha
    go_enter Try.func6, Try.ntmps6
    (try simp only [List.append_eq, List.cons_append, List.nil_append])
    go_wp2_with fail
    (with_reducible refine (awake_any _).mono ?_)
    rintro e w1 ⟨rfl, hb1⟩
    go_wp2_with fail
    go_ret
    exact ⟨by first | (simp; done) | (simp; omega), hb1⟩
  have ga : ¬ (300 : Int) < (a.size : Int) := by omega
  by_cases hb : 300 < b.size
  · have gb : (300 : Int) < (b.size : Int) := by omega
    clear ha hb
    go_enter Try.func6, Try.ntmps6
    (try simp only [List.append_eq, List.cons_append, List.nil_append])
    go_wp2_with fail
    (with_reducible refine (awake_any _).mono ?_)
    rintro e w1 ⟨rfl, hb1⟩
    go_wp2_with fail
    go_ret
    exact ⟨by first | (simp; done) | (simp; omega), hb1⟩
  have gb : ¬ (300 : Int) < (b.size : Int) := by omega
  have la : a.data.toList.length = a.size := (Lib.size_eq a).symm
  have lb : b.data.toList.length = b.size := (Lib.size_eq b).symm
  obtain ⟨⟨x, m, o⟩, hM⟩ : ∃ r, strA a.data.toList 0 = r := ⟨_, rfl⟩
  obtain ⟨⟨y, n, q⟩, hN⟩ : ∃ r, strA b.data.toList 0 = r := ⟨_, rfl⟩
  have r1 := fun w => string_c (w := w) (e := (m : Int)) (mkb_of a).symm hM (by omega) (by omega)
  have r2 := fun w => string_c (w := w) (e := (n : Int)) (mkb_of b).symm hN (by omega) (by omega)
  cases o
  · clear hM hN la lb ha hb
    go_enter Try.func6, Try.ntmps6
    (try simp only [List.append_eq, List.cons_append, List.nil_append])
    go_wp2_with fail
    (with_reducible refine (awake_any _).mono ?_)
    rintro e w1 ⟨rfl, hb1⟩
    go_wp2_with fail
    (with_reducible refine (r1 _).mono ?_)
    rintro e w2 ⟨rfl, hb2⟩
    go_wp2_with fail
    (with_reducible refine (r2 _).mono ?_)
    rintro e w3 ⟨rfl, hb3⟩
    go_wp2_with fail
    go_ret
    exact ⟨by first | (simp; done) | (simp; omega), (bel_trans (bel_trans hb1 hb2) hb3)⟩
  cases q
  · clear hM hN la lb ha hb
    go_enter Try.func6, Try.ntmps6
    (try simp only [List.append_eq, List.cons_append, List.nil_append])
    go_wp2_with fail
    (with_reducible refine (awake_any _).mono ?_)
    rintro e w1 ⟨rfl, hb1⟩
    go_wp2_with fail
    (with_reducible refine (r1 _).mono ?_)
    rintro e w2 ⟨rfl, hb2⟩
    go_wp2_with fail
    (with_reducible refine (r2 _).mono ?_)
    rintro e w3 ⟨rfl, hb3⟩
    go_wp2_with fail
    go_ret
    exact ⟨by first | (simp; done) | (simp; omega), (bel_trans (bel_trans hb1 hb2) hb3)⟩
  obtain ⟨k1, p, x1, ek1, hd1, hb1, em⟩ := strA_cut hM
  obtain ⟨k2, p', x2, ek2, hd2, hb2, en⟩ := strA_cut hN
  obtain rfl : k1 = 0 := by omega
  obtain rfl : k2 = 0 := by omega
  rw [List.drop_zero] at hd1 hd2
  have l1 := congrArg List.length hd1
  have l2 := congrArg List.length hd2
  simp only [List.length_cons, List.length_append] at l1 l2
  have g1 : 2 ≤ m := by omega
  have g2 : m ≤ a.size := by omega
  have g3 : 2 ≤ n := by omega
  have g4 : n ≤ b.size := by omega
  have ex1 : a.extract 0 (m - 1) = mkb (34 :: p) := by
    rw [← mkb_of (a.extract 0 (m - 1)), Lib.extract_data, List.drop_zero]
    congr 1
    rw [← join_cut hd1]; congr 1; omega
  have ex2 : b.extract 1 n = mkb (p' ++ [34]) := by
    rw [← mkb_of (b.extract 1 n), Lib.extract_data]
    congr 1
    rw [← join_cut2 hd2]; congr 1; omega
  obtain ⟨A1, hA1⟩ : ∃ A, A = mkb (34 :: p) := ⟨_, rfl⟩
  obtain ⟨B1, hB1⟩ : ∃ B, B = mkb (p' ++ [34]) := ⟨_, rfl⟩
  rw [← hA1] at ex1
  rw [← hB1] at ex2
  obtain ⟨S1, h1, s1⟩ := sadd' hA1 hB1 (by first | (simp; done) | (simp; omega))
  have lex := hb1.le
  have ley := hb2.le
  obtain ⟨X, hX⟩ : ∃ X, X = mkb x := ⟨_, rfl⟩
  obtain ⟨Y, hY⟩ : ∃ Y, Y = mkb y := ⟨_, rfl⟩
  obtain ⟨Z, hZ, s2⟩ := sadd' hX hY (by omega)
  have hst : strA (34 :: p ++ (p' ++ [34])) 0 = ⟨x ++ y, m + n - 2, true⟩ := by
    have := strA_ends (hb1.append hb2) []
    have e : 34 :: p ++ (p' ++ [34]) = 34 :: ((p ++ p') ++ 34 :: []) := by simp
    rw [e, this, List.length_append, em, en]
    congr 1; omega
  have r3 := fun w => string_c (w := w) (e := (m : Int) + (n : Int) - 2) h1 hst (by omega) (by first | (simp; done) | (simp; omega))
  rw [← hX] at r1
  rw [← hY] at r2
  rw [← hZ] at r3
  clear hM hN la lb ha hb em en hd1 hd2 hb1 hb2 ek1 ek2 l1 l2 hA1 hB1 h1 hX hY hZ hst lex ley
  go_enter Try.func6, Try.ntmps6
  (try simp only [List.append_eq, List.cons_append, List.nil_append])
  go_wp2_with fail
  (with_reducible refine (awake_any _).mono ?_)
  rintro e w1 ⟨rfl, hb1⟩
  go_wp2_with fail
  (with_reducible refine (r1 _).mono ?_)
  rintro e w2 ⟨rfl, hb2⟩
  go_wp2_with fail
  (with_reducible refine (r2 _).mono ?_)
  rintro e w3 ⟨rfl, hb3⟩
  go_wp2_with fail
  have k1 : IntKind.i64.wrap ((m : Int) - 1) = (m : Int) - 1 := IntWalk.i64_in _ (by omega)
  have k2 : (0 : Int) ≤ (m : Int) - 1 := by omega
  have k3 : (m : Int) - 1 ≤ (a.size : Int) := by omega
  have k4 : ((m : Int) - 1).toNat = m - 1 := by omega
  have k5 : (1 : Int) ≤ (n : Int) := by omega
  have k6 : (n : Int) ≤ (b.size : Int) := by omega
  have k7 : (1 : Int) ≤ (m : Int) := by omega
  have k8 : 1 ≤ n := by omega
  go_region_held3 (fun _ => True) (trivial) (((with_reducible refine (r3 _).mono ?_); rintro e w4 ⟨rfl, hb4⟩))
  go_wp2_with fail
  go_ret
  exact ⟨by first | (simp; done) | (simp; omega), bel_trans (bel_trans (bel_trans hb1 hb2) hb3).drew hb4⟩
end Go.Proofs.Ytfkokhagbdeahaa
