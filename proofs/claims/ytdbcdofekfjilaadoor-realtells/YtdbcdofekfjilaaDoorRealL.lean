/- The walk of RealMinus. -/
import Derived.Test.YtdbcdofekfjilaaDoorRealI
namespace Go.Proofs.YtdbcdofekfjilaaDoor
open Go.RowKit
set_option linter.unusedVariables false

/-- Products and quotients of numbers that are not negative are not. -/
theorem nearest_pos (m : Nat) (p : Int) : Ieee.double.nearest false m p < 9223372036854775808 := by
  unfold Ieee.Format.nearest
  split
  · decide
  · simp only [Ieee.Format.word, Bool.false_eq_true, if_false]
    have : Ieee.double.infRung = 9218868437227405312 := d_inf
    omega
theorem mul_pos {a b : Nat} (ha : a < 18446744073709551616) (hb : b < 18446744073709551616) (h1 : rg a < 9218868437227405312) (h2 : rg b < 9218868437227405312) (s1 : sg a = false) (s2 : sg b = false) : ∃ r, Ieee.double.mul a b = some r ∧ r < 9223372036854775808 := by
  obtain ⟨m, p, e, _⟩ := read_fin ha h1
  obtain ⟨n, q, f, _⟩ := read_fin hb h2
  unfold Ieee.Format.mul
  rw [e, f, s1, s2]
  exact ⟨_, rfl, nearest_pos _ _⟩
theorem div_pos {a b : Nat} (ha : a < 18446744073709551616) (hb : b < 18446744073709551616) (h1 : rg a < 9218868437227405312) (h2 : rg b < 9218868437227405312) (h3 : rg b ≠ 0) (s1 : sg a = false) (s2 : sg b = false) : ∃ r, Ieee.double.div a b = some r ∧ r < 9223372036854775808 := by
  obtain ⟨m, p, e, _⟩ := read_fin ha h1
  obtain ⟨n, q, f, hz, _⟩ := read_fin hb h2
  have hn : n ≠ 0 := fun k => h3 (hz.1 k)
  unfold Ieee.Format.div
  rw [e, f, s1, s2]
  simp only [Ieee.Datum.quotient, if_neg hn]
  exact ⟨_, rfl, nearest_pos _ _⟩
theorem tenB_sg : ∀ k, k < 23 → sg (tenB k) = false := by decide +kernel

theorem valB_half (l : List UInt8) (hl : l.all isD = true) (x : Int) : nanB (valB l x) = true ∨ valB l x < 9223372036854775808 := by
  unfold valB
  split
  · right; omega
  · split
    · right; omega
    · split
      · right; omega
      · split
        · left; decide +kernel
        · rename_i h0 h1 h2 h3
          have hd := dval_lt15 l hl (by omega)
          obtain ⟨w1, w2, w3⟩ := W_fin (n := dval l) (by omega)
          have sW : sg (W (dval l)) = false := by unfold sg; simp; omega
          split
          · obtain ⟨t1, t2, t3⟩ := tenB_fin (-x).toNat (by omega)
            have sT := tenB_sg (-x).toNat (by omega)
            obtain ⟨r, hr, hp⟩ := div_pos w1 t1 w2 t2 t3 sW sT
            rw [hr]; exact .inr hp
          · obtain ⟨t1, t2, t3⟩ := tenB_fin x.toNat (by omega)
            have sT := tenB_sg x.toNat (by omega)
            obtain ⟨r, hr, hp⟩ := mul_pos w1 t1 w2 t2 sW sT
            rw [hr]; exact .inr hp

/-- What a minus ahead does, of words. -/
theorem minus_word {v : Nat} (h : nanB v = true ∨ v < 9223372036854775808) (hv : v < 18446744073709551616) :
    samev (if nanB v then v else rg v + 9223372036854775808) (negB v) = true ∧ (nanB v = false → negv (if nanB v then v else rg v + 9223372036854775808) = true ∧ negv v = false) := by
  cases hn : nanB v
  · have hp : v < 9223372036854775808 := by rcases h with h | h; rw [hn] at h; cases h; exact h
    have e1 : rg v = v := by unfold rg; omega
    have e2 : negB v = v + 9223372036854775808 := by unfold negB sg; simp; omega
    have e3 : v + 9223372036854775808 = sgw true v := rfl
    simp only [Bool.false_eq_true, if_false]
    rw [e1, e2]
    refine ⟨same_self (by omega), fun _ => ⟨?_, ?_⟩⟩
    · rw [e3, sgw_neg hp hn]
    · have : v = sgw false v := rfl
      rw [this, sgw_neg hp hn]
  · simp only [if_true]
    refine ⟨?_, fun h => by cases h⟩
    rw [same_nan hn, negB_nan hv, hn]

theorem rv_minus {s : List UInt8} (h : ∀ t, s ≠ 45 :: t) : rv ([45] ++ s) = (if nanB (rv s) then rv s else rg (rv s) + 9223372036854775808) ∧ (nanB (rv s) = true ∨ rv s < 9223372036854775808) := by
  have e1 : num ([45] ++ s) = (plainD s).map fun d => (true, d.1, d.2) := num_minus s
  have e2 := num_plain s h
  unfold rv
  rw [e1, e2]
  cases hp : plainD s with
  | none => simp only [Option.map_none, rvo]; decide +kernel
  | some q =>
    obtain ⟨d, x⟩ := q
    have hd : (tz d).all isD = true := tz_all (num_ok (show num s = some (false, d, x) by rw [e2, hp]; rfl)).1
    have hh := valB_half (tz d) hd x
    simp only [Option.map_some, rvo, Bool.true_and, Bool.false_and, Bool.false_eq_true, if_false]
    refine ⟨?_, hh⟩
    cases nanB (valB (tz d) x) <;> simp
theorem rv_minus2 (s : List UInt8) : rv ([45, 45] ++ s) = 9221120237041090561 := by
  have e : num ([45, 45] ++ s) = none := by
    rw [show [45, 45] ++ s = 45 :: 45 :: s from rfl, num_minus]
    have : plainD (45 :: s) = none := by
      unfold plainD
      rw [if_pos]
      unfold dg
      rw [List.takeWhile_cons]
      rfl
    rw [this]; rfl
  unfold rv; rw [e]; rfl
theorem sortv_ne {f : Nat} (hn : nanB f = false) : (sortv f == 0) = false := by
  have : ¬ sortv f = 0 := by
    unfold sortv
    rw [hn]
    simp only [Bool.false_eq_true, if_false]
    split
    · decide
    · split <;> decide
  exact beq_false_of_ne this
theorem rv_zero {c : UInt8} {t : List UInt8} (h : isD c = true) : rv ([48] ++ c :: t) = rv (c :: t) := by
  have hm : ∀ u, c :: t ≠ 45 :: u := by intro u e; rw [(List.cons.inj e).1] at h; exact absurd h (by decide)
  have hm2 : ∀ u, [48] ++ c :: t ≠ 45 :: u := by intro u e; exact absurd (List.cons.inj e).1 (by decide)
  unfold rv
  rw [num_plain _ hm, num_plain _ hm2]
  have d1 : dg ([48] ++ c :: t) = 48 :: dg (c :: t) := by
    show List.takeWhile isD (48 :: c :: t) = _
    rw [List.takeWhile_cons, if_pos (by decide)]; rfl
  have d2 : ud ([48] ++ c :: t) = ud (c :: t) := by
    show List.dropWhile isD (48 :: c :: t) = _
    rw [List.dropWhile_cons, if_pos (by decide)]; rfl
  have d3 : dg (c :: t) ≠ [] := by
    unfold dg; rw [List.takeWhile_cons, if_pos h]; simp
  have tzc : ∀ l : List UInt8, tz (48 :: l) = tz l := fun l => by unfold tz; rw [List.dropWhile_cons, if_pos (by decide)]
  unfold plainD
  rw [d1, d2, if_neg (by simp), if_neg d3]
  split
  · cases expoD (dr [46] 1 (ud (c :: t))) with
    | none => rfl
    | some x => simp only [Option.map_some, rvo]; rw [tzc]
  · split
    · rfl
    · cases expoD (ud (dr [46] 1 (ud (c :: t)))) with
      | none => rfl
      | some x => simp only [Option.map_some, rvo]; rw [List.cons_append, tzc]


set_option maxHeartbeats 1000000 in
set_option maxRecDepth 100000 in
theorem minus_empty (s : ByteArray) (w : World) (hs : s.size ≤ 600) (f g z : Nat) (hf : f < 18446744073709551616) (hg : g < 18446744073709551616) (hzl : z < 18446744073709551616)
    (hn : nanB f = false) (hsm : samev g (negB f) = true) (hng : negv g = true ∨ False) (hnf : negv f = false ∨ False)
    (h0 : s.size = 0) (A1 A2 A3 : ByteArray) (a1 : ∀ w, (Op.stringOp .add ⟨#[45]⟩ s).run Tryd.prog w = .ok (.string A1) w) (a2 : ∀ w, (Op.stringOp .add ⟨#[45, 45]⟩ s).run Tryd.prog w = .ok (.string A2) w) (a3 : ∀ w, (Op.stringOp .add ⟨#[48]⟩ s).run Tryd.prog w = .ok (.string A3) w)
    (r0 : ∀ w : World, Calls Tryd.prog 11 #[.string s] w fun e w' => e = .returned (.float .f64 f) ∧ Below w.heap.size w w')
    (r1 : ∀ w : World, Calls Tryd.prog 11 #[.string A1] w fun e w' => e = .returned (.float .f64 g) ∧ Below w.heap.size w w')
    (r2 : ∀ w : World, Calls Tryd.prog 11 #[.string A2] w fun e w' => e = .returned (.float .f64 9221120237041090561) ∧ Below w.heap.size w w')
    (r3 : ∀ w : World, Calls Tryd.prog 11 #[.string A3] w fun e w' => e = .returned (.float .f64 z) ∧ Below w.heap.size w w') :
    Calls Tryd.prog 4 #[.string s] w fun e w' => e = .returned (.bool true) ∧ Below w.heap.size w w' := by
  have HE := Lib.hid (show ∀ w, (Op.unary .neg (.float .f64 f)).run Tryd.prog w = .ok (.float .f64 (negB f)) w from fun w => by rw [← neg_eq hf]; rfl)
  have hnl := (negB_facts hf).1
  have HSM := Lib.hid hsm
  have HSF := Lib.hid (sortv_ne hn)
  have HNG := Lib.hid (show negv g = true by rcases hng with h | h; exact h; exact h.elim)
  have HNF := Lib.hid (show negv f = false by rcases hnf with h | h; exact h; exact h.elim)
  have k1 : ¬ (600 : Int) < (s.size : Int) := by omega
  have k2 : ¬ (0 : Int) < (s.size : Int) := by omega
  have HN := Lib.hid hn
  clear hsm hng hnf hn
  have H0 := Lib.hid h0
  clear h0
  go_enter Tryd.func4, Tryd.ntmps4
  go_wp2_with fail
  refine (awake_any _).mono ?_; rintro e w1 ⟨rfl, hb1⟩
  go_wp2_with fail
  (with_reducible refine (r0 _).mono ?_); rintro e v0 ⟨rfl, hc0⟩
  go_wp2_with fail
  (with_reducible refine (r1 _).mono ?_); rintro e v1 ⟨rfl, hc1⟩
  go_wp2_with fail
  (with_reducible refine (r2 _).mono ?_); rintro e v2 ⟨rfl, hc2⟩
  go_wp2_with fail
  (with_reducible refine (r3 _).mono ?_); rintro e v3 ⟨rfl, hc3⟩
  have hneg := HE.out
  go_wp2_with fail
  (with_reducible refine (same_any _ _ _ hg hnl).mono ?_); rintro e w2 ⟨rfl, rfl⟩
  rw [HSM.out]
  go_wp2_with fail
  (with_reducible refine (sort_any _ _ (by decide)).mono ?_); rintro e w2 ⟨rfl, rfl⟩
  rw [v4]
  go_wp2_with fail
  (with_reducible refine (sort_any _ _ hf).mono ?_); rintro e w2 ⟨rfl, rfl⟩
  have hsf := HSF.out
  go_wp2_with fail
  (with_reducible refine (negative_any _ _ hg).mono ?_); rintro e w2 ⟨rfl, rfl⟩
  rw [HNG.out]
  go_wp2_with fail
  (with_reducible refine (negative_any _ _ hf).mono ?_); rintro e w2 ⟨rfl, rfl⟩
  rw [HNF.out]
  go_wp2_with fail
  go_ret
  exact ⟨by simp, bel_trans (bel_trans (bel_trans (bel_trans hb1 hc0) hc1) hc2) hc3⟩

set_option maxHeartbeats 1000000 in
set_option maxRecDepth 100000 in
theorem minus_empty_nan (s : ByteArray) (w : World) (hs : s.size ≤ 600) (f g z : Nat) (hf : f < 18446744073709551616) (hg : g < 18446744073709551616) (hzl : z < 18446744073709551616)
    (hn : nanB f = true) (hsm : samev g (negB f) = true) (hng : negv g = true ∨ True) (hnf : negv f = false ∨ True)
    (h0 : s.size = 0) (A1 A2 A3 : ByteArray) (a1 : ∀ w, (Op.stringOp .add ⟨#[45]⟩ s).run Tryd.prog w = .ok (.string A1) w) (a2 : ∀ w, (Op.stringOp .add ⟨#[45, 45]⟩ s).run Tryd.prog w = .ok (.string A2) w) (a3 : ∀ w, (Op.stringOp .add ⟨#[48]⟩ s).run Tryd.prog w = .ok (.string A3) w)
    (r0 : ∀ w : World, Calls Tryd.prog 11 #[.string s] w fun e w' => e = .returned (.float .f64 f) ∧ Below w.heap.size w w')
    (r1 : ∀ w : World, Calls Tryd.prog 11 #[.string A1] w fun e w' => e = .returned (.float .f64 g) ∧ Below w.heap.size w w')
    (r2 : ∀ w : World, Calls Tryd.prog 11 #[.string A2] w fun e w' => e = .returned (.float .f64 9221120237041090561) ∧ Below w.heap.size w w')
    (r3 : ∀ w : World, Calls Tryd.prog 11 #[.string A3] w fun e w' => e = .returned (.float .f64 z) ∧ Below w.heap.size w w') :
    Calls Tryd.prog 4 #[.string s] w fun e w' => e = .returned (.bool true) ∧ Below w.heap.size w w' := by
  have HE := Lib.hid (show ∀ w, (Op.unary .neg (.float .f64 f)).run Tryd.prog w = .ok (.float .f64 (negB f)) w from fun w => by rw [← neg_eq hf]; rfl)
  have hnl := (negB_facts hf).1
  have HSM := Lib.hid hsm
  have HSF := Lib.hid (show sortv f = 0 by simp [sortv, hn])
  have k1 : ¬ (600 : Int) < (s.size : Int) := by omega
  have k2 : ¬ (0 : Int) < (s.size : Int) := by omega
  have HN := Lib.hid hn
  clear hsm hng hnf hn
  have H0 := Lib.hid h0
  clear h0
  go_enter Tryd.func4, Tryd.ntmps4
  go_wp2_with fail
  refine (awake_any _).mono ?_; rintro e w1 ⟨rfl, hb1⟩
  go_wp2_with fail
  (with_reducible refine (r0 _).mono ?_); rintro e v0 ⟨rfl, hc0⟩
  go_wp2_with fail
  (with_reducible refine (r1 _).mono ?_); rintro e v1 ⟨rfl, hc1⟩
  go_wp2_with fail
  (with_reducible refine (r2 _).mono ?_); rintro e v2 ⟨rfl, hc2⟩
  go_wp2_with fail
  (with_reducible refine (r3 _).mono ?_); rintro e v3 ⟨rfl, hc3⟩
  have hneg := HE.out
  go_wp2_with fail
  (with_reducible refine (same_any _ _ _ hg hnl).mono ?_); rintro e w2 ⟨rfl, rfl⟩
  rw [HSM.out]
  go_wp2_with fail
  (with_reducible refine (sort_any _ _ (by decide)).mono ?_); rintro e w2 ⟨rfl, rfl⟩
  rw [v4]
  go_wp2_with fail
  (with_reducible refine (sort_any _ _ hf).mono ?_); rintro e w2 ⟨rfl, rfl⟩
  rw [HSF.out]
  go_wp2_with fail
  go_ret
  exact ⟨by simp, bel_trans (bel_trans (bel_trans (bel_trans hb1 hc0) hc1) hc2) hc3⟩

set_option maxHeartbeats 1000000 in
set_option maxRecDepth 100000 in
theorem minus_low (s : ByteArray) (w : World) (hs : s.size ≤ 600) (f g z : Nat) (hf : f < 18446744073709551616) (hg : g < 18446744073709551616) (hzl : z < 18446744073709551616)
    (hn : nanB f = false) (hsm : samev g (negB f) = true) (hng : negv g = true ∨ False) (hnf : negv f = false ∨ False)
    (h0 : 0 < s.size) (c45 : ¬ (s[0]'h0).toNat = 45) (c1 : (s[0]'h0).toNat < 48) (A1 A2 A3 : ByteArray) (a1 : ∀ w, (Op.stringOp .add ⟨#[45]⟩ s).run Tryd.prog w = .ok (.string A1) w) (a2 : ∀ w, (Op.stringOp .add ⟨#[45, 45]⟩ s).run Tryd.prog w = .ok (.string A2) w) (a3 : ∀ w, (Op.stringOp .add ⟨#[48]⟩ s).run Tryd.prog w = .ok (.string A3) w)
    (r0 : ∀ w : World, Calls Tryd.prog 11 #[.string s] w fun e w' => e = .returned (.float .f64 f) ∧ Below w.heap.size w w')
    (r1 : ∀ w : World, Calls Tryd.prog 11 #[.string A1] w fun e w' => e = .returned (.float .f64 g) ∧ Below w.heap.size w w')
    (r2 : ∀ w : World, Calls Tryd.prog 11 #[.string A2] w fun e w' => e = .returned (.float .f64 9221120237041090561) ∧ Below w.heap.size w w')
    (r3 : ∀ w : World, Calls Tryd.prog 11 #[.string A3] w fun e w' => e = .returned (.float .f64 z) ∧ Below w.heap.size w w') :
    Calls Tryd.prog 4 #[.string s] w fun e w' => e = .returned (.bool true) ∧ Below w.heap.size w w' := by
  have HE := Lib.hid (show ∀ w, (Op.unary .neg (.float .f64 f)).run Tryd.prog w = .ok (.float .f64 (negB f)) w from fun w => by rw [← neg_eq hf]; rfl)
  have hnl := (negB_facts hf).1
  have HSM := Lib.hid hsm
  have HSF := Lib.hid (sortv_ne hn)
  have HNG := Lib.hid (show negv g = true by rcases hng with h | h; exact h; exact h.elim)
  have HNF := Lib.hid (show negv f = false by rcases hnf with h | h; exact h; exact h.elim)
  have k1 : ¬ (600 : Int) < (s.size : Int) := by omega
  have k2 : (0 : Int) < (s.size : Int) := by omega
  have k3 : (((s[0]'h0).toNat : Int) == 45) = false := beq_false_of_ne (by omega)
  have k4 : ¬ (48 : Int) ≤ ((s[0]'h0).toNat : Int) := by omega
  have HN := Lib.hid hn
  clear hsm hng hnf hn
  go_enter Tryd.func4, Tryd.ntmps4
  go_wp2_with fail
  refine (awake_any _).mono ?_; rintro e w1 ⟨rfl, hb1⟩
  go_wp2_with fail
  (with_reducible refine (r0 _).mono ?_); rintro e v0 ⟨rfl, hc0⟩
  go_wp2_with fail
  (with_reducible refine (r1 _).mono ?_); rintro e v1 ⟨rfl, hc1⟩
  go_wp2_with fail
  (with_reducible refine (r2 _).mono ?_); rintro e v2 ⟨rfl, hc2⟩
  go_wp2_with fail
  (with_reducible refine (r3 _).mono ?_); rintro e v3 ⟨rfl, hc3⟩
  have hneg := HE.out
  go_wp2_with fail
  (with_reducible refine (same_any _ _ _ hg hnl).mono ?_); rintro e w2 ⟨rfl, rfl⟩
  rw [HSM.out]
  go_wp2_with fail
  (with_reducible refine (sort_any _ _ (by decide)).mono ?_); rintro e w2 ⟨rfl, rfl⟩
  rw [v4]
  go_wp2_with fail
  (with_reducible refine (sort_any _ _ hf).mono ?_); rintro e w2 ⟨rfl, rfl⟩
  have hsf := HSF.out
  go_wp2_with fail
  (with_reducible refine (negative_any _ _ hg).mono ?_); rintro e w2 ⟨rfl, rfl⟩
  rw [HNG.out]
  go_wp2_with fail
  (with_reducible refine (negative_any _ _ hf).mono ?_); rintro e w2 ⟨rfl, rfl⟩
  rw [HNF.out]
  go_wp2_with fail
  go_ret
  exact ⟨by simp, bel_trans (bel_trans (bel_trans (bel_trans hb1 hc0) hc1) hc2) hc3⟩

set_option maxHeartbeats 1000000 in
set_option maxRecDepth 100000 in
theorem minus_low_nan (s : ByteArray) (w : World) (hs : s.size ≤ 600) (f g z : Nat) (hf : f < 18446744073709551616) (hg : g < 18446744073709551616) (hzl : z < 18446744073709551616)
    (hn : nanB f = true) (hsm : samev g (negB f) = true) (hng : negv g = true ∨ True) (hnf : negv f = false ∨ True)
    (h0 : 0 < s.size) (c45 : ¬ (s[0]'h0).toNat = 45) (c1 : (s[0]'h0).toNat < 48) (A1 A2 A3 : ByteArray) (a1 : ∀ w, (Op.stringOp .add ⟨#[45]⟩ s).run Tryd.prog w = .ok (.string A1) w) (a2 : ∀ w, (Op.stringOp .add ⟨#[45, 45]⟩ s).run Tryd.prog w = .ok (.string A2) w) (a3 : ∀ w, (Op.stringOp .add ⟨#[48]⟩ s).run Tryd.prog w = .ok (.string A3) w)
    (r0 : ∀ w : World, Calls Tryd.prog 11 #[.string s] w fun e w' => e = .returned (.float .f64 f) ∧ Below w.heap.size w w')
    (r1 : ∀ w : World, Calls Tryd.prog 11 #[.string A1] w fun e w' => e = .returned (.float .f64 g) ∧ Below w.heap.size w w')
    (r2 : ∀ w : World, Calls Tryd.prog 11 #[.string A2] w fun e w' => e = .returned (.float .f64 9221120237041090561) ∧ Below w.heap.size w w')
    (r3 : ∀ w : World, Calls Tryd.prog 11 #[.string A3] w fun e w' => e = .returned (.float .f64 z) ∧ Below w.heap.size w w') :
    Calls Tryd.prog 4 #[.string s] w fun e w' => e = .returned (.bool true) ∧ Below w.heap.size w w' := by
  have HE := Lib.hid (show ∀ w, (Op.unary .neg (.float .f64 f)).run Tryd.prog w = .ok (.float .f64 (negB f)) w from fun w => by rw [← neg_eq hf]; rfl)
  have hnl := (negB_facts hf).1
  have HSM := Lib.hid hsm
  have HSF := Lib.hid (show sortv f = 0 by simp [sortv, hn])
  have k1 : ¬ (600 : Int) < (s.size : Int) := by omega
  have k2 : (0 : Int) < (s.size : Int) := by omega
  have k3 : (((s[0]'h0).toNat : Int) == 45) = false := beq_false_of_ne (by omega)
  have k4 : ¬ (48 : Int) ≤ ((s[0]'h0).toNat : Int) := by omega
  have HN := Lib.hid hn
  clear hsm hng hnf hn
  go_enter Tryd.func4, Tryd.ntmps4
  go_wp2_with fail
  refine (awake_any _).mono ?_; rintro e w1 ⟨rfl, hb1⟩
  go_wp2_with fail
  (with_reducible refine (r0 _).mono ?_); rintro e v0 ⟨rfl, hc0⟩
  go_wp2_with fail
  (with_reducible refine (r1 _).mono ?_); rintro e v1 ⟨rfl, hc1⟩
  go_wp2_with fail
  (with_reducible refine (r2 _).mono ?_); rintro e v2 ⟨rfl, hc2⟩
  go_wp2_with fail
  (with_reducible refine (r3 _).mono ?_); rintro e v3 ⟨rfl, hc3⟩
  have hneg := HE.out
  go_wp2_with fail
  (with_reducible refine (same_any _ _ _ hg hnl).mono ?_); rintro e w2 ⟨rfl, rfl⟩
  rw [HSM.out]
  go_wp2_with fail
  (with_reducible refine (sort_any _ _ (by decide)).mono ?_); rintro e w2 ⟨rfl, rfl⟩
  rw [v4]
  go_wp2_with fail
  (with_reducible refine (sort_any _ _ hf).mono ?_); rintro e w2 ⟨rfl, rfl⟩
  rw [HSF.out]
  go_wp2_with fail
  go_ret
  exact ⟨by simp, bel_trans (bel_trans (bel_trans (bel_trans hb1 hc0) hc1) hc2) hc3⟩

set_option maxHeartbeats 1000000 in
set_option maxRecDepth 100000 in
theorem minus_high (s : ByteArray) (w : World) (hs : s.size ≤ 600) (f g z : Nat) (hf : f < 18446744073709551616) (hg : g < 18446744073709551616) (hzl : z < 18446744073709551616)
    (hn : nanB f = false) (hsm : samev g (negB f) = true) (hng : negv g = true ∨ False) (hnf : negv f = false ∨ False)
    (h0 : 0 < s.size) (c1 : 57 < (s[0]'h0).toNat) (A1 A2 A3 : ByteArray) (a1 : ∀ w, (Op.stringOp .add ⟨#[45]⟩ s).run Tryd.prog w = .ok (.string A1) w) (a2 : ∀ w, (Op.stringOp .add ⟨#[45, 45]⟩ s).run Tryd.prog w = .ok (.string A2) w) (a3 : ∀ w, (Op.stringOp .add ⟨#[48]⟩ s).run Tryd.prog w = .ok (.string A3) w)
    (r0 : ∀ w : World, Calls Tryd.prog 11 #[.string s] w fun e w' => e = .returned (.float .f64 f) ∧ Below w.heap.size w w')
    (r1 : ∀ w : World, Calls Tryd.prog 11 #[.string A1] w fun e w' => e = .returned (.float .f64 g) ∧ Below w.heap.size w w')
    (r2 : ∀ w : World, Calls Tryd.prog 11 #[.string A2] w fun e w' => e = .returned (.float .f64 9221120237041090561) ∧ Below w.heap.size w w')
    (r3 : ∀ w : World, Calls Tryd.prog 11 #[.string A3] w fun e w' => e = .returned (.float .f64 z) ∧ Below w.heap.size w w') :
    Calls Tryd.prog 4 #[.string s] w fun e w' => e = .returned (.bool true) ∧ Below w.heap.size w w' := by
  have HE := Lib.hid (show ∀ w, (Op.unary .neg (.float .f64 f)).run Tryd.prog w = .ok (.float .f64 (negB f)) w from fun w => by rw [← neg_eq hf]; rfl)
  have hnl := (negB_facts hf).1
  have HSM := Lib.hid hsm
  have HSF := Lib.hid (sortv_ne hn)
  have HNG := Lib.hid (show negv g = true by rcases hng with h | h; exact h; exact h.elim)
  have HNF := Lib.hid (show negv f = false by rcases hnf with h | h; exact h; exact h.elim)
  have k1 : ¬ (600 : Int) < (s.size : Int) := by omega
  have k2 : (0 : Int) < (s.size : Int) := by omega
  have k3 : (((s[0]'h0).toNat : Int) == 45) = false := beq_false_of_ne (by omega)
  have k4 : (48 : Int) ≤ ((s[0]'h0).toNat : Int) := by omega
  have k5 : ¬ ((s[0]'h0).toNat : Int) ≤ 57 := by omega
  have HN := Lib.hid hn
  clear hsm hng hnf hn
  go_enter Tryd.func4, Tryd.ntmps4
  go_wp2_with fail
  refine (awake_any _).mono ?_; rintro e w1 ⟨rfl, hb1⟩
  go_wp2_with fail
  (with_reducible refine (r0 _).mono ?_); rintro e v0 ⟨rfl, hc0⟩
  go_wp2_with fail
  (with_reducible refine (r1 _).mono ?_); rintro e v1 ⟨rfl, hc1⟩
  go_wp2_with fail
  (with_reducible refine (r2 _).mono ?_); rintro e v2 ⟨rfl, hc2⟩
  go_wp2_with fail
  (with_reducible refine (r3 _).mono ?_); rintro e v3 ⟨rfl, hc3⟩
  have hneg := HE.out
  go_wp2_with fail
  (with_reducible refine (same_any _ _ _ hg hnl).mono ?_); rintro e w2 ⟨rfl, rfl⟩
  rw [HSM.out]
  go_wp2_with fail
  (with_reducible refine (sort_any _ _ (by decide)).mono ?_); rintro e w2 ⟨rfl, rfl⟩
  rw [v4]
  go_wp2_with fail
  (with_reducible refine (sort_any _ _ hf).mono ?_); rintro e w2 ⟨rfl, rfl⟩
  have hsf := HSF.out
  go_wp2_with fail
  (with_reducible refine (negative_any _ _ hg).mono ?_); rintro e w2 ⟨rfl, rfl⟩
  rw [HNG.out]
  go_wp2_with fail
  (with_reducible refine (negative_any _ _ hf).mono ?_); rintro e w2 ⟨rfl, rfl⟩
  rw [HNF.out]
  go_wp2_with fail
  go_ret
  exact ⟨by simp, bel_trans (bel_trans (bel_trans (bel_trans hb1 hc0) hc1) hc2) hc3⟩

set_option maxHeartbeats 1000000 in
set_option maxRecDepth 100000 in
theorem minus_high_nan (s : ByteArray) (w : World) (hs : s.size ≤ 600) (f g z : Nat) (hf : f < 18446744073709551616) (hg : g < 18446744073709551616) (hzl : z < 18446744073709551616)
    (hn : nanB f = true) (hsm : samev g (negB f) = true) (hng : negv g = true ∨ True) (hnf : negv f = false ∨ True)
    (h0 : 0 < s.size) (c1 : 57 < (s[0]'h0).toNat) (A1 A2 A3 : ByteArray) (a1 : ∀ w, (Op.stringOp .add ⟨#[45]⟩ s).run Tryd.prog w = .ok (.string A1) w) (a2 : ∀ w, (Op.stringOp .add ⟨#[45, 45]⟩ s).run Tryd.prog w = .ok (.string A2) w) (a3 : ∀ w, (Op.stringOp .add ⟨#[48]⟩ s).run Tryd.prog w = .ok (.string A3) w)
    (r0 : ∀ w : World, Calls Tryd.prog 11 #[.string s] w fun e w' => e = .returned (.float .f64 f) ∧ Below w.heap.size w w')
    (r1 : ∀ w : World, Calls Tryd.prog 11 #[.string A1] w fun e w' => e = .returned (.float .f64 g) ∧ Below w.heap.size w w')
    (r2 : ∀ w : World, Calls Tryd.prog 11 #[.string A2] w fun e w' => e = .returned (.float .f64 9221120237041090561) ∧ Below w.heap.size w w')
    (r3 : ∀ w : World, Calls Tryd.prog 11 #[.string A3] w fun e w' => e = .returned (.float .f64 z) ∧ Below w.heap.size w w') :
    Calls Tryd.prog 4 #[.string s] w fun e w' => e = .returned (.bool true) ∧ Below w.heap.size w w' := by
  have HE := Lib.hid (show ∀ w, (Op.unary .neg (.float .f64 f)).run Tryd.prog w = .ok (.float .f64 (negB f)) w from fun w => by rw [← neg_eq hf]; rfl)
  have hnl := (negB_facts hf).1
  have HSM := Lib.hid hsm
  have HSF := Lib.hid (show sortv f = 0 by simp [sortv, hn])
  have k1 : ¬ (600 : Int) < (s.size : Int) := by omega
  have k2 : (0 : Int) < (s.size : Int) := by omega
  have k3 : (((s[0]'h0).toNat : Int) == 45) = false := beq_false_of_ne (by omega)
  have k4 : (48 : Int) ≤ ((s[0]'h0).toNat : Int) := by omega
  have k5 : ¬ ((s[0]'h0).toNat : Int) ≤ 57 := by omega
  have HN := Lib.hid hn
  clear hsm hng hnf hn
  go_enter Tryd.func4, Tryd.ntmps4
  go_wp2_with fail
  refine (awake_any _).mono ?_; rintro e w1 ⟨rfl, hb1⟩
  go_wp2_with fail
  (with_reducible refine (r0 _).mono ?_); rintro e v0 ⟨rfl, hc0⟩
  go_wp2_with fail
  (with_reducible refine (r1 _).mono ?_); rintro e v1 ⟨rfl, hc1⟩
  go_wp2_with fail
  (with_reducible refine (r2 _).mono ?_); rintro e v2 ⟨rfl, hc2⟩
  go_wp2_with fail
  (with_reducible refine (r3 _).mono ?_); rintro e v3 ⟨rfl, hc3⟩
  have hneg := HE.out
  go_wp2_with fail
  (with_reducible refine (same_any _ _ _ hg hnl).mono ?_); rintro e w2 ⟨rfl, rfl⟩
  rw [HSM.out]
  go_wp2_with fail
  (with_reducible refine (sort_any _ _ (by decide)).mono ?_); rintro e w2 ⟨rfl, rfl⟩
  rw [v4]
  go_wp2_with fail
  (with_reducible refine (sort_any _ _ hf).mono ?_); rintro e w2 ⟨rfl, rfl⟩
  rw [HSF.out]
  go_wp2_with fail
  go_ret
  exact ⟨by simp, bel_trans (bel_trans (bel_trans (bel_trans hb1 hc0) hc1) hc2) hc3⟩

set_option maxHeartbeats 1000000 in
set_option maxRecDepth 100000 in
theorem minus_digit (s : ByteArray) (w : World) (hs : s.size ≤ 600) (f g z : Nat) (hf : f < 18446744073709551616) (hg : g < 18446744073709551616) (hzl : z < 18446744073709551616)
    (hn : nanB f = false) (hsm : samev g (negB f) = true) (hng : negv g = true ∨ False) (hnf : negv f = false ∨ False)
    (h0 : 0 < s.size) (c1 : 48 ≤ (s[0]'h0).toNat) (c2 : (s[0]'h0).toNat ≤ 57) (hz : samev z f = true) (A1 A2 A3 : ByteArray) (a1 : ∀ w, (Op.stringOp .add ⟨#[45]⟩ s).run Tryd.prog w = .ok (.string A1) w) (a2 : ∀ w, (Op.stringOp .add ⟨#[45, 45]⟩ s).run Tryd.prog w = .ok (.string A2) w) (a3 : ∀ w, (Op.stringOp .add ⟨#[48]⟩ s).run Tryd.prog w = .ok (.string A3) w)
    (r0 : ∀ w : World, Calls Tryd.prog 11 #[.string s] w fun e w' => e = .returned (.float .f64 f) ∧ Below w.heap.size w w')
    (r1 : ∀ w : World, Calls Tryd.prog 11 #[.string A1] w fun e w' => e = .returned (.float .f64 g) ∧ Below w.heap.size w w')
    (r2 : ∀ w : World, Calls Tryd.prog 11 #[.string A2] w fun e w' => e = .returned (.float .f64 9221120237041090561) ∧ Below w.heap.size w w')
    (r3 : ∀ w : World, Calls Tryd.prog 11 #[.string A3] w fun e w' => e = .returned (.float .f64 z) ∧ Below w.heap.size w w') :
    Calls Tryd.prog 4 #[.string s] w fun e w' => e = .returned (.bool true) ∧ Below w.heap.size w w' := by
  have HE := Lib.hid (show ∀ w, (Op.unary .neg (.float .f64 f)).run Tryd.prog w = .ok (.float .f64 (negB f)) w from fun w => by rw [← neg_eq hf]; rfl)
  have hnl := (negB_facts hf).1
  have HSM := Lib.hid hsm
  have HSF := Lib.hid (sortv_ne hn)
  have HNG := Lib.hid (show negv g = true by rcases hng with h | h; exact h; exact h.elim)
  have HNF := Lib.hid (show negv f = false by rcases hnf with h | h; exact h; exact h.elim)
  have k1 : ¬ (600 : Int) < (s.size : Int) := by omega
  have k2 : (0 : Int) < (s.size : Int) := by omega
  have k3 : (((s[0]'h0).toNat : Int) == 45) = false := beq_false_of_ne (by omega)
  have k4 : (48 : Int) ≤ ((s[0]'h0).toNat : Int) := by omega
  have k5 : ((s[0]'h0).toNat : Int) ≤ 57 := by omega
  have HZ := Lib.hid hz
  clear hz
  have HN := Lib.hid hn
  clear hsm hng hnf hn
  go_enter Tryd.func4, Tryd.ntmps4
  go_wp2_with fail
  refine (awake_any _).mono ?_; rintro e w1 ⟨rfl, hb1⟩
  go_wp2_with fail
  (with_reducible refine (r0 _).mono ?_); rintro e v0 ⟨rfl, hc0⟩
  go_wp2_with fail
  (with_reducible refine (r1 _).mono ?_); rintro e v1 ⟨rfl, hc1⟩
  go_wp2_with fail
  (with_reducible refine (r2 _).mono ?_); rintro e v2 ⟨rfl, hc2⟩
  go_wp2_with fail
  (with_reducible refine (r3 _).mono ?_); rintro e v3 ⟨rfl, hc3⟩
  have hneg := HE.out
  go_wp2_with fail
  (with_reducible refine (same_any _ _ _ hg hnl).mono ?_); rintro e w2 ⟨rfl, rfl⟩
  rw [HSM.out]
  go_wp2_with fail
  (with_reducible refine (sort_any _ _ (by decide)).mono ?_); rintro e w2 ⟨rfl, rfl⟩
  rw [v4]
  go_wp2_with fail
  (with_reducible refine (sort_any _ _ hf).mono ?_); rintro e w2 ⟨rfl, rfl⟩
  have hsf := HSF.out
  go_wp2_with fail
  (with_reducible refine (negative_any _ _ hg).mono ?_); rintro e w2 ⟨rfl, rfl⟩
  rw [HNG.out]
  go_wp2_with fail
  (with_reducible refine (negative_any _ _ hf).mono ?_); rintro e w2 ⟨rfl, rfl⟩
  rw [HNF.out]
  go_wp2_with fail
  (with_reducible refine (same_any _ _ _ hzl hf).mono ?_); rintro e w2 ⟨rfl, rfl⟩
  rw [HZ.out]
  go_wp2_with fail
  go_ret
  exact ⟨by simp, bel_trans (bel_trans (bel_trans (bel_trans hb1 hc0) hc1) hc2) hc3⟩

set_option maxHeartbeats 1000000 in
set_option maxRecDepth 100000 in
theorem minus_digit_nan (s : ByteArray) (w : World) (hs : s.size ≤ 600) (f g z : Nat) (hf : f < 18446744073709551616) (hg : g < 18446744073709551616) (hzl : z < 18446744073709551616)
    (hn : nanB f = true) (hsm : samev g (negB f) = true) (hng : negv g = true ∨ True) (hnf : negv f = false ∨ True)
    (h0 : 0 < s.size) (c1 : 48 ≤ (s[0]'h0).toNat) (c2 : (s[0]'h0).toNat ≤ 57) (hz : samev z f = true) (A1 A2 A3 : ByteArray) (a1 : ∀ w, (Op.stringOp .add ⟨#[45]⟩ s).run Tryd.prog w = .ok (.string A1) w) (a2 : ∀ w, (Op.stringOp .add ⟨#[45, 45]⟩ s).run Tryd.prog w = .ok (.string A2) w) (a3 : ∀ w, (Op.stringOp .add ⟨#[48]⟩ s).run Tryd.prog w = .ok (.string A3) w)
    (r0 : ∀ w : World, Calls Tryd.prog 11 #[.string s] w fun e w' => e = .returned (.float .f64 f) ∧ Below w.heap.size w w')
    (r1 : ∀ w : World, Calls Tryd.prog 11 #[.string A1] w fun e w' => e = .returned (.float .f64 g) ∧ Below w.heap.size w w')
    (r2 : ∀ w : World, Calls Tryd.prog 11 #[.string A2] w fun e w' => e = .returned (.float .f64 9221120237041090561) ∧ Below w.heap.size w w')
    (r3 : ∀ w : World, Calls Tryd.prog 11 #[.string A3] w fun e w' => e = .returned (.float .f64 z) ∧ Below w.heap.size w w') :
    Calls Tryd.prog 4 #[.string s] w fun e w' => e = .returned (.bool true) ∧ Below w.heap.size w w' := by
  have HE := Lib.hid (show ∀ w, (Op.unary .neg (.float .f64 f)).run Tryd.prog w = .ok (.float .f64 (negB f)) w from fun w => by rw [← neg_eq hf]; rfl)
  have hnl := (negB_facts hf).1
  have HSM := Lib.hid hsm
  have HSF := Lib.hid (show sortv f = 0 by simp [sortv, hn])
  have k1 : ¬ (600 : Int) < (s.size : Int) := by omega
  have k2 : (0 : Int) < (s.size : Int) := by omega
  have k3 : (((s[0]'h0).toNat : Int) == 45) = false := beq_false_of_ne (by omega)
  have k4 : (48 : Int) ≤ ((s[0]'h0).toNat : Int) := by omega
  have k5 : ((s[0]'h0).toNat : Int) ≤ 57 := by omega
  have HZ := Lib.hid hz
  clear hz
  have HN := Lib.hid hn
  clear hsm hng hnf hn
  go_enter Tryd.func4, Tryd.ntmps4
  go_wp2_with fail
  refine (awake_any _).mono ?_; rintro e w1 ⟨rfl, hb1⟩
  go_wp2_with fail
  (with_reducible refine (r0 _).mono ?_); rintro e v0 ⟨rfl, hc0⟩
  go_wp2_with fail
  (with_reducible refine (r1 _).mono ?_); rintro e v1 ⟨rfl, hc1⟩
  go_wp2_with fail
  (with_reducible refine (r2 _).mono ?_); rintro e v2 ⟨rfl, hc2⟩
  go_wp2_with fail
  (with_reducible refine (r3 _).mono ?_); rintro e v3 ⟨rfl, hc3⟩
  have hneg := HE.out
  go_wp2_with fail
  (with_reducible refine (same_any _ _ _ hg hnl).mono ?_); rintro e w2 ⟨rfl, rfl⟩
  rw [HSM.out]
  go_wp2_with fail
  (with_reducible refine (sort_any _ _ (by decide)).mono ?_); rintro e w2 ⟨rfl, rfl⟩
  rw [v4]
  go_wp2_with fail
  (with_reducible refine (sort_any _ _ hf).mono ?_); rintro e w2 ⟨rfl, rfl⟩
  rw [HSF.out]
  go_wp2_with fail
  (with_reducible refine (same_any _ _ _ hzl hf).mono ?_); rintro e w2 ⟨rfl, rfl⟩
  rw [HZ.out]
  go_wp2_with fail
  go_ret
  exact ⟨by simp, bel_trans (bel_trans (bel_trans (bel_trans hb1 hc0) hc1) hc2) hc3⟩

set_option maxHeartbeats 1000000 in
set_option maxRecDepth 100000 in
theorem minus_any (s : ByteArray) (w : World) (hs : s.size ≤ 9223372036854775807) :
    Calls Tryd.prog 4 #[.string s] w fun e w' => e = .returned (.bool true) ∧ Below w.heap.size w w' := by
  by_cases h6 : 600 < (s.size : Int)
  · go_enter Tryd.func4, Tryd.ntmps4
    go_wp2_with fail
    refine (awake_any _).mono ?_; rintro e w1 ⟨rfl, hb1⟩
    go_wp2_with fail
    go_ret
    exact ⟨rfl, hb1⟩
  have hs6 : s.size ≤ 600 := by omega
  have hl : s.data.toList.length ≤ 600 := by rw [← Lib.size_eq]; exact hs6
  by_cases hm : ∃ h0 : 0 < s.size, (s[0]'h0).toNat = 45
  · obtain ⟨h0, h45⟩ := hm
    have k2 : (0 : Int) < (s.size : Int) := by omega
    have k3 : (((s[0]'h0).toNat : Int) == 45) = true := by rw [h45]; rfl
    go_enter Tryd.func4, Tryd.ntmps4
    go_wp2_with fail
    refine (awake_any _).mono ?_; rintro e w1 ⟨rfl, hb1⟩
    go_wp2_with fail
    go_ret
    exact ⟨rfl, hb1⟩
  have hno : ∀ t, s.data.toList ≠ 45 :: t := by
    intro t e
    have hz : 0 < s.size := by rw [Lib.size_eq, e]; simp
    refine hm ⟨hz, ?_⟩
    have : s[0]'hz = s.data.toList[0]'(by rw [e]; simp) := rfl
    rw [this]
    simp [e]
  obtain ⟨e1, hh⟩ := rv_minus hno
  obtain ⟨A1, hA1, a1⟩ := sadd' (A := ⟨#[45]⟩) (B := s) (a := [45]) (b := s.data.toList) rfl rfl (by simp; omega)
  obtain ⟨A2, hA2, a2⟩ := sadd' (A := ⟨#[45, 45]⟩) (B := s) (a := [45, 45]) (b := s.data.toList) rfl rfl (by simp; omega)
  obtain ⟨A3, hA3, a3⟩ := sadd' (A := ⟨#[48]⟩) (B := s) (a := [48]) (b := s.data.toList) rfl rfl (by simp; omega)
  have r0 := fun w => real_b (w := w) (A := s) (l := s.data.toList) rfl rfl (by omega)
  have r1 := fun w => real_b (w := w) hA1 rfl (by simp; omega)
  have r2 := fun w => real_b (w := w) hA2 (rv_minus2 s.data.toList) (by simp; omega)
  have r3 := fun w => real_b (w := w) hA3 rfl (by simp; omega)
  have hf := rv_lt s.data.toList
  have hg := rv_lt ([45] ++ s.data.toList)
  have hz := rv_lt ([48] ++ s.data.toList)
  have hw := minus_word hh hf
  rw [← e1] at hw
  by_cases h0 : s.size = 0
  · cases hn : nanB (rv s.data.toList)
    · exact minus_empty s w hs6 _ _ _ hf hg hz hn hw.1 (.inl (hw.2 hn).1) (.inl (hw.2 hn).2) h0 A1 A2 A3 a1 a2 a3 r0 r1 r2 r3
    · exact minus_empty_nan s w hs6 _ _ _ hf hg hz hn hw.1 (.inr trivial) (.inr trivial) h0 A1 A2 A3 a1 a2 a3 r0 r1 r2 r3
  have h0' : 0 < s.size := by omega
  have c45 : ¬ (s[0]'h0').toNat = 45 := fun e => hm ⟨h0', e⟩
  by_cases c1 : (s[0]'h0').toNat < 48
  · cases hn : nanB (rv s.data.toList)
    · exact minus_low s w hs6 _ _ _ hf hg hz hn hw.1 (.inl (hw.2 hn).1) (.inl (hw.2 hn).2) h0' c45 c1 A1 A2 A3 a1 a2 a3 r0 r1 r2 r3
    · exact minus_low_nan s w hs6 _ _ _ hf hg hz hn hw.1 (.inr trivial) (.inr trivial) h0' c45 c1 A1 A2 A3 a1 a2 a3 r0 r1 r2 r3
  by_cases c2 : 57 < (s[0]'h0').toNat
  · cases hn : nanB (rv s.data.toList)
    · exact minus_high s w hs6 _ _ _ hf hg hz hn hw.1 (.inl (hw.2 hn).1) (.inl (hw.2 hn).2) h0' c2 A1 A2 A3 a1 a2 a3 r0 r1 r2 r3
    · exact minus_high_nan s w hs6 _ _ _ hf hg hz hn hw.1 (.inr trivial) (.inr trivial) h0' c2 A1 A2 A3 a1 a2 a3 r0 r1 r2 r3
  have hzz : samev (rv ([48] ++ s.data.toList)) (rv s.data.toList) = true := by
    obtain ⟨c, t, hct⟩ : ∃ c t, s.data.toList = c :: t := by
      cases hc : s.data.toList with
      | nil => rw [Lib.size_eq, hc] at h0'; simp at h0'
      | cons c t => exact ⟨c, t, rfl⟩
    have hc0 : s[0]'h0' = c := by
      have : s[0]'h0' = s.data.toList[0]'(by rw [hct]; simp) := rfl
      rw [this]; simp [hct]
    rw [hct, rv_zero ((isD_iff c).2 (by rw [← hc0]; omega))]
    exact same_self (rv_lt _)
  cases hn : nanB (rv s.data.toList)
  · exact minus_digit s w hs6 _ _ _ hf hg hz hn hw.1 (.inl (hw.2 hn).1) (.inl (hw.2 hn).2) h0' (by omega) (by omega) hzz A1 A2 A3 a1 a2 a3 r0 r1 r2 r3
  · exact minus_digit_nan s w hs6 _ _ _ hf hg hz hn hw.1 (.inr trivial) (.inr trivial) h0' (by omega) (by omega) hzz A1 A2 A3 a1 a2 a3 r0 r1 r2 r3
end Go.Proofs.YtdbcdofekfjilaaDoor
