/- Contracts of size, and of the closure that takes bytes off the front. -/
import Derived.Test.YtocgknhpecobfaaDoorRealB
import Derived.RegionTactic
import Derived.ChangeAlike
namespace Go.Proofs.YtocgknhpecobfaaDoor
open Go.RowKit
set_option linter.unusedVariables false

/-- What digits without leading zeros and an exponent are worth, as a word. -/
def valB (l : List UInt8) (x : Int) : Nat :=
  if l.length = 0 then 0 else if 400 < (l.length : Int) + x then 9218868437227405312 else if (l.length : Int) + x < -400 then 0
  else if 15 < l.length ∨ 22 < x ∨ x < -22 then 9221120237041090561
  else if x < 0 then (Ieee.double.div (W (dval l)) (tenB (-x).toNat)).getD 0 else (Ieee.double.mul (W (dval l)) (tenB x.toNat)).getD 0

theorem W_fin {n : Nat} (h : n < 9007199254740992) : W n < 18446744073709551616 ∧ rg (W n) < 9218868437227405312 ∧ rg (W n) = W n := by
  have := rungW_lt h
  unfold W rg
  omega

theorem quo_run {d k : Nat} (hd : d < 9007199254740992) (hk : k ≤ 22) (t : TypeId) (w : World) :
    (binOp .quo t (.float .f64 (W d)) (.float .f64 (tenB k))).run Tryd.prog w = .ok (.float .f64 ((Ieee.double.div (W d) (tenB k)).getD 0)) w := by
  obtain ⟨t1, t2, t3⟩ := tenB_fin k (by omega)
  obtain ⟨w1, w2, _⟩ := W_fin hd
  obtain ⟨r, hr⟩ := div_some w1 t1 w2 t2 t3
  rw [hr]
  exact run_float_arith w _ _ _ _ _ _ hr
theorem mul_run {d k : Nat} (hd : d < 9007199254740992) (hk : k ≤ 22) (t : TypeId) (w : World) :
    (binOp .mul t (.float .f64 (W d)) (.float .f64 (tenB k))).run Tryd.prog w = .ok (.float .f64 ((Ieee.double.mul (W d) (tenB k)).getD 0)) w := by
  obtain ⟨t1, t2, t3⟩ := tenB_fin k (by omega)
  obtain ⟨w1, w2, _⟩ := W_fin hd
  obtain ⟨r, hr⟩ := mul_some w1 t1 w2 t2
  rw [hr]
  exact run_float_arith w _ _ _ _ _ _ hr

theorem valB_lt (l : List UInt8) (x : Int) : valB l x < 18446744073709551616 := by
  have hq : ∀ a b, (Ieee.double.div a b).getD 0 < 18446744073709551616 := fun a b => by
    cases h : Ieee.double.div a b with
    | none => decide
    | some r => exact Ieee.double.div_lt h
  have hm : ∀ a b, (Ieee.double.mul a b).getD 0 < 18446744073709551616 := fun a b => by
    cases h : Ieee.double.mul a b with
    | none => decide
    | some r => exact Ieee.double.mul_lt h
  unfold valB
  split
  · omega
  · split
    · omega
    · split
      · omega
      · split
        · omega
        · split
          · exact hq _ _
          · exact hm _ _

set_option maxHeartbeats 1000000 in
theorem size_any (s : ByteArray) (x : Int) (w : World) (hd : s.data.toList.all isD = true) (hs : s.size ≤ 1000000000) (hx1 : -1000000000 ≤ x) (hx2 : x ≤ 1000000000) :
    Calls Tryd.prog 20 #[.string s, .int .i64 x] w fun e w' => e = .returned (.float .f64 (valB s.data.toList x)) ∧ w = w' := by
  have hsz : s.data.toList.length = s.size := (Lib.size_eq s).symm
  by_cases h0 : s.size = 0
  · have e : valB s.data.toList x = 0 := by unfold valB; rw [if_pos (by omega)]
    rw [e]; clear e hsz
    go_enter Tryd.func20, Tryd.ntmps20
    go_wp2
    go_ret
    exact ⟨rfl, rfl⟩
  have n0 : ((s.size : Int) == 0) = false := beq_false_of_ne (by omega)
  by_cases h1 : 400 < (s.size : Int) + x
  · have e : valB s.data.toList x = 9218868437227405312 := by unfold valB; rw [if_neg (by omega), if_pos (by omega)]
    rw [e]; clear e hsz
    go_enter Tryd.func20, Tryd.ntmps20
    go_wp2_with (go_at_call 31; refine (inf_any _).mono ?_; rintro e w' ⟨rfl, rfl⟩)
    go_ret
    exact ⟨rfl, rfl⟩
  by_cases h2 : (s.size : Int) + x < -400
  · have e : valB s.data.toList x = 0 := by unfold valB; rw [if_neg (by omega), if_neg (by omega), if_pos (by omega)]
    rw [e]; clear e hsz
    go_enter Tryd.func20, Tryd.ntmps20
    go_wp2
    go_ret
    exact ⟨rfl, rfl⟩
  by_cases h3 : 15 < s.size ∨ 22 < x ∨ x < -22
  · have e : valB s.data.toList x = 9221120237041090561 := by unfold valB; rw [if_neg (by omega), if_neg (by omega), if_neg (by omega), if_pos (by omega)]
    rw [e]; clear e hsz
    by_cases k1 : 15 < (s.size : Int)
    · clear h3
      go_enter Tryd.func20, Tryd.ntmps20
      go_wp2_with (go_at_call 19; refine (nan_any _).mono ?_; rintro e w' ⟨rfl, rfl⟩)
      go_ret
      exact ⟨rfl, rfl⟩
    by_cases k2 : 22 < x
    · clear h3
      go_enter Tryd.func20, Tryd.ntmps20
      go_wp2_with (go_at_call 19; refine (nan_any _).mono ?_; rintro e w' ⟨rfl, rfl⟩)
      go_ret
      exact ⟨rfl, rfl⟩
    · have k3 : x < -22 := by omega
      clear h3
      go_enter Tryd.func20, Tryd.ntmps20
      go_wp2_with (go_at_call 19; refine (nan_any _).mono ?_; rintro e w' ⟨rfl, rfl⟩)
      go_ret
      exact ⟨rfl, rfl⟩
  have k1 : ¬ 15 < (s.size : Int) := by omega
  have k2 : ¬ 22 < x := by omega
  have k3 : ¬ x < -22 := by omega
  have hdv := dval_lt15 s.data.toList hd (by omega)
  have HD := Lib.hid hd
  by_cases h4 : x < 0
  · obtain ⟨k, rfl⟩ : ∃ k : Nat, x = -(k : Int) := ⟨(-x).toNat, by omega⟩
    have e : valB s.data.toList (-(k : Int)) = (Ieee.double.div (W (dval s.data.toList)) (tenB k)).getD 0 := by
      unfold valB; rw [if_neg (by omega), if_neg (by omega), if_neg (by omega), if_neg (by omega), if_pos h4]
      rw [show (- -(k:Int)).toNat = k by omega]
    rw [e]; clear e hsz h3
    have hq := quo_run (d := dval s.data.toList) (k := k) (by omega) (by omega)
    generalize (Ieee.double.div (W (dval s.data.toList)) (tenB k)).getD 0 = r at hq ⊢
    have HQ := Lib.hid hq
    clear hq hd
    go_enter Tryd.func20, Tryd.ntmps20
    go_wp2_with fail
    refine (floatOf_any s _ HD.out (by omega)).mono ?_
    rintro e w1 ⟨rfl, rfl⟩
    go_wp2_with fail
    refine (tenTo_any k _ (by omega)).mono ?_
    rintro e w1 ⟨rfl, rfl⟩
    have hq := HQ.out
    go_wp2
    go_ret
    exact ⟨rfl, rfl⟩
  · obtain ⟨k, rfl⟩ : ∃ k : Nat, x = (k : Int) := ⟨x.toNat, by omega⟩
    have e : valB s.data.toList (k : Int) = (Ieee.double.mul (W (dval s.data.toList)) (tenB k)).getD 0 := by
      unfold valB; rw [if_neg (by omega), if_neg (by omega), if_neg (by omega), if_neg (by omega), if_neg h4]
      rw [Int.toNat_natCast]
    rw [e]; clear e hsz h3
    have hq := mul_run (d := dval s.data.toList) (k := k) (by omega) (by omega)
    generalize (Ieee.double.mul (W (dval s.data.toList)) (tenB k)).getD 0 = r at hq ⊢
    have HQ := Lib.hid hq
    clear hq hd
    go_enter Tryd.func20, Tryd.ntmps20
    go_wp2_with fail
    refine (floatOf_any s _ HD.out (by omega)).mono ?_
    rintro e w1 ⟨rfl, rfl⟩
    go_wp2_with fail
    refine (tenTo_any k _ (by omega)).mono ?_
    rintro e w1 ⟨rfl, rfl⟩
    have hq := HQ.out
    go_wp2
    go_ret
    exact ⟨rfl, rfl⟩

/-! ### What the closure takes -/
theorem idx_nonneg (l : List UInt8) (c : UInt8) : (0 ≤ Lib.indexByte l c) ↔ l.contains c = true := by
  induction l with
  | nil => simp [Lib.indexByte]
  | cons b l ih =>
    have hg := Lib.indexByte_ge l c
    unfold Lib.indexByte
    by_cases hb : b = c
    · subst hb; simp
    · have hb' : (b == c) = false := by simpa using hb
      have hc : ((b :: l).contains c) = l.contains c := by
        have : (c == b) = false := beq_false_of_ne (fun e => hb e.symm)
        rw [List.contains_cons, this, Bool.false_or]
      rw [hb', hc, ← ih]
      simp only [Bool.false_eq_true, if_false]
      split
      · rename_i h; have : Lib.indexByte l c = -1 := by simpa using h
        omega
      · rename_i h; have : ¬ Lib.indexByte l c = -1 := by simpa using h
        omega

set_option maxHeartbeats 400000 in
theorem index0_any (s : ByteArray) (c : UInt8) (w : World) :
    Calls Tryd.prog 36 #[.string s, .int .u8 c.toNat] w fun e w' => e = .returned (.int .i64 (Lib.indexByte s.data.toList c)) ∧ w = w' := by
  have h := indexByteString_run s c.toNat
  simp only [Int.toNat_natCast, UInt8.ofNat_toNat, Nat.toUInt8_eq] at h
  go_enter Tryd.func36, Tryd.ntmps36
  go_wp2
  go_ret
  exact ⟨rfl, rfl⟩
set_option maxHeartbeats 400000 in
theorem index_any (s : ByteArray) (c : UInt8) (w : World) :
    Calls Tryd.prog 24 #[.string s, .int .u8 c.toNat] w fun e w' => e = .returned (.int .i64 (Lib.indexByte s.data.toList c)) ∧ w = w' := by
  go_enter Tryd.func24, Tryd.ntmps24
  go_wp2_with (go_at_call 36; refine (index0_any _ _ _).mono ?_; rintro e w' ⟨rfl, rfl⟩)
  go_ret
  exact ⟨rfl, rfl⟩

/-- How many bytes are taken. -/
def cnt (S : List UInt8) (most : Nat) (l : List UInt8) : Nat := ((l.take most).takeWhile (fun c => S.contains c)).length

theorem tw_lt (p : UInt8 → Bool) (l : List UInt8) (n : Nat) (h : n < (l.takeWhile p).length) : ∃ hl : n < l.length, p l[n] = true := by
  induction l generalizing n with
  | nil => simp at h
  | cons a l ih =>
    by_cases ha : p a = true
    · rw [List.takeWhile_cons, if_pos ha, List.length_cons] at h
      cases n with
      | zero => exact ⟨by simp, ha⟩
      | succ n =>
        obtain ⟨h1, h2⟩ := ih n (by omega)
        exact ⟨by simp; omega, h2⟩
    · rw [List.takeWhile_cons, if_neg ha] at h
      simp at h
theorem tw_stop (p : UInt8 → Bool) (l : List UInt8) (hl : (l.takeWhile p).length < l.length) : p (l[(l.takeWhile p).length]'hl) = false := by
  induction l with
  | nil => simp at hl
  | cons a l ih =>
    by_cases ha : p a = true
    · have e : ((a :: l).takeWhile p) = a :: l.takeWhile p := by rw [List.takeWhile_cons, if_pos ha]
      simp only [e, List.length_cons] at hl ⊢
      exact ih (by omega)
    · have e : ((a :: l).takeWhile p) = [] := by rw [List.takeWhile_cons, if_neg ha]
      simp only [e, List.length_nil]
      simpa using ha
theorem cnt_lt {S : List UInt8} {most : Nat} {l : List UInt8} {n : Nat} (h : n < cnt S most l) : n < most ∧ ∃ hl : n < l.length, S.contains l[n] = true := by
  obtain ⟨h1, h2⟩ := tw_lt _ _ n h
  rw [List.length_take] at h1
  rw [List.getElem_take] at h2
  exact ⟨by omega, by omega, h2⟩
theorem cnt_stop {S : List UInt8} {most : Nat} {l : List UInt8} (h1 : cnt S most l < most) (h2 : cnt S most l < l.length) : S.contains (l[cnt S most l]'h2) = false := by
  have hl : ((l.take most).takeWhile (fun c => S.contains c)).length < (l.take most).length := by
    rw [List.length_take]; unfold cnt at h1 h2; omega
  have := tw_stop (fun c => S.contains c) (l.take most) hl
  rw [List.getElem_take] at this
  exact this
theorem cnt_le (S : List UInt8) (most : Nat) (l : List UInt8) : cnt S most l ≤ l.length ∧ cnt S most l ≤ most := by
  have h1 : ((l.take most).takeWhile (fun c => S.contains c)).length ≤ (l.take most).length := (List.takeWhile_sublist _).length_le
  rw [List.length_take] at h1
  unfold cnt; omega

theorem sz_mk (l : List UInt8) : (⟨l.toArray⟩ : ByteArray).size = l.length := by simp [ByteArray.size]

set_option maxHeartbeats 2000000 in
set_option maxRecDepth 100000 in
theorem take_any (set r : ByteArray) (most : Nat) (b1 b2 : Nat) (w : World) (hr : r.size ≤ 1000000000) (hmost : most ≤ 1000000000)
    (hc2 : w.cell? ⟨b2, 0, none⟩ = some (.pointer (some ⟨b1, 0, none⟩))) (hc1 : w.cell? ⟨b1, 0, none⟩ = some (.string r)) (hfz : w.frozen? ⟨b1, 0, none⟩ = false) :
    Calls Tryd.prog 37 #[.string set, .int .i64 most, .pointer (some ⟨b2, 0, none⟩)] w fun e w' =>
      e = .returned (.string (r.extract 0 (cnt set.data.toList most r.data.toList))) ∧
      w' = (w.setCell ⟨b1, 0, none⟩ (.string (r.extract (cnt set.data.toList most r.data.toList) r.size))).drew := by
  have hle := cnt_le set.data.toList most r.data.toList
  rw [← Lib.size_eq] at hle
  have hL : ∀ n, n < cnt set.data.toList most r.data.toList → n < most ∧ ∃ hl : n < r.data.toList.length, set.data.toList.contains r.data.toList[n] = true := fun n h => cnt_lt h
  have hS := @cnt_stop set.data.toList most r.data.toList
  generalize cnt set.data.toList most r.data.toList = N at hle hL hS ⊢
  have HL := Lib.hid hL
  have HS := Lib.hid hS
  obtain ⟨hN1, hN2⟩ := hle
  clear hL hS
  go_enter Tryd.func37, Tryd.ntmps37
  go_wp2
  go_loop [6] (fun i => ∃ k : Nat, k ≤ N ∧ i = .int .i64 k) (fun i => N - (intOf i).toNat)
  case atStart => exact ⟨0, Nat.zero_le _, rfl⟩
  case round =>
    obtain ⟨k, hk, rfl⟩ := hrel
    by_cases hlt : k < N
    · obtain ⟨h1, h2, h3⟩ := HL.out k hlt
      have hkr : k < r.size := by omega
      have hix : 0 ≤ Lib.indexByte set.data.toList r[k] := (idx_nonneg _ _).2 h3
      clear h2 h3
      go_wp2_with fail
      refine (index_any _ _ _).mono ?_
      rintro e w1 ⟨rfl, rfl⟩
      go_wp2
      go_round
      case rel => exact ⟨k + 1, by omega, by go_num⟩
      case measure => simp [intOf]; omega
    · obtain rfl : k = N := by omega
      by_cases q1 : k < most
      · by_cases q2 : k < r.size
        · have hb := HS.out q1 (by rw [← Lib.size_eq]; exact q2)
          have hix : ¬ 0 ≤ Lib.indexByte set.data.toList r[k] := by
            intro hh
            have h9 : set.data.toList.contains r.data.toList[k] = true := (idx_nonneg _ _).1 hh
            rw [h9] at hb
            cases hb
          clear hb
          go_wp2_with fail
          refine (index_any _ _ _).mono ?_
          rintro e w1 ⟨rfl, rfl⟩
          go_wp2
          go_region
          go_wp2
          go_ret
          exact ⟨rfl, rfl⟩
        · go_wp2
          go_region
          go_wp2
          go_ret
          exact ⟨rfl, rfl⟩
      · go_wp2
        go_region
        go_wp2
        go_ret
        exact ⟨rfl, rfl⟩

/-- What stands while a number is read: the result's own variable, the rest, the closure's variable. -/
structure Rd (w0 : World) (b0 b1 b2 : Nat) (r : ByteArray) (w : World) : Prop where
  c2 : w.cell? ⟨b2, 0, none⟩ = some (.pointer (some ⟨b1, 0, none⟩))
  c1 : w.cell? ⟨b1, 0, none⟩ = some (.string r)
  f1 : w.frozen? ⟨b1, 0, none⟩ = false
  z0 : w.cell? ⟨b0, 0, none⟩ = some (.bool false)
  z1 : w.cell? ⟨b0, 1, none⟩ = some (.string ⟨#[]⟩)
  z2 : w.cell? ⟨b0, 2, none⟩ = some (.int .i64 0)
  g0 : w.frozen? ⟨b0, 0, none⟩ = false
  g1 : w.frozen? ⟨b0, 1, none⟩ = false
  g2 : w.frozen? ⟨b0, 2, none⟩ = false
  o0 : w0.heap.size ≤ b0
  o1 : w0.heap.size ≤ b1
  n01 : b0 ≠ b1
  n12 : b2 ≠ b1
  bel : Below w0.heap.size w0 w

theorem Rd.next {w0 : World} {b0 b1 b2 : Nat} {r : ByteArray} {w : World} (h : Rd w0 b0 b1 b2 r w) (q : ByteArray) : Rd w0 b0 b1 b2 q ((w.setCell ⟨b1, 0, none⟩ (.string q)).drew) := by
  obtain ⟨c2, c1, f1, z0, z1, z2, g0, g1, g2, o0, o1, n01, n12, bel⟩ := h
  refine ⟨?_, ?_, ?_, ?_, ?_, ?_, ?_, ?_, ?_, o0, o1, n01, n12, (bel.setCell o1 _).drew⟩ <;> simp [go_sem, *]
end Go.Proofs.YtocgknhpecobfaaDoor
