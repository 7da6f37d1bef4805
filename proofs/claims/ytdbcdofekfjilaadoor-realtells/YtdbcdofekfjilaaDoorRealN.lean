/- Contracts of the document's functions of layer 3: nan, digits, exponent, Negative, Same, Sort. -/
import Derived.Test.YtdbcdofekfjilaaDoorRealI
namespace Go.Proofs.YtdbcdofekfjilaaDoor
open Go.RowKit

/-- A word that agrees with another: both NaN, or the same. -/
def Ag (b v : Nat) : Prop := b < 18446744073709551616 ∧ ((nanB v = true ∧ nanB b = true) ∨ b = v)
def RN (v : Nat) (w : World) (e : Ending) (w' : World) : Prop := ∃ b, e = .returned (.float .f64 b) ∧ Ag b v ∧ Below w.heap.size w w'

theorem div00 : FloatKind.f64.format.div 0 0 = none := by decide +kernel
def nanT (w : World) : Nat := (Question.nanBits .f64 0 0).cut (w.tape w.drawn (.nanBits .f64 0 0))
theorem nanT_nan (w : World) : nanB (nanT w) = true ∧ nanT w < 18446744073709551616 := by
  unfold nanT
  generalize w.tape w.drawn (.nanBits .f64 0 0) = t
  have e : (Question.nanBits .f64 0 0).cut t = (t % 2) * 9223372036854775808 + 9218868437227405312 + 1 + (t / 2) % 4503599627370495 := rfl
  rw [e]
  have ha : t % 2 < 2 := Nat.mod_lt _ (by decide)
  have hc : t / 2 % 4503599627370495 < 4503599627370495 := Nat.mod_lt _ (by decide)
  generalize t % 2 = a at ha ⊢
  generalize t / 2 % 4503599627370495 = c at hc ⊢
  have hd : isN (a * 9223372036854775808 + 9218868437227405312 + 1 + c) := by
    unfold isN rg; omega
  exact ⟨by simp [nanB, hd], by omega⟩
theorem quo00_run (t : TypeId) (w : World) : (binOp .quo t (.float .f64 0) (.float .f64 0)).run Tryd.prog w = .ok (.float .f64 (nanT w)) w.drew := by
  have hf : (Question.nanBits .f64 0 0).forced = false := rfl
  simp [binOp, Op.floatArith, div00, hf, nanT]

set_option maxHeartbeats 400000 in
theorem rnan_any (w : World) : Calls Tryd.prog 34 #[] w fun e w' => ∃ b, e = .returned (.float .f64 b) ∧ (nanB b = true ∧ b < 18446744073709551616) ∧ Below w.heap.size w w' := by
  have hq := quo00_run
  have hn := Lib.hid (nanT_nan w)
  refine Calls.mono (R := fun e w' => e = .returned (.float .f64 (nanT w)) ∧ w' = w.drew) ?_ ?_
  · go_enter Tryd.func34, Tryd.ntmps34
    go_wp2
    go_ret
    exact ⟨rfl, rfl⟩
  · rintro e w' ⟨rfl, rfl⟩
    exact ⟨_, rfl, hn.out, (Below.refl _ _).drew⟩

set_option maxHeartbeats 800000 in
theorem rnegative_any (a : Nat) (w : World) (h : a < 18446744073709551616) :
    Calls Tryd.prog 13 #[.float .f64 a] w fun e w' => e = .returned (.bool (negv a)) ∧ w = w' := by
  by_cases hn : isN a
  · have e1 : negv a = false := by simp [negv, nanB, hn]
    rw [e1]
    have o := ord0n h hn
    clear e1 hn h
    go_enter Tryd.func13, Tryd.ntmps13
    go_wp2
    go_ret
    exact ⟨rfl, rfl⟩
  have e1 : negv a = sg a := by simp [negv, nanB, hn]
  rw [e1]
  by_cases h0 : rg a = 0
  · have o := ord0 h hn
    rw [if_pos h0] at o
    have q := quo_zero h h0
    have i := inf_ord (sg a)
    clear e1 hn h h0
    cases hs : sg a
    all_goals
      rw [hs] at q i
      simp only [if_true, if_false, Bool.false_eq_true] at i
      clear hs
      go_enter Tryd.func13, Tryd.ntmps13
      go_wp2
      go_ret
      exact ⟨rfl, rfl⟩
  · have o := ord0 h hn
    rw [if_neg h0] at o
    clear e1 hn h h0
    cases hs : sg a
    all_goals
      rw [hs] at o
      simp only [if_true, if_false, Bool.false_eq_true] at o
      clear hs
      go_enter Tryd.func13, Tryd.ntmps13
      go_wp2
      go_ret
      exact ⟨rfl, rfl⟩

set_option maxHeartbeats 800000 in
theorem rsort_any (a : Nat) (w : World) (h : a < 18446744073709551616) :
    Calls Tryd.prog 16 #[.float .f64 a] w fun e w' => e = .returned (.int .i64 (sortv a)) ∧ w = w' := by
  have hself := ord_self_bool h
  cases hb : nanB a
  · have hn : ¬ isN a := by simpa [nanB] using hb
    rw [hb] at hself
    have o := ord0 h hn
    by_cases hi : rg a = 9218868437227405312
    · have e1 : sortv a = 1 := by simp [sortv, hb, hi]
      rw [e1]; clear e1
      have hadd : ∀ (t : TypeId) (w : World), (binOp .add t (.float .f64 a) (.float .f64 a)).run Tryd.prog w = .ok (.float .f64 a) w := fun t w => run_float_arith w _ _ _ _ _ _ (twice_inf h hi)
      have o2 : (FloatKind.f64.format.order a 0 != some .eq) = true := by rw [o, hi]; cases sg a <;> rfl
      have o3 : (FloatKind.f64.format.order a a == some .eq) = true := by simpa using hself
      clear o hi hn hb
      go_enter Tryd.func16, Tryd.ntmps16
      go_wp2
      go_ret
      exact ⟨rfl, rfl⟩
    · by_cases h0 : rg a = 0
      · have e1 : sortv a = 2 := by simp [sortv, hb, h0]
        rw [e1]; clear e1
        rw [if_pos h0] at o
        clear h0 hi hn hb
        go_enter Tryd.func16, Tryd.ntmps16
        go_wp2
        go_ret
        exact ⟨rfl, rfl⟩
      · have e1 : sortv a = 3 := by simp [sortv, hb, h0, hi]
        rw [e1]; clear e1
        have o2 : (FloatKind.f64.format.order a 0 != some .eq) = true := by rw [o, if_neg h0]; cases sg a <;> rfl
        have o4 : (FloatKind.f64.format.order a 0 == some .eq) = false := by rw [o, if_neg h0]; cases sg a <;> rfl
        obtain ⟨r, hr, hne⟩ := twice_fin h (by unfold isN at hn; omega) h0
        have hadd : ∀ (t : TypeId) (w : World), (binOp .add t (.float .f64 a) (.float .f64 a)).run Tryd.prog w = .ok (.float .f64 r) w := fun t w => run_float_arith w _ _ _ _ _ _ hr
        have o3 : (FloatKind.f64.format.order a r == some .eq) = false := by
          have h9 : ¬ FloatKind.f64.format.order a r = some .eq := hne
          simpa using h9
        clear o hi h0 hn hb hr hne
        go_enter Tryd.func16, Tryd.ntmps16
        go_wp2
        go_ret
        exact ⟨rfl, rfl⟩
  · have e1 : sortv a = 0 := by simp [sortv, hb]
    rw [e1]; clear e1
    rw [hb] at hself
    clear hb
    go_enter Tryd.func16, Tryd.ntmps16
    go_wp2
    go_ret
    exact ⟨rfl, rfl⟩

set_option maxHeartbeats 800000 in
theorem rsame_any (a b : Nat) (w : World) (ha : a < 18446744073709551616) (hb : b < 18446744073709551616) :
    Calls Tryd.prog 10 #[.float .f64 a, .float .f64 b] w fun e w' => e = .returned (.bool (samev a b)) ∧ w = w' := by
  have sa := ord_self_bool ha
  have sb := ord_self_bool hb
  cases hn : nanB a
  · cases hm : nanB b
    · rw [hn] at sa
      rw [hm] at sb
      cases ho : (FloatKind.f64.format.order a b == some .eq)
      · have e1 : samev a b = false := by
          have ho' : (Ieee.double.order a b == some .eq) = false := ho
          simp only [samev, hn, ho', Bool.false_and]; rfl
        rw [e1]; clear e1
        have S1 := Lib.hid sa
        have S2 := Lib.hid sb
        have HO := Lib.hid ho
        clear sa sb ho
        go_enter Tryd.func10, Tryd.ntmps10
        go_wp2_with fail
        refine (rnegative_any _ _ ha).mono ?_; rintro e w1 ⟨rfl, rfl⟩
        go_wp2_with fail
        refine (rnegative_any _ _ hb).mono ?_; rintro e w1 ⟨rfl, rfl⟩
        have s1 := S1.out
        have s2 := S2.out
        have ho := HO.out
        go_wp2
        go_ret
        exact ⟨rfl, rfl⟩
      · have e1 : samev a b = (negv a == negv b) := by
          have ho' : (Ieee.double.order a b == some .eq) = true := ho
          simp only [samev, hn, ho', Bool.true_and]; rfl
        rw [e1]; clear e1
        have S1 := Lib.hid sa
        have S2 := Lib.hid sb
        have HO := Lib.hid ho
        clear sa sb ho
        go_enter Tryd.func10, Tryd.ntmps10
        go_wp2_with fail
        refine (rnegative_any _ _ ha).mono ?_; rintro e w1 ⟨rfl, rfl⟩
        go_wp2_with fail
        refine (rnegative_any _ _ hb).mono ?_; rintro e w1 ⟨rfl, rfl⟩
        have s1 := S1.out
        have s2 := S2.out
        have ho := HO.out
        go_wp2
        go_ret
        exact ⟨rfl, rfl⟩
    · have e1 : samev a b = false := by
        unfold samev
        rw [hn, order_nan_r hb (by simpa [nanB] using hm)]; rfl
      rw [e1]; clear e1
      rw [hn] at sa
      rw [hm] at sb
      have S1 := Lib.hid sa
      have S2 := Lib.hid sb
      clear sa sb
      go_enter Tryd.func10, Tryd.ntmps10
      go_wp2_with fail
      refine (rnegative_any _ _ ha).mono ?_; rintro e w1 ⟨rfl, rfl⟩
      go_wp2_with fail
      refine (rnegative_any _ _ hb).mono ?_; rintro e w1 ⟨rfl, rfl⟩
      have s1 := S1.out
      have s2 := S2.out
      go_wp2
      go_ret
      exact ⟨rfl, rfl⟩
  · have e1 : samev a b = nanB b := by simp [samev, hn]
    rw [e1]; clear e1
    rw [hn] at sa
    have S1 := Lib.hid sa
    have S2 := Lib.hid sb
    clear sa sb
    go_enter Tryd.func10, Tryd.ntmps10
    go_wp2_with fail
    refine (rnegative_any _ _ ha).mono ?_; rintro e w1 ⟨rfl, rfl⟩
    go_wp2_with fail
    refine (rnegative_any _ _ hb).mono ?_; rintro e w1 ⟨rfl, rfl⟩
    have s1 := S1.out
    have s2 := S2.out
    go_wp2
    go_ret
    exact ⟨rfl, rfl⟩

set_option maxHeartbeats 1000000 in
theorem rdigits_any (s : ByteArray) (i : Nat) (w : World) (hi : i ≤ s.size) (hs : s.size ≤ 100000) :
    Calls Tryd.prog 33 #[.string s, .int .i64 i] w fun e w' => e = .returned (.int .i64 ((dg (s.data.toList.drop i)).length : Int)) ∧ w = w' := by
  have hle : (dg (s.data.toList.drop i)).length ≤ s.size - i := by
    have := dg_len (s.data.toList.drop i)
    rw [List.length_drop, ← Lib.size_eq] at this
    exact this
  have hL : ∀ n, n < (dg (s.data.toList.drop i)).length → ∃ h : i + n < s.size, isD (s[i + n]'h) = true := by
    intro n hn
    obtain ⟨h1, h2⟩ := tw_lt isD _ n hn
    rw [List.length_drop, ← Lib.size_eq] at h1
    rw [List.getElem_drop] at h2
    exact ⟨by omega, h2⟩
  have hS : ∀ h : i + (dg (s.data.toList.drop i)).length < s.size, isD (s[i + (dg (s.data.toList.drop i)).length]'h) = false := by
    intro h
    have hl : ((s.data.toList.drop i).takeWhile isD).length < (s.data.toList.drop i).length := by
      rw [List.length_drop, ← Lib.size_eq]; unfold dg at h; omega
    have := tw_stop isD _ hl
    rw [List.getElem_drop] at this
    exact this
  generalize (dg (s.data.toList.drop i)).length = N at hle hL hS ⊢
  have HL := Lib.hid hL
  have HS := Lib.hid hS
  clear hL hS
  go_enter Tryd.func33, Tryd.ntmps33
  go_wp2
  go_loop [5] (fun n => ∃ k : Nat, k ≤ N ∧ n = .int .i64 k) (fun n => N - (intOf n).toNat)
  case atStart => exact ⟨0, Nat.zero_le _, rfl⟩
  case round =>
    obtain ⟨k, hk, rfl⟩ := hrel
    by_cases hlt : k < N
    · obtain ⟨h1, h2⟩ := HL.out k hlt
      have h2' := (isD_iff _).1 h2
      clear h2
      have q0 : (i : Int) + (k : Int) < (s.size : Int) := by omega
      have q1 : (48 : Int) ≤ ((s[i + k]'h1).toNat : Int) := by omega
      have q2 : ((s[i + k]'h1).toNat : Int) ≤ 57 := by omega
      clear h2'
      go_wp2
      go_round
      case rel => exact ⟨k + 1, by omega, by go_num⟩
      case measure => simp [intOf]; omega
    · obtain rfl : k = N := by omega
      by_cases q2 : i + k < s.size
      · have hb := HS.out q2
        have hb' : (s[i + k]'q2).toNat < 48 ∨ 57 < (s[i + k]'q2).toNat := by
          by_cases a : 48 ≤ (s[i + k]'q2).toNat
          · right
            by_cases b : (s[i + k]'q2).toNat ≤ 57
            · rw [(isD_iff _).2 ⟨a, b⟩] at hb; cases hb
            · omega
          · omega
        clear hb
        have q0 : (i : Int) + (k : Int) < (s.size : Int) := by omega
        rcases hb' with q | q
        · have q1 : ¬ (48 : Int) ≤ ((s[i + k]'q2).toNat : Int) := by omega
          go_wp2
          go_ret
          exact ⟨rfl, rfl⟩
        · have q1 : (48 : Int) ≤ ((s[i + k]'q2).toNat : Int) := by omega
          have q3 : ¬ ((s[i + k]'q2).toNat : Int) ≤ 57 := by omega
          go_wp2
          go_ret
          exact ⟨rfl, rfl⟩
      · have q0 : ¬ (i : Int) + (k : Int) < (s.size : Int) := by omega
        go_wp2
        go_ret
        exact ⟨rfl, rfl⟩
end Go.Proofs.YtdbcdofekfjilaaDoor
