/- The document's own answers for layer 2 (copperplateref02): contracts of is, Put, guess. -/
import Derived.Test.YtfaacngfccceeaaDoorUtfH
namespace Go.Proofs.YtfaacngfccceeaaDoor
open Go.RowKit
attribute [local go_sem] conv1 conv2 conv3 conv4

set_option maxHeartbeats 1000000 in
theorem rsrc_any (r : Int) (w : World) :
    Calls Tryd.prog 41 #[.int .i64 r] w fun e w' => e = .returned (.bool (srcB r)) ∧ w = w' := by
  by_cases h9 : r = 9
  · subst h9
    go_enter Tryd.func41, Tryd.ntmps41
    go_wp2
    go_ret
    exact ⟨rfl, rfl⟩
  by_cases h10 : r = 10
  · subst h10
    go_enter Tryd.func41, Tryd.ntmps41
    go_wp2
    go_ret
    exact ⟨rfl, rfl⟩
  by_cases h13 : r = 13
  · subst h13
    go_enter Tryd.func41, Tryd.ntmps41
    go_wp2
    go_ret
    exact ⟨rfl, rfl⟩
  have e9 : (r == 9) = false := by simp [h9]
  have e10 : (r == 10) = false := by simp [h10]
  have e13 : (r == 13) = false := by simp [h13]
  by_cases h1 : 32 ≤ r <;> by_cases h2 : r ≤ 1114111 <;> by_cases h3 : r < 55296 <;> by_cases h4 : 57343 < r
  all_goals
    go_enter Tryd.func41, Tryd.ntmps41
    go_wp2
    go_ret
    refine ⟨?_, rfl⟩
    have hh : srcB r = (decide (32 ≤ r) && decide (r ≤ 1114111) && (decide (r < 55296) || decide (57343 < r))) := by
      simp only [srcB, h9, h10, h13, false_or]
      rw [Bool.eq_iff_iff]; simp; omega
    rw [hh]; simp [h1, h2, h3, h4]

set_option maxHeartbeats 1000000 in
theorem rput_any (r : Int) (w : World) :
    Calls Tryd.prog 37 #[.int .i64 r] w fun e w' => e = .returned (.string (putA r)) ∧ Below w.heap.size w w' := by
  cases h : srcB r
  · have e1 : putA r = ⟨#[]⟩ := putA_no h
    rw [e1]; clear e1
    go_enter Tryd.func37, Tryd.ntmps37
    go_wp2_with (go_at_call 41; refine (rsrc_any _ _).mono ?_; rintro e w' ⟨rfl, rfl⟩)
    go_ret
    exact ⟨rfl, Below.refl _ _⟩
  · have hr := (srcB_iff r).1 h
    have h0 : 0 ≤ r := by omega
    have h1 : r ≤ 1114111 := by omega
    have e1 : putA r = ⟨(enc r.toNat).toArray⟩ := by rw [putA, putL_yes h]
    have E := Lib.hid e1
    clear hr e1
    by_cases c1 : r < 128
    · skip
      go_enter Tryd.func37, Tryd.ntmps37
      go_wp2_with (go_at_call 41; refine (rsrc_any _ _).mono ?_; rintro e w' ⟨rfl, rfl⟩)
      go_ret
      refine ⟨?_, (Below.refl _ _).alloc (Nat.le_refl _) _⟩
      rw [E.out, enc1 (by omega)]
      rfl
    · by_cases c2 : r < 2048
      · skip
        go_enter Tryd.func37, Tryd.ntmps37
        go_wp2_with (go_at_call 41; refine (rsrc_any _ _).mono ?_; rintro e w' ⟨rfl, rfl⟩)
        go_ret
        refine ⟨?_, (Below.refl _ _).alloc (Nat.le_refl _) _⟩
        rw [E.out, enc2 (by omega) (by omega), show 192 + r.toNat / 64 = (192 + r / 64).toNat by omega, show 128 + r.toNat % 64 = (128 + r % 64).toNat by omega]
        rfl
      · by_cases c3 : r < 65536
        · skip
          go_enter Tryd.func37, Tryd.ntmps37
          go_wp2_with (go_at_call 41; refine (rsrc_any _ _).mono ?_; rintro e w' ⟨rfl, rfl⟩)
          go_ret
          refine ⟨?_, (Below.refl _ _).alloc (Nat.le_refl _) _⟩
          rw [E.out, enc3 (by omega) (by omega), show 224 + r.toNat / 4096 = (224 + r / 4096).toNat by omega, show 128 + r.toNat / 64 % 64 = (128 + r / 64 % 64).toNat by omega, show 128 + r.toNat % 64 = (128 + r % 64).toNat by omega]
          rfl
        · skip
          go_enter Tryd.func37, Tryd.ntmps37
          go_wp2_with (go_at_call 41; refine (rsrc_any _ _).mono ?_; rintro e w' ⟨rfl, rfl⟩)
          go_ret
          refine ⟨?_, (Below.refl _ _).alloc (Nat.le_refl _) _⟩
          rw [E.out, enc4 (by omega), show 240 + r.toNat / 262144 = (240 + r / 262144).toNat by omega, show 128 + r.toNat / 4096 % 64 = (128 + r / 4096 % 64).toNat by omega, show 128 + r.toNat / 64 % 64 = (128 + r / 64 % 64).toNat by omega, show 128 + r.toNat % 64 = (128 + r % 64).toNat by omega]
          rfl

/-- The byte of l at place k, as a number. -/
def byt (l : List UInt8) (k : Nat) : Nat := (l.getD k 0).toNat
theorem byt_lt (l : List UInt8) (k : Nat) : byt l k < 256 := UInt8.toNat_lt _
theorem byt_at (s : ByteArray) (k : Nat) (h : k < s.size) : ((s[k]'h).toNat : Int) = byt s.data.toList k := by
  have h' : k < s.data.toList.length := by rw [← Lib.size_eq]; exact h
  unfold byt
  simp only [List.getD_eq_getElem?_getD, List.getElem?_eq_getElem h', Option.getD_some]
  rfl

/-- The character that n bytes seem to be. -/
def gs (l : List UInt8) : Nat → Nat
  | 1 => byt l 0
  | 2 => 64 * (byt l 0 % 32) + byt l 1 % 64
  | 3 => 64 * (64 * (byt l 0 % 16) + byt l 1 % 64) + byt l 2 % 64
  | 4 => 64 * (64 * (64 * (byt l 0 % 8) + byt l 1 % 64) + byt l 2 % 64) + byt l 3 % 64
  | _ => 0

set_option maxHeartbeats 1000000 in
theorem guess_any (s : ByteArray) (n : Nat) (h1 : 1 ≤ n) (h4 : n ≤ 4) (hn : n ≤ s.size) (w : World) :
    Calls Tryd.prog 36 #[.string s, .int .i64 n] w fun e w' => e = .returned (.int .i64 (gs s.data.toList n)) ∧ w = w' := by
  have b0 := byt_at s 0 (by omega)
  have l0 := byt_lt s.data.toList 0
  have l1 := byt_lt s.data.toList 1
  have l2 := byt_lt s.data.toList 2
  have l3 := byt_lt s.data.toList 3
  match n, h1, h4, hn with
  | 1, _, _, _ =>
    go_enter Tryd.func36, Tryd.ntmps36
    go_wp2
    go_ret
    exact ⟨rfl, rfl⟩
  | 2, _, _, hn =>
    have b1 := byt_at s 1 (by omega)
    have hg : ((gs s.data.toList 2 : Nat) : Int) = 64 * ((byt s.data.toList 0 : Int) % 32) + (byt s.data.toList 1 : Int) % 64 := by simp only [gs]; omega
    have HG := Lib.hid hg
    clear hg
    generalize byt s.data.toList 0 = x0 at *
    generalize byt s.data.toList 1 = x1 at *
    have hn' : 1 < s.size := by omega
    go_enter Tryd.func36, Tryd.ntmps36
    go_wp2
    refine wp_loop_rounds 2 ?_
    rw [rounds_succ]
    go_wp2
    rw [rounds_succ]
    go_wp2
    go_ret
    refine ⟨?_, rfl⟩
    rw [HG.out]
    rfl
  | 3, _, _, hn =>
    have b1 := byt_at s 1 (by omega)
    have b2 := byt_at s 2 (by omega)
    have hg : ((gs s.data.toList 3 : Nat) : Int) = 64 * (64 * ((byt s.data.toList 0 : Int) % 16) + (byt s.data.toList 1 : Int) % 64) + (byt s.data.toList 2 : Int) % 64 := by simp only [gs]; omega
    have HG := Lib.hid hg
    clear hg
    generalize byt s.data.toList 0 = x0 at *
    generalize byt s.data.toList 1 = x1 at *
    generalize byt s.data.toList 2 = x2 at *
    have hn' : 2 < s.size := by omega
    go_enter Tryd.func36, Tryd.ntmps36
    go_wp2
    refine wp_loop_rounds 3 ?_
    rw [rounds_succ]
    go_wp2
    rw [rounds_succ]
    go_wp2
    rw [rounds_succ]
    go_wp2
    go_ret
    refine ⟨?_, rfl⟩
    rw [HG.out]
    rfl
  | 4, _, _, hn =>
    have b1 := byt_at s 1 (by omega)
    have b2 := byt_at s 2 (by omega)
    have b3 := byt_at s 3 (by omega)
    have hg : ((gs s.data.toList 4 : Nat) : Int) = 64 * (64 * (64 * ((byt s.data.toList 0 : Int) % 8) + (byt s.data.toList 1 : Int) % 64) + (byt s.data.toList 2 : Int) % 64) + (byt s.data.toList 3 : Int) % 64 := by simp only [gs]; omega
    have HG := Lib.hid hg
    clear hg
    generalize byt s.data.toList 0 = x0 at *
    generalize byt s.data.toList 1 = x1 at *
    generalize byt s.data.toList 2 = x2 at *
    generalize byt s.data.toList 3 = x3 at *
    have hn' : 3 < s.size := by omega
    go_enter Tryd.func36, Tryd.ntmps36
    go_wp2
    refine wp_loop_rounds 4 ?_
    rw [rounds_succ]
    go_wp2
    rw [rounds_succ]
    go_wp2
    rw [rounds_succ]
    go_wp2
    rw [rounds_succ]
    go_wp2
    go_ret
    refine ⟨?_, rfl⟩
    rw [HG.out]
    rfl
end Go.Proofs.YtfaacngfccceeaaDoor
