/- The walk of RealEdges. -/
import Derived.Test.YtdbcdofekfjilaaDoorRealI
namespace Go.Proofs.YtdbcdofekfjilaaDoor
open Go.RowKit

/-- A number below 10000 in four digits. -/
def e4 (n : Nat) : List UInt8 := [UInt8.ofNat (48 + n / 1000), UInt8.ofNat (48 + n / 100 % 10), UInt8.ofNat (48 + n / 10 % 10), UInt8.ofNat (48 + n % 10)]
theorem ofNat_to {n : Nat} (h : n < 256) : (UInt8.ofNat n).toNat = n := by simp [UInt8.toNat_ofNat']; omega
theorem e4_all {n : Nat} (h : n ≤ 9999) : (e4 n).all isD = true := by
  simp only [e4, List.all_cons, List.all_nil, Bool.and_true, Bool.and_eq_true, isD_iff]
  rw [ofNat_to (by omega), ofNat_to (by omega), ofNat_to (by omega), ofNat_to (by omega)]
  omega
theorem pw_e4 {n : Nat} (h : n ≤ 9999) : pw (e4 n) = n := by
  simp only [pw, e4, List.foldl_cons, List.foldl_nil]
  rw [ofNat_to (by omega), ofNat_to (by omega), ofNat_to (by omega), ofNat_to (by omega)]
  omega
theorem one_all {c : UInt8} (h : isD c = true) : ([c] : List UInt8).all isD = true := by simp [h]
theorem tz_one {c : UInt8} (h : c.toNat ≠ 48) : tz [c] = [c] := by
  have : ¬ c = 48 := by rintro rfl; exact h rfl
  unfold tz
  rw [List.dropWhile_cons, if_neg (by simpa using this)]
theorem edge_big {c : UInt8} (h1 : 49 ≤ c.toNat) (h2 : c.toNat ≤ 57) {n : Nat} (h3 : 402 ≤ n) (h4 : n ≤ 9999) (m : Bool) : rv ((if m then [45] else []) ++ ([c] ++ [101] ++ e4 n)) = sgw m 9218868437227405312 := by
  have hD : isD c = true := (isD_iff c).2 ⟨by omega, h2⟩
  have hp := plainD_B (one_all hD) (List.cons_ne_nil _ _) (ep := 101 :: e4 n) (.inr ⟨101, _, rfl, .inl rfl⟩)
  rw [expoD_e (.inl rfl) (e4_all h4) (by simp [e4]), pw_e4 h4] at hp
  have e : [c] ++ [101] ++ e4 n = [c] ++ 101 :: e4 n := by simp
  have hn : num ((if m then [45] else []) ++ ([c] ++ [101] ++ e4 n)) = some (m, [c], (n : Int)) := by
    rw [e, num_signed m _ (not_minus (one_all hD) (List.cons_ne_nil _ _)), hp]; rfl
  have hv : valB (tz [c]) (n : Int) = 9218868437227405312 := by
    rw [tz_one (by omega)]
    unfold valB
    rw [if_neg (by simp), if_pos (by simp; omega)]
  rw [rv_of hn (by rw [hv]; decide) (by rw [hv]; decide), hv]
theorem edge_small {c : UInt8} (h1 : 49 ≤ c.toNat) (h2 : c.toNat ≤ 57) {n : Nat} (h3 : 402 ≤ n) (h4 : n ≤ 9999) (m : Bool) : rv ((if m then [45] else []) ++ ([c] ++ [69, 45] ++ e4 n)) = sgw m 0 := by
  have hD : isD c = true := (isD_iff c).2 ⟨by omega, h2⟩
  have hp := plainD_B (one_all hD) (List.cons_ne_nil _ _) (ep := 69 :: 45 :: e4 n) (.inr ⟨69, _, rfl, .inr rfl⟩)
  rw [expoD_sign (.inr rfl) (.inr rfl) (e4_all h4) (by simp [e4]), pw_e4 h4] at hp
  have e : [c] ++ [69, 45] ++ e4 n = [c] ++ 69 :: 45 :: e4 n := by simp
  have hn : num ((if m then [45] else []) ++ ([c] ++ [69, 45] ++ e4 n)) = some (m, [c], -(n : Int)) := by
    rw [e, num_signed m _ (not_minus (one_all hD) (List.cons_ne_nil _ _)), hp]
    simp [sgnd]
  have hv : valB (tz [c]) (-(n : Int)) = 0 := by
    rw [tz_one (by omega)]
    unfold valB
    rw [if_neg (by simp), if_neg (by simp; omega), if_pos (by simp; omega)]
  rw [rv_of hn (by rw [hv]; decide) (by rw [hv]; decide), hv]

set_option maxHeartbeats 1000000 in
set_option maxRecDepth 100000 in
theorem edges_main (c n : Nat) (m : Bool) (w : World) (h1 : 49 ≤ c) (h2 : c ≤ 57) (h3 : 402 ≤ n) (h4 : n ≤ 9999) :
    Calls Tryd.prog 8 #[.int .u8 c, .int .i64 n, .bool m] w fun e w' => e = .returned (.bool true) ∧ Below w.heap.size w w' := by
  obtain ⟨E, hE⟩ : ∃ E : ByteArray, E = mkb (e4 n) := ⟨_, rfl⟩
  obtain ⟨C, hC⟩ : ∃ C : ByteArray, C = mkb [UInt8.ofNat c] := ⟨_, rfl⟩
  have cE : ∀ w : World, (convert 30 9 (.slice (some ⟨w.heap.size, 0, none⟩) 4 4)).run Tryd.prog (w.alloc (.cells #[.int .u8 (48 + (n : Int) / 1000), .int .u8 (48 + (n : Int) / 100 % 10), .int .u8 (48 + (n : Int) / 10 % 10), .int .u8 (48 + (n : Int) % 10)] 5)) =
      .ok (.string E) (w.alloc (.cells #[.int .u8 (48 + (n : Int) / 1000), .int .u8 (48 + (n : Int) / 100 % 10), .int .u8 (48 + (n : Int) / 10 % 10), .int .u8 (48 + (n : Int) % 10)] 5)) := fun w => by
    rw [conv4, hE, show (48 + (n : Int) / 1000).toNat = 48 + n / 1000 by omega, show (48 + (n : Int) / 100 % 10).toNat = 48 + n / 100 % 10 by omega, show (48 + (n : Int) / 10 % 10).toNat = 48 + n / 10 % 10 by omega, show (48 + (n : Int) % 10).toNat = 48 + n % 10 by omega]
    rfl
  have cC : ∀ (w : World) (o : Obj), (convert 30 9 (.slice (some ⟨w.heap.size + 1, 0, none⟩) 1 1)).run Tryd.prog ((w.alloc o).alloc (.cells #[.int .u8 (c : Int)] 5)) =
      .ok (.string C) ((w.alloc o).alloc (.cells #[.int .u8 (c : Int)] 5)) := fun w o => by
    rw [conv1b, hC, Int.toNat_natCast]; rfl
  cases m
  · skip
    obtain ⟨A1, hA1, a1⟩ := sadd' (B := ⟨#[101]⟩) (b := [101]) hC rfl (by simp)
    obtain ⟨A2, hA2, a2⟩ := sadd' hA1 hE (by simp [e4])
    obtain ⟨A3, hA3, a3⟩ := sadd' (B := ⟨#[69, 45]⟩) (b := [69, 45]) hC rfl (by simp)
    obtain ⟨A4, hA4, a4⟩ := sadd' hA3 hE (by simp [e4])
    have hB := fun w => real_b (w := w) hA2 (show rv ([UInt8.ofNat c] ++ [101] ++ e4 n) = 9218868437227405312 from edge_big (c := UInt8.ofNat c) (by rw [ofNat_to (by omega)]; exact h1) (by rw [ofNat_to (by omega)]; exact h2) h3 h4 false) (by simp [e4])
    have hL := fun w => real_b (w := w) hA4 (show rv ([UInt8.ofNat c] ++ [69, 45] ++ e4 n) = 0 from edge_small (c := UInt8.ofNat c) (by rw [ofNat_to (by omega)]; exact h1) (by rw [ofNat_to (by omega)]; exact h2) h3 h4 false) (by simp [e4])
    clear hA1 hA2 hA3 hA4 hC hE
    go_enter Tryd.func8, Tryd.ntmps8
    go_wp2_with fail
    refine (awake_any _).mono ?_; rintro e w1 ⟨rfl, hb1⟩
    go_wp2_with fail
    (with_reducible refine (hB _).mono ?_); rintro e w2 ⟨rfl, hb2⟩
    go_wp2_with fail
    (with_reducible refine (hL _).mono ?_); rintro e w3 ⟨rfl, hb3⟩
    go_wp2_with fail
    (with_reducible refine (sort_any _ _ (by decide)).mono ?_); rintro e w4 ⟨rfl, rfl⟩
    rw [show sortv 9218868437227405312 = 1 by decide +kernel]
    go_wp2_with fail
    (with_reducible refine (negative_any _ _ (by decide)).mono ?_); rintro e w4 ⟨rfl, rfl⟩
    rw [show negv 9218868437227405312 = false by decide +kernel]
    go_wp2_with fail
    (with_reducible refine (sort_any _ _ (by decide)).mono ?_); rintro e w4 ⟨rfl, rfl⟩
    rw [show sortv 0 = 2 by decide +kernel]
    go_wp2_with fail
    (with_reducible refine (negative_any _ _ (by decide)).mono ?_); rintro e w4 ⟨rfl, rfl⟩
    rw [show negv 0 = false by decide +kernel]
    go_wp2_with fail
    go_ret
    exact ⟨by simp, bel_trans (bel_trans (bel_alloc (bel_alloc hb1 _) _) hb2) hb3⟩
  · skip
    obtain ⟨S, hS, a0⟩ := sadd' (A := ⟨#[45]⟩) (a := [45]) rfl hC (by simp)
    obtain ⟨A1, hA1, a1⟩ := sadd' (B := ⟨#[101]⟩) (b := [101]) hS rfl (by simp)
    obtain ⟨A2, hA2, a2⟩ := sadd' hA1 hE (by simp [e4])
    obtain ⟨A3, hA3, a3⟩ := sadd' (B := ⟨#[69, 45]⟩) (b := [69, 45]) hS rfl (by simp)
    obtain ⟨A4, hA4, a4⟩ := sadd' hA3 hE (by simp [e4])
    have hB := fun w => real_b (w := w) hA2 (show rv ([45] ++ [UInt8.ofNat c] ++ [101] ++ e4 n) = 18442240474082181120 from edge_big (c := UInt8.ofNat c) (by rw [ofNat_to (by omega)]; exact h1) (by rw [ofNat_to (by omega)]; exact h2) h3 h4 true) (by simp [e4])
    have hL := fun w => real_b (w := w) hA4 (show rv ([45] ++ [UInt8.ofNat c] ++ [69, 45] ++ e4 n) = 9223372036854775808 from edge_small (c := UInt8.ofNat c) (by rw [ofNat_to (by omega)]; exact h1) (by rw [ofNat_to (by omega)]; exact h2) h3 h4 true) (by simp [e4])
    clear hA1 hA2 hA3 hA4 hC hE hS
    go_enter Tryd.func8, Tryd.ntmps8
    go_wp2_with fail
    refine (awake_any _).mono ?_; rintro e w1 ⟨rfl, hb1⟩
    go_wp2_with fail
    (with_reducible refine (hB _).mono ?_); rintro e w2 ⟨rfl, hb2⟩
    go_wp2_with fail
    (with_reducible refine (hL _).mono ?_); rintro e w3 ⟨rfl, hb3⟩
    go_wp2_with fail
    (with_reducible refine (sort_any _ _ (by decide)).mono ?_); rintro e w4 ⟨rfl, rfl⟩
    rw [show sortv 18442240474082181120 = 1 by decide +kernel]
    go_wp2_with fail
    (with_reducible refine (negative_any _ _ (by decide)).mono ?_); rintro e w4 ⟨rfl, rfl⟩
    rw [show negv 18442240474082181120 = true by decide +kernel]
    go_wp2_with fail
    (with_reducible refine (sort_any _ _ (by decide)).mono ?_); rintro e w4 ⟨rfl, rfl⟩
    rw [show sortv 9223372036854775808 = 2 by decide +kernel]
    go_wp2_with fail
    (with_reducible refine (negative_any _ _ (by decide)).mono ?_); rintro e w4 ⟨rfl, rfl⟩
    rw [show negv 9223372036854775808 = true by decide +kernel]
    go_wp2_with fail
    go_ret
    exact ⟨by simp, bel_trans (bel_trans (bel_alloc (bel_alloc hb1 _) _) hb2) hb3⟩

set_option maxHeartbeats 1000000 in
set_option maxRecDepth 100000 in
theorem edges_any (c n : Int) (m : Bool) (w : World) (hc0 : 0 ≤ c) (hc1 : c < 256) :
    Calls Tryd.prog 8 #[.int .u8 c, .int .i64 n, .bool m] w fun r w' => r = .returned (.bool true) ∧ Below w.heap.size w w' := by
  by_cases h1 : c < 49
  · go_enter Tryd.func8, Tryd.ntmps8
    go_wp2_with fail
    refine (awake_any _).mono ?_; rintro e w1 ⟨rfl, hb1⟩
    go_wp2_with fail
    go_ret
    exact ⟨rfl, hb1⟩
  by_cases h2 : 57 < c
  · go_enter Tryd.func8, Tryd.ntmps8
    go_wp2_with fail
    refine (awake_any _).mono ?_; rintro e w1 ⟨rfl, hb1⟩
    go_wp2_with fail
    go_ret
    exact ⟨rfl, hb1⟩
  by_cases h3 : n < 402
  · go_enter Tryd.func8, Tryd.ntmps8
    go_wp2_with fail
    refine (awake_any _).mono ?_; rintro e w1 ⟨rfl, hb1⟩
    go_wp2_with fail
    go_ret
    exact ⟨rfl, hb1⟩
  by_cases h4 : 9999 < n
  · go_enter Tryd.func8, Tryd.ntmps8
    go_wp2_with fail
    refine (awake_any _).mono ?_; rintro e w1 ⟨rfl, hb1⟩
    go_wp2_with fail
    go_ret
    exact ⟨rfl, hb1⟩
  obtain ⟨a, rfl⟩ : ∃ a : Nat, c = (a : Int) := ⟨c.toNat, by omega⟩
  obtain ⟨b, rfl⟩ : ∃ b : Nat, n = (b : Int) := ⟨n.toNat, by omega⟩
  exact edges_main a b m w (by omega) (by omega) (by omega) (by omega)
end Go.Proofs.YtdbcdofekfjilaaDoor
