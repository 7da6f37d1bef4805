/- The walk of RealWhole. -/
import Derived.Test.YtdbcdofekfjilaaDoorRealR
namespace Go.Proofs.YtdbcdofekfjilaaDoor
open Go.RowKit

def WI (n j : Nat) (D : List UInt8) : Prop := D.length = j ∧ D.all isD = true ∧ dval D = n % 10 ^ j ∧ j ≤ 14

theorem WI_next {n j q : Nat} {D : List UInt8} (h : WI n j D) (hq : q = n / 10 ^ j) (hn : n ≤ 99999999999999) (hc : 0 < q ∨ D = []) : WI n (j + 1) (UInt8.ofNat (48 + q % 10) :: D) := by
  obtain ⟨h1, h2, h3, h4⟩ := h
  have e : (UInt8.ofNat (48 + q % 10)).toNat = 48 + q % 10 := by simp [UInt8.toNat_ofNat']; omega
  have hj : j + 1 ≤ 14 := by
    rcases hc with hc | hc
    · by_cases h14 : j = 14
      · exfalso
        rw [h14] at hq
        have e14 : (10:Nat)^14 = 100000000000000 := by decide
        rw [e14] at hq
        omega
      · omega
    · rw [hc] at h1; simp at h1; omega
  refine ⟨by rw [List.length_cons, h1], ?_, ?_, hj⟩
  · rw [List.all_cons, h2, Bool.and_true, isD_iff, e]; omega
  · rw [dval_cons, e, h1, h3, mod_step, ← hq, Nat.add_sub_cancel_left]
theorem WI_end {n j : Nat} {D : List UInt8} (h : WI n j D) (hq : n / 10 ^ j = 0) : dval D = n := by
  have hp : 0 < (10:Nat) ^ j := Nat.pow_pos (by decide)
  have : n < 10 ^ j := by
    rcases Nat.lt_or_ge n (10 ^ j) with h | h
    · exact h
    · have := Nat.div_pos h hp; omega
  rw [h.2.2.1, Nat.mod_eq_of_lt this]


set_option maxHeartbeats 2000000 in
set_option maxRecDepth 100000 in
theorem whole_main (n k : Nat) (w : World) (hn : n ≤ 99999999999999) (hk : k ≤ 9) :
    Calls Tryd.prog 5 #[.int .i64 n, .int .i64 k] w fun e w' => e = .returned (.bool true) ∧ Below w.heap.size w w' := by
  have hzk := zs10 k (by omega)
  obtain ⟨Z, hZ⟩ : ∃ Z : ByteArray, Z = mkb (List.replicate k 48) := ⟨_, rfl⟩
  rw [← hZ] at hzk
  obtain ⟨E, hE⟩ : ∃ E : ByteArray, E = mkb [UInt8.ofNat (48 + k)] := ⟨_, rfl⟩
  have cE : ∀ w : World, (convert 30 9 (.slice (some ⟨w.heap.size, 0, none⟩) 1 1)).run Tryd.prog (w.alloc (.cells #[.int .u8 (48 + (k : Int))] 5)) =
      .ok (.string E) (w.alloc (.cells #[.int .u8 (48 + (k : Int))] 5)) := fun w => by
    rw [conv1, hE, show (48 + (k : Int)).toNat = 48 + k by omega]; rfl
  have HZK := Lib.hid hzk
  have HZ := Lib.hid hZ
  have HEE := Lib.hid hE
  have CE := Lib.hid cE
  clear hzk hZ hE cE
  go_enter Tryd.func5, Tryd.ntmps5
  (try simp only [List.append_eq, List.cons_append, List.nil_append])
  go_wp2_with fail
  refine (awake_any _).mono ?_; rintro e w1 ⟨rfl, hb1⟩
  go_wp2_with fail
  go_loopw [6, 7] (fun s m wr => ∃ (j : Nat) (D : List UInt8), s = .string (mkb D) ∧ m = .int .i64 ((n / 10 ^ j : Nat) : Int) ∧ Hid (WI n j D) ∧ Below w.heap.size w wr) (fun s _ _ => 15 - Lib.strSize s)
  case atStart => exact ⟨0, [], rfl, by simp, ⟨rfl, rfl, by simp [dval, Nat.mod_one], by omega⟩, hb1⟩
  case round =>
    obtain ⟨j, D, rfl, rfl, hI, hB⟩ := hrel
    obtain ⟨q, hq⟩ : ∃ q, q = n / 10 ^ j := ⟨_, rfl⟩
    rw [← hq]
    have hql : q ≤ 99999999999999 := by rw [hq]; exact Nat.le_trans (Nat.div_le_self _ _) hn
    have hDl : D.length ≤ 14 := by rw [hI.out.1]; exact hI.out.2.2.2
    by_cases hc : 0 < q ∨ D = []
    · have hI2 := WI_next hI.out hq hn hc
      have hq2 : n / 10 ^ (j + 1) = q / 10 := by rw [div_step, ← hq]
      obtain ⟨C, hC⟩ : ∃ C : ByteArray, C = mkb [UInt8.ofNat (48 + q % 10)] := ⟨_, rfl⟩
      have cC : ∀ w : World, (convert 30 9 (.slice (some ⟨w.heap.size, 0, none⟩) 1 1)).run Tryd.prog (w.alloc (.cells #[.int .u8 (48 + (q : Int) % 10)] 5)) =
          .ok (.string C) (w.alloc (.cells #[.int .u8 (48 + (q : Int) % 10)] 5)) := fun w => by
        rw [conv1, hC, show (48 + (q : Int) % 10).toNat = 48 + q % 10 by omega]; rfl
      obtain ⟨R, hR, aR⟩ := sadd' (B := mkb D) (b := D) hC rfl (by simp; omega)
      have HI2 := Lib.hid hI2
      have HQ2 := Lib.hid hq2
      have HR := Lib.hid hR
      have hmeas : 15 - Lib.strSize (.string R) < 15 - Lib.strSize (.string (mkb D)) := by
        rw [Lib.strSize_string, Lib.strSize_string, hR, mkb_size, mkb_size]; simp; omega
      have HME := Lib.hid hmeas
      clear hI2 hq2 hR hC hmeas
      have HQ := Lib.hid hq
      clear hq
      by_cases h0 : 0 < q
      · have g1 : (0 : Int) < (q : Int) := by omega
        clear hc
        go_wp2_with fail
        refine ⟨⟨j + 1, _, by rw [HR.out]; rfl, by rw [HQ2.out]; simp, HI2, bel_alloc hB _⟩, HME.out⟩
      · have hD0 : D = [] := by rcases hc with h | h; exact absurd h h0; exact h
        have g1 : ¬ (0 : Int) < (q : Int) := by omega
        have n1 : (mkb D).toList = [] := by rw [mkb_toList]; exact hD0
        have n2 : (mkb D).toList.isEmpty = true := by rw [n1]; rfl
        clear hc hD0
        go_wp2_with fail
        refine ⟨⟨j + 1, _, by rw [HR.out]; rfl, by rw [HQ2.out]; simp, HI2, bel_alloc hB _⟩, HME.out⟩
    · have hq0 : q = 0 := by omega
      have hne : D ≠ [] := fun e => hc (.inr e)
      have g1 : ¬ (0 : Int) < (q : Int) := by omega
      have n1 : ¬ (mkb D).toList = [] := by rw [mkb_toList]; exact hne
      have n2 : (mkb D).toList.isEmpty = false := by simpa using n1
      have hdv : dval D = n := WI_end hI.out (by rw [← hq]; exact hq0)
      have hall := hI.out.2.1
      have hDz := mkb_size D
      have hnl : n < 9007199254740992 := by omega
      have hf : floatOfInt .f64 (n : Int) = W n := floatOfInt_W n hnl
      have hWl := (W_fin hnl).1
      have w1' := whole1 hall hne hDl hdv
      have w2' := whole2 hall hne hDl hdv
      have w3' := whole3 hall hne hDl hdv
      obtain ⟨A1, hA1, a1⟩ := sadd' (A := mkb D) (a := D) (B := ⟨#[46, 48]⟩) (b := [46, 48]) rfl rfl (by simp; omega)
      obtain ⟨A2, hA2, a2⟩ := sadd' (A := mkb D) (a := D) (B := ⟨#[101, 48]⟩) (b := [101, 48]) rfl rfl (by simp; omega)
      have r1 := fun w => real_b (w := w) (A := mkb D) (l := D) rfl w1' (by omega)
      have r2 := fun w => real_b (w := w) hA1 w2' (by simp; omega)
      have r3 := fun w => real_b (w := w) hA2 w3' (by simp; omega)
      have HS := Lib.hid (same_self hWl)
      have HF := Lib.hid hf
      clear hA1 hA2 w1' w2' w3' hf
      have HQ := Lib.hid hq
      have HDV := Lib.hid hdv
      have HALL := Lib.hid hall
      have HC := Lib.hid hc
      clear hq hdv hall hc hq0
      by_cases h15 : D.length + k ≤ 15
      · have w4' := whole4 (k := k) HALL.out hne hDl HDV.out hk h15
        have w5' := whole5 (k := k) HALL.out hne hDl HDV.out hk h15
        have w6' := whole6 (k := k) HALL.out hne hDl HDV.out h15
        have hb2 := nk_lt (k := k) HALL.out hne hDl HDV.out h15
        have hVl := (W_fin hb2).1
        obtain ⟨A3, hA3, a3⟩ := sadd' (A := mkb D) (a := D) rfl HZ.out (by simp; omega)
        obtain ⟨A4, hA4, a4⟩ := sadd' (B := ⟨#[69, 45]⟩) (b := [69, 45]) hA3 rfl (by simp; omega)
        obtain ⟨A5, hA5, a5⟩ := sadd' hA4 HEE.out (by simp; omega)
        obtain ⟨A6, hA6, a6⟩ := sadd' (A := mkb D) (a := D) (B := ⟨#[101, 43]⟩) (b := [101, 43]) rfl rfl (by simp; omega)
        obtain ⟨A7, hA7, a7⟩ := sadd' hA6 HEE.out (by simp; omega)
        have r4 := fun w => real_b (w := w) hA5 w4' (by simp; omega)
        have r5 := fun w => real_b (w := w) hA7 w5' (by simp; omega)
        have r6 := fun w => real_b (w := w) hA3 w6' (by simp; omega)
        have HS2 := Lib.hid (same_self hVl)
        clear hA3 hA4 hA5 hA6 hA7 w4' w5' w6'
        generalize W (n * 10 ^ k) = V at r5 r6 hVl HS2
        have c15 : ¬ (15 : Int) < (D.length : Int) + (k : Int) := by omega
        have hzk := HZK.out
        have cE := CE.out
        have hf := HF.out
        generalize W n = v at r1 r2 r3 r4 hWl HS hf
        go_wp2_with fail
        (with_reducible refine (r1 _).mono ?_); rintro e v1 ⟨rfl, hc1⟩
        go_wp2_with fail
        (with_reducible refine (same_any _ _ _ hWl hWl).mono ?_); rintro e w2 ⟨rfl, rfl⟩
        rw [HS.out]
        go_wp2_with fail
        (with_reducible refine (r2 _).mono ?_); rintro e v2 ⟨rfl, hc2⟩
        go_wp2_with fail
        (with_reducible refine (same_any _ _ _ hWl hWl).mono ?_); rintro e w2 ⟨rfl, rfl⟩
        rw [HS.out]
        go_wp2_with fail
        (with_reducible refine (r3 _).mono ?_); rintro e v3 ⟨rfl, hc3⟩
        go_wp2_with fail
        (with_reducible refine (same_any _ _ _ hWl hWl).mono ?_); rintro e w2 ⟨rfl, rfl⟩
        rw [HS.out]
        go_wp2_with fail
        (with_reducible refine (r4 _).mono ?_); rintro e v4 ⟨rfl, hc4⟩
        go_wp2_with fail
        (with_reducible refine (same_any _ _ _ hWl hWl).mono ?_); rintro e w2 ⟨rfl, rfl⟩
        rw [HS.out]
        go_wp2_with fail
        (with_reducible refine (r5 _).mono ?_); rintro e v5 ⟨rfl, hc5⟩
        go_wp2_with fail
        (with_reducible refine (r6 _).mono ?_); rintro e v6 ⟨rfl, hc6⟩
        go_wp2_with fail
        (with_reducible refine (same_any _ _ _ hVl hVl).mono ?_); rintro e w2 ⟨rfl, rfl⟩
        rw [HS2.out]
        go_wp2_with fail
        go_ret
        exact ⟨by simp, bel_trans (bel_trans (bel_trans (bel_trans (bel_trans (bel_trans (bel_alloc hB _) hc1) hc2) hc3) hc4) hc5) hc6⟩
      · have c15 : (15 : Int) < (D.length : Int) + (k : Int) := by omega
        have hzk := HZK.out
        have cE := CE.out
        have hf := HF.out
        generalize W n = v at r1 r2 r3 hWl HS hf
        go_wp2_with fail
        (with_reducible refine (r1 _).mono ?_); rintro e v1 ⟨rfl, hc1⟩
        go_wp2_with fail
        (with_reducible refine (same_any _ _ _ hWl hWl).mono ?_); rintro e w2 ⟨rfl, rfl⟩
        rw [HS.out]
        go_wp2_with fail
        (with_reducible refine (r2 _).mono ?_); rintro e v2 ⟨rfl, hc2⟩
        go_wp2_with fail
        (with_reducible refine (same_any _ _ _ hWl hWl).mono ?_); rintro e w2 ⟨rfl, rfl⟩
        rw [HS.out]
        go_wp2_with fail
        (with_reducible refine (r3 _).mono ?_); rintro e v3 ⟨rfl, hc3⟩
        go_wp2_with fail
        (with_reducible refine (same_any _ _ _ hWl hWl).mono ?_); rintro e w2 ⟨rfl, rfl⟩
        rw [HS.out]
        go_wp2_with fail
        go_ret
        exact ⟨by simp, bel_trans (bel_trans (bel_trans (bel_alloc hB _) hc1) hc2) hc3⟩

set_option maxHeartbeats 1000000 in
set_option maxRecDepth 100000 in
theorem whole_any (n k : Int) (w : World) :
    Calls Tryd.prog 5 #[.int .i64 n, .int .i64 k] w fun r w' => r = .returned (.bool true) ∧ Below w.heap.size w w' := by
  by_cases h1 : n < 0
  · go_enter Tryd.func5, Tryd.ntmps5
    go_wp2_with fail
    refine (awake_any _).mono ?_; rintro e w1 ⟨rfl, hb1⟩
    go_wp2_with fail
    go_ret
    exact ⟨rfl, hb1⟩
  by_cases h2 : 99999999999999 < n
  · go_enter Tryd.func5, Tryd.ntmps5
    go_wp2_with fail
    refine (awake_any _).mono ?_; rintro e w1 ⟨rfl, hb1⟩
    go_wp2_with fail
    go_ret
    exact ⟨rfl, hb1⟩
  by_cases h3 : k < 0
  · go_enter Tryd.func5, Tryd.ntmps5
    go_wp2_with fail
    refine (awake_any _).mono ?_; rintro e w1 ⟨rfl, hb1⟩
    go_wp2_with fail
    go_ret
    exact ⟨rfl, hb1⟩
  by_cases h4 : 9 < k
  · go_enter Tryd.func5, Tryd.ntmps5
    go_wp2_with fail
    refine (awake_any _).mono ?_; rintro e w1 ⟨rfl, hb1⟩
    go_wp2_with fail
    go_ret
    exact ⟨rfl, hb1⟩
  obtain ⟨a, rfl⟩ : ∃ a : Nat, n = (a : Int) := ⟨n.toNat, by omega⟩
  obtain ⟨b, rfl⟩ : ∃ b : Nat, k = (b : Int) := ⟨k.toNat, by omega⟩
  exact whole_main a b w (by omega) (by omega)
end Go.Proofs.YtdbcdofekfjilaaDoor
