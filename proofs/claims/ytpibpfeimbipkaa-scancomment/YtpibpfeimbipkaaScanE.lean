/- The laws ScanJoins and ScanComment: their mathematics and walks. -/
import Derived.Test.YtpibpfeimbipkaaScanD
namespace Go.Proofs.Ytpibpfeimbipkaa
open Go.RowKit
set_option linter.unusedVariables false

/-! ### ScanJoins -/
theorem nm_all {a : List UInt8} (hne : a ≠ []) (h : nmT a = a.length) (b : List UInt8) : nmT (a ++ b) = a.length + rn nmI b := by
  cases a with
  | nil => exact absurd rfl hne
  | cons c t =>
    rw [nmT_cons] at h
    rw [List.cons_append, nmT_cons]
    split at h
    · rename_i hb
      rw [if_pos hb, ← List.cons_append, rn_full b h]
    · simp at h
theorem nm_a (b : List UInt8) : nmT (97 :: b) = rn nmI b + 1 := by
  rw [nmT_cons, if_pos (by decide), rn_yes _ (by decide)]

theorem ne_empty {a : ByteArray} (h : a.size ≠ 0) : ¬ a.toList = [] ∧ a.toList.isEmpty = false := by
  have h1 : ¬ a.toList = [] := by
    intro e; rw [Lib.toList_data] at e
    have := congrArg List.length e
    rw [← Lib.size_eq, List.length_nil] at this; exact h this
  exact ⟨h1, by simpa using h1⟩
theorem list_ne {a : ByteArray} (h : a.size ≠ 0) : a.data.toList ≠ [] := by rw [← Lib.toList_data]; exact (ne_empty h).1

set_option maxHeartbeats 1000000 in
set_option maxRecDepth 100000 in
theorem joins_any (a b : ByteArray) (w : World) (za : a.size ≤ 9223372036854775807) (zb : b.size ≤ 9223372036854775807) :
    Calls Try.prog 7 #[.string a, .string b] w fun e w' => e = .returned (.bool true) ∧ Below w.heap.size w w' := by
  by_cases ha : 300 < a.size
  · have ga : (300 : Int) < (a.size : Int) := by omega
    clear ha
    go_enter Try.func7, Try.ntmps7
    (try simp only [List.append_eq, List.cons_append, List.nil_append])
    go_wp2_with fail
    (with_reducible refine (awake_any _).mono ?_)
    rintro e w1 ⟨rfl, hb1⟩
    go_wp2_with fail
    go_ret
    exact ⟨by first | (simp; done) | (simp; omega), hb1⟩
  by_cases hb : 300 < b.size
  · have ga : ¬ (300 : Int) < (a.size : Int) := by omega
    have gb : (300 : Int) < (b.size : Int) := by omega
    clear ha hb
    go_enter Try.func7, Try.ntmps7
    (try simp only [List.append_eq, List.cons_append, List.nil_append])
    go_wp2_with fail
    (with_reducible refine (awake_any _).mono ?_)
    rintro e w1 ⟨rfl, hb1⟩
    go_wp2_with fail
    go_ret
    exact ⟨by first | (simp; done) | (simp; omega), hb1⟩
  have ga : ¬ (300 : Int) < (a.size : Int) := by omega
  have gb : ¬ (300 : Int) < (b.size : Int) := by omega
  have la : a.data.toList.length = a.size := (Lib.size_eq a).symm
  have lb : b.data.toList.length = b.size := (Lib.size_eq b).symm
  obtain ⟨S1, h1, s1⟩ := sadd' (A := a) (B := b) (mkb_of a).symm (mkb_of b).symm (by omega)
  obtain ⟨S2, h2, s2⟩ := sadd' (A := ⟨#[97]⟩) (a := [97]) (B := b) rfl (mkb_of b).symm (by simp; omega)
  have hda := rn_le dgI a.data.toList
  have hdb := rn_le dgI b.data.toList
  have rd := fun w => digits_b (w := w) (mkb_of a).symm (atE_zero (f := rn dgI)) (by omega)
  have rb := fun w => digits_b (w := w) (mkb_of b).symm (atE_zero (f := rn dgI)) (by omega)
  have rs := fun w => digits_b (w := w) h1 (atE_zero (f := rn dgI)) (by simp; omega)
  have hfull := @rn_full dgI a.data.toList b.data.toList
  generalize rn dgI a.data.toList = D at hda rd hfull
  generalize rn dgI b.data.toList = E at hdb rb hfull
  generalize rn dgI (a.data.toList ++ b.data.toList) = T at rs hfull
  rw [la] at hda hfull
  rw [lb] at hdb
  by_cases a0 : a.size = 0
  · have n1 : a.toList = [] := by rw [Lib.toList_data]; exact List.eq_nil_of_length_eq_zero (by omega)
    have n2 : a.toList.isEmpty = true := by rw [n1]; rfl
    have hD : D = 0 := by omega
    have hT := hfull (by omega)
    have t1 : ((D : Int) == (a.size : Int)) = true := by simp; omega
    have t2 : ((T : Int) == (a.size : Int) + (E : Int)) = true := by simp; omega
    clear ha hb la lb h1 h2 s2 hfull hT hD a0
    go_enter Try.func7, Try.ntmps7
    (try simp only [List.append_eq, List.cons_append, List.nil_append])
    go_wp2_with fail
    (with_reducible refine (awake_any _).mono ?_)
    rintro e w1 ⟨rfl, hb1⟩
    go_wp2_with fail
    (with_reducible refine (rd _).mono ?_)
    rintro e w2 ⟨rfl, hb2⟩
    go_wp2_with fail
    (with_reducible refine (rs _).mono ?_)
    rintro e w3 ⟨rfl, hb3⟩
    go_wp2_with fail
    (with_reducible refine (rb _).mono ?_)
    rintro e w4 ⟨rfl, hb4⟩
    go_wp2_with fail
    go_ret
    exact ⟨by first | (simp; done) | (simp; omega), (bel_trans (bel_trans (bel_trans hb1 hb2) hb3) hb4)⟩
  · obtain ⟨n1, n2⟩ := ne_empty a0
    have hna := nmT_le a.data.toList
    have hnb := rn_le nmI b.data.toList
    have rn1 := fun w => name_b (w := w) (mkb_of a).symm (atE_zero (f := nmT)) (by omega)
    have rn2 := fun w => name_b (w := w) h1 (atE_zero (f := nmT)) (by simp; omega)
    have rn3 := fun w => name_b (w := w) h2 (atE_zero (f := nmT)) (by simp; omega)
    have hall := nm_all (list_ne a0)
    have hall2 := fun h => hall h b.data.toList
    rw [show ([97] ++ b.data.toList) = 97 :: b.data.toList from rfl, nm_a] at rn3
    generalize nmT a.data.toList = N at hna rn1 hall2 hall
    generalize nmT (a.data.toList ++ b.data.toList) = M at rn2 hall2
    generalize rn nmI b.data.toList = K at hnb rn3 hall2
    rw [la] at hna hall2
    rw [lb] at hnb
    clear hall
    by_cases hN : N = a.size
    · have hM := hall2 hN
      have t0 : ((N : Int) == (a.size : Int)) = true := by simp; omega
      have t3 : ((M : Int) != (a.size : Int) + ((K + 1 : Nat) : Int) - 1) = false := by simp; omega
      have k1 : ((K + 1 : Nat) : Int) ≤ 301 := by omega
      have k0 : 0 ≤ ((K + 1 : Nat) : Int) := by omega
      generalize ((K + 1 : Nat) : Int) = K1 at rn3 t3 k1 k0
      by_cases hD : D = a.size
      · have hT := hfull hD
        have t1 : ((D : Int) == (a.size : Int)) = true := by simp; omega
        have t2 : ((T : Int) == (a.size : Int) + (E : Int)) = true := by simp; omega
        clear ha hb la lb h1 h2 hfull hT hD a0 hall2 hM hN
        go_enter Try.func7, Try.ntmps7
        (try simp only [List.append_eq, List.cons_append, List.nil_append])
        go_wp2_with fail
        (with_reducible refine (awake_any _).mono ?_)
        rintro e w1 ⟨rfl, hb1⟩
        go_wp2_with fail
        (with_reducible refine (rn1 _).mono ?_)
        rintro e w2 ⟨rfl, hb2⟩
        go_wp2_with fail
        (with_reducible refine (rd _).mono ?_)
        rintro e w3 ⟨rfl, hb3⟩
        go_wp2_with fail
        (with_reducible refine (rn2 _).mono ?_)
        rintro e w4 ⟨rfl, hb4⟩
        go_wp2_with fail
        (with_reducible refine (rn3 _).mono ?_)
        rintro e w5 ⟨rfl, hb5⟩
        go_wp2_with fail
        (with_reducible refine (rs _).mono ?_)
        rintro e w6 ⟨rfl, hb6⟩
        go_wp2_with fail
        (with_reducible refine (rb _).mono ?_)
        rintro e w7 ⟨rfl, hb7⟩
        go_wp2_with fail
        go_ret
        exact ⟨by first | (simp; done) | (simp; omega), (bel_trans (bel_trans (bel_trans (bel_trans (bel_trans (bel_trans hb1 hb2) hb3) hb4) hb5) hb6) hb7)⟩
      · have t1 : ((D : Int) == (a.size : Int)) = false := by simp; omega
        clear ha hb la lb h1 h2 hfull hD a0 hall2 hM hN
        go_enter Try.func7, Try.ntmps7
        (try simp only [List.append_eq, List.cons_append, List.nil_append])
        go_wp2_with fail
        (with_reducible refine (awake_any _).mono ?_)
        rintro e w1 ⟨rfl, hb1⟩
        go_wp2_with fail
        (with_reducible refine (rn1 _).mono ?_)
        rintro e w2 ⟨rfl, hb2⟩
        go_wp2_with fail
        (with_reducible refine (rd _).mono ?_)
        rintro e w3 ⟨rfl, hb3⟩
        go_wp2_with fail
        (with_reducible refine (rn2 _).mono ?_)
        rintro e w4 ⟨rfl, hb4⟩
        go_wp2_with fail
        (with_reducible refine (rn3 _).mono ?_)
        rintro e w5 ⟨rfl, hb5⟩
        go_wp2_with fail
        go_ret
        exact ⟨by first | (simp; done) | (simp; omega), (bel_trans (bel_trans (bel_trans (bel_trans hb1 hb2) hb3) hb4) hb5)⟩
    · have t0 : ((N : Int) == (a.size : Int)) = false := by simp; omega
      by_cases hD : D = a.size
      · have hT := hfull hD
        have t1 : ((D : Int) == (a.size : Int)) = true := by simp; omega
        have t2 : ((T : Int) == (a.size : Int) + (E : Int)) = true := by simp; omega
        clear ha hb la lb h1 h2 hfull hT hD a0 hall2 hN
        go_enter Try.func7, Try.ntmps7
        (try simp only [List.append_eq, List.cons_append, List.nil_append])
        go_wp2_with fail
        (with_reducible refine (awake_any _).mono ?_)
        rintro e w1 ⟨rfl, hb1⟩
        go_wp2_with fail
        (with_reducible refine (rn1 _).mono ?_)
        rintro e w2 ⟨rfl, hb2⟩
        go_wp2_with fail
        (with_reducible refine (rd _).mono ?_)
        rintro e w3 ⟨rfl, hb3⟩
        go_wp2_with fail
        (with_reducible refine (rs _).mono ?_)
        rintro e w4 ⟨rfl, hb4⟩
        go_wp2_with fail
        (with_reducible refine (rb _).mono ?_)
        rintro e w5 ⟨rfl, hb5⟩
        go_wp2_with fail
        go_ret
        exact ⟨by first | (simp; done) | (simp; omega), (bel_trans (bel_trans (bel_trans (bel_trans hb1 hb2) hb3) hb4) hb5)⟩
      · have t1 : ((D : Int) == (a.size : Int)) = false := by simp; omega
        clear ha hb la lb h1 h2 hfull hD a0 hall2 hN
        go_enter Try.func7, Try.ntmps7
        (try simp only [List.append_eq, List.cons_append, List.nil_append])
        go_wp2_with fail
        (with_reducible refine (awake_any _).mono ?_)
        rintro e w1 ⟨rfl, hb1⟩
        go_wp2_with fail
        (with_reducible refine (rn1 _).mono ?_)
        rintro e w2 ⟨rfl, hb2⟩
        go_wp2_with fail
        (with_reducible refine (rd _).mono ?_)
        rintro e w3 ⟨rfl, hb3⟩
        go_wp2_with fail
        go_ret
        exact ⟨by first | (simp; done) | (simp; omega), (bel_trans (bel_trans hb1 hb2) hb3)⟩

/-! ### ScanComment -/
theorem cm_st {a : List UInt8} (h : ∀ c ∈ a, cmI c.toNat = true) : rn cmI (35 :: a) = (35 :: a).length :=
  rn_all (fun c hc => by
    rcases List.mem_cons.1 hc with e | e
    · subst e; decide
    · exact h c e)
theorem cm_alone {a : List UInt8} (h : ∀ c ∈ a, cmI c.toNat = true) : blT (35 :: a) = a.length + 1 := by
  have hs : st (35 :: a) = a.length + 1 := by
    rw [st_cons, if_neg (by decide), if_pos rfl, cm_st h]; rfl
  rw [blT_go hs (by omega), List.drop_eq_nil_of_le (by simp), blT_nil]
theorem cm_then {a : List UInt8} (h : ∀ c ∈ a, cmI c.toNat = true) {x : UInt8} (hx : x = 10 ∨ x = 13) (b : List UInt8) : blT (35 :: a ++ x :: b) = a.length + 1 + 1 + blT b := by
  have hs : st (35 :: a ++ x :: b) = a.length + 1 := by
    rw [List.cons_append, st_cons, if_neg (by decide), if_pos rfl, ← List.cons_append, rn_halt _ _ (by rcases hx with e | e <;> subst e <;> decide), cm_st h]; rfl
  have hs2 : st (x :: b) = 1 := by
    rw [st_cons, if_pos (by rcases hx with e | e <;> subst e <;> decide)]
  have hd : (35 :: a ++ x :: b).drop (a.length + 1) = x :: b := by simp
  rw [blT_go hs (by omega), hd, blT_go hs2 (by decide)]
  show a.length + 1 + (1 + blT b) = _
  omega
theorem ws_three (b : List UInt8) : blT ([32, 44, 9] ++ b) = 3 + blT b := by
  show blT (32 :: 44 :: 9 :: b) = _
  have e1 : st (32 :: 44 :: 9 :: b) = 1 := by rw [st_cons, if_pos (by decide)]
  have e2 : st (44 :: 9 :: b) = 1 := by rw [st_cons, if_pos (by decide)]
  have e3 : st (9 :: b) = 1 := by rw [st_cons, if_pos (by decide)]
  rw [blT_go e1 (by decide)]
  show 1 + blT (44 :: 9 :: b) = _
  rw [blT_go e2 (by decide)]
  show 1 + (1 + blT (9 :: b)) = _
  rw [blT_go e3 (by decide)]
  show 1 + (1 + (1 + blT b)) = _
  omega

set_option maxHeartbeats 1000000 in
set_option maxRecDepth 100000 in
theorem comment_any (a b : ByteArray) (w : World) (za : a.size ≤ 9223372036854775807) (zb : b.size ≤ 9223372036854775807) :
    Calls Try.prog 6 #[.string a, .string b] w fun e w' => e = .returned (.bool true) ∧ Below w.heap.size w w' := by
  by_cases ha : 300 < a.size
  · have ga : (300 : Int) < (a.size : Int) := by omega
    clear ha
    go_enter Try.func6, Try.ntmps6
    (try simp only [List.append_eq, List.cons_append, List.nil_append])
    go_wp2_with fail
    (with_reducible refine (awake_any _).mono ?_)
    rintro e w1 ⟨rfl, hb1⟩
    go_wp2_with fail
    go_ret
    exact ⟨by first | (simp; done) | (simp; omega), hb1⟩
  by_cases hb : 300 < b.size
  · have ga : ¬ (300 : Int) < (a.size : Int) := by omega
    have gb : (300 : Int) < (b.size : Int) := by omega
    clear ha hb
    go_enter Try.func6, Try.ntmps6
    (try simp only [List.append_eq, List.cons_append, List.nil_append])
    go_wp2_with fail
    (with_reducible refine (awake_any _).mono ?_)
    rintro e w1 ⟨rfl, hb1⟩
    go_wp2_with fail
    go_ret
    exact ⟨by first | (simp; done) | (simp; omega), hb1⟩
  have ga : ¬ (300 : Int) < (a.size : Int) := by omega
  have gb : ¬ (300 : Int) < (b.size : Int) := by omega
  have la : a.data.toList.length = a.size := (Lib.size_eq a).symm
  have lb : b.data.toList.length = b.size := (Lib.size_eq b).symm
  have HLA := Lib.hid la
  have HLB := Lib.hid lb
  clear la lb
  go_enter Try.func6, Try.ntmps6
  (try simp only [List.append_eq, List.cons_append, List.nil_append])
  go_wp2_with fail
  (with_reducible refine (awake_any _).mono ?_)
  rintro e w1 ⟨rfl, hb1⟩
  go_wp2_with fail
  go_loop [6] (fun i => ∃ k : Nat, k ≤ a.size ∧ i = .int .i64 k ∧ Hid (∀ (j : Nat) (hj : j < a.size), j < k → cmI (a[j]).toNat = true)) (fun i => a.size - (intOf i).toNat)
  case atStart => exact ⟨0, Nat.zero_le _, rfl, Lib.hid (fun j hj h => by omega)⟩
  case round =>
    obtain ⟨k, hk, rfl, HI⟩ := hrel
    by_cases hlt : k < a.size
    · by_cases h10 : ((a[k]'hlt).toNat : Int) = 10
      · go_wp2_with fail
        go_ret
        exact ⟨rfl, hb1⟩
      by_cases h13 : ((a[k]'hlt).toNat : Int) = 13
      · have t10 := beq_false_of_ne h10
        go_wp2_with fail
        go_ret
        exact ⟨rfl, hb1⟩
      have hc : cmI (a[k]'hlt).toNat = true := by unfold cmI; exact decide_eq_true ⟨h10, h13⟩
      have HC := Lib.hid hc
      have t10 := beq_false_of_ne h10
      have t13 := beq_false_of_ne h13
      clear h10 h13 hc
      go_wp2_with fail
      go_round
      case rel =>
        refine ⟨k + 1, by omega, by go_num, Lib.hid (fun j hj h => ?_)⟩
        rcases Nat.lt_or_ge j k with q | q
        · exact HI.out j hj q
        · obtain rfl : j = k := by omega
          exact HC.out
      case measure => simp [intOf]; omega
    · obtain rfl : k = a.size := by omega
      have hall : ∀ c ∈ a.data.toList, cmI c.toNat = true := fun c hc => by
        obtain ⟨j, hj, rfl⟩ := List.getElem_of_mem hc
        have hj2 : j < a.size := by rw [← HLA.out]; exact hj
        exact HI.out j hj2 hj2
      have la := HLA.out
      have lb := HLB.out
      obtain ⟨S, hS, s1⟩ := sadd' (A := ⟨#[35]⟩) (a := [35]) (B := a) rfl (mkb_of a).symm (by simp; omega)
      obtain ⟨S2, hS2, s2⟩ := sadd' (A := S) (B := ⟨#[10]⟩) (b := [10]) hS rfl (by simp; omega)
      obtain ⟨S3, hS3, s3⟩ := sadd' (A := S2) (B := b) hS2 (mkb_of b).symm (by simp; omega)
      obtain ⟨S4, hS4, s4⟩ := sadd' (A := S) (B := ⟨#[13]⟩) (b := [13]) hS rfl (by simp; omega)
      obtain ⟨S5, hS5, s5⟩ := sadd' (A := S4) (B := b) hS4 (mkb_of b).symm (by simp; omega)
      obtain ⟨S6, hS6, s6⟩ := sadd' (A := ⟨#[32, 44, 9]⟩) (a := [32, 44, 9]) (B := b) rfl (mkb_of b).symm (by simp; omega)
      have zS : S.size = a.size + 1 := by rw [hS, mkb_size, List.length_append, la, List.length_singleton]; omega
      have v1 : blT ([35] ++ a.data.toList) = a.data.toList.length + 1 := cm_alone hall
      have v2 : blT ([35] ++ a.data.toList ++ [10] ++ b.data.toList) = a.data.toList.length + 1 + 1 + blT b.data.toList := by
        have := cm_then hall (x := 10) (.inl rfl) b.data.toList
        rw [← this]; simp
      have v3 : blT ([35] ++ a.data.toList ++ [13] ++ b.data.toList) = a.data.toList.length + 1 + 1 + blT b.data.toList := by
        have := cm_then hall (x := 13) (.inr rfl) b.data.toList
        rw [← this]; simp
      have v4 := ws_three b.data.toList
      have hB := blT_le b.data.toList
      have r0 := fun w => blank_b (w := w) (mkb_of b).symm (atE_zero (f := blT)) (by omega)
      have r1 := fun w => blank_b (w := w) hS (atE_zero (f := blT)) (by simp; omega)
      have r2 := fun w => blank_b (w := w) hS3 (atE_zero (f := blT)) (by simp; omega)
      have r3 := fun w => blank_b (w := w) hS5 (atE_zero (f := blT)) (by simp; omega)
      have r4 := fun w => blank_b (w := w) hS6 (atE_zero (f := blT)) (by simp; omega)
      rw [v1] at r1
      rw [v2] at r2
      rw [v3] at r3
      rw [v4] at r4
      rw [la] at r1 r2 r3
      rw [lb] at hB
      generalize blT b.data.toList = B at *
      clear v1 v2 v3 v4 la lb hS hS2 hS3 hS4 hS5 hS6 hall HI HLA HLB
      have t1 : (((a.size + 1 : Nat) : Int) == (S.size : Int)) = true := by simp; omega
      have t2 : (((a.size + 1 + 1 + B : Nat) : Int) == (S.size : Int) + 1 + (B : Int)) = true := by simp; omega
      have t3 : (((3 + B : Nat) : Int) == 3 + (B : Int)) = true := by simp
      have zS2 : (S.size : Int) ≤ 1000 := by omega
      clear zS
      generalize ((a.size + 1 : Nat) : Int) = X1 at *
      generalize ((a.size + 1 + 1 + B : Nat) : Int) = X2 at *
      generalize ((3 + B : Nat) : Int) = X3 at *
      go_wp2_with fail
      (with_reducible refine (r1 _).mono ?_)
      rintro e w2 ⟨rfl, hb2⟩
      go_wp2_with fail
      (with_reducible refine (r2 _).mono ?_)
      rintro e w3 ⟨rfl, hb3⟩
      go_wp2_with fail
      (with_reducible refine (r0 _).mono ?_)
      rintro e w4 ⟨rfl, hb4⟩
      go_wp2_with fail
      (with_reducible refine (r3 _).mono ?_)
      rintro e w5 ⟨rfl, hb5⟩
      go_wp2_with fail
      (with_reducible refine (r0 _).mono ?_)
      rintro e w6 ⟨rfl, hb6⟩
      go_wp2_with fail
      (with_reducible refine (r4 _).mono ?_)
      rintro e w7 ⟨rfl, hb7⟩
      go_wp2_with fail
      (with_reducible refine (r0 _).mono ?_)
      rintro e w8 ⟨rfl, hb8⟩
      go_wp2_with fail
      go_ret
      exact ⟨by first | (simp; done) | (simp; omega), (bel_trans (bel_trans (bel_trans (bel_trans (bel_trans (bel_trans (bel_trans hb1 hb2) hb3) hb4) hb5) hb6) hb7) hb8)⟩
end Go.Proofs.Ytpibpfeimbipkaa
