/- The contract of the document's exponent. -/
import Derived.Test.YtdbcdofekfjilaaDoorRealN
namespace Go.Proofs.YtdbcdofekfjilaaDoor
open Go.RowKit

def rev : Option Int → Value
  | some x => .tuple #[.int .i64 x, .bool true]
  | none => .tuple #[.int .i64 0, .bool false]

theorem pw_step (l : List UInt8) (c : UInt8) (h : 48 ≤ c.toNat) : (10 * (pw l : Int) + (c.toNat : Int) - 48 > 1000000 → pw (l ++ [c]) = 1000000) ∧ (¬ 10 * (pw l : Int) + (c.toNat : Int) - 48 > 1000000 → (pw (l ++ [c]) : Int) = 10 * (pw l : Int) + (c.toNat : Int) - 48) := by
  rw [pw_snoc]
  constructor
  · intro h; omega
  · intro h; omega

theorem drop_byte (s : ByteArray) (i k : Nat) (hik : i ≤ k) (hk : k < s.size) (h2 : k - i < (s.data.toList.drop i).length) : (s.data.toList.drop i)[k - i]'h2 = s[k]'hk := by
  have e : i + (k - i) = k := by omega
  simp only [List.getElem_drop, e]
  rfl
theorem digs_dg (l : List UInt8) : (dg l).all isD = true := by
  rw [List.all_eq_true]
  intro x hx
  unfold dg at hx
  obtain ⟨i, hi, rfl⟩ := List.getElem_of_mem hx
  obtain ⟨h1, h2⟩ := tw_lt isD l i hi
  have e := take_tw isD l
  have : (List.takeWhile isD l)[i] = l[i] := by
    have h3 : (List.take (List.takeWhile isD l).length l)[i]'(by rw [e]; exact hi) = l[i] := List.getElem_take
    rw [← h3]; congr 1; exact e.symm
  rw [this]; exact h2


set_option maxHeartbeats 1000000 in
set_option maxRecDepth 100000 in
theorem rexp_e_one (s : ByteArray) (w : World) (hs : s.size ≤ 100000) (h0 : 0 < s.size) (hE : (s[0]'h0).toNat = 101) (h1 : s.size = 1) :
    Calls Tryd.prog 35 #[.string s] w fun e w' => e = .returned (rev (if dg (s.data.toList.drop 1) = [] then none else if ud (s.data.toList.drop 1) = [] then some ((pw (dg (s.data.toList.drop 1)) : Int)) else none)) ∧ w = w' := by
  have n0 : ¬ s.toList = [] := by rw [Lib.toList_data]; intro e; rw [Lib.size_eq, e] at h0; exact absurd h0 (by decide)
  have n1 : s.toList.isEmpty = false := by simpa using n0
  have k0 : (((s[0]'h0).toNat : Int) != 101) = false := by rw [hE]; rfl
  have k1 : ¬ (1 : Int) < (s.size : Int) := by omega
  clear hE
  obtain ⟨D, hDD⟩ : ∃ D, D = s.data.toList.drop 1 := ⟨_, rfl⟩
  rw [← hDD]
  have hDl : D.length = s.size - 1 := by rw [hDD, List.length_drop, ← Lib.size_eq]
  have hDb : ∀ (k : Nat) (h1 : 1 ≤ k) (h2 : k < s.size) (h3 : k - 1 < D.length), D[k - 1]'h3 = s[k]'h2 := by subst hDD; exact fun k h1 h2 h3 => drop_byte s 1 k h1 h2 h3
  have HDB := Lib.hid hDb
  have HDD := Lib.hid hDD
  have HDL := Lib.hid hDl
  clear hDb hDD
  have hsp : dg D ++ ud D = D := List.takeWhile_append_dropWhile
  have hln : (dg D).length + (ud D).length = s.size - 1 := by have := congrArg List.length hsp; rw [List.length_append, hDl] at this; exact this
  clear hDl
  by_cases q1 : dg D = []
  · rw [if_pos q1]
    have QL := Lib.hid (show ((dg D).length : Int) = 0 by rw [q1]; rfl)
    clear q1 hsp hln
    unfold rev
    go_enter Tryd.func35, Tryd.ntmps35
    go_wp2_with fail
    refine (rdigits_any s 1 _ (by omega) hs).mono ?_; rintro e w1 ⟨rfl, rfl⟩
    rw [← HDD.out]
    rw [QL.out]
    go_wp2_with fail
    go_ret2
    exact ⟨rfl, rfl⟩
  rw [if_neg q1]
  have hpos : 0 < (dg D).length := List.length_pos_iff.2 q1
  omega

set_option maxHeartbeats 1000000 in
set_option maxRecDepth 100000 in
theorem rexp_e_plus (s : ByteArray) (w : World) (hs : s.size ≤ 100000) (h0 : 0 < s.size) (hE : (s[0]'h0).toNat = 101) (h1 : 1 < s.size) (hG : (s[1]'h1).toNat = 43) :
    Calls Tryd.prog 35 #[.string s] w fun e w' => e = .returned (rev (if dg (s.data.toList.drop 2) = [] then none else if ud (s.data.toList.drop 2) = [] then some ((pw (dg (s.data.toList.drop 2)) : Int)) else none)) ∧ w = w' := by
  have n0 : ¬ s.toList = [] := by rw [Lib.toList_data]; intro e; rw [Lib.size_eq, e] at h0; exact absurd h0 (by decide)
  have n1 : s.toList.isEmpty = false := by simpa using n0
  have k0 : (((s[0]'h0).toNat : Int) != 101) = false := by rw [hE]; rfl
  have k1 : (1 : Int) < (s.size : Int) := by omega
  have k2 : (((s[1]'h1).toNat : Int) == 43) = true := by rw [hG]; rfl
  have k3 : (((s[1]'h1).toNat : Int) == 45) = false := by rw [hG]; rfl
  clear hG
  clear hE
  obtain ⟨D, hDD⟩ : ∃ D, D = s.data.toList.drop 2 := ⟨_, rfl⟩
  rw [← hDD]
  have hDl : D.length = s.size - 2 := by rw [hDD, List.length_drop, ← Lib.size_eq]
  have hDb : ∀ (k : Nat) (h1 : 2 ≤ k) (h2 : k < s.size) (h3 : k - 2 < D.length), D[k - 2]'h3 = s[k]'h2 := by subst hDD; exact fun k h1 h2 h3 => drop_byte s 2 k h1 h2 h3
  have HDB := Lib.hid hDb
  have HDD := Lib.hid hDD
  have HDL := Lib.hid hDl
  clear hDb hDD
  have hsp : dg D ++ ud D = D := List.takeWhile_append_dropWhile
  have hln : (dg D).length + (ud D).length = s.size - 2 := by have := congrArg List.length hsp; rw [List.length_append, hDl] at this; exact this
  clear hDl
  by_cases q1 : dg D = []
  · rw [if_pos q1]
    have QL := Lib.hid (show ((dg D).length : Int) = 0 by rw [q1]; rfl)
    clear q1 hsp hln
    unfold rev
    go_enter Tryd.func35, Tryd.ntmps35
    go_wp2_with fail
    refine (rdigits_any s 2 _ (by omega) hs).mono ?_; rintro e w1 ⟨rfl, rfl⟩
    rw [← HDD.out]
    rw [QL.out]
    go_wp2_with fail
    go_ret2
    exact ⟨rfl, rfl⟩
  rw [if_neg q1]
  have hpos : 0 < (dg D).length := List.length_pos_iff.2 q1
  by_cases q2 : ud D = []
  · rw [if_pos q2]
    have hall : D.all isD = true := by rw [← hsp, q2, List.append_nil]; exact digs_dg _
    have hdg : dg D = D := by rw [q2, List.append_nil] at hsp; exact hsp
    have hN : (dg D).length = s.size - 2 := by rw [q2] at hln; simpa using hln
    have hpwl := pw_le D
    rw [hN] at hpos
    have HDG := Lib.hid hdg
    have HA := Lib.hid hall
    have HN := Lib.hid (show ((dg D).length : Int) = ((s.size - 2 : Nat) : Int) by rw [hN])
    clear q1 q2 hsp hln hall hdg hN
    rw [HDG.out]
    unfold rev
    go_enter Tryd.func35, Tryd.ntmps35
    go_wp2_with fail
    refine (rdigits_any s 2 _ (by omega) hs).mono ?_; rintro e w1 ⟨rfl, rfl⟩
    rw [← HDD.out]
    rw [HN.out]
    have e0 : (((s.size - 2 : Nat) : Int) == 0) = false := beq_false_of_ne (by omega)
    have e1 : ¬ (2 : Int) + ((s.size - 2 : Nat) : Int) < (s.size : Int) := by omega
    go_wp2_with fail
    go_loop [6, 7] (fun x q => ∃ k : Nat, 2 ≤ k ∧ k ≤ s.size ∧ q = .int .i64 k ∧ x = .int .i64 (pw (D.take (k - 2)))) (fun _ q => s.size - (intOf q).toNat)
    case atStart => exact ⟨2, by omega, by omega, rfl, rfl⟩
    case round =>
      obtain ⟨k, hk1, hk2, rfl, rfl⟩ := hrel
      have hpw := pw_le (D.take (k - 2))
      by_cases hlt : k < s.size
      · skip
        have hlt2 : k - 2 < D.length := by rw [HDL.out]; omega
        have hby : D[k - 2]'hlt2 = s[k]'hlt := HDB.out k hk1 hlt hlt2
        have hdig := (isD_iff _).1 (List.all_eq_true.1 HA.out _ (List.getElem_mem hlt2))
        rw [hby] at hdig
        have htk : D.take (k + 1 - 2) = D.take (k - 2) ++ [s[k]'hlt] := by rw [show k + 1 - 2 = k - 2 + 1 by omega, List.take_succ_eq_append_getElem hlt2, hby]
        have hst := pw_step (D.take (k - 2)) (s[k]'hlt) hdig.1
        rw [← htk] at hst
        have h1' := hdig.1
        have h2' := hdig.2
        have HST := Lib.hid hst
        clear hst htk hby hdig
        by_cases hcl : 10 * (pw (D.take (k - 2)) : Int) + ((s[k]'hlt).toNat : Int) - 48 > 1000000
        · go_wp2_with fail
          go_round
          case rel => exact ⟨k + 1, by omega, by omega, by go_num, by rw [HST.out.1 hcl]; rfl⟩
          case measure => simp [intOf]; omega
        · go_wp2_with fail
          go_round
          case rel => exact ⟨k + 1, by omega, by omega, by go_num, by rw [HST.out.2 hcl]⟩
          case measure => simp [intOf]; omega
      · have e3 : D.take (k - 2) = D := List.take_of_length_le (by rw [HDL.out]; omega)
        rw [e3] at hpw
        go_wp2_with fail
        go_ret2
        exact ⟨rfl, rfl⟩
  · rw [if_neg q2]
    have hpos2 : 0 < (ud D).length := List.length_pos_iff.2 q2
    obtain ⟨M, hM⟩ : ∃ M, M = (dg D).length := ⟨_, rfl⟩
    rw [← hM] at hpos hln
    have HM := Lib.hid hM
    have e0 : ((M : Int) == 0) = false := beq_false_of_ne (by omega)
    have e1 : (2 : Int) + (M : Int) < (s.size : Int) := by omega
    clear hM q1 q2 hsp hln hpos2
    unfold rev
    go_enter Tryd.func35, Tryd.ntmps35
    go_wp2_with fail
    refine (rdigits_any s 2 _ (by omega) hs).mono ?_; rintro e w1 ⟨rfl, rfl⟩
    rw [← HDD.out]
    rw [← HM.out]
    go_wp2_with fail
    go_ret2
    exact ⟨rfl, rfl⟩

set_option maxHeartbeats 1000000 in
set_option maxRecDepth 100000 in
theorem rexp_e_minus (s : ByteArray) (w : World) (hs : s.size ≤ 100000) (h0 : 0 < s.size) (hE : (s[0]'h0).toNat = 101) (h1 : 1 < s.size) (hG : (s[1]'h1).toNat = 45) :
    Calls Tryd.prog 35 #[.string s] w fun e w' => e = .returned (rev (if dg (s.data.toList.drop 2) = [] then none else if ud (s.data.toList.drop 2) = [] then some (-(pw (dg (s.data.toList.drop 2)) : Int)) else none)) ∧ w = w' := by
  have n0 : ¬ s.toList = [] := by rw [Lib.toList_data]; intro e; rw [Lib.size_eq, e] at h0; exact absurd h0 (by decide)
  have n1 : s.toList.isEmpty = false := by simpa using n0
  have k0 : (((s[0]'h0).toNat : Int) != 101) = false := by rw [hE]; rfl
  have k1 : (1 : Int) < (s.size : Int) := by omega
  have k2 : (((s[1]'h1).toNat : Int) == 43) = false := by rw [hG]; rfl
  have k3 : (((s[1]'h1).toNat : Int) == 45) = true := by rw [hG]; rfl
  clear hG
  clear hE
  obtain ⟨D, hDD⟩ : ∃ D, D = s.data.toList.drop 2 := ⟨_, rfl⟩
  rw [← hDD]
  have hDl : D.length = s.size - 2 := by rw [hDD, List.length_drop, ← Lib.size_eq]
  have hDb : ∀ (k : Nat) (h1 : 2 ≤ k) (h2 : k < s.size) (h3 : k - 2 < D.length), D[k - 2]'h3 = s[k]'h2 := by subst hDD; exact fun k h1 h2 h3 => drop_byte s 2 k h1 h2 h3
  have HDB := Lib.hid hDb
  have HDD := Lib.hid hDD
  have HDL := Lib.hid hDl
  clear hDb hDD
  have hsp : dg D ++ ud D = D := List.takeWhile_append_dropWhile
  have hln : (dg D).length + (ud D).length = s.size - 2 := by have := congrArg List.length hsp; rw [List.length_append, hDl] at this; exact this
  clear hDl
  by_cases q1 : dg D = []
  · rw [if_pos q1]
    have QL := Lib.hid (show ((dg D).length : Int) = 0 by rw [q1]; rfl)
    clear q1 hsp hln
    unfold rev
    go_enter Tryd.func35, Tryd.ntmps35
    go_wp2_with fail
    refine (rdigits_any s 2 _ (by omega) hs).mono ?_; rintro e w1 ⟨rfl, rfl⟩
    rw [← HDD.out]
    rw [QL.out]
    go_wp2_with fail
    go_ret2
    exact ⟨rfl, rfl⟩
  rw [if_neg q1]
  have hpos : 0 < (dg D).length := List.length_pos_iff.2 q1
  by_cases q2 : ud D = []
  · rw [if_pos q2]
    have hall : D.all isD = true := by rw [← hsp, q2, List.append_nil]; exact digs_dg _
    have hdg : dg D = D := by rw [q2, List.append_nil] at hsp; exact hsp
    have hN : (dg D).length = s.size - 2 := by rw [q2] at hln; simpa using hln
    have hpwl := pw_le D
    rw [hN] at hpos
    have HDG := Lib.hid hdg
    have HA := Lib.hid hall
    have HN := Lib.hid (show ((dg D).length : Int) = ((s.size - 2 : Nat) : Int) by rw [hN])
    clear q1 q2 hsp hln hall hdg hN
    rw [HDG.out]
    unfold rev
    go_enter Tryd.func35, Tryd.ntmps35
    go_wp2_with fail
    refine (rdigits_any s 2 _ (by omega) hs).mono ?_; rintro e w1 ⟨rfl, rfl⟩
    rw [← HDD.out]
    rw [HN.out]
    have e0 : (((s.size - 2 : Nat) : Int) == 0) = false := beq_false_of_ne (by omega)
    have e1 : ¬ (2 : Int) + ((s.size - 2 : Nat) : Int) < (s.size : Int) := by omega
    go_wp2_with fail
    go_loop [6, 7] (fun x q => ∃ k : Nat, 2 ≤ k ∧ k ≤ s.size ∧ q = .int .i64 k ∧ x = .int .i64 (pw (D.take (k - 2)))) (fun _ q => s.size - (intOf q).toNat)
    case atStart => exact ⟨2, by omega, by omega, rfl, rfl⟩
    case round =>
      obtain ⟨k, hk1, hk2, rfl, rfl⟩ := hrel
      have hpw := pw_le (D.take (k - 2))
      by_cases hlt : k < s.size
      · skip
        have hlt2 : k - 2 < D.length := by rw [HDL.out]; omega
        have hby : D[k - 2]'hlt2 = s[k]'hlt := HDB.out k hk1 hlt hlt2
        have hdig := (isD_iff _).1 (List.all_eq_true.1 HA.out _ (List.getElem_mem hlt2))
        rw [hby] at hdig
        have htk : D.take (k + 1 - 2) = D.take (k - 2) ++ [s[k]'hlt] := by rw [show k + 1 - 2 = k - 2 + 1 by omega, List.take_succ_eq_append_getElem hlt2, hby]
        have hst := pw_step (D.take (k - 2)) (s[k]'hlt) hdig.1
        rw [← htk] at hst
        have h1' := hdig.1
        have h2' := hdig.2
        have HST := Lib.hid hst
        clear hst htk hby hdig
        by_cases hcl : 10 * (pw (D.take (k - 2)) : Int) + ((s[k]'hlt).toNat : Int) - 48 > 1000000
        · go_wp2_with fail
          go_round
          case rel => exact ⟨k + 1, by omega, by omega, by go_num, by rw [HST.out.1 hcl]; rfl⟩
          case measure => simp [intOf]; omega
        · go_wp2_with fail
          go_round
          case rel => exact ⟨k + 1, by omega, by omega, by go_num, by rw [HST.out.2 hcl]⟩
          case measure => simp [intOf]; omega
      · have e3 : D.take (k - 2) = D := List.take_of_length_le (by rw [HDL.out]; omega)
        rw [e3] at hpw
        go_wp2_with fail
        go_ret2
        exact ⟨rfl, rfl⟩
  · rw [if_neg q2]
    have hpos2 : 0 < (ud D).length := List.length_pos_iff.2 q2
    obtain ⟨M, hM⟩ : ∃ M, M = (dg D).length := ⟨_, rfl⟩
    rw [← hM] at hpos hln
    have HM := Lib.hid hM
    have e0 : ((M : Int) == 0) = false := beq_false_of_ne (by omega)
    have e1 : (2 : Int) + (M : Int) < (s.size : Int) := by omega
    clear hM q1 q2 hsp hln hpos2
    unfold rev
    go_enter Tryd.func35, Tryd.ntmps35
    go_wp2_with fail
    refine (rdigits_any s 2 _ (by omega) hs).mono ?_; rintro e w1 ⟨rfl, rfl⟩
    rw [← HDD.out]
    rw [← HM.out]
    go_wp2_with fail
    go_ret2
    exact ⟨rfl, rfl⟩

set_option maxHeartbeats 1000000 in
set_option maxRecDepth 100000 in
theorem rexp_e_other (s : ByteArray) (w : World) (hs : s.size ≤ 100000) (h0 : 0 < s.size) (hE : (s[0]'h0).toNat = 101) (h1 : 1 < s.size) (hG : ¬ (s[1]'h1).toNat = 43) (hH : ¬ (s[1]'h1).toNat = 45) :
    Calls Tryd.prog 35 #[.string s] w fun e w' => e = .returned (rev (if dg (s.data.toList.drop 1) = [] then none else if ud (s.data.toList.drop 1) = [] then some ((pw (dg (s.data.toList.drop 1)) : Int)) else none)) ∧ w = w' := by
  have n0 : ¬ s.toList = [] := by rw [Lib.toList_data]; intro e; rw [Lib.size_eq, e] at h0; exact absurd h0 (by decide)
  have n1 : s.toList.isEmpty = false := by simpa using n0
  have k0 : (((s[0]'h0).toNat : Int) != 101) = false := by rw [hE]; rfl
  have k1 : (1 : Int) < (s.size : Int) := by omega
  have k2 : (((s[1]'h1).toNat : Int) == 43) = false := beq_false_of_ne (by omega)
  have k3 : (((s[1]'h1).toNat : Int) == 45) = false := beq_false_of_ne (by omega)
  clear hH
  clear hG
  clear hE
  obtain ⟨D, hDD⟩ : ∃ D, D = s.data.toList.drop 1 := ⟨_, rfl⟩
  rw [← hDD]
  have hDl : D.length = s.size - 1 := by rw [hDD, List.length_drop, ← Lib.size_eq]
  have hDb : ∀ (k : Nat) (h1 : 1 ≤ k) (h2 : k < s.size) (h3 : k - 1 < D.length), D[k - 1]'h3 = s[k]'h2 := by subst hDD; exact fun k h1 h2 h3 => drop_byte s 1 k h1 h2 h3
  have HDB := Lib.hid hDb
  have HDD := Lib.hid hDD
  have HDL := Lib.hid hDl
  clear hDb hDD
  have hsp : dg D ++ ud D = D := List.takeWhile_append_dropWhile
  have hln : (dg D).length + (ud D).length = s.size - 1 := by have := congrArg List.length hsp; rw [List.length_append, hDl] at this; exact this
  clear hDl
  by_cases q1 : dg D = []
  · rw [if_pos q1]
    have QL := Lib.hid (show ((dg D).length : Int) = 0 by rw [q1]; rfl)
    clear q1 hsp hln
    unfold rev
    go_enter Tryd.func35, Tryd.ntmps35
    go_wp2_with fail
    refine (rdigits_any s 1 _ (by omega) hs).mono ?_; rintro e w1 ⟨rfl, rfl⟩
    rw [← HDD.out]
    rw [QL.out]
    go_wp2_with fail
    go_ret2
    exact ⟨rfl, rfl⟩
  rw [if_neg q1]
  have hpos : 0 < (dg D).length := List.length_pos_iff.2 q1
  by_cases q2 : ud D = []
  · rw [if_pos q2]
    have hall : D.all isD = true := by rw [← hsp, q2, List.append_nil]; exact digs_dg _
    have hdg : dg D = D := by rw [q2, List.append_nil] at hsp; exact hsp
    have hN : (dg D).length = s.size - 1 := by rw [q2] at hln; simpa using hln
    have hpwl := pw_le D
    rw [hN] at hpos
    have HDG := Lib.hid hdg
    have HA := Lib.hid hall
    have HN := Lib.hid (show ((dg D).length : Int) = ((s.size - 1 : Nat) : Int) by rw [hN])
    clear q1 q2 hsp hln hall hdg hN
    rw [HDG.out]
    unfold rev
    go_enter Tryd.func35, Tryd.ntmps35
    go_wp2_with fail
    refine (rdigits_any s 1 _ (by omega) hs).mono ?_; rintro e w1 ⟨rfl, rfl⟩
    rw [← HDD.out]
    rw [HN.out]
    have e0 : (((s.size - 1 : Nat) : Int) == 0) = false := beq_false_of_ne (by omega)
    have e1 : ¬ (1 : Int) + ((s.size - 1 : Nat) : Int) < (s.size : Int) := by omega
    go_wp2_with fail
    go_loop [6, 7] (fun x q => ∃ k : Nat, 1 ≤ k ∧ k ≤ s.size ∧ q = .int .i64 k ∧ x = .int .i64 (pw (D.take (k - 1)))) (fun _ q => s.size - (intOf q).toNat)
    case atStart => exact ⟨1, by omega, by omega, rfl, rfl⟩
    case round =>
      obtain ⟨k, hk1, hk2, rfl, rfl⟩ := hrel
      have hpw := pw_le (D.take (k - 1))
      by_cases hlt : k < s.size
      · skip
        have hlt2 : k - 1 < D.length := by rw [HDL.out]; omega
        have hby : D[k - 1]'hlt2 = s[k]'hlt := HDB.out k hk1 hlt hlt2
        have hdig := (isD_iff _).1 (List.all_eq_true.1 HA.out _ (List.getElem_mem hlt2))
        rw [hby] at hdig
        have htk : D.take (k + 1 - 1) = D.take (k - 1) ++ [s[k]'hlt] := by rw [show k + 1 - 1 = k - 1 + 1 by omega, List.take_succ_eq_append_getElem hlt2, hby]
        have hst := pw_step (D.take (k - 1)) (s[k]'hlt) hdig.1
        rw [← htk] at hst
        have h1' := hdig.1
        have h2' := hdig.2
        have HST := Lib.hid hst
        clear hst htk hby hdig
        by_cases hcl : 10 * (pw (D.take (k - 1)) : Int) + ((s[k]'hlt).toNat : Int) - 48 > 1000000
        · go_wp2_with fail
          go_round
          case rel => exact ⟨k + 1, by omega, by omega, by go_num, by rw [HST.out.1 hcl]; rfl⟩
          case measure => simp [intOf]; omega
        · go_wp2_with fail
          go_round
          case rel => exact ⟨k + 1, by omega, by omega, by go_num, by rw [HST.out.2 hcl]⟩
          case measure => simp [intOf]; omega
      · have e3 : D.take (k - 1) = D := List.take_of_length_le (by rw [HDL.out]; omega)
        rw [e3] at hpw
        go_wp2_with fail
        go_ret2
        exact ⟨rfl, rfl⟩
  · rw [if_neg q2]
    have hpos2 : 0 < (ud D).length := List.length_pos_iff.2 q2
    obtain ⟨M, hM⟩ : ∃ M, M = (dg D).length := ⟨_, rfl⟩
    rw [← hM] at hpos hln
    have HM := Lib.hid hM
    have e0 : ((M : Int) == 0) = false := beq_false_of_ne (by omega)
    have e1 : (1 : Int) + (M : Int) < (s.size : Int) := by omega
    clear hM q1 q2 hsp hln hpos2
    unfold rev
    go_enter Tryd.func35, Tryd.ntmps35
    go_wp2_with fail
    refine (rdigits_any s 1 _ (by omega) hs).mono ?_; rintro e w1 ⟨rfl, rfl⟩
    rw [← HDD.out]
    rw [← HM.out]
    go_wp2_with fail
    go_ret2
    exact ⟨rfl, rfl⟩

set_option maxHeartbeats 1000000 in
set_option maxRecDepth 100000 in
theorem rexp_E_one (s : ByteArray) (w : World) (hs : s.size ≤ 100000) (h0 : 0 < s.size) (hE : (s[0]'h0).toNat = 69) (h1 : s.size = 1) :
    Calls Tryd.prog 35 #[.string s] w fun e w' => e = .returned (rev (if dg (s.data.toList.drop 1) = [] then none else if ud (s.data.toList.drop 1) = [] then some ((pw (dg (s.data.toList.drop 1)) : Int)) else none)) ∧ w = w' := by
  have n0 : ¬ s.toList = [] := by rw [Lib.toList_data]; intro e; rw [Lib.size_eq, e] at h0; exact absurd h0 (by decide)
  have n1 : s.toList.isEmpty = false := by simpa using n0
  have k0 : (((s[0]'h0).toNat : Int) != 101) = true := by rw [hE]; rfl
  have k0' : (((s[0]'h0).toNat : Int) != 69) = false := by rw [hE]; rfl
  have k1 : ¬ (1 : Int) < (s.size : Int) := by omega
  clear hE
  obtain ⟨D, hDD⟩ : ∃ D, D = s.data.toList.drop 1 := ⟨_, rfl⟩
  rw [← hDD]
  have hDl : D.length = s.size - 1 := by rw [hDD, List.length_drop, ← Lib.size_eq]
  have hDb : ∀ (k : Nat) (h1 : 1 ≤ k) (h2 : k < s.size) (h3 : k - 1 < D.length), D[k - 1]'h3 = s[k]'h2 := by subst hDD; exact fun k h1 h2 h3 => drop_byte s 1 k h1 h2 h3
  have HDB := Lib.hid hDb
  have HDD := Lib.hid hDD
  have HDL := Lib.hid hDl
  clear hDb hDD
  have hsp : dg D ++ ud D = D := List.takeWhile_append_dropWhile
  have hln : (dg D).length + (ud D).length = s.size - 1 := by have := congrArg List.length hsp; rw [List.length_append, hDl] at this; exact this
  clear hDl
  by_cases q1 : dg D = []
  · rw [if_pos q1]
    have QL := Lib.hid (show ((dg D).length : Int) = 0 by rw [q1]; rfl)
    clear q1 hsp hln
    unfold rev
    go_enter Tryd.func35, Tryd.ntmps35
    go_wp2_with fail
    refine (rdigits_any s 1 _ (by omega) hs).mono ?_; rintro e w1 ⟨rfl, rfl⟩
    rw [← HDD.out]
    rw [QL.out]
    go_wp2_with fail
    go_ret2
    exact ⟨rfl, rfl⟩
  rw [if_neg q1]
  have hpos : 0 < (dg D).length := List.length_pos_iff.2 q1
  omega

set_option maxHeartbeats 1000000 in
set_option maxRecDepth 100000 in
theorem rexp_E_plus (s : ByteArray) (w : World) (hs : s.size ≤ 100000) (h0 : 0 < s.size) (hE : (s[0]'h0).toNat = 69) (h1 : 1 < s.size) (hG : (s[1]'h1).toNat = 43) :
    Calls Tryd.prog 35 #[.string s] w fun e w' => e = .returned (rev (if dg (s.data.toList.drop 2) = [] then none else if ud (s.data.toList.drop 2) = [] then some ((pw (dg (s.data.toList.drop 2)) : Int)) else none)) ∧ w = w' := by
  have n0 : ¬ s.toList = [] := by rw [Lib.toList_data]; intro e; rw [Lib.size_eq, e] at h0; exact absurd h0 (by decide)
  have n1 : s.toList.isEmpty = false := by simpa using n0
  have k0 : (((s[0]'h0).toNat : Int) != 101) = true := by rw [hE]; rfl
  have k0' : (((s[0]'h0).toNat : Int) != 69) = false := by rw [hE]; rfl
  have k1 : (1 : Int) < (s.size : Int) := by omega
  have k2 : (((s[1]'h1).toNat : Int) == 43) = true := by rw [hG]; rfl
  have k3 : (((s[1]'h1).toNat : Int) == 45) = false := by rw [hG]; rfl
  clear hG
  clear hE
  obtain ⟨D, hDD⟩ : ∃ D, D = s.data.toList.drop 2 := ⟨_, rfl⟩
  rw [← hDD]
  have hDl : D.length = s.size - 2 := by rw [hDD, List.length_drop, ← Lib.size_eq]
  have hDb : ∀ (k : Nat) (h1 : 2 ≤ k) (h2 : k < s.size) (h3 : k - 2 < D.length), D[k - 2]'h3 = s[k]'h2 := by subst hDD; exact fun k h1 h2 h3 => drop_byte s 2 k h1 h2 h3
  have HDB := Lib.hid hDb
  have HDD := Lib.hid hDD
  have HDL := Lib.hid hDl
  clear hDb hDD
  have hsp : dg D ++ ud D = D := List.takeWhile_append_dropWhile
  have hln : (dg D).length + (ud D).length = s.size - 2 := by have := congrArg List.length hsp; rw [List.length_append, hDl] at this; exact this
  clear hDl
  by_cases q1 : dg D = []
  · rw [if_pos q1]
    have QL := Lib.hid (show ((dg D).length : Int) = 0 by rw [q1]; rfl)
    clear q1 hsp hln
    unfold rev
    go_enter Tryd.func35, Tryd.ntmps35
    go_wp2_with fail
    refine (rdigits_any s 2 _ (by omega) hs).mono ?_; rintro e w1 ⟨rfl, rfl⟩
    rw [← HDD.out]
    rw [QL.out]
    go_wp2_with fail
    go_ret2
    exact ⟨rfl, rfl⟩
  rw [if_neg q1]
  have hpos : 0 < (dg D).length := List.length_pos_iff.2 q1
  by_cases q2 : ud D = []
  · rw [if_pos q2]
    have hall : D.all isD = true := by rw [← hsp, q2, List.append_nil]; exact digs_dg _
    have hdg : dg D = D := by rw [q2, List.append_nil] at hsp; exact hsp
    have hN : (dg D).length = s.size - 2 := by rw [q2] at hln; simpa using hln
    have hpwl := pw_le D
    rw [hN] at hpos
    have HDG := Lib.hid hdg
    have HA := Lib.hid hall
    have HN := Lib.hid (show ((dg D).length : Int) = ((s.size - 2 : Nat) : Int) by rw [hN])
    clear q1 q2 hsp hln hall hdg hN
    rw [HDG.out]
    unfold rev
    go_enter Tryd.func35, Tryd.ntmps35
    go_wp2_with fail
    refine (rdigits_any s 2 _ (by omega) hs).mono ?_; rintro e w1 ⟨rfl, rfl⟩
    rw [← HDD.out]
    rw [HN.out]
    have e0 : (((s.size - 2 : Nat) : Int) == 0) = false := beq_false_of_ne (by omega)
    have e1 : ¬ (2 : Int) + ((s.size - 2 : Nat) : Int) < (s.size : Int) := by omega
    go_wp2_with fail
    go_loop [6, 7] (fun x q => ∃ k : Nat, 2 ≤ k ∧ k ≤ s.size ∧ q = .int .i64 k ∧ x = .int .i64 (pw (D.take (k - 2)))) (fun _ q => s.size - (intOf q).toNat)
    case atStart => exact ⟨2, by omega, by omega, rfl, rfl⟩
    case round =>
      obtain ⟨k, hk1, hk2, rfl, rfl⟩ := hrel
      have hpw := pw_le (D.take (k - 2))
      by_cases hlt : k < s.size
      · skip
        have hlt2 : k - 2 < D.length := by rw [HDL.out]; omega
        have hby : D[k - 2]'hlt2 = s[k]'hlt := HDB.out k hk1 hlt hlt2
        have hdig := (isD_iff _).1 (List.all_eq_true.1 HA.out _ (List.getElem_mem hlt2))
        rw [hby] at hdig
        have htk : D.take (k + 1 - 2) = D.take (k - 2) ++ [s[k]'hlt] := by rw [show k + 1 - 2 = k - 2 + 1 by omega, List.take_succ_eq_append_getElem hlt2, hby]
        have hst := pw_step (D.take (k - 2)) (s[k]'hlt) hdig.1
        rw [← htk] at hst
        have h1' := hdig.1
        have h2' := hdig.2
        have HST := Lib.hid hst
        clear hst htk hby hdig
        by_cases hcl : 10 * (pw (D.take (k - 2)) : Int) + ((s[k]'hlt).toNat : Int) - 48 > 1000000
        · go_wp2_with fail
          go_round
          case rel => exact ⟨k + 1, by omega, by omega, by go_num, by rw [HST.out.1 hcl]; rfl⟩
          case measure => simp [intOf]; omega
        · go_wp2_with fail
          go_round
          case rel => exact ⟨k + 1, by omega, by omega, by go_num, by rw [HST.out.2 hcl]⟩
          case measure => simp [intOf]; omega
      · have e3 : D.take (k - 2) = D := List.take_of_length_le (by rw [HDL.out]; omega)
        rw [e3] at hpw
        go_wp2_with fail
        go_ret2
        exact ⟨rfl, rfl⟩
  · rw [if_neg q2]
    have hpos2 : 0 < (ud D).length := List.length_pos_iff.2 q2
    obtain ⟨M, hM⟩ : ∃ M, M = (dg D).length := ⟨_, rfl⟩
    rw [← hM] at hpos hln
    have HM := Lib.hid hM
    have e0 : ((M : Int) == 0) = false := beq_false_of_ne (by omega)
    have e1 : (2 : Int) + (M : Int) < (s.size : Int) := by omega
    clear hM q1 q2 hsp hln hpos2
    unfold rev
    go_enter Tryd.func35, Tryd.ntmps35
    go_wp2_with fail
    refine (rdigits_any s 2 _ (by omega) hs).mono ?_; rintro e w1 ⟨rfl, rfl⟩
    rw [← HDD.out]
    rw [← HM.out]
    go_wp2_with fail
    go_ret2
    exact ⟨rfl, rfl⟩

set_option maxHeartbeats 1000000 in
set_option maxRecDepth 100000 in
theorem rexp_E_minus (s : ByteArray) (w : World) (hs : s.size ≤ 100000) (h0 : 0 < s.size) (hE : (s[0]'h0).toNat = 69) (h1 : 1 < s.size) (hG : (s[1]'h1).toNat = 45) :
    Calls Tryd.prog 35 #[.string s] w fun e w' => e = .returned (rev (if dg (s.data.toList.drop 2) = [] then none else if ud (s.data.toList.drop 2) = [] then some (-(pw (dg (s.data.toList.drop 2)) : Int)) else none)) ∧ w = w' := by
  have n0 : ¬ s.toList = [] := by rw [Lib.toList_data]; intro e; rw [Lib.size_eq, e] at h0; exact absurd h0 (by decide)
  have n1 : s.toList.isEmpty = false := by simpa using n0
  have k0 : (((s[0]'h0).toNat : Int) != 101) = true := by rw [hE]; rfl
  have k0' : (((s[0]'h0).toNat : Int) != 69) = false := by rw [hE]; rfl
  have k1 : (1 : Int) < (s.size : Int) := by omega
  have k2 : (((s[1]'h1).toNat : Int) == 43) = false := by rw [hG]; rfl
  have k3 : (((s[1]'h1).toNat : Int) == 45) = true := by rw [hG]; rfl
  clear hG
  clear hE
  obtain ⟨D, hDD⟩ : ∃ D, D = s.data.toList.drop 2 := ⟨_, rfl⟩
  rw [← hDD]
  have hDl : D.length = s.size - 2 := by rw [hDD, List.length_drop, ← Lib.size_eq]
  have hDb : ∀ (k : Nat) (h1 : 2 ≤ k) (h2 : k < s.size) (h3 : k - 2 < D.length), D[k - 2]'h3 = s[k]'h2 := by subst hDD; exact fun k h1 h2 h3 => drop_byte s 2 k h1 h2 h3
  have HDB := Lib.hid hDb
  have HDD := Lib.hid hDD
  have HDL := Lib.hid hDl
  clear hDb hDD
  have hsp : dg D ++ ud D = D := List.takeWhile_append_dropWhile
  have hln : (dg D).length + (ud D).length = s.size - 2 := by have := congrArg List.length hsp; rw [List.length_append, hDl] at this; exact this
  clear hDl
  by_cases q1 : dg D = []
  · rw [if_pos q1]
    have QL := Lib.hid (show ((dg D).length : Int) = 0 by rw [q1]; rfl)
    clear q1 hsp hln
    unfold rev
    go_enter Tryd.func35, Tryd.ntmps35
    go_wp2_with fail
    refine (rdigits_any s 2 _ (by omega) hs).mono ?_; rintro e w1 ⟨rfl, rfl⟩
    rw [← HDD.out]
    rw [QL.out]
    go_wp2_with fail
    go_ret2
    exact ⟨rfl, rfl⟩
  rw [if_neg q1]
  have hpos : 0 < (dg D).length := List.length_pos_iff.2 q1
  by_cases q2 : ud D = []
  · rw [if_pos q2]
    have hall : D.all isD = true := by rw [← hsp, q2, List.append_nil]; exact digs_dg _
    have hdg : dg D = D := by rw [q2, List.append_nil] at hsp; exact hsp
    have hN : (dg D).length = s.size - 2 := by rw [q2] at hln; simpa using hln
    have hpwl := pw_le D
    rw [hN] at hpos
    have HDG := Lib.hid hdg
    have HA := Lib.hid hall
    have HN := Lib.hid (show ((dg D).length : Int) = ((s.size - 2 : Nat) : Int) by rw [hN])
    clear q1 q2 hsp hln hall hdg hN
    rw [HDG.out]
    unfold rev
    go_enter Tryd.func35, Tryd.ntmps35
    go_wp2_with fail
    refine (rdigits_any s 2 _ (by omega) hs).mono ?_; rintro e w1 ⟨rfl, rfl⟩
    rw [← HDD.out]
    rw [HN.out]
    have e0 : (((s.size - 2 : Nat) : Int) == 0) = false := beq_false_of_ne (by omega)
    have e1 : ¬ (2 : Int) + ((s.size - 2 : Nat) : Int) < (s.size : Int) := by omega
    go_wp2_with fail
    go_loop [6, 7] (fun x q => ∃ k : Nat, 2 ≤ k ∧ k ≤ s.size ∧ q = .int .i64 k ∧ x = .int .i64 (pw (D.take (k - 2)))) (fun _ q => s.size - (intOf q).toNat)
    case atStart => exact ⟨2, by omega, by omega, rfl, rfl⟩
    case round =>
      obtain ⟨k, hk1, hk2, rfl, rfl⟩ := hrel
      have hpw := pw_le (D.take (k - 2))
      by_cases hlt : k < s.size
      · skip
        have hlt2 : k - 2 < D.length := by rw [HDL.out]; omega
        have hby : D[k - 2]'hlt2 = s[k]'hlt := HDB.out k hk1 hlt hlt2
        have hdig := (isD_iff _).1 (List.all_eq_true.1 HA.out _ (List.getElem_mem hlt2))
        rw [hby] at hdig
        have htk : D.take (k + 1 - 2) = D.take (k - 2) ++ [s[k]'hlt] := by rw [show k + 1 - 2 = k - 2 + 1 by omega, List.take_succ_eq_append_getElem hlt2, hby]
        have hst := pw_step (D.take (k - 2)) (s[k]'hlt) hdig.1
        rw [← htk] at hst
        have h1' := hdig.1
        have h2' := hdig.2
        have HST := Lib.hid hst
        clear hst htk hby hdig
        by_cases hcl : 10 * (pw (D.take (k - 2)) : Int) + ((s[k]'hlt).toNat : Int) - 48 > 1000000
        · go_wp2_with fail
          go_round
          case rel => exact ⟨k + 1, by omega, by omega, by go_num, by rw [HST.out.1 hcl]; rfl⟩
          case measure => simp [intOf]; omega
        · go_wp2_with fail
          go_round
          case rel => exact ⟨k + 1, by omega, by omega, by go_num, by rw [HST.out.2 hcl]⟩
          case measure => simp [intOf]; omega
      · have e3 : D.take (k - 2) = D := List.take_of_length_le (by rw [HDL.out]; omega)
        rw [e3] at hpw
        go_wp2_with fail
        go_ret2
        exact ⟨rfl, rfl⟩
  · rw [if_neg q2]
    have hpos2 : 0 < (ud D).length := List.length_pos_iff.2 q2
    obtain ⟨M, hM⟩ : ∃ M, M = (dg D).length := ⟨_, rfl⟩
    rw [← hM] at hpos hln
    have HM := Lib.hid hM
    have e0 : ((M : Int) == 0) = false := beq_false_of_ne (by omega)
    have e1 : (2 : Int) + (M : Int) < (s.size : Int) := by omega
    clear hM q1 q2 hsp hln hpos2
    unfold rev
    go_enter Tryd.func35, Tryd.ntmps35
    go_wp2_with fail
    refine (rdigits_any s 2 _ (by omega) hs).mono ?_; rintro e w1 ⟨rfl, rfl⟩
    rw [← HDD.out]
    rw [← HM.out]
    go_wp2_with fail
    go_ret2
    exact ⟨rfl, rfl⟩

set_option maxHeartbeats 1000000 in
set_option maxRecDepth 100000 in
theorem rexp_E_other (s : ByteArray) (w : World) (hs : s.size ≤ 100000) (h0 : 0 < s.size) (hE : (s[0]'h0).toNat = 69) (h1 : 1 < s.size) (hG : ¬ (s[1]'h1).toNat = 43) (hH : ¬ (s[1]'h1).toNat = 45) :
    Calls Tryd.prog 35 #[.string s] w fun e w' => e = .returned (rev (if dg (s.data.toList.drop 1) = [] then none else if ud (s.data.toList.drop 1) = [] then some ((pw (dg (s.data.toList.drop 1)) : Int)) else none)) ∧ w = w' := by
  have n0 : ¬ s.toList = [] := by rw [Lib.toList_data]; intro e; rw [Lib.size_eq, e] at h0; exact absurd h0 (by decide)
  have n1 : s.toList.isEmpty = false := by simpa using n0
  have k0 : (((s[0]'h0).toNat : Int) != 101) = true := by rw [hE]; rfl
  have k0' : (((s[0]'h0).toNat : Int) != 69) = false := by rw [hE]; rfl
  have k1 : (1 : Int) < (s.size : Int) := by omega
  have k2 : (((s[1]'h1).toNat : Int) == 43) = false := beq_false_of_ne (by omega)
  have k3 : (((s[1]'h1).toNat : Int) == 45) = false := beq_false_of_ne (by omega)
  clear hH
  clear hG
  clear hE
  obtain ⟨D, hDD⟩ : ∃ D, D = s.data.toList.drop 1 := ⟨_, rfl⟩
  rw [← hDD]
  have hDl : D.length = s.size - 1 := by rw [hDD, List.length_drop, ← Lib.size_eq]
  have hDb : ∀ (k : Nat) (h1 : 1 ≤ k) (h2 : k < s.size) (h3 : k - 1 < D.length), D[k - 1]'h3 = s[k]'h2 := by subst hDD; exact fun k h1 h2 h3 => drop_byte s 1 k h1 h2 h3
  have HDB := Lib.hid hDb
  have HDD := Lib.hid hDD
  have HDL := Lib.hid hDl
  clear hDb hDD
  have hsp : dg D ++ ud D = D := List.takeWhile_append_dropWhile
  have hln : (dg D).length + (ud D).length = s.size - 1 := by have := congrArg List.length hsp; rw [List.length_append, hDl] at this; exact this
  clear hDl
  by_cases q1 : dg D = []
  · rw [if_pos q1]
    have QL := Lib.hid (show ((dg D).length : Int) = 0 by rw [q1]; rfl)
    clear q1 hsp hln
    unfold rev
    go_enter Tryd.func35, Tryd.ntmps35
    go_wp2_with fail
    refine (rdigits_any s 1 _ (by omega) hs).mono ?_; rintro e w1 ⟨rfl, rfl⟩
    rw [← HDD.out]
    rw [QL.out]
    go_wp2_with fail
    go_ret2
    exact ⟨rfl, rfl⟩
  rw [if_neg q1]
  have hpos : 0 < (dg D).length := List.length_pos_iff.2 q1
  by_cases q2 : ud D = []
  · rw [if_pos q2]
    have hall : D.all isD = true := by rw [← hsp, q2, List.append_nil]; exact digs_dg _
    have hdg : dg D = D := by rw [q2, List.append_nil] at hsp; exact hsp
    have hN : (dg D).length = s.size - 1 := by rw [q2] at hln; simpa using hln
    have hpwl := pw_le D
    rw [hN] at hpos
    have HDG := Lib.hid hdg
    have HA := Lib.hid hall
    have HN := Lib.hid (show ((dg D).length : Int) = ((s.size - 1 : Nat) : Int) by rw [hN])
    clear q1 q2 hsp hln hall hdg hN
    rw [HDG.out]
    unfold rev
    go_enter Tryd.func35, Tryd.ntmps35
    go_wp2_with fail
    refine (rdigits_any s 1 _ (by omega) hs).mono ?_; rintro e w1 ⟨rfl, rfl⟩
    rw [← HDD.out]
    rw [HN.out]
    have e0 : (((s.size - 1 : Nat) : Int) == 0) = false := beq_false_of_ne (by omega)
    have e1 : ¬ (1 : Int) + ((s.size - 1 : Nat) : Int) < (s.size : Int) := by omega
    go_wp2_with fail
    go_loop [6, 7] (fun x q => ∃ k : Nat, 1 ≤ k ∧ k ≤ s.size ∧ q = .int .i64 k ∧ x = .int .i64 (pw (D.take (k - 1)))) (fun _ q => s.size - (intOf q).toNat)
    case atStart => exact ⟨1, by omega, by omega, rfl, rfl⟩
    case round =>
      obtain ⟨k, hk1, hk2, rfl, rfl⟩ := hrel
      have hpw := pw_le (D.take (k - 1))
      by_cases hlt : k < s.size
      · skip
        have hlt2 : k - 1 < D.length := by rw [HDL.out]; omega
        have hby : D[k - 1]'hlt2 = s[k]'hlt := HDB.out k hk1 hlt hlt2
        have hdig := (isD_iff _).1 (List.all_eq_true.1 HA.out _ (List.getElem_mem hlt2))
        rw [hby] at hdig
        have htk : D.take (k + 1 - 1) = D.take (k - 1) ++ [s[k]'hlt] := by rw [show k + 1 - 1 = k - 1 + 1 by omega, List.take_succ_eq_append_getElem hlt2, hby]
        have hst := pw_step (D.take (k - 1)) (s[k]'hlt) hdig.1
        rw [← htk] at hst
        have h1' := hdig.1
        have h2' := hdig.2
        have HST := Lib.hid hst
        clear hst htk hby hdig
        by_cases hcl : 10 * (pw (D.take (k - 1)) : Int) + ((s[k]'hlt).toNat : Int) - 48 > 1000000
        · go_wp2_with fail
          go_round
          case rel => exact ⟨k + 1, by omega, by omega, by go_num, by rw [HST.out.1 hcl]; rfl⟩
          case measure => simp [intOf]; omega
        · go_wp2_with fail
          go_round
          case rel => exact ⟨k + 1, by omega, by omega, by go_num, by rw [HST.out.2 hcl]⟩
          case measure => simp [intOf]; omega
      · have e3 : D.take (k - 1) = D := List.take_of_length_le (by rw [HDL.out]; omega)
        rw [e3] at hpw
        go_wp2_with fail
        go_ret2
        exact ⟨rfl, rfl⟩
  · rw [if_neg q2]
    have hpos2 : 0 < (ud D).length := List.length_pos_iff.2 q2
    obtain ⟨M, hM⟩ : ∃ M, M = (dg D).length := ⟨_, rfl⟩
    rw [← hM] at hpos hln
    have HM := Lib.hid hM
    have e0 : ((M : Int) == 0) = false := beq_false_of_ne (by omega)
    have e1 : (1 : Int) + (M : Int) < (s.size : Int) := by omega
    clear hM q1 q2 hsp hln hpos2
    unfold rev
    go_enter Tryd.func35, Tryd.ntmps35
    go_wp2_with fail
    refine (rdigits_any s 1 _ (by omega) hs).mono ?_; rintro e w1 ⟨rfl, rfl⟩
    rw [← HDD.out]
    rw [← HM.out]
    go_wp2_with fail
    go_ret2
    exact ⟨rfl, rfl⟩

set_option maxHeartbeats 1000000 in
set_option maxRecDepth 100000 in
theorem rexp_any (s : ByteArray) (w : World) (hs : s.size ≤ 100000) :
    Calls Tryd.prog 35 #[.string s] w fun e w' => e = .returned (rev (expoD s.data.toList)) ∧ w = w' := by
  cases hl : s.data.toList with
  | nil =>
    have n0 : s.toList = [] := by rw [Lib.toList_data]; exact hl
    rw [expoD_nil]
    clear hl
    unfold rev
    go_enter Tryd.func35, Tryd.ntmps35
    go_wp2_with fail
    go_ret2
    exact ⟨rfl, rfl⟩
  | cons c t =>
    have h0 : 0 < s.size := by rw [Lib.size_eq, hl]; simp
    have hc : s[0]'h0 = c := by
      have : s[0]'h0 = s.data.toList[0]'(by rw [hl]; simp) := rfl
      rw [this]; simp [hl]
    have hd1 : s.data.toList.drop 1 = t := by rw [hl]; rfl
    by_cases hE : c = 101 ∨ c = 69
    · have hX : expoD (c :: t) = if dg (dr [43, 45] 1 t) = [] then none else if ud (dr [43, 45] 1 t) = [] then some (sgnd (tk [43, 45] 1 t) (pw (dg (dr [43, 45] 1 t)))) else none := by
        unfold expoD
        rw [tk1_cons, dr1_cons, eE hE]
        simp
      rw [hX]
      cases ht : t with
      | nil =>
        have h1 : s.size = 1 := by rw [Lib.size_eq, hl, ht]; rfl
        rw [tk1_nil, dr1_nil]
        have e : s.data.toList.drop 1 = [] := by rw [hd1, ht]
        rcases hE with rfl | rfl
        · have := rexp_e_one s w hs h0 (by rw [hc]; rfl) h1
          rw [e] at this; exact this
        · have := rexp_E_one s w hs h0 (by rw [hc]; rfl) h1
          rw [e] at this; exact this
      | cons b u =>
        have h1 : 1 < s.size := by rw [Lib.size_eq, hl, ht]; simp
        have hb : s[1]'h1 = b := by
          have : s[1]'h1 = s.data.toList[1]'(by rw [hl, ht]; simp) := rfl
          rw [this]; simp [hl, ht]
        have hd2 : s.data.toList.drop 2 = u := by rw [hl, ht]; rfl
        by_cases hG : b = 43
        · subst hG
          have e1 : tk [43, 45] 1 (43 :: u) = [43] := by rw [tk1_cons]; rfl
          have e2 : dr [43, 45] 1 (43 :: u) = u := by rw [dr1_cons]; rfl
          rw [e1, e2, show sgnd [43] (pw (dg u)) = (pw (dg u) : Int) from rfl]
          rcases hE with rfl | rfl
          · have := rexp_e_plus s w hs h0 (by rw [hc]; rfl) h1 (by rw [hb]; rfl)
            rw [hd2] at this; exact this
          · have := rexp_E_plus s w hs h0 (by rw [hc]; rfl) h1 (by rw [hb]; rfl)
            rw [hd2] at this; exact this
        · by_cases hH : b = 45
          · subst hH
            have e1 : tk [43, 45] 1 (45 :: u) = [45] := by rw [tk1_cons]; rfl
            have e2 : dr [43, 45] 1 (45 :: u) = u := by rw [dr1_cons]; rfl
            rw [e1, e2, show sgnd [45] (pw (dg u)) = -(pw (dg u) : Int) from rfl]
            rcases hE with rfl | rfl
            · have := rexp_e_minus s w hs h0 (by rw [hc]; rfl) h1 (by rw [hb]; rfl)
              rw [hd2] at this; exact this
            · have := rexp_E_minus s w hs h0 (by rw [hc]; rfl) h1 (by rw [hb]; rfl)
              rw [hd2] at this; exact this
          · have hs1 : ([43, 45] : List UInt8).contains b = false := by simp [hG, hH]
            have e1 : tk [43, 45] 1 (b :: u) = [] := by rw [tk1_cons, hs1]; rfl
            have e2 : dr [43, 45] 1 (b :: u) = b :: u := by rw [dr1_cons, hs1]; rfl
            have g1 : ¬ b.toNat = 43 := fun e => hG (UInt8.toNat_inj.1 e)
            have g2 : ¬ b.toNat = 45 := fun e => hH (UInt8.toNat_inj.1 e)
            rw [e1, e2, show sgnd [] (pw (dg (b :: u))) = (pw (dg (b :: u)) : Int) from rfl]
            rw [ht] at hd1
            rcases hE with rfl | rfl
            · have := rexp_e_other s w hs h0 (by rw [hc]; rfl) h1 (by rw [hb]; exact g1) (by rw [hb]; exact g2)
              rw [hd1] at this; exact this
            · have := rexp_E_other s w hs h0 (by rw [hc]; rfl) h1 (by rw [hb]; exact g1) (by rw [hb]; exact g2)
              rw [hd1] at this; exact this
    · have hX : expoD (c :: t) = none := by
        have hs1 : ([101, 69] : List UInt8).contains c = false := by
          have a1 : ¬ c = 101 := fun e => hE (.inl e)
          have a2 : ¬ c = 69 := fun e => hE (.inr e)
          simp [a1, a2]
        unfold expoD
        rw [tk1_cons, dr1_cons, hs1]
        simp
      rw [hX]
      have n0 : ¬ s.toList = [] := by rw [Lib.toList_data, hl]; simp
      have n1 : s.toList.isEmpty = false := by simpa using n0
      have k0 : (((s[0]'h0).toNat : Int) != 101) = true := by
        have : ¬ c.toNat = 101 := fun e => hE (.inl (UInt8.toNat_inj.1 e))
        rw [hc]; simp; omega
      have k1 : (((s[0]'h0).toNat : Int) != 69) = true := by
        have : ¬ c.toNat = 69 := fun e => hE (.inr (UInt8.toNat_inj.1 e))
        rw [hc]; simp; omega
      clear hl hc hd1 hX
      unfold rev
      go_enter Tryd.func35, Tryd.ntmps35
      go_wp2_with fail
      go_ret2
      exact ⟨rfl, rfl⟩
end Go.Proofs.YtdbcdofekfjilaaDoor
