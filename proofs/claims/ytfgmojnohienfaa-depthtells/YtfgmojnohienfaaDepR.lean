/- The reference of stage 15. -/
import Derived.Test.YtfgmojnohienfaaDepC
namespace Go.Proofs.Ytfgmojnohienfaa
open Go.RowKit
set_option linter.unusedVariables false
set_option maxRecDepth 100000

set_option maxHeartbeats 1000000 in
theorem opens_b {t : Int} {b : Bool} (h : opD t = b) (w : World) : Calls Try.prog 16 #[.int .i64 t] w fun e w' => e = .returned (.bool b) ∧ w = w' := by
  subst h
  by_cases h1 : t = 4
  · subst h1
    go_enter Try.func16, Try.ntmps16
    go_wp2
    go_ret
    exact ⟨rfl, rfl⟩
  by_cases h2 : t = 10
  · subst h2
    go_enter Try.func16, Try.ntmps16
    go_wp2
    go_ret
    exact ⟨rfl, rfl⟩
  have e1 : (t == 4) = false := by simpa using h1
  have e2 : (t == 10) = false := by simpa using h2
  by_cases h3 : t = 12
  · subst h3
    go_enter Try.func16, Try.ntmps16
    go_wp2
    go_ret
    exact ⟨rfl, rfl⟩
  have e3 : (t == 12) = false := by simpa using h3
  have e4 : opD t = false := by unfold opD; rw [e1, e2, e3]; rfl
  rw [e4]
  clear h1 h2 h3
  go_enter Try.func16, Try.ntmps16
  go_wp2
  go_ret
  exact ⟨by simp, rfl⟩
set_option maxHeartbeats 1000000 in
theorem closes_b {t : Int} {b : Bool} (h : clD t = b) (w : World) : Calls Try.prog 17 #[.int .i64 t] w fun e w' => e = .returned (.bool b) ∧ w = w' := by
  subst h
  by_cases h1 : t = 5
  · subst h1
    go_enter Try.func17, Try.ntmps17
    go_wp2
    go_ret
    exact ⟨rfl, rfl⟩
  by_cases h2 : t = 11
  · subst h2
    go_enter Try.func17, Try.ntmps17
    go_wp2
    go_ret
    exact ⟨rfl, rfl⟩
  have e1 : (t == 5) = false := by simpa using h1
  have e2 : (t == 11) = false := by simpa using h2
  by_cases h3 : t = 14
  · subst h3
    go_enter Try.func17, Try.ntmps17
    go_wp2
    go_ret
    exact ⟨rfl, rfl⟩
  have e3 : (t == 14) = false := by simpa using h3
  have e4 : clD t = false := by unfold clD; rw [e1, e2, e3]; rfl
  rw [e4]
  clear h1 h2 h3
  go_enter Try.func17, Try.ntmps17
  go_wp2
  go_ret
  exact ⟨by simp, rfl⟩
set_option maxHeartbeats 2000000 in
theorem rends_any {w : World} {A : Option Addr} {n c : Nat} {ts : List Int} (hl : ts.length = n) (hN : n ≤ 1000000) (hA : Ri w A ts) :
    Calls Try.prog 14 #[.slice A n c] w fun e w' => e = .returned (.int .i64 (endD ts)) ∧ w = w' := by
  have HL := Lib.hid hl
  have HA := Lib.hid hA
  clear hl hA
  go_enter Try.func14, Try.ntmps14
  go_wp2
  go_loop [3, 4] (fun e i => ∃ k : Nat, k ≤ n ∧ i = .int .i64 k ∧ e = .int .i64 (endD (ts.take k))) (fun _ i => n - (intOf i).toNat)
  case atStart => exact ⟨0, Nat.zero_le _, rfl, rfl⟩
  case round =>
    obtain ⟨k, hk, rfl, rfl⟩ := hrel
    by_cases hlt : k < n
    · obtain ⟨t, ht⟩ : ∃ t, ts[k]? = some t := ⟨_, List.getElem?_eq_getElem (by rw [HL.out]; exact hlt)⟩
      obtain ⟨b, o, rfl, c0⟩ := HA.out k t ht
      have e1 := endD_take ht
      have e2 := endD_takes ts k
      clear ht
      generalize endD (ts.take k) = E at e1 e2 ⊢
      cases ho : opD t
      · cases hc : clD t
        · have HX := Lib.hid (show E = endD (ts.take (k + 1)) by rw [e1, adD_none ho hc]; omega)
          clear e1
          go_wp2_with fail
          ((with_reducible refine (opens_b ho _).mono ?_))
          rintro e w' ⟨rfl, rfl⟩
          go_wp2_with fail
          ((with_reducible refine (closes_b hc _).mono ?_))
          rintro e w' ⟨rfl, rfl⟩
          go_wp2_with fail
          go_round
          case rel => exact ⟨k + 1, by omega, by go_num, by rw [← HX.out]⟩
          case measure => simp [intOf]; omega
        · have HX := Lib.hid (show E - 1 = endD (ts.take (k + 1)) by rw [e1, adD_cl hc]; omega)
          clear e1
          go_wp2_with fail
          ((with_reducible refine (opens_b ho _).mono ?_))
          rintro e w' ⟨rfl, rfl⟩
          go_wp2_with fail
          ((with_reducible refine (closes_b hc _).mono ?_))
          rintro e w' ⟨rfl, rfl⟩
          go_wp2_with fail
          go_round
          case rel => exact ⟨k + 1, by omega, by go_num, by rw [← HX.out]⟩
          case measure => simp [intOf]; omega
      · have hc := op_cl ho
        have HX := Lib.hid (show E + 1 = endD (ts.take (k + 1)) by rw [e1, adD_op ho])
        clear e1
        go_wp2_with fail
        ((with_reducible refine (opens_b ho _).mono ?_))
        rintro e w' ⟨rfl, rfl⟩
        go_wp2_with fail
        ((with_reducible refine (closes_b hc _).mono ?_))
        rintro e w' ⟨rfl, rfl⟩
        go_wp2_with fail
        go_round
        case rel => exact ⟨k + 1, by omega, by go_num, by rw [← HX.out]⟩
        case measure => simp [intOf]; omega
    · obtain rfl : k = n := by omega
      have HX := Lib.hid (show endD (ts.take k) = endD ts by rw [List.take_of_length_le (by rw [HL.out]; exact Nat.le_refl _)])
      go_wp2
      go_ret
      exact ⟨by rw [HX.out]; rfl, rfl⟩
/-- The depth of all beginnings ahead of the k-th. -/
theorem depD_pred {ts : List Int} {k : Nat} (hk : k ≤ ts.length) : depD (ts.take k) = max (depD (ts.take (k - 1))) (endD (ts.take k)) := by
  cases k with
  | zero => rfl
  | succ j =>
    obtain ⟨t, ht⟩ : ∃ t, ts[j]? = some t := ⟨_, List.getElem?_eq_getElem (by omega)⟩
    rw [depD_take ht]; rfl
set_option maxHeartbeats 2000000 in
theorem rdepth_any {w : World} {A : Option Addr} {n c : Nat} {ts : List Int} (hl : ts.length = n) (hN : n ≤ 1000000) (hA : Ri w A ts) (hc : n ≤ c) (hno : A = none → n = 0 ∧ c = 0) :
    Calls Try.prog 10 #[.slice A n c] w fun e w' => e = .returned (.int .i64 (depD ts)) ∧ w = w' := by
  cases A with
  | none =>
    obtain ⟨rfl, rfl⟩ := hno rfl
    obtain rfl : ts = [] := List.length_eq_zero_iff.1 hl
    have r := fun w => rends_any (w := w) (A := none) (n := 0) (c := 0) (ts := []) rfl (by omega) (Ri.nil _ _)
    rw [show endD [] = 0 from rfl] at r
    clear hl hA hno hc hN
    go_enter Try.func10, Try.ntmps10
    go_wp2
    go_loop [3, 4] (fun m i => ∃ k : Nat, k ≤ 1 ∧ i = .int .i64 k ∧ m = .int .i64 0) (fun _ i => 1 - (intOf i).toNat)
    case atStart => exact ⟨0, Nat.zero_le _, rfl, rfl⟩
    case round =>
      obtain ⟨k, hk, rfl, rfl⟩ := hrel
      by_cases hlt : k < 1
      · obtain rfl : k = 0 := by omega
        go_wp2_with fail
        ((with_reducible refine (r _).mono ?_))
        rintro e w' ⟨rfl, rfl⟩
        go_wp2_with fail
        go_round
        case rel => exact ⟨1, by omega, by go_num, rfl⟩
        case measure => simp [intOf]
      · obtain rfl : k = 1 := by omega
        go_wp2_with fail
        go_ret
        exact ⟨rfl, rfl⟩
  | some ad =>
    have HL := Lib.hid hl
    have r := fun (w' : World) (k : Nat) (hk : k ≤ n) (h : Ri w' (some ad) ts) => rends_any (w := w') (A := some ad) (n := k) (c := c) (ts := ts.take k) (by rw [List.length_take]; omega) (by omega) (ri_tk h k)
    have HA := Lib.hid hA
    clear hl hA hno
    go_enter Try.func10, Try.ntmps10
    go_wp2
    go_loop [3, 4] (fun m i => ∃ k : Nat, k ≤ n + 1 ∧ i = .int .i64 k ∧ m = .int .i64 (depD (ts.take (k - 1)))) (fun _ i => n + 1 - (intOf i).toNat)
    case atStart => exact ⟨0, Nat.zero_le _, rfl, rfl⟩
    case round =>
      obtain ⟨k, hk, rfl, rfl⟩ := hrel
      by_cases hlt : k < n + 1
      · have hkn : k ≤ n := by omega
        have hkc : k ≤ c := by omega
        have rk := r w k hkn HA.out
        have e1 := depD_pred (ts := ts) (k := k) (by rw [HL.out]; omega)
        generalize endD (ts.take k) = E at e1 rk
        generalize depD (ts.take (k - 1)) = M at e1
        by_cases h1 : M < E
        · have HX := Lib.hid (show E = depD (ts.take (k + 1 - 1)) by rw [Nat.add_sub_cancel]; omega)
          clear e1
          go_wp2_with fail
          ((with_reducible refine rk.mono ?_))
          rintro e w' ⟨rfl, rfl⟩
          go_wp2_with fail
          go_round
          case rel => exact ⟨k + 1, by omega, by go_num, by rw [← HX.out]⟩
          case measure => simp [intOf]; omega
        · have HX := Lib.hid (show M = depD (ts.take (k + 1 - 1)) by rw [Nat.add_sub_cancel]; omega)
          clear e1
          go_wp2_with fail
          ((with_reducible refine rk.mono ?_))
          rintro e w' ⟨rfl, rfl⟩
          go_wp2_with fail
          go_round
          case rel => exact ⟨k + 1, by omega, by go_num, by rw [← HX.out]⟩
          case measure => simp [intOf]; omega
      · obtain rfl : k = n + 1 := by omega
        have HX := Lib.hid (show depD (ts.take n) = depD ts by rw [List.take_of_length_le (by rw [HL.out]; exact Nat.le_refl _)])
        go_wp2_with fail
        go_ret
        exact ⟨by rw [HX.out]; rfl, rfl⟩
set_option maxHeartbeats 2000000 in
theorem rat_any {w : World} {A : Option Addr} {n c : Nat} {d : Int} {ts : List Int} (hl : ts.length = n) (hN : n ≤ 1000000) (hA : Ri w A ts) (hc : n ≤ c) :
    Calls Try.prog 12 #[.slice A n c, .int .i64 d] w fun e w' => e = .returned (.int .i64 (atD d ts)) ∧ w = w' := by
  have HL := Lib.hid hl
  have r := fun (w' : World) (k : Nat) (hk : k ≤ n) (h : Ri w' A ts) => rends_any (w := w') (A := A) (n := k) (c := c) (ts := ts.take k) (by rw [List.length_take]; omega) (by omega) (ri_tk h k)
  have HA := Lib.hid hA
  clear hl hA
  go_enter Try.func12, Try.ntmps12
  go_wp2
  go_loop [5] (fun i => ∃ k : Nat, k ≤ n ∧ i = .int .i64 k ∧ atD d ts = atG d (ts.drop k) (endD (ts.take k)) k) (fun i => n - (intOf i).toNat)
  case atStart => exact ⟨0, Nat.zero_le _, rfl, rfl⟩
  case round =>
    obtain ⟨k, hk, rfl, hat⟩ := hrel
    by_cases hlt : k < n
    · obtain ⟨t, ht⟩ : ∃ t, ts[k]? = some t := ⟨_, List.getElem?_eq_getElem (by rw [HL.out]; exact hlt)⟩
      obtain ⟨b, o, rfl, c0⟩ := HA.out k t ht
      cases ho : opD t
      · have HX := Lib.hid (hat.trans (atG_miss ht (by rw [ho]; simp)))
        clear hat ht
        go_wp2_with fail
        ((with_reducible refine (opens_b ho _).mono ?_))
        rintro e w' ⟨rfl, rfl⟩
        go_wp2_with fail
        go_round
        case rel => exact ⟨k + 1, by omega, by go_num, HX.out⟩
        case measure => simp [intOf]; omega
      · have hkn : k + 1 ≤ n := by omega
        have hkc : k + 1 ≤ c := by omega
        have rk := r w (k + 1) hkn HA.out
        have e1 : endD (ts.take (k + 1)) = endD (ts.take k) + 1 := by rw [endD_take ht, adD_op ho]
        obtain ⟨E, hE⟩ : ∃ E, endD (ts.take (k + 1)) = E := ⟨_, rfl⟩
        rw [hE] at rk
        by_cases h1 : d < E
        · have HX := Lib.hid (hat.trans (atG_hit ht ho (by omega)))
          have e2 : decide (d < E) = true := decide_eq_true h1
          clear hat ht e1 hE
          go_wp2_with fail
          ((with_reducible refine (opens_b ho _).mono ?_))
          rintro e w' ⟨rfl, rfl⟩
          go_wp2_with fail
          ((with_reducible refine rk.mono ?_))
          rintro e w' ⟨rfl, rfl⟩
          go_wp2_with fail
          go_ret
          exact ⟨by rw [HX.out]; rfl, rfl⟩
        · have HX := Lib.hid (hat.trans (atG_miss ht (by intro h; have := h.2; omega)))
          have e2 : decide (d < E) = false := decide_eq_false h1
          clear hat ht e1 hE
          go_wp2_with fail
          ((with_reducible refine (opens_b ho _).mono ?_))
          rintro e w' ⟨rfl, rfl⟩
          go_wp2_with fail
          ((with_reducible refine rk.mono ?_))
          rintro e w' ⟨rfl, rfl⟩
          go_wp2_with fail
          go_round
          case rel => exact ⟨k + 1, by omega, by go_num, HX.out⟩
          case measure => simp [intOf]; omega
    · obtain rfl : k = n := by omega
      have HX := Lib.hid (hat.trans (atG_end (by rw [HL.out]; exact Nat.le_refl _)))
      clear hat
      go_wp2_with fail
      go_ret
      exact ⟨by rw [HX.out]; rfl, rfl⟩
end Go.Proofs.Ytfgmojnohienfaa
