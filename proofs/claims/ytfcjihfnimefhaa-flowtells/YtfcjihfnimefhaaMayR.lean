/- The document's own answer for layer 16 (copperplateref16): May (cut out of MarS). -/
import Derived.Test.YtfcjihfnimefhaaBitR
import Derived.WalkKit
import Derived.RowKit
import Derived.Lib.Hide
import Derived.Deep.LoopGhost
namespace Go.Proofs.Ytfcjihfnimefhaa
open Go.RowKit Go.Lib
set_option linter.unusedVariables false

theorem size_ne {v : ByteArray} (h : v.size ≠ 0) : (v.toList == []) = false ∧ (v.toList != []) = true := by
  have : (v.toList == []) = false := by
    obtain ⟨⟨l⟩⟩ := v
    cases l with
    | nil => exact absurd rfl h
    | cons a l => rw [Lib.toList_data]; rfl
  exact ⟨this, by rw [bne, this]; rfl⟩
theorem size_0 {v : ByteArray} (h : v.size = 0) : v = ⟨#[]⟩ := by
  obtain ⟨⟨l⟩⟩ := v
  cases l with
  | nil => rfl
  | cons a l => cases h
/-- How a round of May goes on: the loop's relation. -/
def MyR (n : Nat) (bs : List Bq) (r : Bool) (v3 v4 v5 : Value) : Prop := ∃ (k : Nat) (o q : Int), v5 = .int .i64 k ∧ v3 = .int .i64 o ∧ v4 = .int .i64 q ∧ k ≤ n ∧ 0 ≤ o ∧ o ≤ k ∧ 0 ≤ q ∧ q ≤ k ∧ mayF o q (bs.drop k) = r
set_option maxHeartbeats 4000000 in
theorem rmay_any {w : World} {A : Option Addr} {n c : Nat} {bs : List Bq} {r : Bool} (hr : mayL bs = r) (hA : Br w A bs) (hn : bs.length = n) (hz : n ≤ 100000) :
    Calls Try.prog 37 #[.slice A n c] w fun e w' => e = .returned (.bool r) ∧ w = w' := by
  by_cases h4 : 4000 < n
  · have e : r = false := by rw [← hr, mayL, decide_eq_false (by omega)]; rfl
    subst e
    have q1 : (4000 : Int) < (n : Int) := by omega
    clear hr hA hn h4
    go_enter Try.func37, Try.ntmps37
    go_wp2
    go_ret
    exact ⟨rfl, rfl⟩
  have q1 : ¬ (4000 : Int) < (n : Int) := by omega
  rw [mayL_is (by omega)] at hr
  have HA := Lib.hid hA
  have HN := Lib.hid hn
  have HR := Lib.hid hr
  clear hA hn hr
  go_enter Try.func37, Try.ntmps37
  go_wp2
  go_loop [3, 4, 5] (fun v3 v4 v5 => MyR n bs r v3 v4 v5) (fun _ _ i => n - (intOf i).toNat)
  case atStart => exact ⟨0, 0, 0, rfl, rfl, rfl, Nat.zero_le _, Int.le_refl _, Int.le_refl _, Int.le_refl _, Int.le_refl _, by rw [List.drop_zero]; exact HR.out⟩
  case round =>
    obtain ⟨k, o, q, rfl, rfl, rfl, hk, ho, ho1, hq, hq1, hr⟩ := hrel
    by_cases hlt : k < n
    · obtain ⟨t, ht⟩ : ∃ t, bs[k]? = some t := ⟨_, List.getElem?_eq_getElem (by rw [HN.out]; exact hlt)⟩
      obtain ⟨b, o', rfl, c0, c1⟩ := HA.out k t ht
      have lb := World.block_lt_of_cell? _ _ c0
      rw [drop_consM ht] at hr
      have HR2 := Lib.hid hr
      obtain ⟨tm, tv⟩ := t
      dsimp only at c0 c1
      have hok : okB ⟨tm, tv⟩ = (decide (0 ≤ tm) && decide (tm < 10) && (decide (tv.size = 0) || decide (tm = 0))) := rfl
      clear ht hr
      by_cases g0 : tm < 0
      · have e : r = false := by rw [← HR2.out]; exact mayF_bad _ _ _ (by rw [hok, decide_eq_false (by omega)]; rfl)
        subst e
        clear hok HR2
        go_wp2
        go_ret
        exact ⟨rfl, rfl⟩
      by_cases g9 : 9 < tm
      · have e : r = false := by rw [← HR2.out]; exact mayF_bad _ _ _ (by rw [hok, decide_eq_false (show ¬ tm < 10 by omega)]; simp)
        subst e
        clear hok HR2
        go_wp2
        go_ret
        exact ⟨rfl, rfl⟩
      have hok2 : okB ⟨tm, tv⟩ = (decide (tv.size = 0) || decide (tm = 0)) := by rw [hok, decide_eq_true (show 0 ≤ tm by omega), decide_eq_true (show tm < 10 by omega)]; rfl
      clear hok
      by_cases m0 : tm = 0
      · subst m0
        have hr3 := (mayF_on (b := ⟨0, tv⟩) (o := o) (i := q) _ (by rw [hok2]; simp) (by show 0 ≤ o + 0; omega) (by show 0 ≤ q + 0; omega)).symm.trans HR2.out
        have hr4 : mayF o q (bs.drop (k + 1)) = r := by
          have e1 : o + dO (⟨0, tv⟩ : Bq).m = o := Int.add_zero _
          have e2 : q + dI (⟨0, tv⟩ : Bq).m = q := Int.add_zero _
          rw [e1, e2] at hr3; exact hr3
        have HR4 := Lib.hid hr4
        clear hr3 hr4 hok2 HR2 g0 g9
        go_wp2
        go_round
        case rel => exact ⟨k + 1, o, q, by go_num, rfl, rfl, by omega, ho, by omega, hq, by omega, HR4.out⟩
        case measure => simp [intOf]; omega
      have q0 : (tm == 0) = false := by simpa using m0
      have q0' : (tm != 0) = true := by simpa using m0
      by_cases z0 : tv.size = 0
      · obtain rfl := size_0 z0
        have HOK := Lib.hid (show okB ⟨tm, ⟨#[]⟩⟩ = true by rw [hok2]; rfl)
        clear hok2 z0
        have step : ∀ {o2 q2 : Int}, o2 = o + dO tm → q2 = q + dI tm → 0 ≤ o2 → 0 ≤ q2 → mayF o2 q2 (bs.drop (k + 1)) = r := fun {o2 q2} h1 h2 h3 h4 => by
          subst h1 h2
          exact (mayF_on (b := ⟨tm, ⟨#[]⟩⟩) _ HOK.out h3 h4).symm.trans HR2.out
        have over : ∀ {o2 q2 : Int}, o2 = o + dO tm → q2 = q + dI tm → (o2 < 0 ∨ q2 < 0) → r = false := fun {o2 q2} h1 h2 h3 => by
          subst h1 h2
          rw [← HR2.out]; exact mayF_over _ (fun h => by have h5 : 0 ≤ o + dO tm := h.1; have h6 : 0 ≤ q + dI tm := h.2; omega)
        by_cases m6 : tm = 6
        · subst m6
          have HR4 := Lib.hid (step (o2 := o + 1) (q2 := q) rfl (by show q = q + 0; omega) (by omega) hq)
          clear step over HR2 HOK
          go_wp2
          go_round
          case rel => exact ⟨k + 1, o + 1, q, by go_num, by go_num, rfl, by omega, by omega, by omega, hq, by omega, HR4.out⟩
          case measure => simp [intOf]; omega
        by_cases m8 : tm = 8
        · subst m8
          have HR4 := Lib.hid (step (o2 := o) (q2 := q + 1) (by show o = o + 0; omega) rfl ho (by omega))
          clear step over HR2 HOK
          go_wp2
          go_round
          case rel => exact ⟨k + 1, o, q + 1, by go_num, rfl, by go_num, by omega, ho, by omega, by omega, by omega, HR4.out⟩
          case measure => simp [intOf]; omega
        by_cases m7 : tm = 7
        · subst m7
          by_cases h1 : o - 1 < 0
          · have e : r = false := over (o2 := o + -1) (q2 := q) rfl (by show q = q + 0; omega) (by omega)
            subst e
            clear step over HR2 HOK
            go_wp2
            go_ret
            exact ⟨rfl, rfl⟩
          · have HR4 := Lib.hid (step (o2 := o - 1) (q2 := q) rfl (by show q = q + 0; omega) (by omega) hq)
            clear step over HR2 HOK
            go_wp2
            go_round
            case rel => exact ⟨k + 1, o - 1, q, by go_num, by go_num, rfl, by omega, by omega, by omega, hq, by omega, HR4.out⟩
            case measure => simp [intOf]; omega
        by_cases m9 : tm = 9
        · subst m9
          by_cases h1 : q - 1 < 0
          · have e : r = false := over (o2 := o) (q2 := q + -1) (by show o = o + 0; omega) rfl (by omega)
            subst e
            clear step over HR2 HOK
            go_wp2
            go_ret
            exact ⟨rfl, rfl⟩
          · have HR4 := Lib.hid (step (o2 := o) (q2 := q - 1) (by show o = o + 0; omega) rfl ho (by omega))
            clear step over HR2 HOK
            go_wp2
            go_round
            case rel => exact ⟨k + 1, o, q - 1, by go_num, rfl, by go_num, by omega, ho, by omega, by omega, by omega, HR4.out⟩
            case measure => simp [intOf]; omega
        have HR4 := Lib.hid (step (o2 := o) (q2 := q) (by unfold dO; rw [if_neg m6, if_neg m7]; omega) (by unfold dI; rw [if_neg m8, if_neg m9]; omega) ho hq)
        have q6 : (tm == 6) = false := by simpa using m6
        have q7 : (tm == 7) = false := by simpa using m7
        have q8 : (tm == 8) = false := by simpa using m8
        have q9 : (tm == 9) = false := by simpa using m9
        clear step over HR2 HOK m6 m7 m8 m9
        go_wp2
        go_round
        case rel => exact ⟨k + 1, o, q, by go_num, rfl, rfl, by omega, ho, by omega, hq, by omega, HR4.out⟩
        case measure => simp [intOf]; omega
      · have e : r = false := by rw [← HR2.out]; exact mayF_bad _ _ _ (by rw [hok2, decide_eq_false z0, decide_eq_false m0]; rfl)
        obtain ⟨z1, z2⟩ := size_ne z0
        subst e
        clear hok2 HR2 z0
        go_wp2
        go_ret
        exact ⟨rfl, rfl⟩
    · obtain rfl : k = n := by omega
      rw [List.drop_eq_nil_of_le (by rw [HN.out]; exact Nat.le_refl _), mayF] at hr
      by_cases p1 : o = 0
      · subst p1
        by_cases p2 : q = 0
        · subst p2
          have e : true = r := hr
          subst e
          clear hr
          go_wp2
          go_ret
          exact ⟨rfl, rfl⟩
        · have q2 : (q == 0) = false := by simpa using p2
          rw [q2] at hr
          have e : false = r := hr
          subst e
          clear hr p2
          go_wp2
          go_ret
          exact ⟨rfl, rfl⟩
      · have q1 : (o == 0) = false := by simpa using p1
        rw [q1] at hr
        have e : false = r := hr
        subst e
        clear hr p1
        go_wp2
        go_ret
        exact ⟨rfl, rfl⟩
end Go.Proofs.Ytfcjihfnimefhaa
