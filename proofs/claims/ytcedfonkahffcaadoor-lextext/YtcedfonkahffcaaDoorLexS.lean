/- Rows of tokens held against each other: alike, slices.EqualFunc, lex.Same; the reference's Same. -/
import Derived.Test.YtcedfonkahffcaaDoorLexF
import Derived.StillTailTactics
namespace Go.Proofs.YtcedfonkahffcaaDoor
open Go.RowKit
set_option linter.unusedVariables false

def eqT (t u : Tq) : Bool := (t.k == u.k) && (t.v.toList == u.v.toList)
set_option maxHeartbeats 400000 in
theorem alike_any (t u : Tq) (w : World) :
    Calls Tryd.prog 22 #[.agg #[.int .i64 t.k, .string t.v, .int .i64 t.a, .int .i64 t.z], .agg #[.int .i64 u.k, .string u.v, .int .i64 u.a, .int .i64 u.z]] w fun e w' => e = .returned (.bool (eqT t u)) ∧ Below w.heap.size w w' := by
  cases h1 : (t.k == u.k)
  · have e : eqT t u = false := by simp [eqT, h1]
    rw [e]; clear e
    go_enter Tryd.func22, Tryd.ntmps22
    go_wp2
    go_ret
    exact ⟨by simp, by go_grown⟩
  · have e : eqT t u = (t.v.toList == u.v.toList) := by simp [eqT, h1]
    rw [e]; clear e
    go_enter Tryd.func22, Tryd.ntmps22
    go_wp2
    go_ret
    exact ⟨by simp, by go_grown⟩

/-- Two rows have the same tokens, wherever these stand. -/
def sameT : List Tq → List Tq → Bool
  | [], [] => true
  | t :: ts, u :: us => eqT t u && sameT ts us
  | _, _ => false
theorem sameT_len {ts us : List Tq} (h : ts.length ≠ us.length) : sameT ts us = false := by
  induction ts generalizing us with
  | nil => cases us with
    | nil => exact absurd rfl h
    | cons u us => rfl
  | cons t ts ih => cases us with
    | nil => rfl
    | cons u us =>
      show (eqT t u && sameT ts us) = false
      rw [ih (by simpa using h), Bool.and_false]
/-- The first k are alike. -/
def Sm (ts us : List Tq) (k : Nat) : Prop := ∀ j t u, j < k → ts[j]? = some t → us[j]? = some u → eqT t u = true
theorem Sm.start (ts us : List Tq) : Sm ts us 0 := fun j t u hj => by omega
theorem Sm.succ {ts us : List Tq} {k : Nat} {t u : Tq} (h : Sm ts us k) (ht : ts[k]? = some t) (hu : us[k]? = some u) (e : eqT t u = true) : Sm ts us (k + 1) := fun j t' u' hj ht' hu' => by
  by_cases hk : j = k
  · subst hk; rw [ht] at ht'; rw [hu] at hu'; cases ht'; cases hu'; exact e
  · exact h j t' u' (by omega) ht' hu'
theorem sameT_no {ts us : List Tq} {k : Nat} {t u : Tq} (ht : ts[k]? = some t) (hu : us[k]? = some u) (e : eqT t u = false) : sameT ts us = false := by
  induction ts generalizing us k with
  | nil => simp at ht
  | cons x ts ih => cases us with
    | nil => rfl
    | cons y us =>
      show (eqT x y && sameT ts us) = false
      cases k with
      | zero =>
        obtain rfl : x = t := by simpa using ht
        obtain rfl : y = u := by simpa using hu
        rw [e]; rfl
      | succ k => rw [ih (k := k) (by simpa using ht) (by simpa using hu), Bool.and_false]
theorem Sm.end {ts us : List Tq} (h : Sm ts us ts.length) (hl : ts.length = us.length) : sameT ts us = true := by
  induction ts generalizing us with
  | nil => cases us with
    | nil => rfl
    | cons u us => simp at hl
  | cons t ts ih => cases us with
    | nil => simp at hl
    | cons u us =>
      show (eqT t u && sameT ts us) = true
      rw [h 0 t u (by simp) rfl rfl, Bool.true_and]
      exact ih (fun j t' u' hj h1 h2 => h (j + 1) t' u' (by simp; omega) h1 h2) (by simpa using hl)

set_option maxHeartbeats 1000000 in
set_option maxRecDepth 100000 in
theorem eqf_any {w : World} {A B : Option Addr} {n m c d : Nat} {ts us : List Tq} (ha : Tr w A ts) (hb : Tr w B us) (hn : ts.length = n) (hm : us.length = m) (hz : n ≤ 1000000000) (hz2 : m ≤ 1000000000) :
    Calls Tryd.prog 21 #[.slice A n c, .slice B m d, .func (.func 22) #[] #[]] w fun e w' => e = .returned (.bool (sameT ts us)) ∧ Below w.heap.size w w' := by
  by_cases hl : n = m
  · obtain ⟨S, hS⟩ : ∃ S, sameT ts us = S := ⟨_, rfl⟩
    rw [hS]
    have HS := Lib.hid hS
    have HN := Lib.hid hn
    have HM := Lib.hid hm
    have HA := Lib.hid ha
    have HB := Lib.hid hb
    have HL := Lib.hid hl
    clear hS hn hm ha hb
    subst hl
    go_enter Tryd.func21, Tryd.ntmps21
    go_wp2
    go_loopw [17] (fun i wr => ∃ k : Nat, i = .int .i64 k ∧ k ≤ n ∧ Sm ts us k ∧ Below w.heap.size w wr) (fun i _ => n - (intOf i).toNat)
    case atStart => exact ⟨0, rfl, Nat.zero_le _, Sm.start _ _, Below.refl _ _⟩
    case round =>
      obtain ⟨k, rfl, hk, hsm, hB⟩ := hrel
      have HSM := Lib.hid hsm
      clear hsm
      by_cases hlt : k < n
      · obtain ⟨t, ht⟩ : ∃ t, ts[k]? = some t := ⟨_, List.getElem?_eq_getElem (by rw [HN.out]; exact hlt)⟩
        obtain ⟨u, hu⟩ : ∃ u, us[k]? = some u := ⟨_, List.getElem?_eq_getElem (by rw [HM.out]; exact hlt)⟩
        obtain ⟨b, o, rfl, c0, c1, c2, c3⟩ := (HA.out.below hB) k t ht
        obtain ⟨b', o', rfl, d0, d1, d2, d3⟩ := (HB.out.below hB) k u hu
        have HT := Lib.hid ht
        have HU := Lib.hid hu
        have lb : b < wr.heap.size := World.block_lt_of_cell? _ _ c0
        have lb' : b' < wr.heap.size := World.block_lt_of_cell? _ _ d0
        clear ht hu
        have r1 := fun w => alike_any t u w
        cases he : eqT t u
        · rw [he] at r1
          have hno : sameT ts us = false := sameT_no HT.out HU.out he
          rw [HS.out] at hno
          subst hno
          clear he
          go_wp2_with fail
          (with_reducible refine (r1 _).mono ?_)
          rintro e w1 ⟨rfl, hb1⟩
          go_wp2
          go_ret
          exact ⟨rfl, hB.trans (bel_trans (bel_alloc (bel_alloc (Below.refl _ _) _) _) hb1 |>.mono hB.size)⟩
        · rw [he] at r1
          have HN2 := Lib.hid (HSM.out.succ HT.out HU.out he)
          clear he
          go_wp2_with fail
          (with_reducible refine (r1 _).mono ?_)
          rintro e w1 ⟨rfl, hb1⟩
          have hB2 := hB.trans (bel_trans (bel_alloc (bel_alloc (Below.refl _ _) _) _) hb1 |>.mono hB.size)
          clear hb1
          go_wp2
          go_roundw
          case rel => exact ⟨k + 1, by go_num, by omega, HN2.out, hB2⟩
          case measure => simp [intOf]; omega
      · obtain rfl : k = n := by omega
        have hyes : sameT ts us = true := by
          have h := HSM.out
          rw [← HN.out] at h
          exact h.end (HN.out.trans HM.out.symm)
        rw [HS.out] at hyes
        subst hyes
        go_wp2
        go_ret
        exact ⟨rfl, hB⟩
  · rw [sameT_len (by rw [hn, hm]; exact hl)]
    have hl' : ¬ (n : Int) = (m : Int) := by omega
    go_enter Tryd.func21, Tryd.ntmps21
    go_wp2
    go_ret
    exact ⟨rfl, Below.refl _ _⟩

set_option maxHeartbeats 400000 in
theorem same_any {w : World} {A B : Option Addr} {n m c d : Nat} {ts us : List Tq} (ha : Tr w A ts) (hb : Tr w B us) (hn : ts.length = n) (hm : us.length = m) (hz : n ≤ 1000000000) (hz2 : m ≤ 1000000000) :
    Calls Tryd.prog 9 #[.slice A n c, .slice B m d] w fun e w' => e = .returned (.bool (sameT ts us)) ∧ Below w.heap.size w w' := by
  have r1 := eqf_any (c := c) (d := d) ha hb hn hm hz hz2
  clear ha hb hn hm
  generalize sameT ts us = S at *
  go_enter Tryd.func9, Tryd.ntmps9
  go_wp2_with fail
  (with_reducible refine r1.mono ?_)
  rintro e w1 ⟨rfl, hb1⟩
  go_wp2
  go_ret
  exact ⟨rfl, hb1⟩
end Go.Proofs.YtcedfonkahffcaaDoor
