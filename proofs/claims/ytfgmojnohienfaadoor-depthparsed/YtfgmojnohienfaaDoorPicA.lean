/- Package pick: Empty, mayBeNothing. -/
import Derived.Test.YtfgmojnohienfaaDoorPicM
import Derived.Test.YtfgmojnohienfaaDoorRulD
import Derived.Test.YtfgmojnohienfaaDoorRulB
namespace Go.Proofs.YtfgmojnohienfaaDoor
open Go.RowKit
set_option linter.unusedVariables false
set_option maxRecDepth 100000

/-- How a Get ends: variable v, the symbols L, n of them; is there a rule: b. -/
def GpE (v : Int) (n : Nat) (L : List Sq) (b : Bool) (w : World) (e : Ending) (w' : World) : Prop := ∃ A c, e = .returned (.tuple #[.agg #[.int .i64 v, .slice A n c], .bool b]) ∧ Below w.heap.size w w' ∧ Sr w' A L
/-- The variable of rule i; is there rule i? -/
def varI (i : Int) : Int := if 0 ≤ i ∧ i < 90 then (varR i.toNat : Nat) else 0
def isI (i : Int) : Bool := decide (0 ≤ i ∧ i < 90)
theorem symI_len (i : Int) : (symI i).length ≤ 10 := by
  unfold symI
  by_cases h : 0 ≤ i
  · rw [if_pos h, symR_len]
    by_cases h2 : i.toNat < 90
    · exact tlR_len _ h2
    · have e : tlR i.toNat = [] := by
        unfold tlR
        have : codR i.toNat = [] := by
          generalize i.toNat = n at h2
          obtain ⟨k, rfl⟩ : ∃ k, n = k + 90 := ⟨n - 90, by omega⟩
          rfl
        rw [this]; rfl
      rw [e]; exact Nat.zero_le _
  · rw [if_neg h]; exact Nat.zero_le _
theorem symI_over {i : Int} (h : i < 0 ∨ 90 ≤ i) : symI i = [] := by
  unfold symI
  rcases h with h | h
  · rw [if_neg (by omega)]
  · rw [if_pos (by omega)]
    obtain ⟨k, hk⟩ : ∃ k : Nat, i.toNat = k + 90 := ⟨i.toNat - 90, by omega⟩
    rw [hk]; rfl
theorem getp_any (i : Int) {n : Nat} {v : Int} {b : Bool} {L : List Sq} (hL : symI i = L) (hn : L.length = n) (hv : varI i = v) (hb : isI i = b) {w : World} (ht : TabR w) :
    Calls Tryd.prog 20 #[.int .i64 i] w fun e w' => GpE v n L b w e w' := by
  subst hL hn hv hb
  by_cases h : 0 ≤ i ∧ i < 90
  · obtain ⟨a, rfl⟩ := Int.eq_ofNat_of_zero_le h.1
    have ha : a < 90 := by omega
    refine (get_yes ha ht).mono ?_
    rintro e w' ⟨A, c, rfl, hb, hs, -⟩
    have e1 : symI (a : Int) = symR a := by unfold symI; rw [if_pos h.1]; rfl
    have e2 : varI (a : Int) = (varR a : Nat) := by unfold varI; rw [if_pos h]; rfl
    have e3 : isI (a : Int) = true := by unfold isI; exact decide_eq_true h
    exact ⟨A, c, by rw [e1, e2, e3], hb, by rw [e1]; exact hs⟩
  · have e1 : symI i = [] := symI_over (by omega)
    have e2 : varI i = 0 := by unfold varI; rw [if_neg h]
    have e3 : isI i = false := by unfold isI; exact decide_eq_false h
    refine (get_no (by omega) w).mono ?_
    rintro e w' ⟨rfl, hb⟩
    exact ⟨none, 0, by rw [e1, e2, e3]; rfl, hb, by rw [e1]; exact Sr.nil _ _⟩
/-- How an Of ends, its answer's length under a name of its own. -/
def OpE (m : Nat) (L : List Int) (w : World) (e : Ending) (w' : World) : Prop := ∃ A c, e = .returned (.slice A m c) ∧ Below w.heap.size w w' ∧ Ri w' A L
theorem ofp_any {w : World} (v : Int) {L : List Int} {n : Nat} (hL : ofR v = L) (hn : L.length = n) (ht : TabR w) : Calls Tryd.prog 22 #[.int .i64 v] w fun e w' => OpE n L w e w' :=
  (of_any v hL ht).mono (by rintro e w' ⟨A, c, rfl, hb, hs, -⟩; exact ⟨A, c, by rw [hn], hb, hs⟩)
theorem ofR_len (v : Int) : (ofR v).length ≤ 90 := ofN_len v 90

set_option maxHeartbeats 1000000 in
theorem empty_any {v r : Int} (hr : empR v = r) {w : World} (ht : TabR w) :
    Calls Tryd.prog 19 #[.int .i64 v] w fun e w' => e = .returned (.int .i64 r) ∧ Below w.heap.size w w' := by
  have HT := Lib.hid ht
  obtain ⟨O, hO⟩ : ∃ O, ofR v = O := ⟨_, rfl⟩
  obtain ⟨m, hm⟩ : ∃ n, O.length = n := ⟨_, rfl⟩
  have hm2 : m ≤ 90 := by rw [← hm, ← hO]; exact ofR_len v
  have r1 := fun {w} h => ofp_any (w := w) v hO hm h
  rw [empR, hO] at hr
  have HR := Lib.hid hr
  have HM := Lib.hid hm
  clear ht hO hr hm
  go_enter Tryd.func19, Tryd.ntmps19
  go_wp2_with fail
  ((with_reducible refine (r1 HT.out).mono ?_))
  rintro e w1 ⟨A, c, rfl, hb1, hs1⟩
  have HB1 := Lib.hid hb1
  have HS1 := Lib.hid hs1
  clear hb1 hs1 r1
  go_wp2_with fail
  go_loopw [10] (fun i wr => ∃ k : Nat, i = .int .i64 k ∧ k ≤ m ∧ Hid (fstN empB (O.drop k) = r) ∧ Below w1.heap.size w1 wr) (fun i _ => m - (intOf i).toNat)
  case atStart => exact ⟨0, rfl, Nat.zero_le _, by rw [List.drop_zero]; exact HR, Below.refl _ _⟩
  case round =>
    obtain ⟨k, rfl, hk, hf, hB⟩ := hrel
    by_cases hlt : k < m
    · obtain ⟨x, hx⟩ : ∃ x, O[k]? = some x := ⟨_, List.getElem?_eq_getElem (by rw [HM.out]; exact hlt)⟩
      obtain ⟨b, o, rfl, c0⟩ := (HS1.out.below hB) k x hx
      have hf' := hf.out
      rw [fstN_drop hx] at hf'
      have q1 : (k : Int) < (m : Int) := by omega
      obtain ⟨L, hL⟩ : ∃ L, symI x = L := ⟨_, rfl⟩
      obtain ⟨n, hn⟩ : ∃ n, L.length = n := ⟨_, rfl⟩
      obtain ⟨vv, hv⟩ : ∃ v, varI x = v := ⟨_, rfl⟩
      obtain ⟨bb, hbb⟩ : ∃ v, isI x = v := ⟨_, rfl⟩
      have r2 := fun {w} h => getp_any x hL hn hv hbb (w := w) h
      have he : empB x = (n == 0) := by unfold empB; rw [hL, hn]
      rw [he] at hf'
      have HTr := Lib.hid (HT.out.below (bel_trans HB1.out hB))
      have HBr := Lib.hid (bel_trans HB1.out hB)
      have HBB := Lib.hid hB
      clear hx hL hn hv hbb he hf hB
      by_cases h0 : n = 0
      · subst h0
        rw [if_pos (by rfl)] at hf'
        have HF := Lib.hid hf'
        clear hf'
        go_wp2_with fail
        ((with_reducible refine (r2 HTr.out).mono ?_))
        rintro e w2 ⟨B, d, rfl, hb2, hs2⟩
        have HB2 := Lib.hid (bel_trans HBr.out hb2)
        clear hb2 r2 hs2
        go_wp2_with fail
        go_ret
        exact ⟨by rw [HF.out]; rfl, bel_alloc HB2.out _⟩
      · have q2 : ((n : Int) == 0) = false := by simpa using h0
        have q3 : (n == 0) = false := by simpa using h0
        rw [q3, if_neg (by simp)] at hf'
        have HF := Lib.hid hf'
        clear hf' h0 q3
        go_wp2_with fail
        ((with_reducible refine (r2 HTr.out).mono ?_))
        rintro e w2 ⟨B, d, rfl, hb2, hs2⟩
        have HB2 := Lib.hid (bel_trans HBB.out hb2)
        clear hb2 r2 hs2
        go_wp2_with fail
        go_roundw
        case rel => exact ⟨k + 1, by go_num, by omega, HF, bel_alloc HB2.out _⟩
        case measure => simp [intOf]; omega
    · obtain rfl : k = m := by omega
      have hf' := hf.out
      rw [List.drop_eq_nil_of_le (by rw [HM.out]; exact Nat.le_refl _), fstN] at hf'
      have HF := Lib.hid hf'
      have HBr := Lib.hid (bel_trans HB1.out hB)
      clear hf hf' hB
      go_wp2_with fail
      go_ret
      exact ⟨by rw [← HF.out]; rfl, HBr.out⟩
set_option maxHeartbeats 1000000 in
theorem may_any {t : Sq} {r : Bool} (hr : mayN t = r) {w : World} (ht : TabR w) :
    Calls Tryd.prog 28 #[.agg #[.int .i64 t.k, .int .i64 t.n]] w fun e w' => e = .returned (.bool r) ∧ Below w.heap.size w w' := by
  obtain ⟨k, n⟩ := t
  have hbo := bel_alloc (Below.refl _ w) (.cells #[.int .i64 k, .int .i64 n] 35)
  have HT := Lib.hid (ht.below hbo)
  have HBo := Lib.hid hbo
  by_cases h1 : k = 1
  · subst h1
    obtain ⟨x, hx⟩ : ∃ x, empR n = x := ⟨_, rfl⟩
    have hr' : decide (0 ≤ x) = r := by rw [← hr, ← hx]; rfl
    have r1 := fun {w} h => empty_any (w := w) hx h
    have HR := Lib.hid hr'
    clear hr hr' hx ht hbo
    go_enter Tryd.func28, Tryd.ntmps28
    go_wp2_with fail
    ((with_reducible refine (r1 HT.out).mono ?_))
    rintro e w2 ⟨rfl, hb2⟩
    have HB2 := Lib.hid (bel_trans HBo.out hb2)
    clear hb2 r1
    go_wp2_with fail
    go_ret
    exact ⟨by rw [← HR.out]; rfl, HB2.out⟩
  · have hr' : r = false := by rw [← hr]; simp [mayN, h1]
    subst hr'
    have q1 : (k == 1) = false := by simpa using h1
    clear hr h1 ht hbo
    go_enter Tryd.func28, Tryd.ntmps28
    go_wp2_with fail
    go_ret
    exact ⟨rfl, HBo.out⟩
end Go.Proofs.YtfgmojnohienfaaDoor
