/- Two rows of symbols held against each other (copperplateref11). -/
import Derived.Test.YtcipfipfamecmaaDoorSymR
namespace Go.Proofs.YtcipfipfamecmaaDoor
open Go.RowKit
set_option linter.unusedVariables false
set_option maxRecDepth 100000

theorem Sr.drew {w : World} {A : Option Addr} {l : List Sq} (h : Sr w A l) : Sr w.drew A l := h
theorem bel_undrew {w w' : World} (h : Below w.drew.heap.size w.drew w') : Below w.heap.size w w' := ⟨h.os, h.tape, h.output, h.size, h.block⟩
theorem sameS_drop {la lb : List Sq} {k : Nat} {t u : Sq} (ht : la[k]? = some t) (hu : lb[k]? = some u) : sameS (la.drop k) (lb.drop k) = ((t.k == u.k && t.n == u.n) && sameS (la.drop (k + 1)) (lb.drop (k + 1))) := by
  obtain ⟨h1, rfl⟩ := List.getElem?_eq_some_iff.1 ht
  obtain ⟨h2, rfl⟩ := List.getElem?_eq_some_iff.1 hu
  rw [List.drop_eq_getElem_cons h1, List.drop_eq_getElem_cons h2, sameS]
set_option maxHeartbeats 1000000 in
theorem syms_any {w : World} {A B : Option Addr} {n c m d : Nat} {la lb : List Sq} {r : Bool} (hr : sameS la lb = r) (ha : Sr w A la) (hb : Sr w B lb) (hn : la.length = n) (hm : lb.length = m) (hz : n ≤ 1000000000) :
    Calls Tryd.prog 15 #[.slice A n c, .slice B m d] w fun e w' => e = .returned (.bool r) ∧ Below w.heap.size w w' := by
  by_cases hnm : n = m
  · subst hnm
    have HN := Lib.hid hn
    have HM := Lib.hid hm
    have HA := Lib.hid ha
    have HB := Lib.hid hb
    have HR := Lib.hid hr
    clear hn hm ha hb hr
    go_enter Tryd.func15, Tryd.ntmps15
    go_wp2
    go_loopw [5] (fun i wr => ∃ k : Nat, i = .int .i64 k ∧ k ≤ n ∧ Hid (sameS (la.drop k) (lb.drop k) = r) ∧ Below w.heap.size w wr) (fun i _ => n - (intOf i).toNat)
    case atStart => exact ⟨0, rfl, Nat.zero_le _, by rw [List.drop_zero, List.drop_zero]; exact HR, Below.refl _ _⟩
    case round =>
      obtain ⟨k, rfl, hk, hs, hB⟩ := hrel
      by_cases hlt : k < n
      · obtain ⟨t, ht⟩ : ∃ t, la[k]? = some t := ⟨_, List.getElem?_eq_getElem (by rw [HN.out]; exact hlt)⟩
        obtain ⟨u, hu⟩ : ∃ u, lb[k]? = some u := ⟨_, List.getElem?_eq_getElem (by rw [HM.out]; exact hlt)⟩
        obtain ⟨b, o, rfl, c0, c1⟩ := (HA.out.below hB) k t ht
        obtain ⟨b', o', rfl, d0, d1⟩ := (HB.out.below hB) k u hu
        have hs2 := hs.out
        rw [sameS_drop ht hu] at hs2
        clear hs ht hu
        by_cases e1 : t.k = u.k
        · by_cases e2 : t.n = u.n
          · have q1 : (t.k == u.k) = true := by simpa using e1
            have q2 : (t.n == u.n) = true := by simpa using e2
            rw [q1, q2, Bool.and_self, Bool.true_and] at hs2
            have HS := Lib.hid hs2
            clear hs2 e1 e2
            go_wp2
            go_quiet (fail)
            go_wp2
            go_roundw
            case rel => exact ⟨k + 1, by go_num, by omega, HS, below_drewN hB _⟩
            case measure => simp [intOf]; omega
          · have q1 : (t.k == u.k) = true := by simpa using e1
            have q2 : (t.n == u.n) = false := by simpa using e2
            rw [q2, Bool.and_false, Bool.false_and] at hs2
            subst hs2
            clear e1 e2
            go_wp2
            go_quiet (fail)
            go_wp2
            go_ret
            exact ⟨rfl, below_drewN hB _⟩
        · have q1 : (t.k == u.k) = false := by simpa using e1
          rw [q1, Bool.false_and, Bool.false_and] at hs2
          subst hs2
          clear e1
          go_wp2
          go_quiet (fail)
          go_wp2
          go_ret
          exact ⟨rfl, below_drewN hB _⟩
      · obtain rfl : k = n := by omega
        have hs2 := hs.out
        rw [List.drop_eq_nil_of_le (by rw [HN.out]; exact Nat.le_refl _), List.drop_eq_nil_of_le (by rw [HM.out]; exact Nat.le_refl _)] at hs2
        have hr2 : r = true := hs2.symm
        subst hr2
        clear hs hs2
        go_wp2
        go_ret
        exact ⟨rfl, hB⟩
  · have hf : r = false := by rw [← hr]; exact sameS_len _ _ (by omega)
    subst hf
    have q : ((n : Int) == (m : Int)) = false := by simp; omega
    have q' : ((n : Int) != (m : Int)) = true := by simp; omega
    clear hr ha hb hn hm hnm
    go_enter Tryd.func15, Tryd.ntmps15
    go_wp2
    go_ret
    exact ⟨rfl, Below.refl _ _⟩
end Go.Proofs.YtcipfipfamecmaaDoor
