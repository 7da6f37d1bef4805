/- The reference's Same (copperplateref09). -/
import Derived.Test.YtcedfonkahffcaaLexS
namespace Go.Proofs.Ytcedfonkahffcaa
open Go.RowKit
set_option linter.unusedVariables false

set_option maxHeartbeats 1000000 in
set_option maxRecDepth 100000 in
theorem rsame_any {w : World} {A B : Option Addr} {n m c d : Nat} {ts us : List Tq} (ha : Tr w A ts) (hb : Tr w B us) (hn : ts.length = n) (hm : us.length = m) (hz : n ≤ 1000000000) (hz2 : m ≤ 1000000000) :
    Calls Try.prog 13 #[.slice A n c, .slice B m d] w fun e w' => e = .returned (.bool (sameT ts us)) ∧ Below w.heap.size w w' := by
  by_cases hl : n = m
  · obtain ⟨S, hS⟩ : ∃ S, sameT ts us = S := ⟨_, rfl⟩
    rw [hS]
    have HS := Lib.hid hS
    have HN := Lib.hid hn
    have HM := Lib.hid hm
    have HA := Lib.hid ha
    have HB := Lib.hid hb
    clear hS hn hm ha hb
    subst hl
    go_enter Try.func13, Try.ntmps13
    go_wp2
    go_loopw [5] (fun i wr => ∃ k : Nat, i = .int .i64 k ∧ k ≤ n ∧ Sm ts us k ∧ Below w.heap.size w wr) (fun i _ => n - (intOf i).toNat)
    case atStart => exact ⟨0, rfl, Nat.zero_le _, Sm.start _ _, Below.refl _ _⟩
    case round =>
      obtain ⟨k, rfl, hk, hsm, hB⟩ := hrel
      have HSM := Lib.hid hsm
      clear hsm
      by_cases hlt : k < n
      · obtain ⟨t, ht⟩ : ∃ t, ts[k]? = some t := ⟨_, List.getElem?_eq_getElem (by rw [HN.out]; exact hlt)⟩
        obtain ⟨u, hu⟩ : ∃ u, us[k]? = some u := ⟨_, List.getElem?_eq_getElem (by rw [HM.out]; exact hlt)⟩
        obtain ⟨b, o, rfl, c0, c1, c2, c3⟩ := (HA.out.below hB) k t ht
        obtain ⟨b', o', rfl, d0, d1, d2, d3⟩ := (HB.out.below hB) k u hu
        have HT := Lib.hid ht
        have HU := Lib.hid hu
        clear ht hu c2 c3 d2 d3
        by_cases hk1 : t.k = u.k
        · by_cases hv : t.v.toList = u.v.toList
          · have he : eqT t u = true := by simp [eqT, hk1, hv]
            have HN2 := Lib.hid (HSM.out.succ HT.out HU.out he)
            have x1 : (t.k != u.k) = false := by simp [hk1]
            have x2 : (t.v.toList == u.v.toList) = true := by simp [hv]
            clear hk1 hv he
            go_wp2
            go_quiet (fail)
            go_wp2
            go_roundw
            case rel => exact ⟨k + 1, by go_num, by omega, HN2.out, below_drewN hB _⟩
            case measure => simp [intOf]; omega
          · have he : eqT t u = false := by simp [eqT, hv]
            have hno : sameT ts us = false := sameT_no HT.out HU.out he
            rw [HS.out] at hno
            subst hno
            have x1 : (t.k != u.k) = false := by simp [hk1]
            have x2 : (t.v.toList == u.v.toList) = false := by simpa using hv
            clear hk1 hv he
            go_wp2
            go_quiet (fail)
            go_wp2
            go_ret
            exact ⟨rfl, below_drewN hB _⟩
        · have he : eqT t u = false := by simp [eqT, hk1]
          have hno : sameT ts us = false := sameT_no HT.out HU.out he
          rw [HS.out] at hno
          subst hno
          have x1 : (t.k != u.k) = true := by simpa using hk1
          clear hk1 he
          go_wp2
          go_quiet (fail)
          go_wp2
          go_ret
          exact ⟨rfl, below_drewN hB _⟩
      · obtain rfl : k = n := by omega
        have hyes : sameT ts us = true := by
          have h := HSM.out
          rw [← HN.out] at h
          exact h.end (HN.out.trans HM.out.symm)
        rw [HS.out] at hyes
        subst hyes
        go_wp2
        go_ret
        exact ⟨rfl, hB⟩
  · rw [sameT_len (by rw [hn, hm]; exact hl)]
    have hl' : ¬ (n : Int) = (m : Int) := by omega
    go_enter Try.func13, Try.ntmps13
    go_wp2
    go_ret
    exact ⟨rfl, Below.refl _ _⟩
end Go.Proofs.Ytcedfonkahffcaa
