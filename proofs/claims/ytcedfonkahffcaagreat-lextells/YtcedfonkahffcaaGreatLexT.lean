/- The reference's Same (copperplateref09). -/
import Derived.Test.YtcedfonkahffcaaGreatLexS
namespace Go.Proofs.YtcedfonkahffcaaGreat
open Go.RowKit
set_option linter.unusedVariables false

set_option maxHeartbeats 1000000 in
set_option maxRecDepth 100000 in
theorem rsame_any {w : World} {A B : Option Addr} {n m c d : Nat} {ts us : List Tq} (ha : Tr w A ts) (hb : Tr w B us) (hn : ts.length = n) (hm : us.length = m) (hz : n ≤ 1000000000) (hz2 : m ≤ 1000000000) :
    Calls Tryz.prog 11 #[.slice A n c, .slice B m d] w fun e w' => e = .returned (.bool (sameT ts us)) ∧ Below w.heap.size w w' := by
  by_cases hl : n = m
  · obtain ⟨S, hS⟩ : ∃ S, sameT ts us = S := ⟨_, rfl⟩
    rw [hS]
    have HS := Lib.hid hS
    have HN := Lib.hid hn
    have HM := Lib.hid hm
    have HA := Lib.hid ha
    have HB := Lib.hid hb
    clear hS hn hm ha hb
    subst hl
    go_enter Tryz.func11, Tryz.ntmps11
    go_wp2
    go_loopw [5] (fun i wr => ∃ k : Nat, i = .int .i64 k ∧ k ≤ n ∧ Sm ts us k ∧ Below w.heap.size w wr) (fun i _ => n - (intOf i).toNat)
    case atStart => exact ⟨0, rfl, Nat.zero_le _, Sm.start _ _, Below.refl _ _⟩
    case round =>
      obtain ⟨k, rfl, hk, hsm, hB⟩ := hrel
      have HSM := Lib.hid hsm
      clear hsm
      by_cases hlt : k < n
      · obtain ⟨t, ht⟩ : ∃ t, ts[k]? = some t := ⟨_, List.getElem?_eq_getElem (by rw [HN.out]; exact hlt)⟩
        obtain ⟨u, hu⟩ : ∃ u, us[k]? = some u := ⟨_, List.getElem?_eq_getElem (by rw [HM.out]; exact hlt)⟩
        obtain ⟨b, o, rfl, c0, c1, c2, c3⟩ := (HA.out.below hB) k t ht
        obtain ⟨b', o', rfl, d0, d1, d2, d3⟩ := (HB.out.below hB) k u hu
        have HT := Lib.hid ht
        have HU := Lib.hid hu
        clear ht hu c2 c3 d2 d3
        by_cases hk1 : t.k = u.k
        · by_cases hv : t.v.toList = u.v.toList
          · have he : eqT t u = true := by simp [eqT, hk1, hv]
            have HN2 := Lib.hid (HSM.out.succ HT.out HU.out he)
            have x1 : (t.k != u.k) = false := by simp [hk1]
            have x2 : (t.v.toList == u.v.toList) = true := by simp [hv]
            clear hk1 hv he
            go_wp2
            go_quiet (fail)
            go_wp2
            go_roundw
            case rel => exact ⟨k + 1, by go_num, by omega, HN2.out, below_drewN hB _⟩
            case measure => simp [intOf]; omega
          · have he : eqT t u = false := by simp [eqT, hv]
            have hno : sameT ts us = false := sameT_no HT.out HU.out he
            rw [HS.out] at hno
            subst hno
            have x1 : (t.k != u.k) = false := by simp [hk1]
            have x2 : (t.v.toList == u.v.toList) = false := by simpa using hv
            clear hk1 hv he
            go_wp2
            go_quiet (fail)
            go_wp2
            go_ret
            exact ⟨rfl, below_drewN hB _⟩
        · have he : eqT t u = false := by simp [eqT, hk1]
          have hno : sameT ts us = false := sameT_no HT.out HU.out he
          rw [HS.out] at hno
          subst hno
          have x1 : (t.k != u.k) = true := by simpa using hk1
          clear hk1 he
          go_wp2
          go_quiet (fail)
          go_wp2
          go_ret
          exact ⟨rfl, below_drewN hB _⟩
      · obtain rfl : k = n := by omega
        have hyes : sameT ts us = true := by
          have h := HSM.out
          rw [← HN.out] at h
          exact h.end (HN.out.trans HM.out.symm)
        rw [HS.out] at hyes
        subst hyes
        go_wp2
        go_ret
        exact ⟨rfl, hB⟩
  · rw [sameT_len (by rw [hn, hm]; exact hl)]
    have hl' : ¬ (n : Int) = (m : Int) := by omega
    go_enter Tryz.func11, Tryz.ntmps11
    go_wp2
    go_ret
    exact ⟨rfl, Below.refl _ _⟩
end Go.Proofs.YtcedfonkahffcaaGreat

/- The reference's Exact and FewToks (copperplatelaw09). -/
namespace Go.Proofs.YtcedfonkahffcaaGreat
open Go.RowKit
set_option linter.unusedVariables false
set_option maxRecDepth 100000

set_option maxHeartbeats 1000000 in
/-- A row held against one that has the same tokens at the same places. -/
theorem exact_any {w : World} {A B : Option Addr} {n c d : Nat} {ts : List Tq} (ha : Tr w A ts) (hb : Tr w B ts) (hn : ts.length = n) (hz : n ≤ 1000000000) :
    Calls Tryz.prog 10 #[.slice A n c, .slice B n d] w fun e w' => e = .returned (.bool true) ∧ Below w.heap.size w w' := by
  have HN := Lib.hid hn
  have HA := Lib.hid ha
  have HB := Lib.hid hb
  clear hn ha hb
  go_enter Tryz.func10, Tryz.ntmps10
  go_wp2
  go_loopw [5] (fun i wr => ∃ k : Nat, i = .int .i64 k ∧ k ≤ n ∧ Below w.heap.size w wr) (fun i _ => n - (intOf i).toNat)
  case atStart => exact ⟨0, rfl, Nat.zero_le _, Below.refl _ _⟩
  case round =>
    obtain ⟨k, rfl, hk, hB⟩ := hrel
    by_cases hlt : k < n
    · obtain ⟨t, ht⟩ : ∃ t, ts[k]? = some t := ⟨_, List.getElem?_eq_getElem (by rw [HN.out]; exact hlt)⟩
      obtain ⟨b, o, rfl, c0, c1, c2, c3⟩ := (HA.out.below hB) k t ht
      obtain ⟨b', o', rfl, d0, d1, d2, d3⟩ := (HB.out.below hB) k t ht
      clear ht
      go_wp2
      go_quiet (fail)
      go_wp2
      go_roundw
      case rel => exact ⟨k + 1, by go_num, by omega, below_drewN hB _⟩
      case measure => simp [intOf]; omega
    · obtain rfl : k = n := by omega
      go_wp2
      go_ret
      exact ⟨rfl, hB⟩
set_option maxHeartbeats 400000 in
theorem exact_nil (w : World) :
    Calls Tryz.prog 10 #[.slice none 0 0, .slice none 0 0] w fun e w' => e = .returned (.bool true) ∧ Below w.heap.size w w' :=
  exact_any (ts := []) (Tr.nil _ _) (Tr.nil _ _) rfl (by decide)

/-- How FewToks ends. -/
def FewE (n : Nat) (w : World) (e : Ending) (w' : World) : Prop := ∃ b, e = .returned (.bool b) ∧ (b = true → n ≤ 100) ∧ w = w'
set_option maxHeartbeats 1000000 in
theorem few_any {w : World} {A : Option Addr} {n c : Nat} {ts : List Tq} (ha : Tr w A ts) (hn : ts.length = n) (hz : n ≤ 9223372036854775807) (hv : ∀ t ∈ ts, t.v.size ≤ 9223372036854775807) :
    Calls Tryz.prog 5 #[.slice A n c] w fun e w' => FewE n w e w' := by
  have HN := Lib.hid hn
  have HA := Lib.hid ha
  have HV := Lib.hid hv
  clear hn ha hv
  go_enter Tryz.func5, Tryz.ntmps5
  go_wp2
  go_loop [3] (fun i => ∃ k : Nat, i = .int .i64 k ∧ k ≤ n ∧ k ≤ 101) (fun i => n - (intOf i).toNat)
  case atStart => exact ⟨0, rfl, Nat.zero_le _, by decide⟩
  case round =>
    obtain ⟨k, rfl, hk, hk2⟩ := hrel
    by_cases hlt : k < n
    · by_cases hl2 : k ≤ 100
      · obtain ⟨t, ht⟩ : ∃ t, ts[k]? = some t := ⟨_, List.getElem?_eq_getElem (by rw [HN.out]; exact hlt)⟩
        obtain ⟨b, o, rfl, c0, c1, c2, c3⟩ := HA.out k t ht
        have hvv := HV.out t (List.mem_of_getElem? ht)
        clear ht
        by_cases h6 : 600 < t.v.size
        · have g6 : (600 : Int) < (t.v.size : Int) := by omega
          go_wp2
          go_ret
          exact ⟨false, rfl, fun h => (by cases h), rfl⟩
        · have g6 : ¬ (600 : Int) < (t.v.size : Int) := by omega
          go_wp2
          go_round
          case rel => exact ⟨k + 1, by go_num, by omega, by omega⟩
          case measure => simp [intOf]; omega
      · have g1 : ¬ (k : Int) ≤ 100 := by omega
        have g2 : ¬ (n : Int) ≤ 100 := by omega
        go_wp2
        go_ret
        exact ⟨false, by simp, fun h => (by cases h), rfl⟩
    · obtain rfl : k = n := by omega
      by_cases hl2 : k ≤ 100
      · have g2 : (k : Int) ≤ 100 := by omega
        go_wp2
        go_ret
        exact ⟨true, by simp, fun _ => hl2, rfl⟩
      · have g2 : ¬ (k : Int) ≤ 100 := by omega
        go_wp2
        go_ret
        exact ⟨false, by simp, fun h => (by cases h), rfl⟩
end Go.Proofs.YtcedfonkahffcaaGreat
