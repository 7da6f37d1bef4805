/- Contract of package scan's Blank. -/
import Derived.Test.YtjfhcgolgabkkaaDoorScanB
import Derived.WalkMore
namespace Go.Proofs.YtjfhcgolgabkkaaDoor.Sc
open Go.RowKit
set_option linter.unusedVariables false

theorem st_ws {l : List UInt8} {k : Nat} (hk : k < l.length) (h : wsI (l[k]).toNat = true) : st (l.drop k) = 1 := by
  rw [List.drop_eq_getElem_cons hk, st_cons, if_pos h]
theorem st_cm {l : List UInt8} {k : Nat} (hk : k < l.length) (h : ((l[k]).toNat : Int) = 35) : st (l.drop k) = rn cmI (l.drop k) ∧ 0 < rn cmI (l.drop k) := by
  have h2 : l[k] = 35 := UInt8.toNat_inj.1 (by rw [show (35 : UInt8).toNat = 35 from rfl]; omega)
  rw [List.drop_eq_getElem_cons hk, st_cons, if_neg (by rw [h]; decide), if_pos h2]
  refine ⟨rfl, ?_⟩
  rw [rn_yes _ (by rw [h]; decide)]; omega
theorem st_else {l : List UInt8} {k : Nat} (hk : k < l.length) (h1 : wsI (l[k]).toNat = false) (h2 : ¬ ((l[k]).toNat : Int) = 35) : st (l.drop k) = if mkL.isPrefixOf (l.drop k) = true then 3 else 0 := by
  have h3 : ¬ l[k] = 35 := fun e => h2 (by rw [e]; rfl)
  rw [List.drop_eq_getElem_cons hk, st_cons, if_neg (by rw [h1]; decide), if_neg h3]
theorem hp_mk (s : ByteArray) (k : Nat) : Lib.hasPrefix (s.extract k s.size).data.toList [239, 187, 191] = mkL.isPrefixOf (s.data.toList.drop k) := by
  rw [← Lib.toList_data, Lib.extract_toList, List.take_of_length_le (by rw [List.length_drop, ← Lib.size_eq]; omega)]
  rfl

set_option maxHeartbeats 1000000 in
theorem blank_any (s : ByteArray) (i : Int) (w : World) (hs : s.size ≤ 9223372036854775807) :
    Calls Tryd.prog 30 #[.string s, .int .i64 i] w fun e w' => e = .returned (.int .i64 (atE blT s.data.toList i)) ∧ Below w.heap.size w w' := by
  have hsz : s.data.toList.length = s.size := (Lib.size_eq s).symm
  by_cases h0 : i < 0
  · rw [atE_out (.inl h0)]
    clear hsz
    go_enter Tryd.func30, Tryd.ntmps30
    go_wp2_with fail
    go_step3
    go_wp2_with fail
    rw [Exit.noGoto_ret]
    go_ret
    exact ⟨rfl, Below.refl _ _⟩
  obtain ⟨a, rfl⟩ := Int.eq_ofNat_of_zero_le (a := i) (by omega)
  by_cases h1 : s.size < a
  · rw [atE_out (.inr (by omega))]
    clear hsz
    go_enter Tryd.func30, Tryd.ntmps30
    go_wp2_with fail
    go_step3
    go_wp2_with fail
    (with_reducible refine (standing_any s 35 _).mono ?_)
    rintro e w1 ⟨rfl, rfl⟩
    go_wp2_with fail
    go_step3
    go_wp2_with fail
    go_loopw [1] (fun v wr => v = .int .i64 (a : Int) ∧ wr = (w.alloc (.cells #[.string s] 9)).alloc (.cells #[.func (.func 35) #[] #[]] 62)) (fun _ _ => 0)
    case atStart => exact ⟨rfl, rfl⟩
    case round =>
      obtain ⟨rfl, rfl⟩ := hrel
      go_wp2_with fail
      rw [Exit.noGoto_ret]
      go_ret
      exact ⟨rfl, bel_alloc (bel_alloc (Below.refl _ _) _) _⟩
  have ha : a ≤ s.size := by omega
  rw [atE_in (by omega)]
  obtain ⟨N, hN⟩ : ∃ N : Nat, N = a + blT (s.data.toList.drop a) := ⟨_, rfl⟩
  rw [show ((a : Int) + (blT (s.data.toList.drop a) : Int)) = (N : Int) by omega]
  have HN := Lib.hid hN
  clear hN
  have HSZ := Lib.hid hsz
  clear hsz
  go_enter Tryd.func30, Tryd.ntmps30
  go_wp2_with fail
  go_step3
  go_wp2_with fail
  (with_reducible refine (standing_any s 35 _).mono ?_)
  rintro e w1 ⟨rfl, hw1⟩
  have hbel : Below w.heap.size w w1 := by rw [hw1]; exact bel_alloc (bel_alloc (Below.refl _ _) _) _
  have hsv : Sv s 35 w.heap.size (w.heap.size + 1) w1 := by rw [hw1]; exact sv_start s _ w
  have HV := Lib.hid hsv
  clear hw1 hsv
  go_wp2_with fail
  go_step3
  go_wp2_with fail
  go_loopw [1] (fun v wr => ∃ k : Nat, k ≤ s.size ∧ Hid (k + blT (s.data.toList.drop k) = N) ∧ v = .int .i64 (k : Int) ∧ ∃ n, wr = w1.drewN n) (fun v _ => s.size - (intOf v).toNat)
  case atStart => exact ⟨a, ha, Lib.hid HN.out.symm, rfl, 0, rfl⟩
  case round =>
    obtain ⟨k, hk, HI, rfl, n, rfl⟩ := hrel
    by_cases hlt : k < s.size
    · have hkl : k < s.data.toList.length := by rw [HSZ.out]; exact hlt
      have hx : s[k]'hlt = (s.data.toList)[k] := rfl
      by_cases hw : wsI (s[k]'hlt).toNat = true
      · have hst := st_ws hkl hw
        have hnx := blT_go hst (by omega)
        rw [List.drop_drop] at hnx
        have hI2 : (k + 1) + blT (s.data.toList.drop (k + 1)) = N := by have := HI.out; omega
        have HI2 := Lib.hid hI2
        clear hst hnx hI2 hx HI hkl
        have hc : ((s[k]'hlt).toNat : Int) = 9 ∨ ((s[k]'hlt).toNat : Int) = 10 ∨ ((s[k]'hlt).toNat : Int) = 13 ∨ ((s[k]'hlt).toNat : Int) = 32 ∨ ((s[k]'hlt).toNat : Int) = 44 := by simpa [wsI] using hw
        clear hw
        rcases hc with hc | hc | hc | hc | hc
        all_goals
          go_wp2_with fail
          go_roundw
          case rel => exact ⟨k + 1, by omega, HI2, by go_num, _, rfl⟩
          case measure => simp [intOf]; omega
      · have hw2 : wsI (s[k]'hlt).toNat = false := by simpa using hw
        have q : ¬ ((s[k]'hlt).toNat : Int) = 9 ∧ ¬ ((s[k]'hlt).toNat : Int) = 10 ∧ ¬ ((s[k]'hlt).toNat : Int) = 13 ∧ ¬ ((s[k]'hlt).toNat : Int) = 32 ∧ ¬ ((s[k]'hlt).toNat : Int) = 44 := by simpa [wsI] using hw
        obtain ⟨q1, q2, q3, q4, q5⟩ := q
        have b1 := beq_false_of_ne q1
        have b2 := beq_false_of_ne q2
        have b3 := beq_false_of_ne q3
        have b4 := beq_false_of_ne q4
        have b5 := beq_false_of_ne q5
        clear hw q1 q2 q3 q4 q5
        by_cases h35 : ((s[k]'hlt).toNat : Int) = 35
        · obtain ⟨hst, hpos⟩ := st_cm hkl h35
          have hnx := blT_go hst (by omega)
          rw [List.drop_drop] at hnx
          have hle := rn_le cmI (s.data.toList.drop k)
          rw [List.length_drop, HSZ.out] at hle
          have he := atE_in (f := rn cmI) (l := s.data.toList) (k := k) (by omega)
          have hI := HI.out
          generalize rn cmI (s.data.toList.drop k) = m at *
          have HI2 := Lib.hid (show (k + m) + blT (s.data.toList.drop (k + m)) = N by omega)
          have HE := Lib.hid he
          clear hst hnx hI he hx hkl hw2 HI
          go_wp2_with fail
          (with_reducible refine (end_any inComment_tells s hs k _ _ _ (HV.out.draws n)).mono ?_)
          rintro e w2 ⟨rfl, r, rfl⟩
          rw [HE.out]
          go_wp2_with fail
          go_roundw
          case rel => exact ⟨k + m, by omega, HI2, by go_num, _, rfl⟩
          case measure => simp [intOf]; omega
        · have b6 := beq_false_of_ne h35
          have hst := st_else hkl hw2 h35
          have hp := hp_mk s k
          have HP := Lib.hid hp
          clear h35 hw2 hx hp
          cases hm : mkL.isPrefixOf (s.data.toList.drop k)
          · rw [hm, if_neg (by decide)] at hst
            have hI := HI.out
            rw [blT_stop hst] at hI
            have HM := Lib.hid hm
            obtain rfl : k = N := by omega
            clear hst hm hI HI hkl
            go_wp2_with fail
            (with_reducible refine (hp_any _ _ _).mono ?_)
            rintro e w2 ⟨rfl, rfl⟩
            rw [HP.out, HM.out]
            go_wp2_with fail
            rw [Exit.noGoto_ret]
            go_ret
            exact ⟨rfl, below_drewN hbel _⟩
          · rw [hm, if_pos rfl] at hst
            have hnx := blT_go hst (by omega)
            rw [List.drop_drop] at hnx
            have hle : 3 ≤ s.size - k := by have := st_le (s.data.toList.drop k); rw [List.length_drop, HSZ.out] at this; omega
            have hI := HI.out
            have HI2 := Lib.hid (show (k + 3) + blT (s.data.toList.drop (k + 3)) = N by omega)
            have HM := Lib.hid hm
            clear hst hnx hI hm HI hkl
            go_wp2_with fail
            (with_reducible refine (hp_any _ _ _).mono ?_)
            rintro e w2 ⟨rfl, rfl⟩
            rw [HP.out, HM.out]
            go_wp2_with fail
            go_roundw
            case rel => exact ⟨k + 3, by omega, HI2, by go_num, _, rfl⟩
            case measure => simp [intOf]; omega
    · have hI := HI.out
      rw [List.drop_eq_nil_of_le (by rw [HSZ.out]; omega), blT_nil] at hI
      obtain rfl : k = N := by omega
      clear hI HI
      go_wp2_with fail
      rw [Exit.noGoto_ret]
      go_ret
      exact ⟨rfl, below_drewN hbel _⟩
end Go.Proofs.YtjfhcgolgabkkaaDoor.Sc
