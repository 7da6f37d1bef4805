/- Contracts of the reference's functions of layer 4: Name, nothing, Blank (cut out of ScanH, ScanI). -/
import Derived.Test.YtcedfonkahffcaaGreatScanC
import Derived.Test.YtcedfonkahffcaaGreatScanR
namespace Go.Proofs.YtcedfonkahffcaaGreat.Sc
open Go.RowKit
set_option linter.unusedVariables false

set_option maxHeartbeats 400000 in
theorem rname_any (s : ByteArray) (i : Int) (w : World) (hs : s.size ≤ 9223372036854775807) :
    Calls Tryz.prog 21 #[.string s, .int .i64 i] w fun e w' => e = .returned (.int .i64 (atE nmT s.data.toList i)) ∧ w = w' := by
  have ls : s.data.toList.length = s.size := (Lib.size_eq s).symm
  by_cases h0 : i < 0
  · rw [atE_out (.inl h0)]
    clear ls
    go_enter Tryz.func21, Tryz.ntmps21
    go_wp2_with fail
    go_ret
    exact ⟨rfl, rfl⟩
  obtain ⟨n, rfl⟩ := Int.eq_ofNat_of_zero_le (a := i) (by omega)
  by_cases h1 : n < s.size
  · have hl : n < s.data.toList.length := by omega
    have e1 : nmT (s.data.toList.drop n) = if bgI (s[n]'h1).toNat = true then rn nmI (s.data.toList.drop n) else 0 := by
      rw [List.drop_eq_getElem_cons hl, nmT_cons]; rfl
    rw [atE_in (by omega), e1]
    clear e1 hl
    cases hb : bgI (s[n]'h1).toNat
    · rw [if_neg (by decide)]
      have rb := fun w => rbegins_b (w := w) hb
      clear hb ls
      go_enter Tryz.func21, Tryz.ntmps21
      go_wp2_with fail
      (with_reducible refine (rb _).mono ?_)
      rintro e w' ⟨rfl, rfl⟩
      go_wp2_with fail
      go_loop [1] (fun v => v = .int .i64 (n : Int)) (fun _ => 0)
      case atStart => rfl
      case round =>
        subst hrel
        go_wp2_with fail
        go_ret
        exact ⟨by simp, rfl⟩
    · rw [if_pos rfl]
      have rb := fun w => rbegins_b (w := w) hb
      have hR := runs_of nmI s (n := n) (by omega)
      obtain ⟨N, hN⟩ : ∃ N : Nat, N = n + rn nmI (s.data.toList.drop n) := ⟨_, rfl⟩
      rw [show ((n : Int) + (rn nmI (s.data.toList.drop n) : Int)) = (N : Int) by omega]
      rw [← hN] at hR
      clear hN ls hb
      have hlo := hR.lo
      have hhi := hR.hi
      have HR := Lib.hid hR
      clear hR
      go_enter Tryz.func21, Tryz.ntmps21
      go_wp2_with fail
      (with_reducible refine (rb _).mono ?_)
      rintro e w' ⟨rfl, rfl⟩
      clear rb
      go_wp2_with fail
      go_loop [1] (fun v => ∃ k : Nat, n ≤ k ∧ k ≤ N ∧ v = .int .i64 (k : Int)) (fun v => N - (intOf v).toNat)
      case atStart => exact ⟨n, Nat.le_refl _, hlo, rfl⟩
      case round =>
        obtain ⟨k, k1, k2, rfl⟩ := hrel
        by_cases hlt : k < N
        · obtain ⟨hk, hd⟩ := HR.out.keeps k k1 hlt
          cases hb : bgI (s[k]'hk).toNat
          · have rb := fun w => rbegins_b (w := w) hb
            unfold nmI at hd
            rw [hb, Bool.false_or] at hd
            have hd2 : 48 ≤ ((s[k]'hk).toNat : Int) ∧ ((s[k]'hk).toNat : Int) ≤ 57 := by unfold dgI at hd; exact of_decide_eq_true hd
            have hd3 : ¬ ((s[k]'hk).toNat : Int) < 48 := by omega
            have hd4 : ¬ 57 < ((s[k]'hk).toNat : Int) := by omega
            clear hd hb hd2
            go_wp2_with fail
            (with_reducible refine (rb _).mono ?_)
            rintro e w' ⟨rfl, rfl⟩
            go_wp2_with fail
            go_round
            case rel => exact ⟨k + 1, by omega, by omega, by go_num⟩
            case measure => simp [intOf]; omega
          · have rb := fun w => rbegins_b (w := w) hb
            clear hd hb
            go_wp2_with fail
            (with_reducible refine (rb _).mono ?_)
            rintro e w' ⟨rfl, rfl⟩
            go_wp2_with fail
            go_round
            case rel => exact ⟨k + 1, by omega, by omega, by go_num⟩
            case measure => simp [intOf]; omega
        · obtain rfl : k = N := by omega
          by_cases hk : k < s.size
          · have hd := HR.out.stops hk
            unfold nmI at hd
            rw [Bool.or_eq_false_iff] at hd
            obtain ⟨hb, hd⟩ := hd
            have rb := fun w => rbegins_b (w := w) hb
            unfold dgI at hd
            have hd2 := of_decide_eq_false hd
            clear hd hb
            by_cases g1 : ((s[k]'hk).toNat : Int) < 48
            · clear hd2
              go_wp2_with fail
              (with_reducible refine (rb _).mono ?_)
              rintro e w' ⟨rfl, rfl⟩
              go_wp2_with fail
              go_ret
              exact ⟨rfl, rfl⟩
            · have g2 : 57 < ((s[k]'hk).toNat : Int) := by omega
              clear hd2
              go_wp2_with fail
              (with_reducible refine (rb _).mono ?_)
              rintro e w' ⟨rfl, rfl⟩
              go_wp2_with fail
              go_ret
              exact ⟨rfl, rfl⟩
          · have hk2 : ¬ (k : Int) < (s.size : Int) := by omega
            go_wp2_with fail
            go_ret
            exact ⟨rfl, rfl⟩
  · have e1 : atE nmT s.data.toList (n : Int) = n := by
      by_cases h2 : s.size < n
      · exact atE_out (.inr (by omega))
      · rw [atE_in (by omega), List.drop_eq_nil_of_le (by omega)]; simp [nmT]
    rw [e1]
    clear e1 ls
    have h2 : (s.size : Int) ≤ (n : Int) := by omega
    go_enter Tryz.func21, Tryz.ntmps21
    go_wp2_with fail
    go_ret
    exact ⟨rfl, rfl⟩

theorem mk_iff (l : List UInt8) (k : Nat) : mkL.isPrefixOf (l.drop k) = true ↔ ∃ h : k + 2 < l.length, ((l[k]'(by omega)).toNat : Int) = 239 ∧ ((l[k + 1]'(by omega)).toNat : Int) = 187 ∧ ((l[k + 2]'h).toNat : Int) = 191 := by
  have q : ∀ (u : UInt8) (n : Nat), n < 256 → (((u.toNat : Nat) : Int) = n ↔ UInt8.ofNat n = u) := fun u n hn => by
    constructor
    · intro h; apply UInt8.toNat_inj.1; rw [UInt8.toNat_ofNat']; omega
    · intro h; rw [← h, UInt8.toNat_ofNat']; omega
  by_cases h : k + 2 < l.length
  · rw [List.drop_eq_getElem_cons (by omega), List.drop_eq_getElem_cons (by omega), List.drop_eq_getElem_cons h]
    have q1 := q (l[k]'(by omega)) 239 (by decide)
    have q2 := q (l[k + 1]'(by omega)) 187 (by decide)
    have q3 := q (l[k + 2]'h) 191 (by decide)
    have e : mkL.isPrefixOf (l[k]'(by omega) :: l[k + 1]'(by omega) :: l[k + 2]'h :: l.drop (k + 2 + 1)) = (((239 : UInt8) == l[k]'(by omega)) && (((187 : UInt8) == l[k + 1]'(by omega)) && (((191 : UInt8) == l[k + 2]'h) && true))) := rfl
    rw [e]
    simp only [Bool.and_true, Bool.and_eq_true, beq_iff_eq]
    constructor
    · rintro ⟨a1, a2, a3⟩
      exact ⟨h, q1.2 a1, q2.2 a2, q3.2 a3⟩
    · rintro ⟨_, a1, a2, a3⟩
      exact ⟨q1.1 a1, q2.1 a2, q3.1 a3⟩
  · constructor
    · intro e
      have := (List.isPrefixOf_iff_prefix.1 e).length_le
      rw [List.length_drop] at this
      simp [mkL] at this
      omega
    · rintro ⟨h1, _⟩; omega

set_option maxHeartbeats 1000000 in
set_option maxRecDepth 100000 in
theorem nothing_any (s : ByteArray) (k : Nat) (hk : k < s.size) (w : World) (hs : s.size ≤ 9223372036854775807) :
    Calls Tryz.prog 49 #[.string s, .int .i64 (k : Int)] w fun e w' => e = .returned (.int .i64 ((st (s.data.toList.drop k) : Nat) : Int)) ∧ w = w' := by
  have ls : s.data.toList.length = s.size := (Lib.size_eq s).symm
  have hkl : k < s.data.toList.length := by omega
  by_cases hw : wsI (s[k]'hk).toNat = true
  · rw [st_ws hkl hw]
    have hc : ((s[k]'hk).toNat : Int) = 9 ∨ ((s[k]'hk).toNat : Int) = 10 ∨ ((s[k]'hk).toNat : Int) = 13 ∨ ((s[k]'hk).toNat : Int) = 32 ∨ ((s[k]'hk).toNat : Int) = 44 := by simpa [wsI] using hw
    clear hw ls hkl
    rcases hc with hc | hc | hc | hc | hc
    all_goals
      go_enter Tryz.func49, Tryz.ntmps49
      go_wp2_with fail
      go_ret
      exact ⟨rfl, rfl⟩
  have hw2 : wsI (s[k]'hk).toNat = false := by simpa using hw
  have q : ¬ ((s[k]'hk).toNat : Int) = 9 ∧ ¬ ((s[k]'hk).toNat : Int) = 10 ∧ ¬ ((s[k]'hk).toNat : Int) = 13 ∧ ¬ ((s[k]'hk).toNat : Int) = 32 ∧ ¬ ((s[k]'hk).toNat : Int) = 44 := by simpa [wsI] using hw
  obtain ⟨q1, q2, q3, q4, q5⟩ := q
  have b1 := beq_false_of_ne q1
  have b2 := beq_false_of_ne q2
  have b3 := beq_false_of_ne q3
  have b4 := beq_false_of_ne q4
  have b5 := beq_false_of_ne q5
  clear hw q1 q2 q3 q4 q5
  by_cases h35 : ((s[k]'hk).toNat : Int) = 35
  · rw [(st_cm hkl h35).1]
    have hR := runs_of cmI s (n := k) (by omega)
    obtain ⟨m, hm⟩ : ∃ m : Nat, m = rn cmI (s.data.toList.drop k) := ⟨_, rfl⟩
    rw [← hm] at hR ⊢
    have hhi := hR.hi
    have HR := Lib.hid hR
    have b6 : (((s[k]'hk).toNat : Int) == 239) = false := beq_false_of_ne (by omega)
    clear hR hm hw2 hkl ls b1 b2 b3 b4 b5
    by_cases g3 : (3 : Int) ≤ (s.size : Int) - (k : Int)
    all_goals
      go_enter Tryz.func49, Tryz.ntmps49
      go_wp2_with fail
      go_loop [6] (fun v => ∃ j : Nat, j ≤ m ∧ v = .int .i64 (j : Int)) (fun v => m - (intOf v).toNat)
      case atStart => exact ⟨0, Nat.zero_le _, rfl⟩
      case round =>
        obtain ⟨j, j1, rfl⟩ := hrel
        by_cases hlt : j < m
        · obtain ⟨h1, h2⟩ := HR.out.keeps (k + j) (by omega) (by omega)
          have h3 : ¬ ((s[k + j]'h1).toNat : Int) = 10 ∧ ¬ ((s[k + j]'h1).toNat : Int) = 13 := by unfold cmI at h2; exact of_decide_eq_true h2
          obtain ⟨h4, h5⟩ := h3
          have c1 : (((s[k + j]'h1).toNat : Int) != 10) = true := by simpa using h4
          have c2 : (((s[k + j]'h1).toNat : Int) != 13) = true := by simpa using h5
          clear h2 h4 h5
          go_wp2_with fail
          go_round
          case rel => exact ⟨j + 1, by omega, by go_num⟩
          case measure => simp [intOf]; omega
        · obtain rfl : j = m := by omega
          by_cases h1 : k + j < s.size
          · have h2 := HR.out.stops h1
            have h3 : ((s[k + j]'h1).toNat : Int) = 10 ∨ ((s[k + j]'h1).toNat : Int) = 13 := by
              unfold cmI at h2; have := of_decide_eq_false h2; omega
            clear h2
            rcases h3 with h3 | h3
            · go_wp2_with fail
              go_ret
              exact ⟨rfl, rfl⟩
            · go_wp2_with fail
              go_ret
              exact ⟨rfl, rfl⟩
          · have h2 : ¬ (k : Int) + (j : Int) < (s.size : Int) := by omega
            go_wp2_with fail
            go_ret
            exact ⟨rfl, rfl⟩
  rw [st_else hkl hw2 h35]
  have b6 := beq_false_of_ne h35
  clear h35 hw2
  by_cases hm : mkL.isPrefixOf (s.data.toList.drop k) = true
  · rw [if_pos hm]
    obtain ⟨h1, h2, h3, h4⟩ := (mk_iff _ _).1 hm
    have g1 : k + 2 < s.size := by omega
    have g2 : k + 1 < s.size := by omega
    have m1 : ((s[k]'hk).toNat : Int) = 239 := h2
    have m2 : ((s[k + 1]'g2).toNat : Int) = 187 := h3
    have m3 : ((s[k + 2]'g1).toNat : Int) = 191 := h4
    have g3 : (3 : Int) ≤ (s.size : Int) - (k : Int) := by omega
    clear h1 h2 h3 h4 hm ls hkl b1 b2 b3 b4 b5 b6
    go_enter Tryz.func49, Tryz.ntmps49
    go_wp2_with fail
    go_ret
    exact ⟨rfl, rfl⟩
  · rw [if_neg hm]
    have hm2 : ∀ h : k + 2 < s.size, ¬ (((s[k]'hk).toNat : Int) = 239 ∧ ((s[k + 1]'(Nat.lt_of_succ_lt h)).toNat : Int) = 187 ∧ ((s[k + 2]'h).toNat : Int) = 191) := fun h e => hm ((mk_iff _ _).2 ⟨by omega, e⟩)
    clear hm ls hkl
    by_cases g3 : (3 : Int) ≤ (s.size : Int) - (k : Int)
    · have g1 : k + 2 < s.size := by omega
      have g2 : k + 1 < s.size := by omega
      have hm3 := hm2 g1
      clear hm2
      by_cases m1 : ((s[k]'hk).toNat : Int) = 239
      · by_cases m2 : ((s[k + 1]'g2).toNat : Int) = 187
        · have m3 : ¬ ((s[k + 2]'g1).toNat : Int) = 191 := fun e => hm3 ⟨m1, m2, e⟩
          have d3 := beq_false_of_ne m3
          clear m3 hm3 b1 b2 b3 b4 b5 b6
          go_enter Tryz.func49, Tryz.ntmps49
          go_wp2_with fail
          go_loop [6] (fun v => v = .int .i64 0) (fun _ => 0)
          case atStart => rfl
          case round =>
            subst hrel
            go_wp2_with fail
            go_ret
            exact ⟨rfl, rfl⟩
        · have d2 := beq_false_of_ne m2
          clear m2 hm3 b1 b2 b3 b4 b5 b6
          go_enter Tryz.func49, Tryz.ntmps49
          go_wp2_with fail
          go_loop [6] (fun v => v = .int .i64 0) (fun _ => 0)
          case atStart => rfl
          case round =>
            subst hrel
            go_wp2_with fail
            go_ret
            exact ⟨rfl, rfl⟩
      · have d1 := beq_false_of_ne m1
        clear m1 hm3
        go_enter Tryz.func49, Tryz.ntmps49
        go_wp2_with fail
        go_loop [6] (fun v => v = .int .i64 0) (fun _ => 0)
        case atStart => rfl
        case round =>
          subst hrel
          go_wp2_with fail
          go_ret
          exact ⟨rfl, rfl⟩
    · clear hm2
      go_enter Tryz.func49, Tryz.ntmps49
      go_wp2_with fail
      go_loop [6] (fun v => v = .int .i64 0) (fun _ => 0)
      case atStart => rfl
      case round =>
        subst hrel
        go_wp2_with fail
        go_ret
        exact ⟨rfl, rfl⟩

set_option maxHeartbeats 400000 in
theorem rblank_any (s : ByteArray) (i : Int) (w : World) (hs : s.size ≤ 9223372036854775807) :
    Calls Tryz.prog 28 #[.string s, .int .i64 i] w fun e w' => e = .returned (.int .i64 (atE blT s.data.toList i)) ∧ w = w' := by
  have ls : s.data.toList.length = s.size := (Lib.size_eq s).symm
  by_cases h0 : i < 0
  · rw [atE_out (.inl h0)]
    clear ls
    go_enter Tryz.func28, Tryz.ntmps28
    go_wp2_with fail
    go_ret
    exact ⟨rfl, rfl⟩
  obtain ⟨a, rfl⟩ := Int.eq_ofNat_of_zero_le (a := i) (by omega)
  by_cases h1 : s.size < a
  · rw [atE_out (.inr (by omega))]
    clear ls
    go_enter Tryz.func28, Tryz.ntmps28
    go_wp2_with fail
    go_loop [1] (fun v => v = .int .i64 (a : Int)) (fun _ => 0)
    case atStart => rfl
    case round =>
      subst hrel
      go_wp2_with fail
      go_ret
      exact ⟨rfl, rfl⟩
  have ha : a ≤ s.size := by omega
  rw [atE_in (by omega)]
  obtain ⟨N, hN⟩ : ∃ N : Nat, N = a + blT (s.data.toList.drop a) := ⟨_, rfl⟩
  rw [show ((a : Int) + (blT (s.data.toList.drop a) : Int)) = (N : Int) by omega]
  have HN := Lib.hid hN
  have HSZ := Lib.hid ls
  clear hN ls
  go_enter Tryz.func28, Tryz.ntmps28
  go_wp2_with fail
  go_loop [1] (fun v => ∃ k : Nat, k ≤ s.size ∧ Hid (k + blT (s.data.toList.drop k) = N) ∧ v = .int .i64 (k : Int)) (fun v => s.size - (intOf v).toNat)
  case atStart => exact ⟨a, ha, Lib.hid HN.out.symm, rfl⟩
  case round =>
    obtain ⟨k, hk, HI, rfl⟩ := hrel
    by_cases hlt : k < s.size
    · have hle := st_le (s.data.toList.drop k)
      rw [List.length_drop, HSZ.out] at hle
      have hI := HI.out
      have rn_ := nothing_any s k hlt
      by_cases h3 : st (s.data.toList.drop k) = 0
      · rw [blT_stop h3] at hI
        rw [h3] at rn_
        obtain rfl : k = N := by omega
        clear h3 hI HI hle
        go_wp2_with fail
        (with_reducible refine (rn_ _ hs).mono ?_)
        rintro e w' ⟨rfl, rfl⟩
        go_wp2_with fail
        go_ret
        exact ⟨rfl, rfl⟩
      · have hnx := blT_go (l := s.data.toList.drop k) rfl h3
        rw [List.drop_drop] at hnx
        generalize st (s.data.toList.drop k) = m at *
        have HI2 := Lib.hid (show (k + m) + blT (s.data.toList.drop (k + m)) = N by omega)
        have t0 : ((m : Int) == 0) = false := beq_false_of_ne (by omega)
        clear hnx hI HI
        go_wp2_with fail
        (with_reducible refine (rn_ _ hs).mono ?_)
        rintro e w' ⟨rfl, rfl⟩
        go_wp2_with fail
        go_round
        case rel => exact ⟨k + m, by omega, HI2, by go_num⟩
        case measure => simp [intOf]; omega
    · have hI := HI.out
      rw [List.drop_eq_nil_of_le (by rw [HSZ.out]; omega), blT_nil] at hI
      obtain rfl : k = N := by omega
      clear hI HI
      have hk2 : ¬ (k : Int) < (s.size : Int) := by omega
      go_wp2_with fail
      go_ret
      exact ⟨rfl, rfl⟩

end Go.Proofs.YtcedfonkahffcaaGreat.Sc
