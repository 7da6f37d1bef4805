/- Contracts of the reference's functions of layer 5: at, whole, Number, Whole. -/
import Derived.Test.YtcedfonkahffcaaGreatNumM
import Derived.Test.YtcedfonkahffcaaGreatScanR
import Derived.OwnWalk
import Derived.Deep.DeepCutAuto
import Derived.IntWalk
import Derived.Test.YtcedfonkahffcaaGreatNumE
namespace Go.Proofs.YtcedfonkahffcaaGreat.Sc
open Go.RowKit
set_option linter.unusedVariables false

theorem inS_mem {S : List UInt8} {c : Int} {k : Nat} (h : k < S.length) (e : ((S[k]).toNat : Int) = c) : inS S c = true := by
  unfold inS; rw [List.any_eq_true]; exact ⟨S[k], List.getElem_mem h, by rw [e]; simp⟩
theorem inS_no {S : List UInt8} {c : Int} (h : ∀ (k : Nat) (hk : k < S.length), ((S[k]).toNat : Int) ≠ c) : inS S c = false := by
  cases e : inS S c
  · rfl
  · unfold inS at e; rw [List.any_eq_true] at e
    obtain ⟨x, hx, he⟩ := e
    obtain ⟨k, hk, rfl⟩ := List.getElem_of_mem hx
    exact absurd (by simpa using he) (h k hk)
theorem sd_in' {p : Int → Bool} {s : ByteArray} {k : Nat} (h : k < s.size) : sd p s.data.toList k = p ((s[k]).toNat : Int) := by
  have hsz : s.data.toList.length = s.size := (Lib.size_eq s).symm
  unfold sd
  rw [decide_eq_true (by omega), Bool.true_and, Int.toNat_natCast, List.getD_eq_getElem?_getD, List.getElem?_eq_getElem (by omega)]
  rfl

set_option maxHeartbeats 400000 in
theorem rat_any (s set : ByteArray) (i : Int) (w : World) (h0 : 0 ≤ i) (hset : set.size ≤ 1000) {v : Bool} (hv : sd (inS set.data.toList) s.data.toList i = v) :
    Calls Tryz.prog 39 #[.string s, .int .i64 i, .string set] w fun e w' => e = .returned (.bool v) ∧ Below w.heap.size w w' := by
  have hsz : s.data.toList.length = s.size := (Lib.size_eq s).symm
  have hst : set.data.toList.length = set.size := (Lib.size_eq set).symm
  obtain ⟨n, rfl⟩ := Int.eq_ofNat_of_zero_le h0
  by_cases hn : n < s.size
  · rw [sd_in' hn] at hv
    have hyes : ∀ (k : Nat) (hk : k < set.size), ((set[k]).toNat : Int) = ((s[n]).toNat : Int) → v = true := fun k hk e => by
      rw [← hv]; exact inS_mem (k := k) (by omega) e
    have hno : (∀ (k : Nat) (hk : k < set.size), ((set[k]).toNat : Int) ≠ ((s[n]).toNat : Int)) → v = false := fun h => by
      rw [← hv]; exact inS_no (fun k hk => h k (by omega))
    have HY := Lib.hid hyes
    have HO := Lib.hid hno
    clear hyes hno hv hsz hst
    go_enter Tryz.func39, Tryz.ntmps39
    go_wp2_with fail
    go_loopw [7] (fun x wx => ∃ k : Nat, k ≤ set.size ∧ x = .int .i64 k ∧ Hid (∀ (j : Nat) (hj : j < set.size), j < k → ((set[j]).toNat : Int) ≠ ((s[n]).toNat : Int)) ∧ ∃ m, wx = w.drewN m) (fun x _ => set.size - (intOf x).toNat)
    case atStart => exact ⟨0, Nat.zero_le _, rfl, Lib.hid (fun j hj h => by omega), 0, rfl⟩
    case round =>
      obtain ⟨k, hk, rfl, HI, m, rfl⟩ := hrel
      by_cases hlt : k < set.size
      · by_cases heq : ((set[k]).toNat : Int) = ((s[n]).toNat : Int)
        · have hvt := HY.out k hlt heq
          subst hvt
          have hb : (((s[n]).toNat : Int) == ((set[k]).toNat : Int)) = true := by rw [heq]; simp
          clear heq
          go_wp2_with fail
          go_quiet (fail)
          go_wp2_with fail
          go_ret
          exact ⟨rfl, below_drewN (below_drewN (Below.refl _ _) _) _⟩
        · have HQ := Lib.hid heq
          have hb : (((s[n]).toNat : Int) == ((set[k]).toNat : Int)) = false := beq_false_of_ne (fun e => heq e.symm)
          clear heq
          go_wp2_with fail
          go_quiet (fail)
          go_wp2_with fail
          go_roundw
          case rel =>
            refine ⟨k + 1, by omega, by go_num, Lib.hid (fun j hj h => ?_), _, rfl⟩
            rcases Nat.lt_or_ge j k with q | q
            · exact HI.out j hj q
            · obtain rfl : j = k := by omega
              exact HQ.out
          case measure => simp [intOf]; omega
      · have hvf := HO.out (fun j hj => HI.out j hj (by omega))
        subst hvf
        go_wp2_with fail
        go_ret
        exact ⟨rfl, below_drewN (Below.refl _ _) _⟩
  · rw [sd_out (.inr (by omega))] at hv
    subst hv
    clear hsz hst
    have d1 : ¬ (n : Int) < (s.size : Int) := by omega
    go_enter Tryz.func39, Tryz.ntmps39
    go_wp2_with fail
    go_loop [7] (fun x => x = .int .i64 0) (fun _ => 0)
    case atStart => rfl
    case round =>
      subst hrel
      go_wp2_with fail
      all_goals
        go_ret
        exact ⟨rfl, Below.refl _ _⟩

/-- Where the whole part ends. -/
def whE (l : List UInt8) (j : Int) : Int := if sd (inS zeroB) l j = true then j + 1 else dgE l j
set_option maxHeartbeats 400000 in
theorem rwhole_any (s : ByteArray) (i : Int) (w : World) (h0 : 0 ≤ i) (hs : s.size ≤ 1000000) (hi : i ≤ 1000000) :
    Calls Tryz.prog 40 #[.string s, .int .i64 i] w fun e w' => e = .returned (.int .i64 (whE s.data.toList i)) ∧ Below w.heap.size w w' := by
  unfold whE
  have rd := fun w => rdigits_any s i w (by omega)
  have ed : atE (rn dgI) s.data.toList i = dgE s.data.toList i := rfl
  rw [ed] at rd
  clear ed
  cases hz : sd (inS zeroB) s.data.toList i
  · have ra := fun w => rat_any s ⟨#[48]⟩ i w h0 (by decide) hz
    rw [if_neg (by decide)]
    clear hz
    generalize dgE s.data.toList i = D at rd ⊢
    go_enter Tryz.func40, Tryz.ntmps40
    go_wp2_with fail
    (with_reducible refine (ra _).mono ?_)
    rintro e w1 ⟨rfl, hb1⟩
    go_wp2_with fail
    (with_reducible refine (rd _).mono ?_)
    rintro e w' ⟨rfl, rfl⟩
    go_wp2_with fail
    go_ret
    exact ⟨rfl, hb1⟩
  · have ra := fun w => rat_any s ⟨#[48]⟩ i w h0 (by decide) hz
    rw [if_pos rfl]
    clear hz
    go_enter Tryz.func40, Tryz.ntmps40
    go_wp2_with fail
    (with_reducible refine (ra _).mono ?_)
    rintro e w1 ⟨rfl, hb1⟩
    go_wp2_with fail
    go_ret
    exact ⟨rfl, hb1⟩
end Go.Proofs.YtcedfonkahffcaaGreat.Sc

/- The contract of the reference's Number and Whole. -/
namespace Go.Proofs.YtcedfonkahffcaaGreat.Sc
open Go.RowKit
set_option linter.unusedVariables false

/-- What is known where ways meet: a place and a kind. -/
def Meet (l : List UInt8) (i : Int) (F : Int → Int → Nm) (w : World) (s1 s7 : Value) (wx : World) : Prop :=
  ∃ j k : Int, s1 = .int .i64 j ∧ s7 = .int .i64 k ∧ 0 ≤ j ∧ j ≤ l.length ∧ numA l i = F k j ∧ Below w.heap.size w wx
theorem meet_mk {l : List UInt8} {i : Int} {F : Int → Int → Nm} {w : World} {j k : Int} {wx : World} (h0 : 0 ≤ j) (h1 : j ≤ l.length) (hn : numA l i = F k j) (hb : Below w.heap.size w wx) :
    Meet l i F w (.int .i64 j) (.int .i64 k) wx := ⟨j, k, rfl, rfl, h0, h1, hn, hb⟩

theorem wh_cases {l : List UInt8} {j : Int} (h : j ≤ l.length) : (whE l j = j ∧ bodyA l j = ⟨0, j, false⟩) ∨ (j < whE l j ∧ 0 ≤ whE l j ∧ whE l j ≤ l.length ∧ bodyA l j = fracA l (whE l j)) := by
  unfold whE
  cases e : sd (inS zeroB) l j
  · rw [if_neg (by decide)]
    cases d : sd dgI l j
    · exact .inl ⟨dgE_no d, bodyA_w e d⟩
    · have := (sd_true.1 d).1
      have h2 := dgE_lt.2 d
      exact .inr ⟨h2, by omega, dgE_le h, bodyA_y e d⟩
  · have := sd_true.1 e
    rw [if_pos rfl]
    exact .inr ⟨by omega, by omega, by omega, bodyA_z e⟩

set_option maxHeartbeats 1000000 in
set_option maxRecDepth 100000 in
theorem rnumber_any (s : ByteArray) (i : Int) (w : World) (hs : s.size ≤ 1000000) :
    Calls Tryz.prog 23 #[.string s, .int .i64 i] w fun e w' => e = (numA s.data.toList i).end ∧ Below w.heap.size w w' := by
  have hsz : s.data.toList.length = s.size := (Lib.size_eq s).symm
  by_cases h0 : i < 0
  · rw [num_out (.inl h0)]
    clear hsz
    go_enter Tryz.func23, Tryz.ntmps23
    go_wp2_with fail
    go_ret3
    exact ⟨rfl, Below.refl _ _⟩
  by_cases h1 : (s.size : Int) ≤ i
  · rw [num_out (.inr (by omega))]
    clear hsz
    go_enter Tryz.func23, Tryz.ntmps23
    go_wp2_with fail
    go_ret3
    exact ⟨rfl, Below.refl _ _⟩
  have hL : (s.data.toList.length : Int) ≤ 1000000 := by omega
  have hi : i ≤ (s.data.toList.length : Int) := by omega
  have hi0 : 0 ≤ i := by omega
  clear hsz
  obtain ⟨m0, hm0⟩ : ∃ v, sd (inS minusB) s.data.toList i = v := ⟨_, rfl⟩
  have ra := fun w => rat_any s ⟨#[45]⟩ i w hi0 (by decide) hm0
  have hmb := minus_le hi
  have hn : numA s.data.toList i = bodyA s.data.toList (minusA s.data.toList i) := rfl
  have he1 : minusA s.data.toList i = adv m0 i := by unfold minusA; rw [hm0]
  obtain ⟨j1, e1⟩ : ∃ j, minusA s.data.toList i = j := ⟨_, rfl⟩
  rw [e1] at hmb hn he1
  have HE := Lib.hid he1
  have HN := Lib.hid hn
  clear e1 he1 hn hm0
  go_enter Tryz.func23, Tryz.ntmps23
  go_upto_if 26 with ((with_reducible refine (ra _).mono ?_); rintro e w1 ⟨rfl, hb1⟩)
  go_cut [1] (fun s1 wx => s1 = .int .i64 j1 ∧ Below w.heap.size w wx)
  case first =>
    cases m0
    · go_wp2_with fail
      go_meet
      exact ⟨by rw [HE.out]; rfl, hb1⟩
    · go_wp2_with fail
      go_meet
      exact ⟨by rw [HE.out]; rfl, hb1⟩
  case rest =>
    obtain ⟨rfl, hbc⟩ := hcut
    clear ra HE hb1
    have rw1 := fun w => rwhole_any s j1 w (by omega) hs (by omega)
    have hn := HN.out
    clear HN
    rcases wh_cases hmb.2 with ⟨q1, q2⟩ | ⟨q1, q2, q3, q4⟩
    · rw [q1] at rw1
      rw [q2] at hn
      have HN := Lib.hid hn
      clear hn q1 q2
      go_wp2_with fail
      (with_reducible refine (rw1 _).mono ?_)
      rintro e w2 ⟨rfl, hb2⟩
      go_wp2_with fail
      go_ret3
      exact ⟨by rw [HN.out]; rfl, bel_trans hbc hb2⟩
    · rw [q4] at hn
      clear q4
      generalize whE s.data.toList j1 = j2 at rw1 hn q1 q2 q3
      obtain ⟨v2, hv2⟩ : ∃ v, sd (inS dotB) s.data.toList j2 = v := ⟨_, rfl⟩
      have ra := fun w => rat_any s ⟨#[46]⟩ j2 w q2 (by decide) hv2
      have t1 : (j2 == j1) = false := beq_false_of_ne (by omega)
      have HN := Lib.hid hn
      have HV := Lib.hid hv2
      clear hn hv2
      go_upto_if 40 with (first | (go_at_call 40; (with_reducible refine (rw1 _).mono ?_); rintro e w2 ⟨rfl, hb2⟩) | (go_at_call 39; (with_reducible refine (ra _).mono ?_); rintro e w3 ⟨rfl, hb3⟩))
      have hb := bel_trans (bel_trans hbc hb2) hb3
      clear hbc hb2 hb3 ra rw1 t1
      go_cut [1, 7, 9] (fun s1 s7 s9 wx => Meet s.data.toList i (fun k j => expA k s.data.toList j) w s1 s7 wx)
      case first =>
        cases v2
        · go_wp2_with fail
          go_meet
          exact meet_mk q2 q3 (by rw [HN.out, fracA_n HV.out]) hb
        · have hx := (sd_true.1 HV.out).2.1
          have rd := fun w => rdigits_any s (j2 + 1) w (by omega)
          have ed : atE (rn dgI) s.data.toList (j2 + 1) = dgE s.data.toList (j2 + 1) := rfl
          rw [ed] at rd
          clear ed
          cases hd : sd dgI s.data.toList (j2 + 1)
          · rw [dgE_no hd] at rd
            have HD := Lib.hid hd
            clear hd
            go_wp2_with fail
            (with_reducible refine (rd _).mono ?_)
            rintro e w' ⟨rfl, rfl⟩
            go_wp2_with fail
            go_ret3
            exact ⟨by rw [HN.out, fracA_w HV.out HD.out]; rfl, hb⟩
          · have g1 := dgE_lt.2 hd
            have g2 := dgE_le (l := s.data.toList) (j := j2 + 1) (by omega)
            have HN2 := Lib.hid (HN.out.trans (fracA_y HV.out hd))
            generalize dgE s.data.toList (j2 + 1) = j3 at rd g1 g2 HN2
            have t2 : (j3 == j2 + 1) = false := beq_false_of_ne (by omega)
            clear hd
            go_wp2_with fail
            (with_reducible refine (rd _).mono ?_)
            rintro e w' ⟨rfl, rfl⟩
            go_wp2_with fail
            go_meet
            exact meet_mk (by omega) g2 HN2.out hb
      case rest =>
        obtain ⟨j3, k3, rfl, rfl, p1, p2, hn3, hb3⟩ := hcut
        clear HN HV hb q1 q2 q3 hmb
        obtain ⟨v3, hv3⟩ : ∃ v, sd (inS eB) s.data.toList j3 = v := ⟨_, rfl⟩
        have ra := fun w => rat_any s ⟨#[101, 69]⟩ j3 w p1 (by decide) hv3
        have HN := Lib.hid hn3
        have HV := Lib.hid hv3
        clear hn3 hv3
        go_upto_if 54 with ((with_reducible refine (ra _).mono ?_); rintro e w4 ⟨rfl, hb4⟩)
        have hb := bel_trans hb3 hb4
        clear hb3 hb4 ra
        go_cut [1, 7, 9, 12] (fun s1 s7 s9 s12 wx => Meet s.data.toList i (fun k j => finA k s.data.toList j) w s1 s7 wx)
        case first =>
          cases v3
          · go_wp2_with fail
            go_meet
            exact meet_mk p1 p2 (by rw [HN.out, expA_n HV.out]) hb
          · have hx := (sd_true.1 HV.out).2.1
            have hsl := sign_le (l := s.data.toList) (j := j3 + 1) (by omega)
            have hsg := sign_ge s.data.toList (j3 + 1)
            obtain ⟨v4, hv4⟩ : ∃ v, sd (inS signB) s.data.toList (j3 + 1) = v := ⟨_, rfl⟩
            have ra := fun w => rat_any s ⟨#[43, 45]⟩ (j3 + 1) w (by omega) (by decide) hv4
            have es : signA s.data.toList (j3 + 1) = adv v4 (j3 + 1) := by unfold signA; rw [hv4]
            obtain ⟨j4, ej4⟩ : ∃ j, signA s.data.toList (j3 + 1) = j := ⟨_, rfl⟩
            have rd := fun w => rdigits_any s j4 w (by omega)
            have ed : atE (rn dgI) s.data.toList j4 = dgE s.data.toList j4 := rfl
            rw [ed] at rd
            rw [ej4] at hsl hsg es
            have HS := Lib.hid es
            have HJ4 := Lib.hid ej4
            clear ed hv4 es ej4
            go_upto_if 60 with ((with_reducible refine (ra _).mono ?_); rintro e w5 ⟨rfl, hb5⟩)
            have hbb := bel_trans hb hb5
            clear hb hb5 ra
            go_cut [1] (fun s1 wx => s1 = .int .i64 j4 ∧ Below w.heap.size w wx)
            case first =>
              cases v4
              · go_wp2_with fail
                go_meet
                exact ⟨by rw [HS.out]; rfl, hbb⟩
              · go_wp2_with fail
                go_meet
                exact ⟨by rw [HS.out]; rfl, hbb⟩
            case rest =>
              obtain ⟨rfl, hb⟩ := hcut
              clear hbb HS
              cases hd : sd dgI s.data.toList j4
              · rw [dgE_no hd] at rd
                have HN2 := Lib.hid (HN.out.trans ((expA_w HV.out (by rw [HJ4.out]; exact hd)).trans (by rw [HJ4.out])))
                clear hd
                go_wp2_with fail
                (with_reducible refine (rd _).mono ?_)
                rintro e w' ⟨rfl, rfl⟩
                go_wp2_with fail
                go_ret3
                exact ⟨by rw [HN2.out]; rfl, hb⟩
              · have g1 := dgE_lt.2 hd
                have g2 := dgE_le hsl
                have HN2 := Lib.hid (HN.out.trans ((expA_y HV.out (by rw [HJ4.out]; exact hd)).trans (by rw [HJ4.out])))
                generalize dgE s.data.toList j4 = j5 at rd g1 g2 HN2
                have t2 : (j5 == j4) = false := beq_false_of_ne (by omega)
                clear hd
                go_wp2_with fail
                (with_reducible refine (rd _).mono ?_)
                rintro e w' ⟨rfl, rfl⟩
                go_wp2_with fail
                go_meet
                exact meet_mk (by omega) g2 HN2.out hb
        case rest =>
          obtain ⟨j6, k6, rfl, rfl, p3, p4, hn6, hb6⟩ := hcut
          clear HN HV hb p1 p2
          obtain ⟨v6, hv6⟩ : ∃ v, sd (inS moreB) s.data.toList j6 = v := ⟨_, rfl⟩
          have ra := fun w => rat_any s ⟨#[48, 49, 50, 51, 52, 53, 54, 55, 56, 57, 46]⟩ j6 w p3 (by decide) hv6
          have hor := sd_or (inS moreB) bgI s.data.toList j6
          rw [hv6] at hor
          cases v6
          · by_cases hlt : j6 < s.size
            · obtain ⟨n, rfl⟩ := Int.eq_ofNat_of_zero_le p3
              have hlt2 : n < s.size := by omega
              have rb := fun w => rbegins_any ((s[n]'hlt2).toNat : Int) w
              rw [sd_in' (p := bgI) hlt2] at hor
              cases hbg : bgI ((s[n]'hlt2).toNat : Int)
              all_goals
                rw [hbg] at rb hor
                have HN := Lib.hid hn6
                have HO := Lib.hid hor
                clear hn6 hor hv6 hbg
                go_wp2_with fail
                (with_reducible refine (ra _).mono ?_)
                rintro e w7 ⟨rfl, hb7⟩
                go_wp2_with fail
                (with_reducible refine (rb _).mono ?_)
                rintro e w' ⟨rfl, rfl⟩
                go_wp2_with fail
                go_ret3
                first
                  | exact ⟨by rw [HN.out, finA_f HO.out]; rfl, bel_trans hb6 hb7⟩
                  | exact ⟨by rw [HN.out, finA_t HO.out]; rfl, bel_trans hb6 hb7⟩
            · have hno : sd moreI s.data.toList j6 = false := sd_out (.inr (by have : s.data.toList.length = s.size := (Lib.size_eq s).symm
                                                                               omega))
              have HN := Lib.hid (hn6.trans (finA_f hno))
              clear hn6 hor hv6 hno
              go_wp2_with fail
              (with_reducible refine (ra _).mono ?_)
              rintro e w7 ⟨rfl, hb7⟩
              go_wp2_with fail
              go_ret3
              exact ⟨by rw [HN.out]; rfl, bel_trans hb6 hb7⟩
          · have HN := Lib.hid (hn6.trans (finA_t (hor.trans rfl)))
            clear hn6 hor hv6
            go_wp2_with fail
            (with_reducible refine (ra _).mono ?_)
            rintro e w7 ⟨rfl, hb7⟩
            go_wp2_with fail
            go_ret3
            exact ⟨by rw [HN.out]; rfl, bel_trans hb6 hb7⟩
end Go.Proofs.YtcedfonkahffcaaGreat.Sc
