/- The law MarkOnly: its walk. -/
import Derived.Test.YtpcijjdlppoblaaGreatDoorMarE
namespace Go.Proofs.YtpcijjdlppoblaaGreatDoor
open Go.RowKit
set_option linter.unusedVariables false
set_option maxRecDepth 100000

set_option maxHeartbeats 4000000 in
theorem only_law {w : World} {A A2 : Option Addr} {n c n2 c2 : Nat} {R : List Int} {ts : List Tq} (hl : R.length = n) (hc : n ≤ c) (hA : Ri w A R) (hl2 : ts.length = n2) (hc2 : n2 ≤ c2) (hn2 : n2 ≤ 9223372036854775807) (hv2 : ∀ t ∈ ts, t.v.size ≤ 9223372036854775807) (hA2 : Tr w A2 ts) (ht : TabR w) (hk : TabK w) (hq : Tab w) :
    Calls Tryz.prog 8 #[.slice A n c, .slice A2 n2 c2] w fun e w' => e = .returned (.bool true) ∧ Below w.heap.size w w' := by
  have HTR := Lib.hid ht
  have HTK := Lib.hid hk
  have HTQ := Lib.hid hq
  have HA := Lib.hid hA
  have HA2 := Lib.hid hA2
  have HL := Lib.hid hl
  have HL2 := Lib.hid hl2
  have HV2 := Lib.hid hv2
  have r1 := fun w h => fewF_any (w := w) (A := A2) (c := c2) h HL2.out hn2 HV2.out
  obtain ⟨X, is, hf⟩ := ful_ex R
  obtain ⟨L, hL⟩ : ∃ L, ts.map teQ = L := ⟨_, rfl⟩
  obtain ⟨r, hr⟩ : ∃ r, derB is X L = r := ⟨_, rfl⟩
  obtain ⟨O, hO⟩ : ∃ O, biL r X ts = O := ⟨_, rfl⟩
  obtain ⟨o, ho⟩ : ∃ o, O.isSome = o := ⟨_, rfl⟩
  obtain ⟨bs, hbs⟩ : ∃ bs, O.getD [] = bs := ⟨_, rfl⟩
  obtain ⟨m, hm⟩ : ∃ m, bs.length = m := ⟨_, rfl⟩
  obtain ⟨P, zp, f, hp⟩ := par_ex L
  obtain ⟨P', hP'⟩ : ∃ P', outR L P zp f = P' := ⟨_, rfl⟩
  obtain ⟨np, hnp⟩ : ∃ np, P'.length = np := ⟨_, rfl⟩
  obtain ⟨pz, hpz⟩ : ∃ pz, outZ L zp f = pz := ⟨_, rfl⟩
  have hLn : L.length = n2 := by rw [← hL, List.length_map, hl2]
  -- what follows of there being bits
  have hyes : o = true → pz = -1 ∧ np = n ∧ P' = R := fun e => by
    have hr1 : r = true := by
      cases r with
      | true => rfl
      | false =>
        have : O = none := hO.symm
        rw [this] at ho
        rw [← ho] at e; cases e
    rw [hr1] at hr
    have h1 := ful_par hf hr
    obtain ⟨e1, e2, e3⟩ := h1.det hp
    subst e1 e2 e3
    rw [outR_ok rfl] at hP'
    subst hP'
    exact ⟨by rw [← hpz]; exact outZ_ok rfl, by rw [← hnp, hl], rfl⟩
  have hno : o = false → m = 0 := fun e => by
    cases O with
    | none =>
      have : bs = [] := hbs.symm
      rw [← hm, this]; rfl
    | some q => rw [e] at ho; cases ho
  have HF := Lib.hid hf
  have HLL := Lib.hid hL
  have HR := Lib.hid hr
  have HO := Lib.hid hO
  have Ho := Lib.hid ho
  have Hbs := Lib.hid hbs
  have Hm := Lib.hid hm
  have HP := Lib.hid hp
  have HP' := Lib.hid hP'
  have HNP := Lib.hid hnp
  have HPZ := Lib.hid hpz
  have HLN := Lib.hid hLn
  have HYES := Lib.hid hyes
  have HNO := Lib.hid hno
  clear ht hk hq hA hA2 hl hl2 hv2 hf hL hr hO ho hbs hm hp hP' hnp hpz hLn hyes hno
  go_enter Tryz.func8, Tryz.ntmps8
  go_wp2_with fail
  ((with_reducible refine (awm_any _ HTR.out HTK.out HTQ.out).mono ?_))
  rintro e w1 ⟨rfl, hb1⟩
  have HB1 := Lib.hid hb1
  clear hb1
  go_wp2_with fail
  ((with_reducible refine (r1 _ (HA2.out.below HB1.out)).mono ?_))
  rintro e w2 ⟨b, rfl, hfew, rfl⟩
  cases b with
  | false =>
    clear hfew
    go_wp2_with fail
    go_ret
    exact ⟨rfl, HB1.out⟩
  | true =>
    obtain ⟨hn100, hsz⟩ := hfew rfl
    have HSZ := Lib.hid hsz
    clear hfew hsz r1
    by_cases h6 : 600 < n
    · have q6 : (600 : Int) < (n : Int) := by omega
      clear h6
      go_wp2_with fail
      go_ret
      exact ⟨rfl, HB1.out⟩
    have q6 : ¬ (600 : Int) < (n : Int) := by omega
    have r2 := fun w h h' => kall_any (w := w) (A := A2) (c := c2) HLL.out h h' HL2.out (by omega)
    have r3 := fun w B d h h' => parse_any (w := w) (A := B) (c := d) HP.out HP'.out HNP.out HPZ.out HLN.out (by omega) h h'
    have r4 := fun w h h' h1 h2 h3 => bits_any (w := w) (A := A) (A2 := A2) (c := c) (c2 := c2) HF.out HLL.out HR.out HO.out Ho.out Hbs.out Hm.out HL.out hc (by omega) h HL2.out hc2 (by omega) (fun t ht => Nat.le_trans (HSZ.out t ht) (by decide)) h' h1 h2 h3
    clear h6
    go_wp2_with fail
    ((with_reducible refine (r2 _ (HTK.out.below HB1.out) (HA2.out.below HB1.out)).mono ?_))
    rintro e w3 ⟨B3, d3, rfl, hb3, hr3, -⟩
    have HB3 := Lib.hid (bel_trans HB1.out hb3)
    have HR3 := Lib.hid hr3
    clear hb3 hr3
    go_wp2_with fail
    ((with_reducible refine (r3 _ _ _ HR3.out (HTR.out.below HB3.out)).mono ?_))
    rintro e w4 ⟨B4, d4, rfl, hb4, hr4, -⟩
    have HB4 := Lib.hid (bel_trans HB3.out hb4)
    have HR4 := Lib.hid hr4
    clear hb4 hr4 HR3
    go_wp2_with fail
    ((with_reducible refine (r4 _ (HA.out.below HB4.out) (HA2.out.below HB4.out) (HTR.out.below HB4.out) (HTK.out.below HB4.out) (HTQ.out.below HB4.out)).mono ?_))
    rintro e w5 ⟨B5, d5, rfl, hb5, -, -⟩
    have HB5 := Lib.hid (bel_trans HB4.out hb5)
    have HR5 := Lib.hid (HR4.out.below hb5)
    clear hb5 HR4 r2 r3 r4
    cases o with
    | false =>
      have hm0 := HNO.out rfl
      subst hm0
      go_wp2_with fail
      go_ret
      exact ⟨by first | rfl | simp, HB5.out⟩
    | true =>
      obtain ⟨e1, e2, e3⟩ := HYES.out rfl
      subst e1
      subst e2
      subst e3
      have t1 : ((np : Int) != (np : Int)) = false := by simp
      clear HYES HNO
      go_wp2_with fail
      go_loopw [11] (fun i wr => ∃ k : Nat, i = .int .i64 k ∧ k ≤ np ∧ Below w.heap.size w wr ∧ Below w5.heap.size w5 wr) (fun i _ => np - (intOf i).toNat)
      case atStart => exact ⟨0, rfl, Nat.zero_le _, HB5.out, Below.refl _ _⟩
      case round =>
        obtain ⟨k, rfl, hk, hB, hB5⟩ := hrel
        by_cases hlt : k < np
        · obtain ⟨x, hx⟩ : ∃ x, P'[k]? = some x := ⟨_, List.getElem?_eq_getElem (by rw [HNP.out]; exact hlt)⟩
          obtain ⟨b, o, rfl, c0⟩ := (HR5.out.below hB5) k x hx
          obtain ⟨b', o', rfl, d0⟩ := (HA.out.below hB) k x hx
          have t2 : (x != x) = false := by simp
          clear hx
          go_wp2
          go_quiet (fail)
          go_wp2
          go_roundw
          case rel => exact ⟨k + 1, by go_num, by omega, below_drewNM' hB _, below_drewNM' hB5 _⟩
          case measure => simp [intOf]; omega
        · obtain rfl : k = np := by omega
          go_wp2
          go_ret
          exact ⟨rfl, hB⟩
end Go.Proofs.YtpcijjdlppoblaaGreatDoor
