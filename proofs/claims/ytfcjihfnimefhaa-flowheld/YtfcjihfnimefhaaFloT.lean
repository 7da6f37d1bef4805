/- The law FlowHeld: its walk. -/
import Derived.Test.YtfcjihfnimefhaaFloQ
import Derived.Deep.LoopGhost
namespace Go.Proofs.Ytfcjihfnimefhaa
open Go.RowKit
set_option linter.unusedVariables false
set_option maxRecDepth 100000

theorem colS_more {l : List Bq} {s i : Nat} {b : Bq} (h : l[i]? = some b) (hs : s ≤ i) : colS ((l.take (i + 1)).drop s) = colS ((l.take i).drop s) + colB b := by
  have h1 := colS_part l (i := s) (j := i) hs
  have h2 := colS_part l (i := s) (j := i + 1) (by omega)
  have h3 := colS_next h
  omega
set_option maxHeartbeats 4000000 in
theorem held_law {w : World} {A : Option Addr} {n c : Nat} {l : List Bq} {W k : Int} (hA : Br w A l) (hn : l.length = n) (h0 : A = none → n = 0 ∧ c = 0) (hc : n ≤ c) (hv : vS l ≤ 1048576) :
    Calls Try.prog 5 #[.slice A n c, .int .i64 W, .int .i64 k] w fun e w' => e = .returned (.bool true) ∧ Below w.heap.size w w' := by
  have r1 := fun w => awake_any w
  have HA := Lib.hid hA
  have HL := Lib.hid hn
  have H0 := Lib.hid h0
  have HV := Lib.hid (Nat.le_trans hv (by decide) : vS l ≤ 100000000)
  clear hA hn h0 hv
  go_enter Try.func5, Try.ntmps5
  go_wp2_with fail
  ((with_reducible refine (r1 _).mono ?_))
  rintro e w1 ⟨rfl, hb1⟩
  have HB1 := Lib.hid hb1
  clear hb1 r1
  by_cases h3 : 60 < n
  · have q3 : (60 : Int) < (n : Int) := by omega
    go_wp2
    go_ret
    exact ⟨rfl, HB1.out⟩
  have q3 : ¬ (60 : Int) < (n : Int) := by omega
  by_cases ha : k < 0
  · go_wp2
    go_ret
    exact ⟨rfl, HB1.out⟩
  obtain ⟨K, rfl⟩ : ∃ K : Nat, k = K := ⟨k.toNat, by omega⟩
  by_cases hb : n < K
  · have qb : (n : Int) < (K : Int) := by omega
    go_wp2
    go_ret
    exact ⟨rfl, HB1.out⟩
  have qb : ¬ (n : Int) < (K : Int) := by omega
  cases hr : rmF l W with
  | false =>
    have r2 := fun w h => flow_no (w := w) (A := A) (n := n) (c := c) (k := (K : Int)) (W := W) (yes_rm _ hr) h HL.out (by omega)
    clear hr h3 ha hb
    go_wp2_with fail
    ((with_reducible refine (r2 _ (HA.out.below HB1.out)).mono ?_))
    rintro e w2 ⟨rfl, hb2⟩
    have HB2 := Lib.hid (bel_trans HB1.out hb2)
    clear hb2 r2
    go_wp2_with fail
    go_ret
    exact ⟨rfl, HB2.out⟩
  | true =>
    have r2 := fun w h => flow_yes (w := w) (A := A) (n := n) (c := c) (k := K) hr h HL.out H0.out hc (by omega) HV.out (by omega)
    have r3 := fun w h => held_yes (w := w) (A := A) (n := n) (c := c) (k := K) hr h HL.out H0.out hc (by omega) HV.out (by omega)
    have hm := hldN_most l W K
    have hcs := fun h => held_cols (w := W) (k := K) (rm_may hr) (by rw [HL.out]; omega) (by rw [HL.out]; omega) h
    have hle := (stF_spec l W K).le
    have hx : hldN l W K = K - stF l W K := rfl
    have HCS := Lib.hid hcs
    clear hcs
    generalize stF l W K = s at hle hx HCS
    generalize hldN l W K = x at *
    generalize mostN l W K = M at *
    have p1 : ¬ (x : Int) < 0 := by omega
    have p2 : ¬ (K : Int) < (x : Int) := by omega
    have p2' : ¬ K < x := by omega
    by_cases hx0 : x = 0
    · subst hx0
      have e0 : ((0 : Nat) : Int) = 0 := rfl
      simp only [e0] at r2
      clear hr h3 ha hb hm HCS hle hx p1 p2 p2' r3
      go_wp2_with fail
      ((with_reducible refine (r2 _ (HA.out.below HB1.out)).mono ?_))
      rintro e w2 ⟨rfl, hb2⟩
      have HB2 := Lib.hid (bel_trans HB1.out hb2)
      clear hb2 r2
      go_wp2_with fail
      go_ret
      exact ⟨rfl, HB2.out⟩
    · have hKx : (K : Int) - (x : Int) = (s : Int) := by omega
      have p4 : IntKind.i64.wrap ((K : Int) - (x : Int)) = (s : Int) := by rw [hKx]; exact IntWalk.i64_in _ (by omega)
      have p3 : ((x : Int) == 0) = false := beq_eq_false_iff_ne.2 (by omega)
      obtain ⟨⟨b, hb1, hb6⟩, hsK, hcol⟩ := HCS.out hx0
      have hok := mayF_ok (rm_may hr)
      have hsz : SzB l := fun b hb => by
        obtain ⟨j, hj⟩ := List.mem_iff_getElem?.1 hb
        have h1 := vS_next hj
        have h2 := vS_le l (j + 1)
        have h3 := HV.out
        omega
      have HOK := Lib.hid hok
      have HSZ := Lib.hid hsz
      have HCO := Lib.hid hcol
      have HB6 := Lib.hid (And.intro hb1 hb6)
      have HM := Lib.hid hm
      have HX := Lib.hid hx
      clear hr h3 ha hm HCS hx hok hsz hcol hb1 hb6 hx0
      go_wp2_with fail
      ((with_reducible refine (r2 _ (HA.out.below HB1.out)).mono ?_))
      rintro e w2 ⟨rfl, hb2⟩
      have HB2 := Lib.hid (bel_trans HB1.out hb2)
      clear hb2 r2
      go_wp2_with fail
      go_loopw [11, 12] (fun v i wr => ∃ j : Nat, s ≤ j ∧ j ≤ K ∧ i = .int .i64 j ∧ v = .int .i64 ((colS ((l.take j).drop s) : Nat) : Int) ∧ Hid (Below w.heap.size w wr)) (fun _ i _ => K - (intOf i).toNat)
      case atStart =>
        refine ⟨s, Nat.le_refl _, hle, rfl, ?_, HB2⟩
        rw [List.drop_eq_nil_of_le (by rw [List.length_take]; omega)]; rfl
      case round =>
        obtain ⟨j, hsj, hjK, rfl, rfl, hB⟩ := hrel
        by_cases hlt : j < K
        · obtain ⟨t, ht⟩ : ∃ t, l[j]? = some t := ⟨_, List.getElem?_eq_getElem (by rw [HL.out]; omega)⟩
          obtain ⟨b0, o0, rfl, d0, d1⟩ := (HA.out.below hB.out) j t ht
          have htm := List.mem_of_getElem? ht
          have hmk := (ok_marks (HOK.out t htm)).2.2
          have hts := HSZ.out t htm
          have hcb := colB_le t hts
          have hcs := colS_bd HSZ.out (by rw [HL.out]; omega) j
          have hcp := colS_part l (i := s) (j := j) hsj
          have hfz := flV_size t hts
          have HC := Lib.hid (colS_more ht hsj)
          obtain ⟨S, hS⟩ : ∃ S, flV t = S := ⟨_, rfl⟩
          obtain ⟨is, his⟩ : ∃ is, flI t = is := ⟨_, rfl⟩
          obtain ⟨z, hz⟩ : ∃ z, colB t = z := ⟨_, rfl⟩
          have hzz : cols S.data.toList = z := by rw [← hS, ← hz]; rfl
          rw [hS] at hfz
          rw [hz] at hcb HC
          obtain ⟨C, hC⟩ : ∃ C, colS ((l.take j).drop s) = C := ⟨_, rfl⟩
          rw [hC] at hcp HC ⊢
          obtain ⟨tm, tv⟩ := t
          dsimp only at d0 d1 hmk
          have r4 := fun w => sflat_any (w := w) hmk hS his
          have r5 := fun w => scols_any S (by omega) hzz w
          have hwr : IntKind.i64.wrap ((C : Int) + (z : Int)) = (C : Int) + (z : Int) := IntWalk.i64_in _ (by omega)
          have hwj : IntKind.i64.wrap ((j : Int) + 1) = (j : Int) + 1 := IntWalk.i64_in _ (by omega)
          have qn : (j : Int) < (n : Int) := by omega
          clear ht htm hmk hts hcb hcs hcp hfz hS his hz hzz hC
          go_wp2_with fail
          ((with_reducible refine (r4 _).mono ?_))
          rintro e w3 ⟨rfl, hb3⟩
          have HB3 := Lib.hid (bel_trans hB.out hb3)
          clear hb3 r4 d0 d1
          go_wp2_with fail
          ((with_reducible refine (r5 _).mono ?_))
          rintro e w4 ⟨rfl, hb4⟩
          have HB4 := Lib.hid (bel_trans HB3.out hb4)
          clear hb4 r5
          go_wp2_with fail
          go_roundw
          case rel => exact ⟨j + 1, by omega, by omega, by go_num, by rw [HC.out]; congr 1, HB4⟩
          case measure => simp [intOf]; omega
        · obtain rfl : j = K := by omega
          obtain ⟨hb1, hb6⟩ := HB6.out
          obtain ⟨b0, o0, rfl, d0, d1⟩ := (HA.out.below hB.out) s b hb1
          have hcol := HCO.out
          have p5 : (x : Int) ≤ (M : Int) := by have := HM.out; omega
          have qn : (s : Int) < (n : Int) := by omega
          obtain ⟨bm, bv⟩ := b
          dsimp only at hb6 d0 d1
          subst hb6
          obtain ⟨C, hC⟩ : ∃ C, colS ((l.take j).drop s) = C := ⟨_, rfl⟩
          rw [hC] at hcol ⊢
          clear hb1 hC hlt
          go_wp2_with fail
          ((with_reducible refine (r3 _ (HA.out.below hB.out)).mono ?_))
          rintro e w3 ⟨rfl, hb3⟩
          have HB3 := Lib.hid (bel_trans hB.out hb3)
          clear hb3 r3
          go_wp2_with fail
          go_ret
          exact ⟨rfl, HB3.out⟩
end Go.Proofs.Ytfcjihfnimefhaa
