/- The law ParseNone: its walk. -/
import Derived.Test.YtkgljjinegphdaaDoorParC
namespace Go.Proofs.YtkgljjinegphdaaDoor
open Go.RowKit
set_option linter.unusedVariables false
set_option maxRecDepth 100000

set_option maxHeartbeats 4000000 in
theorem none_law {w : World} {A : Option Addr} {n c : Nat} {L : List Int} (hl : L.length = n) (hA : Ri w A L) (ht : TabR w) :
    Calls Tryd.prog 9 #[.slice A n c] w fun e w' => e = .returned (.bool true) ∧ Below w.heap.size w w' := by
  have HT := Lib.hid ht
  by_cases h300 : 300 < n
  · have q1 : (300 : Int) < (n : Int) := by omega
    clear hl hA ht h300
    go_enter Tryd.func9, Tryd.ntmps9
    go_wp2_with fail
    ((with_reducible refine (awake_any _ HT.out).mono ?_))
    rintro e w1 ⟨rfl, hb1⟩
    have HB1 := Lib.hid hb1
    clear hb1
    go_wp2_with fail
    ((with_reducible refine (parse_nil (HT.out.below HB1.out)).mono ?_))
    rintro e w2 ⟨B, d, rfl, hb2, -, -⟩
    have HB2 := Lib.hid (bel_trans HB1.out hb2)
    clear hb2
    go_wp2_with fail
    go_ret
    exact ⟨by simp, HB2.out⟩
  have q1 : ¬ (300 : Int) < (n : Int) := by omega
  by_cases h0 : n = 0
  · subst h0
    clear hl hA ht h300
    go_enter Tryd.func9, Tryd.ntmps9
    go_wp2_with fail
    ((with_reducible refine (awake_any _ HT.out).mono ?_))
    rintro e w1 ⟨rfl, hb1⟩
    have HB1 := Lib.hid hb1
    clear hb1
    go_wp2_with fail
    ((with_reducible refine (parse_nil (HT.out.below HB1.out)).mono ?_))
    rintro e w2 ⟨B, d, rfl, hb2, -, -⟩
    have HB2 := Lib.hid (bel_trans HB1.out hb2)
    clear hb2
    go_wp2_with fail
    go_ret
    exact ⟨by simp, HB2.out⟩
  obtain ⟨te, hte⟩ : ∃ te, L[0]? = some te := ⟨_, List.getElem?_eq_getElem (by omega)⟩
  obtain ⟨R, z, f, hp⟩ := par_ex L
  obtain ⟨R', hR'⟩ : ∃ R', outR L R z f = R' := ⟨_, rfl⟩
  obtain ⟨m, hm⟩ : ∃ m, R'.length = m := ⟨_, rfl⟩
  obtain ⟨p, hpz⟩ : ∃ p, outZ L z f = p := ⟨_, rfl⟩
  have hn : n ≤ 1000 := by omega
  have hmath := none_math hp (hdL_some hte)
  rw [hpz] at hmath
  have r1 := fun w h h' => parse_any (w := w) (A := A) (c := c) hp hR' hm hpz hl hn h h'
  obtain ⟨b, o, rfl, c0⟩ := hA 0 te hte
  rw [Nat.add_zero] at c0
  have q2 : ((n : Int) == 0) = false := beq_eq_false_iff_ne.2 (by omega)
  have q3 : 0 < n := by omega
  have HA := Lib.hid hA
  have HC := Lib.hid c0
  have HM := Lib.hid hmath
  clear hl hA ht h300 h0 hte hp hR' hm hpz hmath c0
  by_cases t1 : te = 12
  · subst t1
    have e1 : (p == 0) = false := by have := HM.out; rw [show bgB 12 = true from rfl] at this; simpa using this.symm
    have e2 : (p != 0) = true := by rw [bne, e1]; rfl
    clear HM
    go_enter Tryd.func9, Tryd.ntmps9
    go_wp2_with fail
    ((with_reducible refine (awake_any _ HT.out).mono ?_))
    rintro e w1 ⟨rfl, hb1⟩
    have HB1 := Lib.hid hb1
    clear hb1
    go_wp2_with fail
    ((with_reducible refine (parse_nil (HT.out.below HB1.out)).mono ?_))
    rintro e w2 ⟨B, d, rfl, hb2, -, -⟩
    have HB2 := Lib.hid (bel_trans HB1.out hb2)
    have C2 := bel_cell HB2.out HC.out
    clear hb2
    go_wp2_with fail
    ((with_reducible refine (r1 _ (HA.out.below HB2.out) (HT.out.below HB2.out)).mono ?_))
    rintro e w3 ⟨B', d', rfl, hb3, -, -⟩
    have HB3 := Lib.hid (bel_trans HB2.out hb3)
    clear hb3
    go_wp2_with fail
    go_ret
    exact ⟨by first | (simp; done) | (simp [e1]; done) | (simp [e2]; done), HB3.out⟩
  by_cases t2 : te = 17
  · subst t2
    have e1 : (p == 0) = false := by have := HM.out; rw [show bgB 17 = true from rfl] at this; simpa using this.symm
    have e2 : (p != 0) = true := by rw [bne, e1]; rfl
    clear HM
    go_enter Tryd.func9, Tryd.ntmps9
    go_wp2_with fail
    ((with_reducible refine (awake_any _ HT.out).mono ?_))
    rintro e w1 ⟨rfl, hb1⟩
    have HB1 := Lib.hid hb1
    clear hb1
    go_wp2_with fail
    ((with_reducible refine (parse_nil (HT.out.below HB1.out)).mono ?_))
    rintro e w2 ⟨B, d, rfl, hb2, -, -⟩
    have HB2 := Lib.hid (bel_trans HB1.out hb2)
    have C2 := bel_cell HB2.out HC.out
    clear hb2
    go_wp2_with fail
    ((with_reducible refine (r1 _ (HA.out.below HB2.out) (HT.out.below HB2.out)).mono ?_))
    rintro e w3 ⟨B', d', rfl, hb3, -, -⟩
    have HB3 := Lib.hid (bel_trans HB2.out hb3)
    clear hb3
    go_wp2_with fail
    go_ret
    exact ⟨by first | (simp; done) | (simp [e1]; done) | (simp [e2]; done), HB3.out⟩
  have d1 : (te == 12) = false := beq_eq_false_iff_ne.2 t1
  have d2 : (te == 17) = false := beq_eq_false_iff_ne.2 t2
  by_cases t3 : 19 ≤ te
  · have d3 : decide (19 ≤ te) = true := decide_eq_true t3
    by_cases t4 : te ≤ 22
    · have d4 : decide (te ≤ 22) = true := decide_eq_true t4
      have hy : bgB te = true := by rw [bgB, d1, d2, d3, d4]; rfl
      have e1 : (p == 0) = false := by have := HM.out; rw [hy] at this; simpa using this.symm
      have e2 : (p != 0) = true := by rw [bne, e1]; rfl
      clear hy
      clear HM
      go_enter Tryd.func9, Tryd.ntmps9
      go_wp2_with fail
      ((with_reducible refine (awake_any _ HT.out).mono ?_))
      rintro e w1 ⟨rfl, hb1⟩
      have HB1 := Lib.hid hb1
      clear hb1
      go_wp2_with fail
      ((with_reducible refine (parse_nil (HT.out.below HB1.out)).mono ?_))
      rintro e w2 ⟨B, d, rfl, hb2, -, -⟩
      have HB2 := Lib.hid (bel_trans HB1.out hb2)
      have C2 := bel_cell HB2.out HC.out
      clear hb2
      go_wp2_with fail
      ((with_reducible refine (r1 _ (HA.out.below HB2.out) (HT.out.below HB2.out)).mono ?_))
      rintro e w3 ⟨B', d', rfl, hb3, -, -⟩
      have HB3 := Lib.hid (bel_trans HB2.out hb3)
      clear hb3
      go_wp2_with fail
      go_ret
      exact ⟨by first | (simp; done) | (simp [e1]; done) | (simp [e2]; done), HB3.out⟩
    · have d4 : decide (te ≤ 22) = false := decide_eq_false t4
      by_cases t5 : 24 ≤ te
      · have d5 : decide (24 ≤ te) = true := decide_eq_true t5
        by_cases t6 : te ≤ 29
        · have d6 : decide (te ≤ 29) = true := decide_eq_true t6
          have hy : bgB te = true := by rw [bgB, d1, d2, d3, d4, d5, d6]; rfl
          have e1 : (p == 0) = false := by have := HM.out; rw [hy] at this; simpa using this.symm
          have e2 : (p != 0) = true := by rw [bne, e1]; rfl
          clear hy
          clear HM
          go_enter Tryd.func9, Tryd.ntmps9
          go_wp2_with fail
          ((with_reducible refine (awake_any _ HT.out).mono ?_))
          rintro e w1 ⟨rfl, hb1⟩
          have HB1 := Lib.hid hb1
          clear hb1
          go_wp2_with fail
          ((with_reducible refine (parse_nil (HT.out.below HB1.out)).mono ?_))
          rintro e w2 ⟨B, d, rfl, hb2, -, -⟩
          have HB2 := Lib.hid (bel_trans HB1.out hb2)
          have C2 := bel_cell HB2.out HC.out
          clear hb2
          go_wp2_with fail
          ((with_reducible refine (r1 _ (HA.out.below HB2.out) (HT.out.below HB2.out)).mono ?_))
          rintro e w3 ⟨B', d', rfl, hb3, -, -⟩
          have HB3 := Lib.hid (bel_trans HB2.out hb3)
          clear hb3
          go_wp2_with fail
          go_ret
          exact ⟨by first | (simp; done) | (simp [e1]; done) | (simp [e2]; done), HB3.out⟩
        · have d6 : decide (te ≤ 29) = false := decide_eq_false t6
          have hy : bgB te = false := by rw [bgB, d1, d2, d3, d4, d5, d6]; rfl
          have e1 : (p == 0) = true := by have := HM.out; rw [hy] at this; simpa using this.symm
          have e2 : (p != 0) = false := by rw [bne, e1]; rfl
          clear hy
          clear HM
          go_enter Tryd.func9, Tryd.ntmps9
          go_wp2_with fail
          ((with_reducible refine (awake_any _ HT.out).mono ?_))
          rintro e w1 ⟨rfl, hb1⟩
          have HB1 := Lib.hid hb1
          clear hb1
          go_wp2_with fail
          ((with_reducible refine (parse_nil (HT.out.below HB1.out)).mono ?_))
          rintro e w2 ⟨B, d, rfl, hb2, -, -⟩
          have HB2 := Lib.hid (bel_trans HB1.out hb2)
          have C2 := bel_cell HB2.out HC.out
          clear hb2
          go_wp2_with fail
          ((with_reducible refine (r1 _ (HA.out.below HB2.out) (HT.out.below HB2.out)).mono ?_))
          rintro e w3 ⟨B', d', rfl, hb3, -, -⟩
          have HB3 := Lib.hid (bel_trans HB2.out hb3)
          clear hb3
          go_wp2_with fail
          go_ret
          exact ⟨by first | (simp; done) | (simp [e1]; done) | (simp [e2]; done), HB3.out⟩
      · have d5 : decide (24 ≤ te) = false := decide_eq_false t5
        have hy : bgB te = false := by rw [bgB, d1, d2, d3, d4, d5]; rfl
        have e1 : (p == 0) = true := by have := HM.out; rw [hy] at this; simpa using this.symm
        have e2 : (p != 0) = false := by rw [bne, e1]; rfl
        clear hy
        clear HM
        go_enter Tryd.func9, Tryd.ntmps9
        go_wp2_with fail
        ((with_reducible refine (awake_any _ HT.out).mono ?_))
        rintro e w1 ⟨rfl, hb1⟩
        have HB1 := Lib.hid hb1
        clear hb1
        go_wp2_with fail
        ((with_reducible refine (parse_nil (HT.out.below HB1.out)).mono ?_))
        rintro e w2 ⟨B, d, rfl, hb2, -, -⟩
        have HB2 := Lib.hid (bel_trans HB1.out hb2)
        have C2 := bel_cell HB2.out HC.out
        clear hb2
        go_wp2_with fail
        ((with_reducible refine (r1 _ (HA.out.below HB2.out) (HT.out.below HB2.out)).mono ?_))
        rintro e w3 ⟨B', d', rfl, hb3, -, -⟩
        have HB3 := Lib.hid (bel_trans HB2.out hb3)
        clear hb3
        go_wp2_with fail
        go_ret
        exact ⟨by first | (simp; done) | (simp [e1]; done) | (simp [e2]; done), HB3.out⟩
  · have d3 : decide (19 ≤ te) = false := decide_eq_false t3
    have d5 : decide (24 ≤ te) = false := decide_eq_false (by omega)
    have hy : bgB te = false := by rw [bgB, d1, d2, d3, d5]; rfl
    have e1 : (p == 0) = true := by have := HM.out; rw [hy] at this; simpa using this.symm
    have e2 : (p != 0) = false := by rw [bne, e1]; rfl
    clear hy
    clear HM
    go_enter Tryd.func9, Tryd.ntmps9
    go_wp2_with fail
    ((with_reducible refine (awake_any _ HT.out).mono ?_))
    rintro e w1 ⟨rfl, hb1⟩
    have HB1 := Lib.hid hb1
    clear hb1
    go_wp2_with fail
    ((with_reducible refine (parse_nil (HT.out.below HB1.out)).mono ?_))
    rintro e w2 ⟨B, d, rfl, hb2, -, -⟩
    have HB2 := Lib.hid (bel_trans HB1.out hb2)
    have C2 := bel_cell HB2.out HC.out
    clear hb2
    go_wp2_with fail
    ((with_reducible refine (r1 _ (HA.out.below HB2.out) (HT.out.below HB2.out)).mono ?_))
    rintro e w3 ⟨B', d', rfl, hb3, -, -⟩
    have HB3 := Lib.hid (bel_trans HB2.out hb3)
    clear hb3
    go_wp2_with fail
    go_ret
    exact ⟨by first | (simp; done) | (simp [e1]; done) | (simp [e2]; done), HB3.out⟩
end Go.Proofs.YtkgljjinegphdaaDoor
