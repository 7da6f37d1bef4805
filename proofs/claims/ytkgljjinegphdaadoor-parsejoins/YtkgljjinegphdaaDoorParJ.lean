/- The law ParseJoins: its walk. -/
import Derived.Test.YtkgljjinegphdaaDoorParC
import Derived.Test.YtkgljjinegphdaaDoorParO
import Derived.Test.YtkgljjinegphdaaDoorIntF
import Derived.StillTailTactics
namespace Go.Proofs.YtkgljjinegphdaaDoor
open Go.RowKit
set_option linter.unusedVariables false
set_option maxRecDepth 100000

theorem Ri.drew {w : World} {A : Option Addr} {l : List Int} (h : Ri w A l) : Ri w.drew A l := h
set_option maxHeartbeats 4000000 in
theorem joins_law {w : World} {A A2 : Option Addr} {n c n2 c2 : Nat} {L M : List Int} (hl : L.length = n) (hA : Ri w A L) (hno : A = none → n = 0 ∧ c = 0) (hl2 : M.length = n2) (hA2 : Ri w A2 M) (hno2 : A2 = none → n2 = 0 ∧ c2 = 0) (ht : TabR w) :
    Calls Tryd.prog 8 #[.slice A n c, .slice A2 n2 c2] w fun e w' => e = .returned (.bool true) ∧ Below w.heap.size w w' := by
  have HT := Lib.hid ht
  by_cases h200 : 200 < n
  · have q1 : (200 : Int) < (n : Int) := by omega
    clear h200
    clear hl hA hl2 hA2 ht hno hno2
    go_enter Tryd.func8, Tryd.ntmps8
    go_wp2_with fail
    ((with_reducible refine (awake_any _ HT.out).mono ?_))
    rintro e w1 ⟨rfl, hb1⟩
    have HB1 := Lib.hid hb1
    clear hb1
    go_wp2_with fail
    go_ret
    exact ⟨rfl, HB1.out⟩
  have q1 : ¬ (200 : Int) < (n : Int) := by omega
  by_cases h200' : 200 < n2
  · have q2 : (200 : Int) < (n2 : Int) := by omega
    clear h200 h200'
    clear hl hA hl2 hA2 ht hno hno2
    go_enter Tryd.func8, Tryd.ntmps8
    go_wp2_with fail
    ((with_reducible refine (awake_any _ HT.out).mono ?_))
    rintro e w1 ⟨rfl, hb1⟩
    have HB1 := Lib.hid hb1
    clear hb1
    go_wp2_with fail
    go_ret
    exact ⟨rfl, HB1.out⟩
  have q2 : ¬ (200 : Int) < (n2 : Int) := by omega
  obtain ⟨R, z, f, hp⟩ := par_ex L
  obtain ⟨R2, z2, f2, hp2⟩ := par_ex M
  obtain ⟨R3, z3, f3, hp3⟩ := par_ex (L ++ M)
  obtain ⟨R', hR'⟩ : ∃ R', outR L R z f = R' := ⟨_, rfl⟩
  obtain ⟨m, hm⟩ : ∃ m, R'.length = m := ⟨_, rfl⟩
  obtain ⟨p, hpz⟩ : ∃ p, outZ L z f = p := ⟨_, rfl⟩
  obtain ⟨R2', hR2'⟩ : ∃ R', outR M R2 z2 f2 = R' := ⟨_, rfl⟩
  obtain ⟨m2, hm2⟩ : ∃ m, R2'.length = m := ⟨_, rfl⟩
  obtain ⟨p2, hpz2⟩ : ∃ p, outZ M z2 f2 = p := ⟨_, rfl⟩
  have r1 := fun w h h' => parse_any (w := w) (A := A) (c := c) hp hR' hm hpz hl (by omega) h h'
  have r2 := fun w h h' => parse_any (w := w) (A := A2) (c := c2) hp2 hR2' hm2 hpz2 hl2 (by omega) h h'
  have HA := Lib.hid hA
  have HA2 := Lib.hid hA2
  by_cases e1 : p = -1
  · have x1 : (p == -1) = true := by simpa using e1
    have x2 : (p != -1) = false := by simpa using e1
    by_cases e2 : p2 = -1
    · have x3 : (p2 == -1) = true := by simpa using e2
      have x4 : (p2 != -1) = false := by simpa using e2
      obtain ⟨y1, y2, y3, y4, y5, y6⟩ := joins_math hp hp2 hp3 (hpz.trans e1) (hpz2.trans e2)
      obtain ⟨R3', hR3'⟩ : ∃ R', outR (L ++ M) R3 z3 f3 = R' := ⟨_, rfl⟩
      obtain ⟨m3, hm3⟩ : ∃ m, R3'.length = m := ⟨_, rfl⟩
      have hl3 : (L ++ M).length = n + n2 := by rw [List.length_append, hl, hl2]
      have r3 := fun {A c} w h h' => parse_any (w := w) (A := A) (c := c) hp3 hR3' hm3 y1 hl3 (by omega) h h'
      have hRR : R' = R := hR'.symm.trans y2
      have hRR3 : R3' = R3 := hR3'.symm.trans y3
      subst hRR hRR3
      rw [hm] at y4 y5 y6
      rw [hm3] at y5
      have hmb : m ≤ 10000 := by have := hp.steps; have := hp.within; omega
      have hp1 : 0 < n := by
        by_cases e : 0 < n
        · exact e
        · have hz := hp.within
          obtain ⟨rs, -, h1, -⟩ := doc_run (show Run (hdL L) docS 0 _ z true from by obtain ⟨rfl, -⟩ := outZ_yes (hpz.trans e1); exact hp)
          rw [hdL_over (by omega)] at h1
          have : pickK 0 0 = -1 := by decide +kernel
          omega
      have hp2' : 0 < n2 := by
        by_cases e : 0 < n2
        · exact e
        · obtain ⟨rs, -, h1, -⟩ := doc_run (show Run (hdL M) docS 0 _ z2 true from by obtain ⟨rfl, -⟩ := outZ_yes (hpz2.trans e2); exact hp2)
          rw [hdL_over (by omega)] at h1
          have : pickK 0 0 = -1 := by decide +kernel
          omega
      obtain ⟨m0, hm0⟩ : ∃ m0, m = m0 + 1 := ⟨m - 1, by omega⟩
      have hm01 : m - 1 = m0 := by omega
      rw [hm01] at y6
      have r4 := fun {w : World} {A B : Option Addr} {c d : Nat} (h1 : Ri w A (R3'.take m0)) (h2 : Ri w B (R'.take m0)) => ints_any (c := c) (d := d) (n := m0) h1 (by rw [y6]; exact h2) (by rw [List.length_take, hm3]; omega) (by omega)
      have k1 : ¬ (m : Int) < 1 := by omega
      have k2 : ¬ m3 < m := by omega
      have k3 : (m : Int) - 1 = (m0 : Int) := by omega
      have k4 : IntKind.i64.wrap ((m : Int) - 1) = (m0 : Int) := by rw [k3]; exact IntWalk.i64_in _ (by omega)
      have k5 : IntKind.i64.wrap (m0 : Int) = (m0 : Int) := IntWalk.i64_in _ (by omega)
      have k6 : m0 ≤ m := by omega
      have k7 : m0 ≤ m3 := by omega
      obtain ⟨ad, rfl⟩ : ∃ ad, A = some ad := by cases A with | none => exact absurd (hno rfl).1 (by omega) | some ad => exact ⟨ad, rfl⟩
      obtain ⟨ad2, rfl⟩ : ∃ ad, A2 = some ad := by cases A2 with | none => exact absurd (hno2 rfl).1 (by omega) | some ad => exact ⟨ad, rfl⟩
      have HL := Lib.hid hl
      have HM := Lib.hid hl2
      have HK := Lib.hid hm0
      clear hl hA hl2 hA2 ht hno hno2 h200 h200' hp hp2 hp3 hR' hm hpz hR2' hm2 hpz2 e1 e2 y1 y2 y3 y6 hR3' hm3 hl3 hm0 hm01
      go_enter Tryd.func8, Tryd.ntmps8
      go_wp2_with fail
      ((with_reducible refine (awake_any _ HT.out).mono ?_))
      rintro e w1 ⟨rfl, hb1⟩
      have HB1 := Lib.hid hb1
      clear hb1
      go_wp2_with fail
      ((with_reducible refine (r1 _ (HA.out.below HB1.out) (HT.out.below HB1.out)).mono ?_))
      rintro e w2 ⟨B1, d1, rfl, hb2, hs2, hn2⟩
      have HB2 := Lib.hid (bel_trans HB1.out hb2)
      have HS2 := Lib.hid hs2
      have HN2 := Lib.hid hn2
      clear hb2 hs2 hn2
      go_wp2_with fail
      ((with_reducible refine (r2 _ (HA2.out.below HB2.out) (HT.out.below HB2.out)).mono ?_))
      rintro e w3 ⟨B2, d2, rfl, hb3, -, -⟩
      have HB3 := Lib.hid (bel_trans HB2.out hb3)
      have HS3 := Lib.hid (HS2.out.below hb3)
      clear hb3
      go_wp2_with (at_builtin; refine app_ints rfl _ _ rfl w3.heap.size _ _ [] rfl (World.ownsRow_nil _ _ _ _) (A := some ad) (m := n) (c := c) (ts := L) rfl (HA.out.below HB3.out) HL.out (fun e => by cases e) (by omega) (Nat.le_refl _) ?_)
      intro v4 w4 ho4 hg4
      have ho4' : w4.ownsRow w3.heap.size 3 1 v4 n (L.map iv) := by simpa using ho4
      have hB4 : Below w3.heap.size w3 w4 := (Below.refl _ w3).grown hg4 (Nat.le_refl _) (fun k hk => by cases hk)
      have HB4 := Lib.hid (bel_trans HB3.out hB4)
      have HO4 := Lib.hid ho4'
      have HBB4 := Lib.hid hB4
      have hz4 := hB4.size
      clear ho4 ho4' hg4 hB4
      go_wp2_with (at_builtin; refine app_ints rfl _ _ rfl w3.heap.size _ _ L rfl HO4.out (A := some ad2) (m := n2) (c := c2) (ts := M) rfl (HA2.out.below HB4.out) HM.out (fun e => by cases e) (by omega) hz4 ?_)
      intro v5 w5 ho5 hg5
      have hB5 : Below w3.heap.size w3 w5 := HBB4.out.grown hg5 hz4 (fun k hk => (HO4.out.lt k hk).1)
      have hl5 : (L ++ M).length = n + n2 := by rw [List.length_append, HL.out, HM.out]
      have ho5' : w5.ownsRow w3.heap.size 3 1 v5 (L ++ M).length ((L ++ M).map iv) := by rw [hl5, List.map_append]; exact ho5
      obtain ⟨g5, cap5, rfl, -, -⟩ := ho5'.form (by omega)
      have hri := (ri_row ho5').2.1
      rw [hl5]
      have HR5 := Lib.hid hri
      have HB5 := Lib.hid (bel_trans HB3.out hB5)
      have HS5 := Lib.hid (HS3.out.below hB5)
      clear ho5 ho5' hg5 hB5 hri hl5 hz4
      go_wp2_with fail
      ((with_reducible refine (r3 _ HR5.out (HT.out.below HB5.out)).mono ?_))
      rintro e w6 ⟨B6, d6, rfl, hb6, hs6, hn6, hc6⟩
      have HB6 := Lib.hid (bel_trans HB5.out hb6)
      have HS6 := Lib.hid hs6
      have HS7 := Lib.hid (HS5.out.below hb6)
      obtain ⟨b6, rfl⟩ : ∃ b, B6 = some b := by cases B6 with | none => exact absurd (hn6 rfl).1 (by omega) | some b => exact ⟨b, rfl⟩
      obtain ⟨hn2, hc2⟩ := HN2.out
      obtain ⟨b1, rfl⟩ : ∃ b, B1 = some b := by cases B1 with | none => exact absurd (hn2 rfl).1 (by omega) | some b => exact ⟨b, rfl⟩
      have k8 : m0 ≤ d6 := by omega
      have k9 : m0 ≤ d1 := by omega
      clear hb6 hs6 hn6 hn2 hc6 hc2
      go_wp2_with fail
      go_still_tail 10, (by kernel_rfl)
      change wpList _ _ _ _ _ w6.drew
      go_wp2_with fail
      ((with_reducible refine (r4 (w := w6.drew) (HS6.out.take m0).drew (HS7.out.take m0).drew).mono ?_))
      rintro e w7 ⟨rfl, hb7⟩
      have HB7 := Lib.hid (bel_trans HB6.out.drew hb7)
      clear hb7
      go_wp2_with fail
      go_ret
      exact ⟨by simp, HB7.out⟩
    · have x3 : (p2 == -1) = false := by simpa using e2
      have x4 : (p2 != -1) = true := by simpa using e2
      clear hl hA hl2 hA2 ht hno hno2 h200 h200' hp hp2 hp3 hR' hm hpz hR2' hm2 hpz2 e1 e2
      go_enter Tryd.func8, Tryd.ntmps8
      go_wp2_with fail
      ((with_reducible refine (awake_any _ HT.out).mono ?_))
      rintro e w1 ⟨rfl, hb1⟩
      have HB1 := Lib.hid hb1
      clear hb1
      go_wp2_with fail
      ((with_reducible refine (r1 _ (HA.out.below HB1.out) (HT.out.below HB1.out)).mono ?_))
      rintro e w2 ⟨B1, d1, rfl, hb2, hs2, hn2⟩
      have HB2 := Lib.hid (bel_trans HB1.out hb2)
      have HS2 := Lib.hid hs2
      have HN2 := Lib.hid hn2
      clear hb2 hs2 hn2
      go_wp2_with fail
      ((with_reducible refine (r2 _ (HA2.out.below HB2.out) (HT.out.below HB2.out)).mono ?_))
      rintro e w3 ⟨B2, d2, rfl, hb3, -, -⟩
      have HB3 := Lib.hid (bel_trans HB2.out hb3)
      have HS3 := Lib.hid (HS2.out.below hb3)
      clear hb3
      go_wp2_with fail
      go_ret
      exact ⟨rfl, HB3.out⟩
  · have x1 : (p == -1) = false := by simpa using e1
    have x2 : (p != -1) = true := by simpa using e1
    clear hl hA hl2 hA2 ht hno hno2 h200 h200' hp hp2 hp3 hR' hm hpz hR2' hm2 hpz2 e1
    go_enter Tryd.func8, Tryd.ntmps8
    go_wp2_with fail
    ((with_reducible refine (awake_any _ HT.out).mono ?_))
    rintro e w1 ⟨rfl, hb1⟩
    have HB1 := Lib.hid hb1
    clear hb1
    go_wp2_with fail
    ((with_reducible refine (r1 _ (HA.out.below HB1.out) (HT.out.below HB1.out)).mono ?_))
    rintro e w2 ⟨B1, d1, rfl, hb2, hs2, hn2⟩
    have HB2 := Lib.hid (bel_trans HB1.out hb2)
    have HS2 := Lib.hid hs2
    have HN2 := Lib.hid hn2
    clear hb2 hs2 hn2
    go_wp2_with fail
    ((with_reducible refine (r2 _ (HA2.out.below HB2.out) (HT.out.below HB2.out)).mono ?_))
    rintro e w3 ⟨B2, d2, rfl, hb3, -, -⟩
    have HB3 := Lib.hid (bel_trans HB2.out hb3)
    have HS3 := Lib.hid (HS2.out.below hb3)
    clear hb3
    go_wp2_with fail
    go_ret
    exact ⟨rfl, HB3.out⟩
end Go.Proofs.YtkgljjinegphdaaDoor
