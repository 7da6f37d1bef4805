/- The law YieldJoins: its walk. -/
import Derived.Test.YtcipfipfamecmaaDoorYieG
import Derived.Test.YtcipfipfamecmaaDoorYieW
import Derived.Test.YtcipfipfamecmaaDoorSymF
namespace Go.Proofs.YtcipfipfamecmaaDoor
open Go.RowKit
set_option linter.unusedVariables false
set_option maxRecDepth 100000

/-- The two marks of a blank line. -/
def lnS : List Sq := [⟨3, 5⟩, ⟨3, 5⟩]
def lnO : Obj := .cells #[.int .i64 3, .int .i64 5, .int .i64 3, .int .i64 5] 33
theorem sr_ln (w : World) : Sr (w.alloc lnO) (some ⟨w.heap.size, 0, none⟩) lnS := fun j s hj => by
  match j, hj with
  | 0, hj =>
    obtain rfl : (⟨3, 5⟩ : Sq) = s := by simpa [lnS] using hj
    refine ⟨w.heap.size, 0, rfl, ?_, ?_⟩ <;> simp [lnO, go_sem]
  | 1, hj =>
    obtain rfl : (⟨3, 5⟩ : Sq) = s := by simpa [lnS] using hj
    refine ⟨w.heap.size, 0, rfl, ?_, ?_⟩ <;> simp [lnO, go_sem]
  | j + 2, hj => simp [lnS] at hj
set_option maxHeartbeats 8000000 in
theorem joins_law {w : World} {A A2 : Option Addr} {n c n2 c2 : Nat} {L M : List Int} (hl : L.length = n) (hA : Ri w A L) (hno : A = none → n = 0 ∧ c = 0) (hl2 : M.length = n2) (hA2 : Ri w A2 M) (hno2 : A2 = none → n2 = 0 ∧ c2 = 0) (ht : TabR w) :
    Calls Tryd.prog 9 #[.slice A n c, .slice A2 n2 c2] w fun e w' => e = .returned (.bool true) ∧ Below w.heap.size w w' := by
  have HT := Lib.hid ht
  by_cases h150 : 150 < n
  · have q1 : (150 : Int) < (n : Int) := by omega
    clear h150
    clear hl hA hl2 hA2 ht hno hno2
    go_enter Tryd.func9, Tryd.ntmps9
    go_wp2_with fail
    ((with_reducible refine (awake_any _ HT.out).mono ?_))
    rintro e w1 ⟨rfl, hb1⟩
    have HB1 := Lib.hid hb1
    clear hb1
    go_wp2_with fail
    go_ret
    exact ⟨rfl, HB1.out⟩
  have q1 : ¬ (150 : Int) < (n : Int) := by omega
  by_cases h150' : 150 < n2
  · have q2 : (150 : Int) < (n2 : Int) := by omega
    clear h150 h150'
    clear hl hA hl2 hA2 ht hno hno2
    go_enter Tryd.func9, Tryd.ntmps9
    go_wp2_with fail
    ((with_reducible refine (awake_any _ HT.out).mono ?_))
    rintro e w1 ⟨rfl, hb1⟩
    have HB1 := Lib.hid hb1
    clear hb1
    go_wp2_with fail
    go_ret
    exact ⟨rfl, HB1.out⟩
  have q2 : ¬ (150 : Int) < (n2 : Int) := by omega
  obtain ⟨R, z, f, hp⟩ := par_ex L
  obtain ⟨R2, z2, f2, hp2⟩ := par_ex M
  obtain ⟨R3, z3, f3, hp3⟩ := par_ex (L ++ M)
  obtain ⟨R', hR'⟩ : ∃ R', outR L R z f = R' := ⟨_, rfl⟩
  obtain ⟨m, hm⟩ : ∃ m, R'.length = m := ⟨_, rfl⟩
  obtain ⟨p, hpz⟩ : ∃ p, outZ L z f = p := ⟨_, rfl⟩
  obtain ⟨R2', hR2'⟩ : ∃ R', outR M R2 z2 f2 = R' := ⟨_, rfl⟩
  obtain ⟨m2, hm2⟩ : ∃ m, R2'.length = m := ⟨_, rfl⟩
  obtain ⟨p2, hpz2⟩ : ∃ p, outZ M z2 f2 = p := ⟨_, rfl⟩
  have r1 := fun w h h' => parse_any (w := w) (A := A) (c := c) hp hR' hm hpz hl (by omega) h h'
  have r2 := fun w h h' => parse_any (w := w) (A := A2) (c := c2) hp2 hR2' hm2 hpz2 hl2 (by omega) h h'
  have HA := Lib.hid hA
  have HA2 := Lib.hid hA2
  by_cases e1 : p = -1
  · have x1 : (p == -1) = true := by simpa using e1
    have x2 : (p != -1) = false := by simpa using e1
    by_cases e2 : p2 = -1
    · have x3 : (p2 == -1) = true := by simpa using e2
      have x4 : (p2 != -1) = false := by simpa using e2
      obtain ⟨y1, y2, y3, x, y, fx, fy, fz⟩ := joins_ful hp hp2 hp3 (hpz.trans e1) (hpz2.trans e2)
      obtain ⟨R3', hR3'⟩ : ∃ R', outR (L ++ M) R3 z3 f3 = R' := ⟨_, rfl⟩
      obtain ⟨m3, hm3⟩ : ∃ m, R3'.length = m := ⟨_, rfl⟩
      obtain ⟨p3, hpz3⟩ : ∃ p, outZ (L ++ M) z3 f3 = p := ⟨_, rfl⟩
      have hl3 : (L ++ M).length = n + n2 := by rw [List.length_append, hl, hl2]
      have r3 := fun {A c} w h h' => parse_any (w := w) (A := A) (c := c) hp3 hR3' hm3 hpz3 hl3 (by omega) h h'
      have hRR : R' = R := hR'.symm.trans y1
      have hRR2 : R2' = R2 := hR2'.symm.trans y2
      have hRR3 : R3' = R3 := hR3'.symm.trans y3
      subst hRR hRR2 hRR3
      have b1 : m ≤ 2000 := by have h1 := hp.steps; have h2 := hp.within; omega
      have b2 : m2 ≤ 2000 := by have h1 := hp2.steps; have h2 := hp2.within; omega
      have b3 : m3 ≤ 2000 := by have h1 := hp3.steps; have h2 := hp3.within; omega
      obtain ⟨mx, hmx⟩ : ∃ m, x.length = m := ⟨_, rfl⟩
      obtain ⟨my, hmy⟩ : ∃ m, y.length = m := ⟨_, rfl⟩
      have bx : mx ≤ 20001 := by have := ful_len fx; omega
      have by' : my ≤ 20001 := by have := ful_len fy; omega
      have hzl : (x ++ ⟨3, 5⟩ :: ⟨3, 5⟩ :: y).length = mx + 2 + my := by rw [List.length_append, List.length_cons, List.length_cons, hmx, hmy]; omega
      have r4 := fun {w A c} h0 h h' => full_any (w := w) (A := A) (c := c) fx hmx hm h0 b1 h h'
      have r5 := fun {w A c} h0 h h' => full_any (w := w) (A := A) (c := c) fy hmy hm2 h0 b2 h h'
      have r6 := fun {w A c} h0 h h' => full_any (w := w) (A := A) (c := c) fz hzl hm3 h0 b3 h h'
      have r7 := fun {w A B c d} h h' => syms_any (w := w) (A := A) (B := B) (c := c) (d := d) (n := mx + 2 + my) (m := mx + 2 + my) (sameS_refl (x ++ ⟨3, 5⟩ :: ⟨3, 5⟩ :: y)) h h' hzl hzl (by omega)
      have hp1 : 0 < n := by
        by_cases e : 0 < n
        · exact e
        · obtain ⟨rs, -, h1, -⟩ := doc_run (show Run (hdL L) docS 0 _ z true from by obtain ⟨rfl, -⟩ := outZ_yes (hpz.trans e1); exact hp)
          rw [hdL_over (by omega)] at h1
          have : pickK 0 0 = -1 := by decide +kernel
          omega
      have hp2' : 0 < n2 := by
        by_cases e : 0 < n2
        · exact e
        · obtain ⟨rs, -, h1, -⟩ := doc_run (show Run (hdL M) docS 0 _ z2 true from by obtain ⟨rfl, -⟩ := outZ_yes (hpz2.trans e2); exact hp2)
          rw [hdL_over (by omega)] at h1
          have : pickK 0 0 = -1 := by decide +kernel
          omega
      obtain ⟨ad, rfl⟩ : ∃ ad, A = some ad := by cases A with | none => exact absurd (hno rfl).1 (by omega) | some ad => exact ⟨ad, rfl⟩
      obtain ⟨ad2, rfl⟩ : ∃ ad, A2 = some ad := by cases A2 with | none => exact absurd (hno2 rfl).1 (by omega) | some ad => exact ⟨ad, rfl⟩
      have HL := Lib.hid hl
      have HM := Lib.hid hl2
      have HMX := Lib.hid hmx
      have HMY := Lib.hid hmy
      clear hl hA hl2 hA2 ht hno hno2 h150 h150' hp hp2 hp3 hR' hm hpz hR2' hm2 hpz2 e1 e2 y1 y2 y3 hR3' hm3 hl3 hpz3 fx fy fz hmx hmy hzl
      go_enter Tryd.func9, Tryd.ntmps9
      go_wp2_with fail
      ((with_reducible refine (awake_any _ HT.out).mono ?_))
      rintro e w1 ⟨rfl, hb1⟩
      have HB1 := Lib.hid hb1
      clear hb1
      go_wp2_with fail
      ((with_reducible refine (r1 _ (HA.out.below HB1.out) (HT.out.below HB1.out)).mono ?_))
      rintro e w2 ⟨B1, d1, rfl, hb2, hs2, -, hc2⟩
      have HB2 := Lib.hid (bel_trans HB1.out hb2)
      have HS2 := Lib.hid hs2
      have HC2 := Lib.hid hc2
      clear hb2 hs2 hc2
      go_wp2_with fail
      ((with_reducible refine (r2 _ (HA2.out.below HB2.out) (HT.out.below HB2.out)).mono ?_))
      rintro e w3 ⟨B2, d2, rfl, hb3, hs3, -, hc3⟩
      have HB3 := Lib.hid (bel_trans HB2.out hb3)
      have HS23 := Lib.hid (HS2.out.below hb3)
      have HS3 := Lib.hid hs3
      have HC3 := Lib.hid hc3
      clear hb3 hs3 hc3
      go_wp2_with fail
      ((with_reducible refine (r4 HC2.out HS23.out (HT.out.below HB3.out)).mono ?_))
      rintro e w4 ⟨Bx, dx, rfl, hb4, hs4, hn4⟩
      have HB4 := Lib.hid (bel_trans HB3.out hb4)
      have HS34 := Lib.hid (HS3.out.below hb4)
      have HX4 := Lib.hid hs4
      have HNX := Lib.hid hn4
      clear hb4 hs4 hn4
      go_wp2_with fail
      ((with_reducible refine (r5 HC3.out HS34.out (HT.out.below HB4.out)).mono ?_))
      rintro e w5 ⟨By, dy, rfl, hb5, hs5, hn5⟩
      have HB5 := Lib.hid (bel_trans HB4.out hb5)
      have HX5 := Lib.hid (HX4.out.below hb5)
      have HY5 := Lib.hid hs5
      have HNY := Lib.hid hn5
      clear hb5 hs5 hn5
      have hz5 : w5.heap.size ≤ w5.heap.size := Nat.le_refl _
      go_wp2_with (at_builtin; refine app_ints rfl _ _ rfl w5.heap.size _ _ [] rfl (World.ownsRow_nil _ _ _ _) (A := some ad) (m := n) (c := c) (ts := L) rfl (HA.out.below HB5.out) HL.out (fun e => by cases e) (by omega) hz5 ?_)
      intro v4 w6 ho4 hg4
      have ho4' : w6.ownsRow w5.heap.size 3 1 v4 n (L.map iv) := by simpa using ho4
      have hB4 : Below w5.heap.size w5 w6 := (Below.refl _ w5).grown hg4 (Nat.le_refl _) (fun k hk => by cases hk)
      have HB6 := Lib.hid (bel_trans HB5.out hB4)
      have HO4 := Lib.hid ho4'
      have HBB4 := Lib.hid hB4
      have hz4 := hB4.size
      clear ho4 ho4' hg4 hB4
      go_wp2_with (at_builtin; refine app_ints rfl _ _ rfl w5.heap.size _ _ L rfl HO4.out (A := some ad2) (m := n2) (c := c2) (ts := M) rfl (HA2.out.below HB6.out) HM.out (fun e => by cases e) (by omega) hz4 ?_)
      intro v5 w7 ho5 hg5
      have hB5 : Below w5.heap.size w5 w7 := HBB4.out.grown hg5 hz4 (fun k hk => (HO4.out.lt k hk).1)
      have hl5 : (L ++ M).length = n + n2 := by rw [List.length_append, HL.out, HM.out]
      have ho5' : w7.ownsRow w5.heap.size 3 1 v5 (L ++ M).length ((L ++ M).map iv) := by rw [hl5, List.map_append]; exact ho5
      obtain ⟨g5, cap5, rfl, -, -⟩ := ho5'.form (by omega)
      have hri := (ri_row ho5').2.1
      rw [hl5]
      have HR5 := Lib.hid hri
      have HB7 := Lib.hid (bel_trans HB5.out hB5)
      have HX7 := Lib.hid (HX5.out.below hB5)
      have HY7 := Lib.hid (HY5.out.below hB5)
      clear ho5 ho5' hg5 hB5 hri hl5 hz4 hz5
      go_wp2_with fail
      ((with_reducible refine (r3 _ HR5.out (HT.out.below HB7.out)).mono ?_))
      rintro e w8 ⟨B8, d8, rfl, hb8, hs8, -, hc8⟩
      have HB8 := Lib.hid (bel_trans HB7.out hb8)
      have HX8 := Lib.hid (HX7.out.below hb8)
      have HY8 := Lib.hid (HY7.out.below hb8)
      have HS8 := Lib.hid hs8
      have HC8 := Lib.hid hc8
      clear hb8 hs8 hc8
      go_wp2_with fail
      ((with_reducible refine (r6 HC8.out HS8.out (HT.out.below HB8.out)).mono ?_))
      rintro e w9 ⟨Bz, dz, rfl, hb9, hs9, -⟩
      have hbl := bel_alloc (Below.refl _ w9) (.cells #[.int .i64 3, .int .i64 5] 33)
      have hb10 := bel_trans hb9 hbl
      have HB10 := Lib.hid (bel_trans HB8.out hb10)
      have HX10 := Lib.hid (HX8.out.below hb10)
      have HY10 := Lib.hid (HY8.out.below hb10)
      have HZ10 := Lib.hid (hs9.below hbl)
      have k0 : (w9.alloc (.cells #[.int .i64 3, .int .i64 5] 33)).cell? ⟨w9.heap.size, 0, none⟩ = some (.int .i64 3) := by simp [go_sem]
      have k1 : (w9.alloc (.cells #[.int .i64 3, .int .i64 5] 33)).cell? ⟨w9.heap.size, 1, none⟩ = some (.int .i64 5) := by simp [go_sem]
      clear hb9 hs9 hbl hb10
      go_wp2_with fail
      generalize w9.alloc (.cells #[.int .i64 3, .int .i64 5] 33) = W at k0 k1 HB10 HX10 HY10 HZ10 ⊢
      have lk := World.block_lt_of_cell? _ _ k0
      have HXd := Lib.hid (HX10.out.below (Below.refl _ W).drew)
      have HXa := Lib.hid (HX10.out.below (bel_two W lnO))
      have HZa := Lib.hid (bel_two W lnO).size
      go_wp2_with fail
      go_region_law (first
        | (refine step_app_syms (by rfl) _ _ (by rfl) W.heap.size (.slice none 0 0) 0 [] (by rfl) (World.ownsRow_nil _ _ _ _) (by rfl) (by first | exact HXd.out | exact HXa.out) HMX.out HNX.out (by omega) (by first | exact Nat.le_refl _ | exact HZa.out) ?_; intro v5 w10 ho10 hg10
           have b5 : Below W.heap.size W w10 := by first | exact (Below.refl _ _).drew.grown hg10 (Nat.le_refl _) (fun k hk => by cases hk) | exact (bel_two W lnO).grown hg10 HZa.out (fun k hk => by cases hk)
           have x0 := bel_cell b5 k0
           have x5 := bel_cell b5 k1
           have lx := World.block_lt_of_cell? _ _ x0
           have hz10 := b5.size
           have hln := by first | exact (sr_ln W.drew).below ((Below.refl _ _).grown hg10 (Nat.le_refl _) (fun k hk => by cases hk)) | exact sr_ln w10
           have HLN := Lib.hid hln
           have HO10 := Lib.hid (show w10.ownsRow W.heap.size 33 2 v5 mx (cly x) by simpa using ho10)
           have HB11 := Lib.hid b5
           clear ho10 hg10 hln b5)
        | (refine step_app_syms (m := 2) (by rfl) _ _ (by rfl) W.heap.size v5 mx x (by rfl) (by first | exact HO10.out | exact HO10.out.alloc _) (by rfl) HLN.out rfl (fun e => by cases e) (by omega) (by first | exact hz10 | exact Nat.le_trans hz10 (by simp)) ?_; intro v6 w11 ho11 hg11
           have b6 : Below W.heap.size W w11 := by first | exact HB11.out.grown hg11 hz10 (fun k hk => (HO10.out.lt k hk).1) | exact (bel_alloc HB11.out lnO).grown hg11 (Nat.le_trans hz10 (by simp)) (fun k hk => (HO10.out.lt k hk).1)
           have hz11 := b6.size
           have HY11 := Lib.hid (HY10.out.below b6)
           have HO11 := Lib.hid (show w11.ownsRow W.heap.size 33 2 v6 (mx + 2) (cly (x ++ lnS)) from ho11)
           have HB12 := Lib.hid b6
           clear ho11 hg11 b6)
        | (refine step_app_syms (by rfl) _ _ (by rfl) W.heap.size v6 (mx + 2) (x ++ lnS) (by rfl) HO11.out (by rfl) HY11.out HMY.out HNY.out (by omega) hz11 ?_; intro v7 w12 ho12 hg12
           have HB13 := Lib.hid (HB12.out.grown hg12 hz11 (fun k hk => (HO11.out.lt k hk).1))
           have HO12 := Lib.hid ho12
           clear ho12 hg12))
      all_goals
        have ho13 : w12.ownsRow W.heap.size 33 2 v7 (x ++ ⟨3, 5⟩ :: ⟨3, 5⟩ :: y).length (cly (x ++ ⟨3, 5⟩ :: ⟨3, 5⟩ :: y)) := by
          have h1 := HO12.out
          rw [List.append_assoc] at h1
          have h2 : (x ++ ⟨3, 5⟩ :: ⟨3, 5⟩ :: y : List Sq).length = mx + 2 + my := by rw [List.length_append, List.length_cons, List.length_cons, HMX.out, HMY.out]; omega
          rw [h2]
          exact h1
        obtain ⟨A13, n13, c13, rfl⟩ := own_sl ho13
        obtain ⟨e13, s13, -⟩ := sr_row ho13
        obtain rfl : n13 = mx + 2 + my := by rw [e13, List.length_append, List.length_cons, List.length_cons, HMX.out, HMY.out]; omega
        have HS13 := Lib.hid s13
        clear ho13 e13 s13 HO12
        go_wp2_with fail
        ((with_reducible refine (r7 (HZ10.out.below HB13.out) HS13.out).mono ?_))
        rintro e w14 ⟨rfl, hb14⟩
        have HB14 := Lib.hid (bel_trans (bel_trans HB10.out HB13.out) hb14)
        clear hb14
        go_wp2_with fail
        go_ret
        exact ⟨by simp, HB14.out⟩
    · have x3 : (p2 == -1) = false := by simpa using e2
      have x4 : (p2 != -1) = true := by simpa using e2
      clear hl hA hl2 hA2 ht hno hno2 h150 h150' hp hp2 hp3 hR' hm hpz hR2' hm2 hpz2 e1 e2
      go_enter Tryd.func9, Tryd.ntmps9
      go_wp2_with fail
      ((with_reducible refine (awake_any _ HT.out).mono ?_))
      rintro e w1 ⟨rfl, hb1⟩
      have HB1 := Lib.hid hb1
      clear hb1
      go_wp2_with fail
      ((with_reducible refine (r1 _ (HA.out.below HB1.out) (HT.out.below HB1.out)).mono ?_))
      rintro e w2 ⟨B1, d1, rfl, hb2, -, -, -⟩
      have HB2 := Lib.hid (bel_trans HB1.out hb2)
      clear hb2
      go_wp2_with fail
      ((with_reducible refine (r2 _ (HA2.out.below HB2.out) (HT.out.below HB2.out)).mono ?_))
      rintro e w3 ⟨B2, d2, rfl, hb3, -, -, -⟩
      have HB3 := Lib.hid (bel_trans HB2.out hb3)
      clear hb3
      go_wp2_with fail
      go_ret
      exact ⟨rfl, HB3.out⟩
  · have x1 : (p == -1) = false := by simpa using e1
    have x2 : (p != -1) = true := by simpa using e1
    clear hl hA hl2 hA2 ht hno hno2 h150 h150' hp hp2 hp3 hR' hm hpz hR2' hm2 hpz2 e1
    go_enter Tryd.func9, Tryd.ntmps9
    go_wp2_with fail
    ((with_reducible refine (awake_any _ HT.out).mono ?_))
    rintro e w1 ⟨rfl, hb1⟩
    have HB1 := Lib.hid hb1
    clear hb1
    go_wp2_with fail
    ((with_reducible refine (r1 _ (HA.out.below HB1.out) (HT.out.below HB1.out)).mono ?_))
    rintro e w2 ⟨B1, d1, rfl, hb2, -, -, -⟩
    have HB2 := Lib.hid (bel_trans HB1.out hb2)
    clear hb2
    go_wp2_with fail
    ((with_reducible refine (r2 _ (HA2.out.below HB2.out) (HT.out.below HB2.out)).mono ?_))
    rintro e w3 ⟨B2, d2, rfl, hb3, -, -, -⟩
    have HB3 := Lib.hid (bel_trans HB2.out hb3)
    clear hb3
    go_wp2_with fail
    go_ret
    exact ⟨rfl, HB3.out⟩
end Go.Proofs.YtcipfipfamecmaaDoor
