/- The law ParseBraces: its walk. -/
import Derived.Test.YtkgljjinegphdaaDoorParC
import Derived.Test.YtkgljjinegphdaaDoorParL
namespace Go.Proofs.YtkgljjinegphdaaDoor
open Go.RowKit
set_option linter.unusedVariables false
set_option maxRecDepth 100000

/-- A row of the call's own, and what was there is as it was. -/
structure Rn (w : World) (X : List Int) (v : Value) (W : World) : Prop where
  own : W.ownsRow w.heap.size 3 1 v X.length (X.map iv)
  bel : Below w.heap.size w W
theorem Rn.start (w : World) : Rn w [] (.slice none 0 0) w := ⟨World.ownsRow_nil _ _ _ _, Below.refl _ _⟩
theorem Rn.alloc {w : World} {X : List Int} {v : Value} {W : World} (h : Rn w X v W) (o : Obj) : Rn w X v (W.alloc o) := ⟨h.own.alloc o, bel_alloc h.bel o⟩
theorem Rn.next {w : World} {X : List Int} {x : Int} {v v' : Value} {W W' : World} (h : Rn w X v W) (ho : W'.ownsRow w.heap.size 3 1 v' (X.length + 1) ((X ++ [x]).map iv)) (hg : W.grownBy W' v.ownBlock) : Rn w (X ++ [x]) v' W' :=
  ⟨by rw [List.length_append]; exact ho, h.bel.grown hg h.bel.size (fun k hk => (h.own.lt k hk).1)⟩
/-- 'append(l, x)', l a row of ints of the call's own. -/
theorem app_rn {w0 w : World} {ops : Array Oper} {rest : List Oper} {o : Oper} {a : Act} {Q : Exit → Act → World → Prop} (hgd : o.guard = none) (s x : Operand)
    (ho : o.op = .call { callee := .builtin .append, args := #[s, x], argTypes := #[22, 22] })
    (v : Value) (X : List Int) (i : Int) (hs : a.eval s = v) (hown : Rn w0 X v w) {ad : Addr} {c : Nat} (hx : a.eval x = .slice (some ad) 1 c) (htr : Ri w (some ad) [i]) (hb : X.length + 1 ≤ 1000000)
    (h : ∀ v' w', Rn w0 (X ++ [i]) v' w' → wpList Tryd.prog ops Q rest (a.put o.dst v') w') : wpList Tryd.prog ops Q (o :: rest) a w :=
  app_ints hgd s x ho w0.heap.size v X.length X hs hown.own (A := some ad) (m := 1) (c := c) (ts := [i]) hx htr rfl (fun e => by cases e) hb hown.bel.size fun v' w' h1 h2 => h v' w' (hown.next h1 h2)
theorem ri_two {w : World} {g : Nat} {x y : Int} {t : TypeId} {fr : Nat × Nat} (h : w.heap[g]? = some (.cells #[.int .i64 x, .int .i64 y] t fr)) : Ri w (some ⟨g, 0, none⟩) [x, y] := fun j u hj => by
  match j, hj with
  | 0, hj =>
    obtain rfl : x = u := by simpa using hj
    exact ⟨g, 0, rfl, by simp [World.cell?, h]⟩
  | 1, hj =>
    obtain rfl : y = u := by simpa using hj
    exact ⟨g, 0, rfl, by simp [World.cell?, h]⟩
  | j + 2, hj => simp at hj
theorem rep_succ (X : List Int) (j : Nat) (x : Int) : X ++ List.replicate (j + 1) x = X ++ List.replicate j x ++ [x] := by rw [List.replicate_succ', List.append_assoc]
theorem rep_len (X : List Int) (j : Nat) (x : Int) : (X ++ List.replicate j x).length = X.length + j := by rw [List.length_append, List.length_replicate]
set_option maxHeartbeats 4000000 in
theorem braces_law (n0 d0 : Int) {w : World} (ht : TabR w) :
    Calls Tryd.prog 7 #[.int .i64 n0, .int .i64 d0] w fun e w' => e = .returned (.bool true) ∧ Below w.heap.size w w' := by
  have HT := Lib.hid ht
  by_cases h1 : n0 < 1
  · have q1 : decide (n0 < 1) = true := decide_eq_true h1
    clear h1
    clear ht
    go_enter Tryd.func7, Tryd.ntmps7
    go_wp2_with fail
    ((with_reducible refine (awake_any _ HT.out).mono ?_))
    rintro e w1 ⟨rfl, hb1⟩
    have HB1 := Lib.hid hb1
    clear hb1
    go_wp2_with fail
    go_ret
    exact ⟨rfl, HB1.out⟩
  have q1 : decide (n0 < 1) = false := decide_eq_false h1
  by_cases h2 : 60 < n0
  · have q2 : decide (60 < n0) = true := decide_eq_true h2
    clear h1 h2
    clear ht
    go_enter Tryd.func7, Tryd.ntmps7
    go_wp2_with fail
    ((with_reducible refine (awake_any _ HT.out).mono ?_))
    rintro e w1 ⟨rfl, hb1⟩
    have HB1 := Lib.hid hb1
    clear hb1
    go_wp2_with fail
    go_ret
    exact ⟨rfl, HB1.out⟩
  have q2 : decide (60 < n0) = false := decide_eq_false h2
  by_cases h3 : d0 < 1
  · have q3 : decide (d0 < 1) = true := decide_eq_true h3
    clear h1 h2 h3
    clear ht
    go_enter Tryd.func7, Tryd.ntmps7
    go_wp2_with fail
    ((with_reducible refine (awake_any _ HT.out).mono ?_))
    rintro e w1 ⟨rfl, hb1⟩
    have HB1 := Lib.hid hb1
    clear hb1
    go_wp2_with fail
    go_ret
    exact ⟨rfl, HB1.out⟩
  have q3 : decide (d0 < 1) = false := decide_eq_false h3
  by_cases h4 : 20 < d0
  · have q4 : decide (20 < d0) = true := decide_eq_true h4
    clear h1 h2 h3 h4
    clear ht
    go_enter Tryd.func7, Tryd.ntmps7
    go_wp2_with fail
    ((with_reducible refine (awake_any _ HT.out).mono ?_))
    rintro e w1 ⟨rfl, hb1⟩
    have HB1 := Lib.hid hb1
    clear hb1
    go_wp2_with fail
    go_ret
    exact ⟨rfl, HB1.out⟩
  obtain ⟨n, rfl⟩ : ∃ n : Nat, n0 = ((n + 1 : Nat) : Int) := ⟨(n0 - 1).toNat, by omega⟩
  obtain ⟨d, rfl⟩ : ∃ d : Nat, d0 = ((d + 1 : Nat) : Int) := ⟨(d0 - 1).toNat, by omega⟩
  obtain ⟨N, hN⟩ : ∃ N, n + 1 = N := ⟨_, rfl⟩
  obtain ⟨D, hD⟩ : ∃ D, d + 1 = D := ⟨_, rfl⟩
  rw [hN] at h1 h2 q1 q2 ⊢
  rw [hD] at h3 h4 q3 ⊢
  have g1 : ¬ (N : Int) < 1 := by omega
  have g2 : ¬ (60 : Int) < (N : Int) := by omega
  have g3 : ¬ (D : Int) < 1 := by omega
  have g4 : ¬ (20 : Int) < (D : Int) := by omega
  have b1 : N ≤ 60 := by omega
  have b2 : D ≤ 20 := by omega
  obtain ⟨L, hL⟩ : ∃ L, brL N d = L := ⟨_, rfl⟩
  have hLx : opL D ++ List.replicate N 18 ++ List.replicate D 14 = L := by rw [← hL, ← hD]; rfl
  obtain ⟨I, hI⟩ : ∃ I, brI N d = I := ⟨_, rfl⟩
  have hLI : L = I ++ [14] := by rw [← hL, ← hI, brL_eq]
  obtain ⟨k, hk⟩ : ∃ k, I.length = k := ⟨_, rfl⟩
  have hl1 : L.length = k + 1 := by rw [hLI, List.length_append, hk]; rfl
  have hkb : k ≤ 200 := by
    have h5 := opL_len D
    rw [← hLx, List.length_append, List.length_append, List.length_replicate, List.length_replicate] at hl1
    omega
  have hl2 : (L.take k).length = k := by rw [List.length_take, hl1]; omega
  have htk : L.take k = I := by rw [hLI, ← hk, List.take_left]
  have hl3 : (L ++ [14]).length = k + 1 + 1 := by rw [List.length_append, hl1]; rfl
  obtain ⟨R1, z1, f1, p1⟩ := par_ex L
  obtain ⟨R2, z2, f2, p2⟩ := par_ex (L.take k)
  obtain ⟨R3, z3, f3, p3⟩ := par_ex (L ++ [14])
  have o1 : outZ L z1 f1 = -1 := by rw [← hL, ← hN] at p1 ⊢; exact braces_full p1
  have o2 : outZ (L.take k) z2 f2 = (k : Int) := by rw [htk, ← hI, ← hN] at p2 ⊢; rw [braces_less p2, ← hk, ← hI, ← hN]
  have o3 : outZ (L ++ [14]) z3 f3 = (k : Int) + 1 := by
    rw [← hL, ← hN] at p3 ⊢
    rw [braces_more p3, hN, hL, hl1]; rfl
  obtain ⟨S1, hS1⟩ : ∃ R', outR L R1 z1 f1 = R' := ⟨_, rfl⟩
  obtain ⟨S2, hS2⟩ : ∃ R', outR (L.take k) R2 z2 f2 = R' := ⟨_, rfl⟩
  obtain ⟨S3, hS3⟩ : ∃ R', outR (L ++ [14]) R3 z3 f3 = R' := ⟨_, rfl⟩
  obtain ⟨m1, hm1⟩ : ∃ m, S1.length = m := ⟨_, rfl⟩
  obtain ⟨m2, hm2⟩ : ∃ m, S2.length = m := ⟨_, rfl⟩
  obtain ⟨m3, hm3⟩ : ∃ m, S3.length = m := ⟨_, rfl⟩
  obtain ⟨K, hK⟩ : ∃ K, K = k + 1 := ⟨_, rfl⟩
  rw [← hK] at hl1 hl3
  have o3 : outZ (L ++ [14]) z3 f3 = (K : Int) := by rw [o3, hK]; rfl
  have r1 := fun {A c} w h h' => parse_any (w := w) (A := A) (c := c) p1 hS1 hm1 o1 hl1 (by omega) h h'
  have r2 := fun {A c} w h h' => parse_any (w := w) (A := A) (c := c) p2 hS2 hm2 o2 hl2 (by omega) h h'
  have r3 := fun {A c} w h h' => parse_any (w := w) (A := A) (c := c) p3 hS3 hm3 o3 hl3 (by omega) h h'
  have r4 := fun {A c} w h h' => parse_any (w := w) (A := A) (c := c) par_none (R' := []) (m := 0) (at' := 1) (n := 2) (by decide) rfl (by decide) rfl (by omega) h h'
  have y1 : (K : Int) - 1 = (k : Int) := by omega
  have y2 : k ≤ K := by omega
  have y3 : (0 : Int) ≤ (k : Int) := by omega
  have HLX := Lib.hid hLx
  have HL1 := Lib.hid hl1
  have HKK := Lib.hid hK
  clear h1 h2 h3 h4 hN hD hL hLx hI hLI hk hl1 hl2 htk hl3 p1 p2 p3 o1 o2 o3 hS1 hS2 hS3 hm1 hm2 hm3 ht hK q1 q2 q3
  go_enter Tryd.func7, Tryd.ntmps7
  go_wp2_with fail
  ((with_reducible refine (awake_any _ HT.out).mono ?_))
  rintro e w1 ⟨rfl, hb1⟩
  have HB1 := Lib.hid hb1
  clear hb1
  go_wp2_with fail
  go_loopw [6, 7] (fun q i wr => ∃ j : Nat, i = .int .i64 j ∧ j ≤ D ∧ Hid (Rn w1 (opL j) q wr)) (fun _ i _ => D - (intOf i).toNat)
  case atStart => exact ⟨0, rfl, Nat.zero_le _, Lib.hid (Rn.start w1)⟩
  case round =>
    obtain ⟨j, rfl, hj, hR⟩ := hrel
    have hlen := opL_len j
    by_cases hlt : j < D
    · have x1 : (j : Int) < (D : Int) := by omega
      cases j with
      | zero =>
        have x2 : ¬ (0 : Int) < ((0 : Nat) : Int) := by omega
        have HA := Lib.hid (hR.out.alloc (.cells #[.int .i64 12] 3))
        clear hR
        go_wp2_with (at_builtin; refine app_rn rfl _ _ rfl _ (opL 0) 12 rfl HA.out (ad := ⟨wr.heap.size, 0, none⟩) (c := 1) (by simp [go_sem]) (ri_one (heap_alloc_new wr _)) (by omega) ?_)
        intro v' w3 hR3
        have HR3 := Lib.hid hR3
        clear hR3
        go_wp2_with fail
        go_roundw
        case rel => exact ⟨1, by go_num, by omega, HR3⟩
        case measure => simp [intOf]; omega
      | succ j =>
        have x2 : (0 : Int) < ((j + 1 : Nat) : Int) := by omega
        have x3 : (0 : Int) < (j : Int) + 1 := by omega
        have x4 : 0 < j + 1 := by omega
        have HA := Lib.hid (hR.out.alloc (.cells #[.int .i64 18] 3))
        clear hR
        go_wp2_with (at_builtin; refine app_rn rfl _ _ rfl _ (opL (j + 1)) 18 rfl HA.out (ad := ⟨wr.heap.size, 0, none⟩) (c := 1) (by simp [go_sem]) (ri_one (heap_alloc_new wr _)) (by omega) ?_)
        intro v' w3 hR3
        have HA3 := Lib.hid (hR3.alloc (.cells #[.int .i64 12] 3))
        clear hR3
        go_wp2_with (at_builtin; refine app_rn rfl _ _ rfl _ (opL (j + 1) ++ [18]) 12 rfl HA3.out (ad := ⟨w3.heap.size, 0, none⟩) (c := 1) (by simp [go_sem]) (ri_one (heap_alloc_new w3 _)) (by rw [List.length_append]; simp; omega) ?_)
        intro v4 w4 hR4
        have hR4' : Rn w1 (opL (j + 1 + 1)) v4 w4 := by rw [opL]; exact hR4
        have HR4 := Lib.hid hR4'
        clear hR4 hR4'
        go_wp2_with fail
        go_roundw
        case rel => exact ⟨j + 1 + 1, by go_num, by omega, HR4⟩
        case measure => simp [intOf]; omega
    · obtain rfl : j = D := by omega
      obtain ⟨X, hX⟩ : ∃ X, opL j = X := ⟨_, rfl⟩
      rw [hX] at hR hlen
      have HX := Lib.hid hX
      have HR0 := Lib.hid (show Rn w1 (X ++ List.replicate 0 18) u6 wr from by rw [List.replicate_zero, List.append_nil]; exact hR.out)
      clear hlt hX hR
      go_wp2_with fail
      go_loopw [6, 8] (fun q i wr => ∃ k2 : Nat, i = .int .i64 k2 ∧ k2 ≤ N ∧ Hid (Rn w1 (X ++ List.replicate k2 18) q wr)) (fun _ i _ => N - (intOf i).toNat)
      case atStart => exact ⟨0, rfl, Nat.zero_le _, HR0⟩
      case round =>
        obtain ⟨k2, rfl, hk2, hR⟩ := hrel
        clear HR0
        by_cases hlt : k2 < N
        · have x1 : (k2 : Int) < (N : Int) := by omega
          have hlr := rep_len X k2 18
          have hrs := rep_succ X k2 18
          obtain ⟨Y, hY⟩ : ∃ Y, X ++ List.replicate k2 18 = Y := ⟨_, rfl⟩
          rw [hY] at hlr hrs hR
          have HS := Lib.hid hrs
          have HA := Lib.hid (hR.out.alloc (.cells #[.int .i64 18] 3))
          clear hR hY hrs
          go_wp2_with (at_builtin; refine app_rn rfl _ _ rfl _ Y 18 rfl HA.out (ad := ⟨wr.heap.size, 0, none⟩) (c := 1) (by simp [go_sem]) (ri_one (heap_alloc_new wr _)) (by omega) ?_)
          intro v' w3 hR3
          have HR3 := Lib.hid hR3
          clear hR3
          go_wp2_with fail
          go_roundw
          case rel => exact ⟨k2 + 1, by go_num, by omega, Lib.hid (by rw [HS.out]; exact HR3.out)⟩
          case measure => simp [intOf]; omega
        · obtain rfl : k2 = N := by omega
          have hlr := rep_len X k2 18
          obtain ⟨Y, hY⟩ : ∃ Y, X ++ List.replicate k2 18 = Y := ⟨_, rfl⟩
          rw [hY] at hlr hR
          have HY := Lib.hid hY
          have HR0 := Lib.hid (show Rn w1 (Y ++ List.replicate 0 14) u6 wr from by rw [List.replicate_zero, List.append_nil]; exact hR.out)
          clear hlt hY hR
          go_wp2_with fail
          go_loopw [6, 9] (fun q i wr => ∃ k3 : Nat, i = .int .i64 k3 ∧ k3 ≤ j ∧ Hid (Rn w1 (Y ++ List.replicate k3 14) q wr)) (fun _ i _ => j - (intOf i).toNat)
          case atStart => exact ⟨0, rfl, Nat.zero_le _, HR0⟩
          case round =>
            obtain ⟨k3, rfl, hk3, hR⟩ := hrel
            clear HR0
            by_cases hlt : k3 < j
            · have x1 : (k3 : Int) < (j : Int) := by omega
              have hlr3 := rep_len Y k3 14
              have hrs := rep_succ Y k3 14
              obtain ⟨Z, hZ⟩ : ∃ Z, Y ++ List.replicate k3 14 = Z := ⟨_, rfl⟩
              rw [hZ] at hlr3 hrs hR
              have HS := Lib.hid hrs
              have HA := Lib.hid (hR.out.alloc (.cells #[.int .i64 14] 3))
              clear hR hZ hrs
              go_wp2_with (at_builtin; refine app_rn rfl _ _ rfl _ Z 14 rfl HA.out (ad := ⟨wr.heap.size, 0, none⟩) (c := 1) (by simp [go_sem]) (ri_one (heap_alloc_new wr _)) (by omega) ?_)
              intro v' w3 hR3
              have HR3 := Lib.hid hR3
              clear hR3
              go_wp2_with fail
              go_roundw
              case rel => exact ⟨k3 + 1, by go_num, by omega, Lib.hid (by rw [HS.out]; exact HR3.out)⟩
              case measure => simp [intOf]; omega
            · obtain rfl : k3 = j := by omega
              have hR2 : Rn w1 L u6 wr := by
                have := HLX.out
                rw [HX.out, HY.out] at this
                rw [← this]; exact hR.out
              obtain ⟨g, cap, hv, -, -⟩ := hR2.own.form (by rw [HL1.out]; omega)
              rw [HL1.out] at hv
              subst hv
              have hri := (ri_row hR2.own).2.1
              have hcap := row_cap hR2.own
              have HR2 := Lib.hid hri
              have HBW := Lib.hid (bel_trans HB1.out hR2.bel)
              have y4 : k ≤ cap := by omega
              clear hlt hR hR2 hri HX HY HLX
              go_wp2_with fail
              ((with_reducible refine (r1 _ HR2.out (HT.out.below HBW.out)).mono ?_))
              rintro e w4 ⟨B4, c4, rfl, hb4, -, -⟩
              have HB4 := Lib.hid (bel_trans HBW.out hb4)
              have HR4 := Lib.hid (HR2.out.below hb4)
              clear hb4
              go_wp2_with fail
              ((with_reducible refine (r2 _ (HR4.out.take k) (HT.out.below HB4.out)).mono ?_))
              rintro e w5 ⟨B5, c5, rfl, hb5, -, -⟩
              have HB5 := Lib.hid (bel_trans HB4.out hb5)
              have HR5 := Lib.hid (HR4.out.below hb5)
              clear hb5
              go_wp2_with (at_builtin; refine app_ints rfl _ _ rfl w5.heap.size _ _ [] rfl (World.ownsRow_nil _ _ _ _) (A := some ⟨g, 0, none⟩) (m := K) (c := cap) (ts := L) rfl HR5.out HL1.out (fun e => by cases e) (by omega) (Nat.le_refl _) ?_)
              intro v6 w6 ho6 hg6
              have hB6 : Below w5.heap.size w5 w6 := (Below.refl _ w5).grown hg6 (Nat.le_refl _) (fun k hk => by cases hk)
              have hR6 : Rn w5 L v6 w6 := ⟨by rw [HL1.out]; simpa using ho6, hB6⟩
              have HA6 := Lib.hid (hR6.alloc (.cells #[.int .i64 14] 3))
              clear ho6 hg6 hB6 hR6
              go_wp2_with (at_builtin; refine app_rn rfl _ _ rfl _ L 14 rfl HA6.out (ad := ⟨w6.heap.size, 0, none⟩) (c := 1) (by simp [go_sem]) (ri_one (heap_alloc_new w6 _)) (by rw [HL1.out]; omega) ?_)
              intro v7 w7 hR7
              obtain ⟨g7, cap7, rfl, -, -⟩ := hR7.own.form (by rw [List.length_append]; simp)
              have hl7 : (L ++ [14]).length = K + 1 := by rw [List.length_append, HL1.out]; rfl
              have hri7 := (ri_row hR7.own).2.1
              rw [hl7]
              have HR7 := Lib.hid hri7
              have HB7 := Lib.hid (bel_trans HB5.out hR7.bel)
              clear hR7 hri7 hl7
              go_wp2_with fail
              ((with_reducible refine (r3 _ HR7.out (HT.out.below HB7.out)).mono ?_))
              rintro e w8 ⟨B8, c8, rfl, hb8, -, -⟩
              have HB8 := Lib.hid (bel_trans HB7.out hb8)
              have HB9 := Lib.hid (bel_alloc (bel_trans HB7.out hb8) (.cells #[.int .i64 12, .int .i64 14] 3))
              have HR9 := Lib.hid (ri_two (heap_alloc_new w8 (.cells #[.int .i64 12, .int .i64 14] 3)))
              clear hb8
              go_wp2_with fail
              ((with_reducible refine (r4 _ HR9.out (HT.out.below HB9.out)).mono ?_))
              rintro e w10 ⟨B10, c10, rfl, hb10, -, -⟩
              have HB10 := Lib.hid (bel_trans HB9.out hb10)
              clear hb10
              go_wp2_with fail
              go_ret
              exact ⟨by simp, HB10.out⟩
end Go.Proofs.YtkgljjinegphdaaDoor
