/- The document's own answers for layer 18 (copperplateref18): Upto, Room, Lay, Col; the law WideTells. -/
import Derived.Test.YtcbhhdnnmnogdaaWidS
import Derived.Test.YtcbhhdnnmnogdaaWidE
namespace Go.Proofs.Ytcbhhdnnmnogdaa
open Go.RowKit
set_option linter.unusedVariables false
set_option maxRecDepth 100000

theorem B5.other5 {w : World} {b : Nat} {v0 v1 v2 v3 v4 : Value} (h : B5 w b v0 v1 v2 v3 v4) {q : Nat} (hq : q ≠ b) (u0 u1 u2 u3 u4 : Value) : B5 (set5 w q u0 u1 u2 u3 u4) b v0 v1 v2 v3 v4 :=
  ((((h.other (p := ⟨q, 0, none⟩) hq u0).other (p := ⟨q, 1, none⟩) hq u1).other (p := ⟨q, 2, none⟩) hq u2).other (p := ⟨q, 3, none⟩) hq u3).other (p := ⟨q, 4, none⟩) hq u4
set_option maxHeartbeats 4000000 in
theorem rupto_any {w : World} {A : Option Addr} {n c : Nat} {l : List Bq} {W : Int} {k : Nat} (hA : Br w A l) (hn : l.length = n) (hz : n ≤ 400) (hm : mayF 0 0 l = true) (hv : vS l ≤ 100000000) (hW1 : 1 ≤ W) (hW : W ≤ 65535) (hk : k ≤ n) :
    Calls Try.prog 21 #[.slice A n c, .int .i64 W, .int .i64 (k : Int)] w fun e w' => e = .returned (pgV (pgs l W k)) ∧ Below w.heap.size w w' := by
  have hok := mayF_ok hm
  have hvs : ∀ b ∈ l, b.v.size ≤ 100000000 := fun b hb => by
    obtain ⟨j, hj⟩ := List.mem_iff_getElem?.1 hb
    have h1 := vS_next hj
    have h2 := vS_le l (j + 1)
    omega
  have hs : SzB l := fun b hb => Nat.le_trans (hvs b hb) (by decide)
  have HI := Lib.hid (pgs_inv W hm (by omega : l.length ≤ 400))
  have HA := Lib.hid hA
  have HL := Lib.hid hn
  have HV := Lib.hid hv
  have HOK := Lib.hid hok
  have HS := Lib.hid hs
  obtain ⟨g, hg⟩ : ∃ g, w.heap.size = g := ⟨_, rfl⟩
  have HG := Lib.hid hg
  have K1 := Lib.hid (show B5 (w.alloc (.cells #[.string ⟨#[]⟩, .int .i64 0, .int .i64 0, .int .i64 0, .int .i64 0] 38)) w.heap.size _ _ _ _ _ from B5.new w _ _ _ _ _ _)
  have K2 := Lib.hid (K1.out.below (bel_alloc (Below.refl _ _) (.cells #[.string ⟨#[]⟩, .int .i64 0, .int .i64 0, .int .i64 0, .int .i64 (-1)] 38)))
  have K3 := Lib.hid (show B5 ((w.alloc (.cells #[.string ⟨#[]⟩, .int .i64 0, .int .i64 0, .int .i64 0, .int .i64 0] 38)).alloc (.cells #[.string ⟨#[]⟩, .int .i64 0, .int .i64 0, .int .i64 0, .int .i64 (-1)] 38)) (w.heap.size + 1) _ _ _ _ _ by simpa using B5.new (w.alloc (.cells #[.string ⟨#[]⟩, .int .i64 0, .int .i64 0, .int .i64 0, .int .i64 0] 38)) _ _ _ _ _ _)
  have K4 := Lib.hid (bel_alloc (bel_alloc (Below.refl _ w) (.cells #[.string ⟨#[]⟩, .int .i64 0, .int .i64 0, .int .i64 0, .int .i64 0] 38)) (.cells #[.string ⟨#[]⟩, .int .i64 0, .int .i64 0, .int .i64 0, .int .i64 (-1)] 38))
  unfold pgV
  clear hA hn hm hv hok hvs hs hg K1
  go_enter Try.func21, Try.ntmps21
  go_wp2_with fail
  generalize (w.alloc (.cells #[.string ⟨#[]⟩, .int .i64 0, .int .i64 0, .int .i64 0, .int .i64 0] 38)).alloc (.cells #[.string ⟨#[]⟩, .int .i64 0, .int .i64 0, .int .i64 0, .int .i64 (-1)] 38) = W0 at K2 K3 K4 ⊢
  rw [HG.out] at K2 K3 ⊢
  go_loopw [8] (fun i wr => ∃ j : Nat, j ≤ k ∧ i = .int .i64 j ∧ Hid (B5 wr g (.string ⟨#[]⟩) (.int .i64 0) (.int .i64 0) (.int .i64 0) (.int .i64 0)) ∧ Hid (B5 wr (g + 1) (.string (mkb (pgs l W j).out)) (.int .i64 (pgs l W j).ind) (.int .i64 (pgs l W j).col) (.int .i64 (pgs l W j).due) (.int .i64 (pgs l W j).fl)) ∧ Hid (Below w.heap.size w wr)) (fun i _ => k - (intOf i).toNat)
  case atStart => exact ⟨0, Nat.zero_le _, rfl, K2, K3, K4⟩
  case round =>
    obtain ⟨j, hj, rfl, kr, kp, kb⟩ := hrel
    by_cases hlt : j < k
    · obtain ⟨t, ht⟩ : ∃ t, l[j]? = some t := ⟨_, List.getElem?_eq_getElem (by rw [HL.out]; omega)⟩
      have hpi := HI.out j (by rw [HL.out]; omega)
      have hnx := pgs_next (w := W) ht
      have hokt := HOK.out t (List.mem_of_getElem? ht)
      have hnr := neA_range HS.out (by rw [HL.out]; omega) (nec_spec l j)
      generalize pgs l W j = p at kp hpi hnx ⊢
      have rP := fun V (q : Bool) (h : Br V A l) hq => rprint_any (w := V) (c := c) (q := q) (W := W) h HL.out hz HV.out ht hpi hq hokt
      rw [← hnx] at rP
      obtain ⟨b0, o0, rfl, d0, d1⟩ := (HA.out.below kb.out) j t ht
      have lb0 := World.block_lt_of_cell? _ _ d0
      have rN := fun V (h : Br V (some ⟨b0, o0, none⟩) l) => rneed_any (w := V) (c := c) (nec_spec l j) HS.out HL.out (by omega) h
      obtain ⟨c0, c1, c2, c3, c4, f0, f1, f2, f3, f4⟩ := kp.out
      have i3 := hpi.col0
      have i4 := hpi.colk
      have hvl := vS_le l j
      have hv2 := HV.out
      have hfl1 : p.fl = -1 ∨ 0 ≤ p.fl := by
        rcases hpi.fl with e | ⟨o, m, -, -, e, -⟩
        · exact .inl e
        · exact .inr (by omega)
      have b1 : p.col ≤ 200000000 := by omega
      have HNX := Lib.hid hnx
      obtain ⟨N, hN⟩ : ∃ N, nec l j = N := ⟨_, rfl⟩
      rw [hN] at hnr rN rP
      have hwr : IntKind.i64.wrap (p.col + N) = p.col + N := IntWalk.i64_in _ (by omega)
      obtain ⟨tm, tv⟩ := t
      obtain ⟨out, ind, col, due, f⟩ := p
      unfold pgV at rP
      dsimp only at d0 d1 c0 c1 c2 c3 c4 i3 i4 hfl1 b1 hwr rP kp hnx
      clear hpi hokt ht hvl hv2 hN hnx i4
      have qlt : (j : Int) < (k : Int) := by omega
      by_cases h6 : tm = 6
      · subst h6
        rcases hfl1 with hf | hf
        · subst hf
          go_wp2_with fail
          ((with_reducible refine (rN _ (HA.out.below kb.out)).mono ?_))
          rintro e w3 ⟨rfl, hb3⟩
          have kp2 := Lib.hid (kp.out.below hb3)
          have kr2 := Lib.hid (kr.out.below hb3)
          have kb2 := Lib.hid (bel_trans kb.out hb3)
          clear hb3 c0 c1 c2 c3 c4 f0 f1 f2 f3 f4 d0 d1 kp kr kb
          obtain ⟨c0, c1, c2, c3, c4, f0, f1, f2, f3, f4⟩ := kp2.out
          obtain ⟨d0, d1⟩ : True ∧ True := ⟨trivial, trivial⟩
          obtain ⟨kp, kr, kb⟩ : True ∧ True ∧ True := ⟨trivial, trivial, trivial⟩
          by_cases g0 : 0 ≤ N
          · go_wp2_with fail
            ((with_reducible refine (rP _ (decide (col + N ≤ W)) (HA.out.below kb2.out) (fun _ _ => ⟨fun e => ⟨g0, of_decide_eq_true e⟩, fun e => decide_eq_true e.2⟩)).mono ?_))
            rintro e w4 ⟨rfl, hb4⟩
            have kp' := Lib.hid (kp2.out.below hb4)
            have kr' := Lib.hid (kr2.out.below hb4)
            have kb' := Lib.hid (bel_trans kb2.out hb4)
            clear hb4 rP rN kp kr kb c0 c1 c2 c3 c4 f0 f1 f2 f3 f4 d0 d1
            obtain ⟨c0, c1, c2, c3, c4, f0, f1, f2, f3, f4⟩ := kp'.out
            go_wp2
            go_roundw
            case rel => exact ⟨j + 1, by omega, by go_num, Lib.hid (kr'.out.other5 (Nat.succ_ne_self g) _ _ _ _ _), Lib.hid (kp'.out.set _ _ _ _ _), Lib.hid (bel_set5 kb'.out (by rw [HG.out]; exact Nat.le_succ _) _ _ _ _ _)⟩
            case measure => simp [intOf]; omega
          · go_wp2_with fail
            ((with_reducible refine (rP _ false (HA.out.below kb2.out) (fun _ _ => ⟨fun e => Bool.noConfusion e, fun e => by omega⟩)).mono ?_))
            rintro e w4 ⟨rfl, hb4⟩
            have kp' := Lib.hid (kp2.out.below hb4)
            have kr' := Lib.hid (kr2.out.below hb4)
            have kb' := Lib.hid (bel_trans kb2.out hb4)
            clear hb4 rP rN kp kr kb c0 c1 c2 c3 c4 f0 f1 f2 f3 f4 d0 d1
            obtain ⟨c0, c1, c2, c3, c4, f0, f1, f2, f3, f4⟩ := kp'.out
            go_wp2
            go_roundw
            case rel => exact ⟨j + 1, by omega, by go_num, Lib.hid (kr'.out.other5 (Nat.succ_ne_self g) _ _ _ _ _), Lib.hid (kp'.out.set _ _ _ _ _), Lib.hid (bel_set5 kb'.out (by rw [HG.out]; exact Nat.le_succ _) _ _ _ _ _)⟩
            case measure => simp [intOf]; omega
        · have k1 : ¬ f < 0 := by omega
          go_wp2_with fail
          ((with_reducible refine (rP _ false (HA.out.below kb.out) (fun _ e => by omega)).mono ?_))
          rintro e w4 ⟨rfl, hb4⟩
          have kp' := Lib.hid (kp.out.below hb4)
          have kr' := Lib.hid (kr.out.below hb4)
          have kb' := Lib.hid (bel_trans kb.out hb4)
          clear hb4 rP rN kp kr kb c0 c1 c2 c3 c4 f0 f1 f2 f3 f4 d0 d1
          obtain ⟨c0, c1, c2, c3, c4, f0, f1, f2, f3, f4⟩ := kp'.out
          go_wp2
          go_roundw
          case rel => exact ⟨j + 1, by omega, by go_num, Lib.hid (kr'.out.other5 (Nat.succ_ne_self g) _ _ _ _ _), Lib.hid (kp'.out.set _ _ _ _ _), Lib.hid (bel_set5 kb'.out (by rw [HG.out]; exact Nat.le_succ _) _ _ _ _ _)⟩
          case measure => simp [intOf]; omega
      · have g6 : (tm == 6) = false := beq_eq_false_iff_ne.2 h6
        go_wp2_with fail
        ((with_reducible refine (rP _ false (HA.out.below kb.out) (fun e => absurd e h6)).mono ?_))
        rintro e w4 ⟨rfl, hb4⟩
        have kp' := Lib.hid (kp.out.below hb4)
        have kr' := Lib.hid (kr.out.below hb4)
        have kb' := Lib.hid (bel_trans kb.out hb4)
        clear hb4 rP rN kp kr kb c0 c1 c2 c3 c4 f0 f1 f2 f3 f4 d0 d1
        obtain ⟨c0, c1, c2, c3, c4, f0, f1, f2, f3, f4⟩ := kp'.out
        go_wp2
        go_roundw
        case rel => exact ⟨j + 1, by omega, by go_num, Lib.hid (kr'.out.other5 (Nat.succ_ne_self g) _ _ _ _ _), Lib.hid (kp'.out.set _ _ _ _ _), Lib.hid (bel_set5 kb'.out (by rw [HG.out]; exact Nat.le_succ _) _ _ _ _ _)⟩
        case measure => simp [intOf]; omega
    · obtain rfl : j = k := by omega
      obtain ⟨c0, c1, c2, c3, c4, f0, f1, f2, f3, f4⟩ := kp.out
      obtain ⟨a0, a1, a2, a3, a4, e0, e1, e2, e3, e4⟩ := kr.out
      have HD := Lib.hid (show w.heap.size ≤ g by rw [HG.out]; exact Nat.le_refl _)
      go_wp2
      refine body_box rfl kr.out rfl rfl ?_
      exact ⟨rfl, bel_set5 kb.out HD.out _ _ _ _ _⟩
set_option maxHeartbeats 1000000 in
theorem rroom_any {w : World} {A : Option Addr} {n c : Nat} {l : List Bq} {W : Int} {r : Bool} (hr : rmF l W = r) (hA : Br w A l) (hn : l.length = n) (hz : n ≤ 100000) :
    Calls Try.prog 13 #[.slice A n c, .int .i64 W] w fun e w' => e = .returned (.bool r) ∧ w = w' := by
  have r1 := fun w h => rmay_any (w := w) (A := A) (n := n) (c := c) (r := mayL l) rfl h hn hz
  have HA := Lib.hid hA
  rw [rmF] at hr
  cases hm : mayL l
  · rw [hm] at hr r1
    obtain rfl : r = false := by rw [← hr]; simp
    clear hr hA hn hm
    go_enter Try.func13, Try.ntmps13
    go_wp2_with fail
    ((with_reducible refine (r1 _ HA.out).mono ?_))
    rintro e w1 ⟨rfl, rfl⟩
    clear r1
    go_wp2
    go_ret
    exact ⟨rfl, rfl⟩
  · rw [hm] at hr r1
    by_cases h1 : 1 ≤ W
    · by_cases h2 : W ≤ 65535
      · obtain rfl : r = true := by rw [← hr, decide_eq_true h1, decide_eq_true h2]; rfl
        clear hr hA hn hm
        go_enter Try.func13, Try.ntmps13
        go_wp2_with fail
        ((with_reducible refine (r1 _ HA.out).mono ?_))
        rintro e w1 ⟨rfl, rfl⟩
        clear r1
        go_wp2
        go_ret
        exact ⟨rfl, rfl⟩
      · obtain rfl : r = false := by rw [← hr, decide_eq_false h2]; simp
        have h2' : 65535 < W := Int.not_le.1 h2
        clear hr hA hn hm h2
        go_enter Try.func13, Try.ntmps13
        go_wp2_with fail
        ((with_reducible refine (r1 _ HA.out).mono ?_))
        rintro e w1 ⟨rfl, rfl⟩
        clear r1
        go_wp2
        go_ret
        exact ⟨by first | rfl | (show Ending.returned (.bool (decide (W ≤ 65535))) = _; rw [decide_eq_false (Int.not_le.2 h2')]), rfl⟩
    · obtain rfl : r = false := by rw [← hr, decide_eq_false h1]; rfl
      clear hr hA hn hm
      go_enter Try.func13, Try.ntmps13
      go_wp2_with fail
      ((with_reducible refine (r1 _ HA.out).mono ?_))
      rintro e w1 ⟨rfl, rfl⟩
      clear r1
      go_wp2
      go_ret
      exact ⟨rfl, rfl⟩
set_option maxHeartbeats 1000000 in
theorem rlay_any {w : World} {A : Option Addr} {n c : Nat} {l : List Bq} {W : Int} {r : Bool} {S : ByteArray} (hr : rmF l W = r) (hS : mkb (layF l W) = S) (hA : Br w A l) (hn : l.length = n) (hz : n ≤ 400) (hv : vS l ≤ 100000000) :
    Calls Try.prog 12 #[.slice A n c, .int .i64 W] w fun e w' => e = .returned (.tuple #[.string S, .bool r]) ∧ Below w.heap.size w w' := by
  have r1 := fun w h => rroom_any (w := w) (A := A) (n := n) (c := c) hr h hn (by omega)
  have HA := Lib.hid hA
  cases r with
  | false =>
    have e : S = ⟨#[]⟩ := by rw [← hS, layF, hr]; rfl
    subst e
    clear hr hS hA hn hv
    go_enter Try.func12, Try.ntmps12
    go_wp2_with fail
    ((with_reducible refine (r1 _ HA.out).mono ?_))
    rintro e w1 ⟨rfl, rfl⟩
    clear r1
    go_wp2
    go_ret2
    exact ⟨rfl, Below.refl _ _⟩
  | true =>
    obtain ⟨h1, h2, h3⟩ := rm_yes hr
    have r2 := fun w h => rupto_any (w := w) (A := A) (n := n) (c := c) (W := W) (k := n) h hn hz (mayL_yes h3) hv h1 h2 (Nat.le_refl _)
    have e : mkb (pgs l W n).out = S := by rw [← hS, layF, if_pos hr, hn]
    unfold pgV at r2
    rw [e] at r2
    generalize pgs l W n = p at r2
    obtain ⟨out, ind, col, due, f⟩ := p
    dsimp only at r2
    clear hr hS hA hn hv e h3
    go_enter Try.func12, Try.ntmps12
    go_wp2_with fail
    ((with_reducible refine (r1 _ HA.out).mono ?_))
    rintro e w1 ⟨rfl, rfl⟩
    clear r1
    go_wp2_with fail
    ((with_reducible refine (r2 _ HA.out).mono ?_))
    rintro e w2 ⟨rfl, hb2⟩
    have HB2 := Lib.hid (bel_alloc hb2 (.cells #[.string S, .int .i64 ind, .int .i64 col, .int .i64 due, .int .i64 f] 38))
    clear hb2 r2
    go_wp2
    go_ret2
    exact ⟨rfl, HB2.out⟩
set_option maxHeartbeats 1000000 in
theorem rcol_any {w : World} {A : Option Addr} {n c : Nat} {l : List Bq} {W k C : Int} (hC : colF l W k = C) (hA : Br w A l) (hn : l.length = n) (hz : n ≤ 400) (hv : vS l ≤ 100000000) :
    Calls Try.prog 16 #[.slice A n c, .int .i64 W, .int .i64 k] w fun e w' => e = .returned (.int .i64 C) ∧ Below w.heap.size w w' := by
  obtain ⟨r, hr⟩ : ∃ r, rmF l W = r := ⟨_, rfl⟩
  have r1 := fun w h => rroom_any (w := w) (A := A) (n := n) (c := c) hr h hn (by omega)
  have HA := Lib.hid hA
  cases r with
  | false =>
    obtain rfl : C = -1 := by rw [← hC, colF, hr]; rfl
    clear hC hr hA hn hv
    go_enter Try.func16, Try.ntmps16
    go_wp2_with fail
    ((with_reducible refine (r1 _ HA.out).mono ?_))
    rintro e w1 ⟨rfl, rfl⟩
    clear r1
    go_wp2
    go_ret
    exact ⟨rfl, Below.refl _ _⟩
  | true =>
    by_cases g0 : k < 0
    · obtain rfl : C = -1 := by rw [← hC, colF, if_neg (by omega)]
      clear hC hr hA hn hv
      go_enter Try.func16, Try.ntmps16
      go_wp2_with fail
      ((with_reducible refine (r1 _ HA.out).mono ?_))
      rintro e w1 ⟨rfl, rfl⟩
      clear r1
      go_wp2
      go_ret
      exact ⟨rfl, Below.refl _ _⟩
    by_cases g1 : (n : Int) < k
    · obtain rfl : C = -1 := by rw [← hC, colF, if_neg (by omega)]
      clear hC hr hA hn hv
      go_enter Try.func16, Try.ntmps16
      go_wp2_with fail
      ((with_reducible refine (r1 _ HA.out).mono ?_))
      rintro e w1 ⟨rfl, rfl⟩
      clear r1
      go_wp2
      go_ret
      exact ⟨rfl, Below.refl _ _⟩
    obtain ⟨h1, h2, h3⟩ := rm_yes hr
    obtain ⟨K, rfl⟩ : ∃ K : Nat, k = K := ⟨k.toNat, by omega⟩
    have r2 := fun w h => rupto_any (w := w) (A := A) (n := n) (c := c) (W := W) (k := K) h hn hz (mayL_yes h3) hv h1 h2 (by omega)
    have e : (pgs l W K).col = C := by rw [← hC, colF, if_pos ⟨hr, by omega, by omega⟩]; rfl
    unfold pgV at r2
    rw [e] at r2
    generalize pgs l W K = p at r2
    obtain ⟨out, ind, col, due, f⟩ := p
    dsimp only at r2
    generalize mkb out = O at r2
    clear hr hC hA hn hv e h3
    go_enter Try.func16, Try.ntmps16
    go_wp2_with fail
    ((with_reducible refine (r1 _ HA.out).mono ?_))
    rintro e w1 ⟨rfl, rfl⟩
    clear r1
    go_wp2_with fail
    ((with_reducible refine (r2 _ HA.out).mono ?_))
    rintro e w2 ⟨rfl, hb2⟩
    have HB2 := Lib.hid (bel_alloc hb2 (.cells #[.string O, .int .i64 ind, .int .i64 C, .int .i64 due, .int .i64 f] 38))
    clear hb2 r2
    go_wp2
    go_ret
    exact ⟨rfl, HB2.out⟩
end Go.Proofs.Ytcbhhdnnmnogdaa
