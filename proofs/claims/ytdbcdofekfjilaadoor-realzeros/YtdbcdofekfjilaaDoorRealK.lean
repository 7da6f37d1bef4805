/- The walk of RealZeros. -/
import Derived.Test.YtdbcdofekfjilaaDoorRealI
namespace Go.Proofs.YtdbcdofekfjilaaDoor
open Go.RowKit


set_option maxHeartbeats 1500000 in
set_option maxRecDepth 100000 in
theorem zeros_main (n m : Nat) (s : Bool) (es : List UInt8) (w : World) (h1 : 1 ≤ n) (h2 : n ≤ 20) (h3 : m ≤ 20) (h4 : es.length ≤ 30) :
    Calls Tryd.prog 7 #[.int .i64 n, .int .i64 m, .bool s, .string (mkb es)] w fun e w' => e = .returned (.bool true) ∧ Below w.heap.size w w' := by
  have hsz := mkb_size es
  have hzn := zs20 n h2
  have hzm := zs20 m h3
  have HZN := Lib.hid hzn
  have HZM := Lib.hid hzm
  clear hzn hzm
  go_enter Tryd.func7, Tryd.ntmps7
  go_wp2_with fail
  refine (awake_any _).mono ?_; rintro e w1 ⟨rfl, hb1⟩
  go_wp2_with fail
  go_loop [10] (fun i => ∃ k : Nat, k ≤ es.length ∧ i = .int .i64 k ∧ Hid ((es.take k).all isD = true)) (fun i => es.length - (intOf i).toNat)
  case atStart => exact ⟨0, Nat.zero_le _, rfl, by show _ = _; simp⟩
  case round =>
    obtain ⟨k, hk, rfl, hall⟩ := hrel
    by_cases hlt : k < es.length
    · have hks : k < (mkb es).size := by rw [mkb_size]; exact hlt
      have hbyte : (mkb es)[k]'hks = es[k] := rfl
      by_cases hD : isD es[k] = true
      · have hD' := (isD_iff _).1 hD
        have q1 : ¬ (((mkb es)[k]'hks).toNat : Int) < 48 := by rw [hbyte]; omega
        have q2 : ¬ (57 : Int) < (((mkb es)[k]'hks).toNat : Int) := by rw [hbyte]; omega
        have hnx : (es.take (k + 1)).all isD = true := by
          rw [List.take_succ_eq_append_getElem hlt, List.all_append, hall.out]; simp only [List.all_cons, List.all_nil, Bool.and_true, Bool.true_and]; exact hD
        have HNX := Lib.hid hnx
        clear hnx hD hD' hbyte
        go_wp2_with fail
        go_round
        case rel => exact ⟨k + 1, by omega, by go_num, HNX⟩
        case measure => simp [intOf]; omega
      · have hD' : es[k].toNat < 48 ∨ 57 < es[k].toNat := by
          by_cases a : 48 ≤ es[k].toNat
          · right
            by_cases b : es[k].toNat ≤ 57
            · exact absurd ((isD_iff _).2 ⟨a, b⟩) hD
            · omega
          · omega
        rcases hD' with q | q
        · have q1 : (((mkb es)[k]'hks).toNat : Int) < 48 := by rw [hbyte]; omega
          clear hD hbyte
          go_wp2_with fail
          go_ret
          exact ⟨rfl, hb1⟩
        · have q1 : ¬ (((mkb es)[k]'hks).toNat : Int) < 48 := by rw [hbyte]; omega
          have q2 : (57 : Int) < (((mkb es)[k]'hks).toNat : Int) := by rw [hbyte]; omega
          clear hD hbyte
          go_wp2_with fail
          go_ret
          exact ⟨rfl, hb1⟩
    · have hall' : es.all isD = true := by
        have := hall.out
        rwa [List.take_of_length_le (by omega)] at this
      have HA := Lib.hid hall'
      clear hall hall'
      obtain ⟨Z, hZ⟩ : ∃ Z : ByteArray, Z = mkb (List.replicate n 48) := ⟨_, rfl⟩
      obtain ⟨Y, hY⟩ : ∃ Y : ByteArray, Y = mkb (List.replicate m 48) := ⟨_, rfl⟩
      have hzn := HZN.out
      rw [← hZ] at hzn
      have hzm := HZM.out
      rw [← hY] at hzm
      by_cases hm0 : 1 ≤ m
      · skip
        have hmI : (0 : Int) < (m : Int) := by omega
        by_cases hee : es = []
        · skip
          have ee1 : (mkb es).toList.isEmpty = true := by rw [mkb_toList, hee]; rfl
          have ee2 : (mkb es).toList = [] := by rw [mkb_toList, hee]
          clear hee
          cases s
          · skip
            obtain ⟨A1, hA1, a1⟩ := sadd' (B := ⟨#[46]⟩) (b := [46]) hZ rfl (by simp; try omega)
            obtain ⟨A2, hA2, a2⟩ := sadd' hA1 hY (by simp; try omega)
            have hR := fun w => real_b (w := w) hA2 (show rv (List.replicate n 48 ++ [46] ++ List.replicate m 48) = 0 from z2 h1 hm0 false) (by simp; try omega)
            clear hY hZ hA1 hA2
            go_wp2_with fail
            (with_reducible refine (hR _).mono ?_); rintro e w2 ⟨rfl, hb2⟩
            have o : FloatKind.f64.format.order 0 0 = some .eq := by decide +kernel
            go_wp2_with fail
            (with_reducible refine (sort_any _ _ (by decide)).mono ?_); rintro e w3 ⟨rfl, rfl⟩
            rw [show sortv 0 = 2 by decide +kernel]
            go_wp2_with fail
            (with_reducible refine (negative_any _ _ (by decide)).mono ?_); rintro e w3 ⟨rfl, rfl⟩
            rw [show negv 0 = false by decide +kernel]
            go_wp2_with fail
            go_ret
            exact ⟨by simp, bel_trans hb1 hb2⟩
          · skip
            obtain ⟨A1, hA1, a1⟩ := sadd' (B := ⟨#[46]⟩) (b := [46]) hZ rfl (by simp; try omega)
            obtain ⟨A2, hA2, a2⟩ := sadd' hA1 hY (by simp; try omega)
            obtain ⟨A5, hA5, a5⟩ := sadd' (A := ⟨#[45]⟩) (a := [45]) rfl hA2 (by simp; try omega)
            have hR := fun w => real_b (w := w) hA5 (show rv ([45] ++ (List.replicate n 48 ++ [46] ++ List.replicate m 48)) = 9223372036854775808 from z2 h1 hm0 true) (by simp; try omega)
            clear hY hZ hA1 hA2 hA5
            go_wp2_with fail
            (with_reducible refine (hR _).mono ?_); rintro e w2 ⟨rfl, hb2⟩
            have o : FloatKind.f64.format.order 9223372036854775808 0 = some .eq := by decide +kernel
            go_wp2_with fail
            (with_reducible refine (sort_any _ _ (by decide)).mono ?_); rintro e w3 ⟨rfl, rfl⟩
            rw [show sortv 9223372036854775808 = 2 by decide +kernel]
            go_wp2_with fail
            (with_reducible refine (negative_any _ _ (by decide)).mono ?_); rintro e w3 ⟨rfl, rfl⟩
            rw [show negv 9223372036854775808 = true by decide +kernel]
            go_wp2_with fail
            go_ret
            exact ⟨by simp, bel_trans hb1 hb2⟩
        · skip
          have ee1 : (mkb es).toList.isEmpty = false := by rw [mkb_toList]; simpa using hee
          have ee2 : ¬ (mkb es).toList = [] := by rw [mkb_toList]; exact hee
          have he0 := Lib.hid hee
          clear hee
          cases s
          · skip
            obtain ⟨A1, hA1, a1⟩ := sadd' (B := ⟨#[46]⟩) (b := [46]) hZ rfl (by simp; try omega)
            obtain ⟨A2, hA2, a2⟩ := sadd' hA1 hY (by simp; try omega)
            obtain ⟨A3, hA3, a3⟩ := sadd' (B := ⟨#[101]⟩) (b := [101]) hA2 rfl (by simp; try omega)
            obtain ⟨A4, hA4, a4⟩ := sadd' (B := mkb es) (b := es) hA3 rfl (by simp; try omega)
            have hR := fun w => real_b (w := w) hA4 (show rv (List.replicate n 48 ++ [46] ++ List.replicate m 48 ++ [101] ++ es) = 0 from z4 h1 hm0 HA.out he0.out false) (by simp; try omega)
            clear hY hZ hA1 hA2 hA3 hA4
            go_wp2_with fail
            (with_reducible refine (hR _).mono ?_); rintro e w2 ⟨rfl, hb2⟩
            have o : FloatKind.f64.format.order 0 0 = some .eq := by decide +kernel
            go_wp2_with fail
            (with_reducible refine (sort_any _ _ (by decide)).mono ?_); rintro e w3 ⟨rfl, rfl⟩
            rw [show sortv 0 = 2 by decide +kernel]
            go_wp2_with fail
            (with_reducible refine (negative_any _ _ (by decide)).mono ?_); rintro e w3 ⟨rfl, rfl⟩
            rw [show negv 0 = false by decide +kernel]
            go_wp2_with fail
            go_ret
            exact ⟨by simp, bel_trans hb1 hb2⟩
          · skip
            obtain ⟨A1, hA1, a1⟩ := sadd' (B := ⟨#[46]⟩) (b := [46]) hZ rfl (by simp; try omega)
            obtain ⟨A2, hA2, a2⟩ := sadd' hA1 hY (by simp; try omega)
            obtain ⟨A3, hA3, a3⟩ := sadd' (B := ⟨#[101]⟩) (b := [101]) hA2 rfl (by simp; try omega)
            obtain ⟨A4, hA4, a4⟩ := sadd' (B := mkb es) (b := es) hA3 rfl (by simp; try omega)
            obtain ⟨A5, hA5, a5⟩ := sadd' (A := ⟨#[45]⟩) (a := [45]) rfl hA4 (by simp; try omega)
            have hR := fun w => real_b (w := w) hA5 (show rv ([45] ++ (List.replicate n 48 ++ [46] ++ List.replicate m 48 ++ [101] ++ es)) = 9223372036854775808 from z4 h1 hm0 HA.out he0.out true) (by simp; try omega)
            clear hY hZ hA1 hA2 hA3 hA4 hA5
            go_wp2_with fail
            (with_reducible refine (hR _).mono ?_); rintro e w2 ⟨rfl, hb2⟩
            have o : FloatKind.f64.format.order 9223372036854775808 0 = some .eq := by decide +kernel
            go_wp2_with fail
            (with_reducible refine (sort_any _ _ (by decide)).mono ?_); rintro e w3 ⟨rfl, rfl⟩
            rw [show sortv 9223372036854775808 = 2 by decide +kernel]
            go_wp2_with fail
            (with_reducible refine (negative_any _ _ (by decide)).mono ?_); rintro e w3 ⟨rfl, rfl⟩
            rw [show negv 9223372036854775808 = true by decide +kernel]
            go_wp2_with fail
            go_ret
            exact ⟨by simp, bel_trans hb1 hb2⟩
      · skip
        have hmI : ¬ (0 : Int) < (m : Int) := by omega
        by_cases hee : es = []
        · skip
          have ee1 : (mkb es).toList.isEmpty = true := by rw [mkb_toList, hee]; rfl
          have ee2 : (mkb es).toList = [] := by rw [mkb_toList, hee]
          clear hee
          cases s
          · skip
            have hR := fun w => real_b (w := w) hZ (show rv (List.replicate n 48) = 0 from z1 h1 false) (by simp; try omega)
            clear hY hZ
            go_wp2_with fail
            (with_reducible refine (hR _).mono ?_); rintro e w2 ⟨rfl, hb2⟩
            have o : FloatKind.f64.format.order 0 0 = some .eq := by decide +kernel
            go_wp2_with fail
            (with_reducible refine (sort_any _ _ (by decide)).mono ?_); rintro e w3 ⟨rfl, rfl⟩
            rw [show sortv 0 = 2 by decide +kernel]
            go_wp2_with fail
            (with_reducible refine (negative_any _ _ (by decide)).mono ?_); rintro e w3 ⟨rfl, rfl⟩
            rw [show negv 0 = false by decide +kernel]
            go_wp2_with fail
            go_ret
            exact ⟨by simp, bel_trans hb1 hb2⟩
          · skip
            obtain ⟨A5, hA5, a5⟩ := sadd' (A := ⟨#[45]⟩) (a := [45]) rfl hZ (by simp; try omega)
            have hR := fun w => real_b (w := w) hA5 (show rv ([45] ++ (List.replicate n 48)) = 9223372036854775808 from z1 h1 true) (by simp; try omega)
            clear hY hZ hA5
            go_wp2_with fail
            (with_reducible refine (hR _).mono ?_); rintro e w2 ⟨rfl, hb2⟩
            have o : FloatKind.f64.format.order 9223372036854775808 0 = some .eq := by decide +kernel
            go_wp2_with fail
            (with_reducible refine (sort_any _ _ (by decide)).mono ?_); rintro e w3 ⟨rfl, rfl⟩
            rw [show sortv 9223372036854775808 = 2 by decide +kernel]
            go_wp2_with fail
            (with_reducible refine (negative_any _ _ (by decide)).mono ?_); rintro e w3 ⟨rfl, rfl⟩
            rw [show negv 9223372036854775808 = true by decide +kernel]
            go_wp2_with fail
            go_ret
            exact ⟨by simp, bel_trans hb1 hb2⟩
        · skip
          have ee1 : (mkb es).toList.isEmpty = false := by rw [mkb_toList]; simpa using hee
          have ee2 : ¬ (mkb es).toList = [] := by rw [mkb_toList]; exact hee
          have he0 := Lib.hid hee
          clear hee
          cases s
          · skip
            obtain ⟨A3, hA3, a3⟩ := sadd' (B := ⟨#[101]⟩) (b := [101]) hZ rfl (by simp; try omega)
            obtain ⟨A4, hA4, a4⟩ := sadd' (B := mkb es) (b := es) hA3 rfl (by simp; try omega)
            have hR := fun w => real_b (w := w) hA4 (show rv (List.replicate n 48 ++ [101] ++ es) = 0 from z3 h1 HA.out he0.out false) (by simp; try omega)
            clear hY hZ hA3 hA4
            go_wp2_with fail
            (with_reducible refine (hR _).mono ?_); rintro e w2 ⟨rfl, hb2⟩
            have o : FloatKind.f64.format.order 0 0 = some .eq := by decide +kernel
            go_wp2_with fail
            (with_reducible refine (sort_any _ _ (by decide)).mono ?_); rintro e w3 ⟨rfl, rfl⟩
            rw [show sortv 0 = 2 by decide +kernel]
            go_wp2_with fail
            (with_reducible refine (negative_any _ _ (by decide)).mono ?_); rintro e w3 ⟨rfl, rfl⟩
            rw [show negv 0 = false by decide +kernel]
            go_wp2_with fail
            go_ret
            exact ⟨by simp, bel_trans hb1 hb2⟩
          · skip
            obtain ⟨A3, hA3, a3⟩ := sadd' (B := ⟨#[101]⟩) (b := [101]) hZ rfl (by simp; try omega)
            obtain ⟨A4, hA4, a4⟩ := sadd' (B := mkb es) (b := es) hA3 rfl (by simp; try omega)
            obtain ⟨A5, hA5, a5⟩ := sadd' (A := ⟨#[45]⟩) (a := [45]) rfl hA4 (by simp; try omega)
            have hR := fun w => real_b (w := w) hA5 (show rv ([45] ++ (List.replicate n 48 ++ [101] ++ es)) = 9223372036854775808 from z3 h1 HA.out he0.out true) (by simp; try omega)
            clear hY hZ hA3 hA4 hA5
            go_wp2_with fail
            (with_reducible refine (hR _).mono ?_); rintro e w2 ⟨rfl, hb2⟩
            have o : FloatKind.f64.format.order 9223372036854775808 0 = some .eq := by decide +kernel
            go_wp2_with fail
            (with_reducible refine (sort_any _ _ (by decide)).mono ?_); rintro e w3 ⟨rfl, rfl⟩
            rw [show sortv 9223372036854775808 = 2 by decide +kernel]
            go_wp2_with fail
            (with_reducible refine (negative_any _ _ (by decide)).mono ?_); rintro e w3 ⟨rfl, rfl⟩
            rw [show negv 9223372036854775808 = true by decide +kernel]
            go_wp2_with fail
            go_ret
            exact ⟨by simp, bel_trans hb1 hb2⟩

set_option maxHeartbeats 1000000 in
set_option maxRecDepth 100000 in
theorem zeros_any (n m : Int) (s : Bool) (e : ByteArray) (w : World) (hs : e.size ≤ 9223372036854775807) :
    Calls Tryd.prog 7 #[.int .i64 n, .int .i64 m, .bool s, .string e] w fun r w' => r = .returned (.bool true) ∧ Below w.heap.size w w' := by
  by_cases h1 : n < 1
  · go_enter Tryd.func7, Tryd.ntmps7
    go_wp2_with fail
    refine (awake_any _).mono ?_; rintro e w1 ⟨rfl, hb1⟩
    go_wp2_with fail
    go_ret
    exact ⟨rfl, hb1⟩
  by_cases h2 : 20 < n
  · go_enter Tryd.func7, Tryd.ntmps7
    go_wp2_with fail
    refine (awake_any _).mono ?_; rintro e w1 ⟨rfl, hb1⟩
    go_wp2_with fail
    go_ret
    exact ⟨rfl, hb1⟩
  by_cases h3 : m < 0
  · go_enter Tryd.func7, Tryd.ntmps7
    go_wp2_with fail
    refine (awake_any _).mono ?_; rintro e w1 ⟨rfl, hb1⟩
    go_wp2_with fail
    go_ret
    exact ⟨rfl, hb1⟩
  by_cases h4 : 20 < m
  · go_enter Tryd.func7, Tryd.ntmps7
    go_wp2_with fail
    refine (awake_any _).mono ?_; rintro e w1 ⟨rfl, hb1⟩
    go_wp2_with fail
    go_ret
    exact ⟨rfl, hb1⟩
  by_cases h5 : 30 < (e.size : Int)
  · go_enter Tryd.func7, Tryd.ntmps7
    go_wp2_with fail
    refine (awake_any _).mono ?_; rintro e w1 ⟨rfl, hb1⟩
    go_wp2_with fail
    go_ret
    exact ⟨rfl, hb1⟩
  · obtain ⟨a, rfl⟩ : ∃ a : Nat, n = (a : Int) := ⟨n.toNat, by omega⟩
    obtain ⟨b, rfl⟩ : ∃ b : Nat, m = (b : Int) := ⟨m.toNat, by omega⟩
    have := zeros_main a b s e.data.toList w (by omega) (by omega) (by omega) (by rw [← Lib.size_eq]; omega)
    exact this
end Go.Proofs.YtdbcdofekfjilaaDoor
