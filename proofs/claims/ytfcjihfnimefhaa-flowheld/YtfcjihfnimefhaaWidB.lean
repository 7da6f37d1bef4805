/- Contracts of package wide: cut, fits. -/
import Derived.Test.YtfcjihfnimefhaaWidA
namespace Go.Proofs.Ytfcjihfnimefhaa
open Go.RowKit
set_option linter.unusedVariables false
set_option maxRecDepth 100000

theorem Bn.br {w0 w : World} {A : Option Addr} {n c : Nat} {X : List Bq} (h : Bn w0 X (.slice A n c) w) : Br w A X := (br_row h.own).2.1
theorem Bn.at0 {w0 w : World} {A : Option Addr} {n c : Nat} {X : List Bq} (h : Bn w0 X (.slice A n c) w) (h0 : X ≠ []) : ∃ g, A = some ⟨g, 0, none⟩ := by
  rcases h.own.2 with ⟨h1, h2⟩ | ⟨g, cap, cur, h1, -⟩
  · exact absurd (List.length_eq_zero_iff.1 h2) h0
  · injection h1 with e1 e2 e3
    exact ⟨g, e1⟩
set_option maxHeartbeats 2000000 in
theorem cut_any {w : World} {A : Option Addr} {n c : Nat} {bs : List Bq} {W : Nat} (hA : Br w A bs) (hn : bs.length = n) (h0 : A = none → n = 0 ∧ c = 0) (hz : n ≤ 1000) (hs : SzB bs) (hW : W ≤ 65535) :
    Calls Try.prog 52 #[.slice A n c, .int .i64 (W : Int)] w fun e w' => ∃ v', e = .returned v' ∧ Bn w (cutL W bs) v' w' := by
  have r1 := fun w h => clone_any (w := w) (A := A) (n := n) (c := c) (bs := bs) h hn h0 hz
  have HA := Lib.hid hA
  have HL := Lib.hid hn
  have HS := Lib.hid hs
  clear hA hn h0 hs
  go_enter Try.func52, Try.ntmps52
  go_wp2_with fail
  ((with_reducible refine (r1 _ HA.out).mono ?_))
  rintro e w1 ⟨v1, rfl, h1⟩
  clear r1
  obtain ⟨A1, c1, rfl, -, -, hc1⟩ := h1.row
  rw [HL.out] at h1 hc1 ⊢
  have H1 := Lib.hid h1
  clear h1
  go_wp2_with fail
  go_loopw [12] (fun i wr => ∃ k : Nat, k ≤ n ∧ i = .int .i64 k ∧ Hid (Bn w (cutL W (bs.take k) ++ bs.drop k) (.slice A1 n c1) wr)) (fun i _ => n - (intOf i).toNat)
  case atStart => exact ⟨0, Nat.zero_le _, rfl, Lib.hid (by rw [List.take_zero, List.drop_zero]; exact H1.out)⟩
  case round =>
    obtain ⟨k, hk, rfl, hB⟩ := hrel
    by_cases hlt : k < n
    · obtain ⟨t, ht⟩ : ∃ t, bs[k]? = some t := ⟨_, List.getElem?_eq_getElem (by rw [HL.out]; exact hlt)⟩
      have hdr := drop_consM ht
      have hB2 := hB.out
      rw [hdr] at hB2
      have hlen : (cutL W (bs.take k)).length = k := by rw [cutL_len, List.length_take, HL.out]; omega
      have hX : (cutL W (bs.take k) ++ t :: bs.drop (k + 1)).length = n := by rw [List.length_append, hlen, List.length_cons, List.length_drop, HL.out]; omega
      obtain ⟨g, rfl⟩ := hB2.at0 (by simp)
      obtain ⟨b, o, he, d0, d1⟩ := hB2.br k t (by rw [List.getElem?_append_right (by rw [hlen]; exact Nat.le_refl _), hlen, Nat.sub_self]; rfl)
      obtain ⟨rfl, rfl⟩ : g = b ∧ 0 = o := by injection he with he; injection he with e1 e2; exact ⟨e1, e2⟩
      rw [Nat.zero_add] at d0 d1
      have lg := World.block_lt_of_cell? _ _ d0
      have f1 := hB2.frozen hX (k * 2 + 1)
      have hts := HS.out t (List.mem_of_getElem? ht)
      have hnx : cutL W (bs.take (k + 1)) ++ bs.drop (k + 1) = cutL W (bs.take k) ++ ⟨t.m, cutV W t.v⟩ :: bs.drop (k + 1) := by
        rw [List.take_add_one, ht, cutL, List.map_append, List.append_assoc]; rfl
      have HNX := Lib.hid hnx
      have HB3 := Lib.hid ((hB2.setv hX hlen (cutV W t.v)).alloc (.cells #[.int .i64 t.m, .string t.v] 34))
      obtain ⟨tm, tv⟩ := t
      dsimp only at d0 d1 hts HB3 HNX
      have hw1 : IntKind.i64.wrap ((W : Int) + 1) = (W : Int) + 1 := IntWalk.i64_in _ (by omega)
      have hw2 : IntKind.i64.wrap (((W : Int) + 1) * 4) = (((W + 1) * 4 : Nat) : Int) := by rw [IntWalk.i64_in _ (by omega)]; omega
      obtain ⟨K, hK⟩ : ∃ K, (W + 1) * 4 = K := ⟨_, rfl⟩
      rw [hK] at hw2
      have HK := Lib.hid hK
      clear hdr hB2 ht hX hlen he hnx hB hK
      by_cases hv : tv.size ≤ K
      · have q1 : ¬ (K : Int) < (tv.size : Int) := by omega
        have e : cutV W tv = tv := by
          apply ByteArray.ext
          apply Array.ext'
          rw [cutV_list, HK.out, List.take_of_length_le (by rw [← size_list]; exact hv)]
        rw [e] at HNX HB3
        clear HK e
        go_wp2
        go_roundw
        case rel => exact ⟨k + 1, by omega, by go_num, by rw [HNX.out]; exact HB3⟩
        case measure => simp [intOf]; omega
      · have q1 : (K : Int) < (tv.size : Int) := by omega
        have q2 : K ≤ tv.size := by omega
        have e : cutV W tv = tv.extract 0 K := by rw [cutV, HK.out, Nat.min_eq_right q2]
        rw [e] at HNX HB3
        clear HK e
        go_wp2
        go_roundw
        case rel => exact ⟨k + 1, by omega, by go_num, by rw [HNX.out]; exact HB3⟩
        case measure => simp [intOf]; omega
    · obtain rfl : k = n := by omega
      have hB2 := hB.out
      rw [List.take_of_length_le (by rw [HL.out]; exact Nat.le_refl _), List.drop_eq_nil_of_le (by rw [HL.out]; exact Nat.le_refl _), List.append_nil] at hB2
      have HB2 := Lib.hid hB2
      clear hB hB2
      go_wp2
      go_ret
      exact ⟨_, rfl, HB2.out⟩
set_option maxHeartbeats 1000000 in
theorem fits_any {w : World} {A : Option Addr} {n c : Nat} {us : List Bz} {i r d : Int} {q : Bool} (hq : decide (0 ≤ r ∧ r ≤ d) = q) (hr : NeA (us.map (·.b)) i r) (hl : us.length = n) (hn : n ≤ 1000) (hc : n ≤ c) (hA : Br w A (us.map (·.b))) :
    Calls Try.prog 53 #[.slice A n c, .int .i64 i, .int .i64 d] w fun e w' => e = .returned (.bool q) ∧ Below w.heap.size w w' := by
  have r1 := fun w h => sneed_any (w := w) (A := A) (n := n) (c := c) hr hl hn hc h
  have HA := Lib.hid hA
  have HL := Lib.hid hl
  clear hA hr hl
  by_cases g0 : 0 ≤ r
  · by_cases g1 : r ≤ d
    · obtain rfl : q = true := by rw [← hq, decide_eq_true_eq]; exact ⟨g0, g1⟩
      clear hq
      go_enter Try.func53, Try.ntmps53
      go_wp2_with fail
      ((with_reducible refine (r1 _ HA.out).mono ?_))
      rintro e w1 ⟨rfl, hb1⟩
      have HB1 := Lib.hid hb1
      clear hb1 r1
      go_wp2
      go_ret
      exact ⟨rfl, HB1.out⟩
    · obtain rfl : q = false := by rw [← hq, decide_eq_false_iff_not]; omega
      clear hq
      go_enter Try.func53, Try.ntmps53
      go_wp2_with fail
      ((with_reducible refine (r1 _ HA.out).mono ?_))
      rintro e w1 ⟨rfl, hb1⟩
      have HB1 := Lib.hid hb1
      clear hb1 r1
      go_wp2
      go_ret
      exact ⟨by show Ending.returned (.bool (decide (r ≤ d))) = _; rw [decide_eq_false (Int.not_le.2 g1)], HB1.out⟩
  · obtain rfl : q = false := by rw [← hq, decide_eq_false_iff_not]; omega
    clear hq
    go_enter Try.func53, Try.ntmps53
    go_wp2_with fail
    ((with_reducible refine (r1 _ HA.out).mono ?_))
    rintro e w1 ⟨rfl, hb1⟩
    have HB1 := Lib.hid hb1
    clear hb1 r1
    go_wp2
    go_ret
    exact ⟨rfl, HB1.out⟩
end Go.Proofs.Ytfcjihfnimefhaa
