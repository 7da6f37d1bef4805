/- The law YieldPlain: its walk. -/
import Derived.Test.YtcipfipfamecmaaDoorYieG
import Derived.Test.YtcipfipfamecmaaDoorSymF
namespace Go.Proofs.YtcipfipfamecmaaDoor
open Go.RowKit
set_option linter.unusedVariables false
set_option maxRecDepth 100000

theorem snoc_take {R : List Int} {N : Nat} (h : R.length = N + 1) : ∃ j, R = R.take N ++ [j] := by
  have hN : N < R.length := by omega
  have h1 := List.take_add_one (l := R) (i := N)
  rw [List.take_of_length_le (by omega), List.getElem?_eq_getElem hN] at h1
  exact ⟨R[N], h1⟩
set_option maxHeartbeats 4000000 in
theorem plain_law (i : Int) {w : World} {A : Option Addr} {n c : Nat} {R : List Int} (hl : R.length = n) (hc : n ≤ c) (hA : Ri w A R) (hno : A = none → n = 0 ∧ c = 0) (ht : TabR w) :
    Calls Tryd.prog 7 #[.slice A n c, .int .i64 i] w fun e w' => e = .returned (.bool true) ∧ Below w.heap.size w w' := by
  have HT := Lib.hid ht
  by_cases h600 : 600 < n
  · have q1 : (600 : Int) < (n : Int) := by omega
    clear h600 hl hA ht hno
    go_enter Tryd.func7, Tryd.ntmps7
    go_wp2_with fail
    ((with_reducible refine (awake_any _ HT.out).mono ?_))
    rintro e w1 ⟨rfl, hb1⟩
    have HB1 := Lib.hid hb1
    clear hb1
    go_wp2_with fail
    go_ret
    exact ⟨rfl, HB1.out⟩
  have q1 : ¬ (600 : Int) < (n : Int) := by omega
  obtain ⟨X, is, hf⟩ := ful_ex R
  obtain ⟨m, hm⟩ : ∃ m, X.length = m := ⟨_, rfl⟩
  obtain ⟨Y, hY⟩ : ∃ Y, plS X = Y := ⟨_, rfl⟩
  obtain ⟨k, hk⟩ : ∃ k, Y.length = k := ⟨_, rfl⟩
  have hm2 : m ≤ 20001 := by have := ful_len hf; omega
  have hk2 : k ≤ 20001 := by have h2 := plS_le X; rw [hY] at h2; omega
  have r1 := fun w h h' => yield_any (w := w) (A := A) (c := c) hf hY hk hl hc (by omega) h h'
  have r2 := fun w h h' => full_any (w := w) (A := A) (c := c) hf hm hl hc (by omega) h h'
  have HA := Lib.hid hA
  cases is
  · have hX := hf.no
    subst hX
    obtain rfl : Y = [] := hY.symm
    obtain rfl : m = 0 := hm.symm
    obtain rfl : k = 0 := hk.symm
    clear hl hA ht hno h600 hf hm hY hk hm2 hk2
    go_enter Tryd.func7, Tryd.ntmps7
    go_wp2_with fail
    ((with_reducible refine (awake_any _ HT.out).mono ?_))
    rintro e w1 ⟨rfl, hb1⟩
    have HB1 := Lib.hid hb1
    clear hb1
    go_wp2_with fail
    ((with_reducible refine (r1 _ (HA.out.below HB1.out) (HT.out.below HB1.out)).mono ?_))
    rintro e w2 ⟨B2, d2, rfl, hb2, -, -⟩
    have HB2 := Lib.hid (bel_trans HB1.out hb2)
    clear hb2
    go_wp2_with fail
    ((with_reducible refine (r2 _ (HA.out.below HB2.out) (HT.out.below HB2.out)).mono ?_))
    rintro e w3 ⟨B3, d3, rfl, hb3, -, -⟩
    have HB3 := Lib.hid (bel_trans HB2.out hb3)
    clear hb3
    go_wp2_with fail
    go_ret
    exact ⟨by simp, HB3.out⟩
  · have hn0 : 0 < n := by
      by_cases e : 0 < n
      · exact e
      · obtain rfl : R = [] := List.eq_nil_of_length_eq_zero (by omega)
        exact absurd (ful_nil hf) (by simp)
    obtain ⟨N, hN⟩ : ∃ N, n = N + 1 := ⟨n - 1, by omega⟩
    obtain ⟨j, hj⟩ := snoc_take (R := R) (N := N) (by omega)
    obtain ⟨X1, is1, hf1⟩ := ful_ex (R ++ [i])
    obtain rfl : is1 = false := ful_more hf hf1
    obtain ⟨X2, is2, hf2⟩ := ful_ex (R.take N)
    obtain rfl : is2 = false := by rw [hj] at hf; exact ful_less hf hf2
    obtain rfl : X1 = [] := hf1.no
    obtain rfl : X2 = [] := hf2.no
    have hkd : ∀ t ∈ Y, t.k = 0 ∨ t.k = 2 := by rw [← hY]; exact ful_kinds hf
    have r3 := fun {w B d} h0 h h' => yield_any (w := w) (A := B) (c := d) (n := n + 1) (m := 0) hf1 rfl rfl (by rw [List.length_append, hl]; rfl) h0 (by omega) h h'
    have r4 := fun w h h' => yield_any (w := w) (A := A) (c := c) (n := N) (m := 0) hf2 rfl rfl (by rw [List.length_take, hl]; omega) (by omega) (by omega) h h'
    have r5 := fun {w A c} h => plain_n (w := w) (A := A) (c := c) hY hk h hm (by omega)
    have r6 := fun {w A B c d} h h' => syms_any (w := w) (A := A) (B := B) (c := c) (d := d) (sameS_refl Y) h h' hk hk (by omega)
    obtain ⟨ad, rfl⟩ : ∃ ad, A = some ad := by cases A with | none => exact absurd (hno rfl).1 (by omega) | some ad => exact ⟨ad, rfl⟩
    have q0 : ((n : Int) == 0) = false := by simp; omega
    have q3 : (n : Int) - 1 = (N : Int) := by omega
    have q4 : IntKind.i64.wrap ((n : Int) - 1) = (N : Int) := by rw [q3]; exact IntWalk.i64_in _ (by omega)
    have q5 : IntKind.i64.wrap (N : Int) = (N : Int) := IntWalk.i64_in _ (by omega)
    have q6 : N ≤ c := by omega
    have q7 : N ≤ n := by omega
    have HK := Lib.hid hk
    have HKD := Lib.hid hkd
    have HL := Lib.hid hl
    clear hl hA ht hno h600 hf hm hY hk hm2 hf1 hf2 hkd hj hN hn0
    go_enter Tryd.func7, Tryd.ntmps7
    go_wp2_with fail
    ((with_reducible refine (awake_any _ HT.out).mono ?_))
    rintro e w1 ⟨rfl, hb1⟩
    have HB1 := Lib.hid hb1
    clear hb1
    go_wp2_with fail
    ((with_reducible refine (r1 _ (HA.out.below HB1.out) (HT.out.below HB1.out)).mono ?_))
    rintro e w2 ⟨B2, d2, rfl, hb2, hs2, -⟩
    have HB2 := Lib.hid (bel_trans HB1.out hb2)
    have HS2 := Lib.hid hs2
    clear hb2 hs2
    go_wp2_with fail
    ((with_reducible refine (r2 _ (HA.out.below HB2.out) (HT.out.below HB2.out)).mono ?_))
    rintro e w3 ⟨B3, d3, rfl, hb3, hs3, -⟩
    have HB3 := Lib.hid (bel_trans HB2.out hb3)
    have HS23 := Lib.hid (HS2.out.below hb3)
    have HS3 := Lib.hid hs3
    clear hb3 hs3
    go_wp2_with fail
    go_loopw [10] (fun q wr => ∃ j : Nat, q = .int .i64 j ∧ j ≤ k ∧ w3 = wr) (fun q _ => k - (intOf q).toNat)
    case atStart => exact ⟨0, rfl, Nat.zero_le _, rfl⟩
    case round =>
      obtain ⟨j, rfl, hj, rfl⟩ := hrel
      by_cases hjk : j < k
      · obtain ⟨t, htt⟩ : ∃ t, Y[j]? = some t := ⟨_, List.getElem?_eq_getElem (by rw [HK.out]; exact hjk)⟩
        obtain ⟨b, o, rfl, c0, c1⟩ := HS23.out j t htt
        have hkt := HKD.out t (List.mem_of_getElem? htt)
        have q8 : (j : Int) < (k : Int) := by omega
        obtain ⟨tk, tn⟩ := t
        clear htt
        rcases hkt with hkt | hkt
        · change tk = 0 at hkt
          subst hkt
          go_wp2_with fail
          (try go_quiet (fail))
          (try go_wp2_with fail)
          go_roundw
          case rel => exact ⟨j + 1, by go_num, by omega, trivial⟩
          case measure => simp [intOf]; omega
        · change tk = 2 at hkt
          subst hkt
          go_wp2_with fail
          (try go_quiet (fail))
          (try go_wp2_with fail)
          go_roundw
          case rel => exact ⟨j + 1, by go_num, by omega, trivial⟩
          case measure => simp [intOf]; omega
      · obtain rfl : j = k := by omega
        have hz : w3.heap.size ≤ w3.heap.size := Nat.le_refl _
        go_wp2_with (at_builtin; refine app_ints rfl _ _ rfl w3.heap.size _ _ [] rfl (World.ownsRow_nil _ _ _ _) (A := some ad) (m := n) (c := c) (ts := R) rfl (HA.out.below HB3.out) HL.out (fun e => by cases e) (by omega) hz ?_)
        intro v4 w4 ho4 hg4
        have ho4' : w4.ownsRow w3.heap.size 3 1 v4 n (R.map iv) := by simpa using ho4
        have hB4 : Below w3.heap.size w3 w4 := (Below.refl _ w3).grown hg4 (Nat.le_refl _) (fun k hk => by cases hk)
        have HO4 := Lib.hid (ho4'.alloc (.cells #[.int .i64 i] 3))
        have HBB4 := Lib.hid (bel_alloc hB4 (.cells #[.int .i64 i] 3))
        have hz4 := (bel_alloc hB4 (.cells #[.int .i64 i] 3)).size
        clear ho4 ho4' hg4 hB4
        go_wp2_with (at_builtin; refine app_ints rfl _ _ rfl w3.heap.size _ _ R rfl HO4.out (A := some ⟨w4.heap.size, 0, none⟩) (m := 1) (c := 1) (ts := [i]) (by simp [go_sem]) (ri_one (heap_alloc_new w4 _)) rfl (fun e => by cases e) (by omega) hz4 ?_)
        intro v5 w5 ho5 hg5
        have hB5 : Below w3.heap.size w3 w5 := HBB4.out.grown hg5 hz4 (fun k hk => (HO4.out.lt k hk).1)
        have ho5' : w5.ownsRow w3.heap.size 3 1 v5 (R ++ [i]).length ((R ++ [i]).map iv) := by rw [List.length_append, HL.out, List.map_append]; exact ho5
        obtain ⟨g5, cap5, rfl, -, -⟩ := ho5'.form (by rw [List.length_append, List.length_singleton]; omega)
        have hcap := row_cap ho5'
        have hri := (ri_row ho5').2.1
        have hl5 : (R ++ [i]).length = n + 1 := by rw [List.length_append, HL.out]; rfl
        rw [hl5] at hcap ⊢
        have HC5 := Lib.hid hcap
        have HR5 := Lib.hid hri
        have HB5 := Lib.hid (bel_trans HB3.out hB5)
        have HS25 := Lib.hid (HS23.out.below hB5)
        have HS35 := Lib.hid (HS3.out.below hB5)
        clear ho5 ho5' hg5 hB5 hri hl5 hz4 hz hcap
        go_wp2_with fail
        ((with_reducible refine (r3 HC5.out HR5.out (HT.out.below HB5.out)).mono ?_))
        rintro e w6 ⟨B6, d6, rfl, hb6, -, -⟩
        have HB6 := Lib.hid (bel_trans HB5.out hb6)
        have HS26 := Lib.hid (HS25.out.below hb6)
        have HS36 := Lib.hid (HS35.out.below hb6)
        clear hb6
        go_wp2_with fail
        ((with_reducible refine (r4 _ ((HA.out.below HB6.out).take N) (HT.out.below HB6.out)).mono ?_))
        rintro e w7 ⟨B7, d7, rfl, hb7, -, -⟩
        have HB7 := Lib.hid (bel_trans HB6.out hb7)
        have HS27 := Lib.hid (HS26.out.below hb7)
        have HS37 := Lib.hid (HS36.out.below hb7)
        clear hb7
        go_wp2_with fail
        ((with_reducible refine (r5 HS37.out).mono ?_))
        rintro e w8 ⟨B8, d8, rfl, hb8, hs8, -⟩
        have HB8 := Lib.hid (bel_trans HB7.out hb8)
        have HS28 := Lib.hid (HS27.out.below hb8)
        have HS8 := Lib.hid hs8
        clear hb8 hs8
        go_wp2_with fail
        ((with_reducible refine (r6 HS8.out HS28.out).mono ?_))
        rintro e w9 ⟨rfl, hb9⟩
        have HB9 := Lib.hid (bel_trans HB8.out hb9)
        clear hb9
        go_wp2_with fail
        go_ret
        exact ⟨by simp, HB9.out⟩
end Go.Proofs.YtcipfipfamecmaaDoor
