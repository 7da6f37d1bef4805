/- The document's own answers for layer 17 (copperplateref17): Cols, Breaks, Flat, Match, Behind, Need. -/
import Derived.Test.YtfcjihfnimefhaaSpaM
import Derived.Test.YtfcjihfnimefhaaBitR
import Derived.Test.YtfcjihfnimefhaaUtfR
namespace Go.Proofs.Ytfcjihfnimefhaa
open Go.RowKit
set_option linter.unusedVariables false
set_option maxRecDepth 100000

set_option maxHeartbeats 2000000 in
theorem rcols_any (s : ByteArray) (hz : s.size ≤ 9223372036854775807) {n : Nat} (hn : cols s.data.toList = n) (w : World) :
    Calls Try.prog 40 #[.string s] w fun e w' => e = .returned (.int .i64 n) ∧ Below w.heap.size w w' := by
  have hle := cols_le s.data.toList
  rw [← size_list, hn] at hle
  have HN := Lib.hid hn
  clear hn
  go_enter Try.func40, Try.ntmps40
  go_wp2
  go_loopw [3, 4] (fun c i wr => ∃ j k : Nat, c = .int .i64 j ∧ i = .int .i64 k ∧ k ≤ s.size ∧ Hid (j + cols (s.data.toList.drop k) = n) ∧ Hid (Below w.heap.size w wr)) (fun c i _ => s.size - (intOf i).toNat)
  case atStart => exact ⟨0, 0, rfl, rfl, Nat.zero_le _, Lib.hid (by rw [List.drop_zero, HN.out, Nat.zero_add]), Lib.hid (Below.refl _ _)⟩
  case round =>
    obtain ⟨j, k, rfl, rfl, hk, hj, hB⟩ := hrel
    by_cases hlt : k < s.size
    · obtain ⟨m, hm1, hm2, hm3⟩ := nxtN_bd s k hk
      obtain ⟨z, hz2⟩ : ∃ z, max m 1 = z := ⟨_, rfl⟩
      obtain ⟨b1, b2⟩ := cols_step (l := s.data.toList) (k := k) (n := z) (by rw [← size_list]; exact hlt) (by rw [hm2, hz2])
      rw [← size_list] at b1
      have hj2 := hj.out
      rw [b2] at hj2
      have hjn : j + 1 ≤ n := by omega
      have HJ := Lib.hid (show j + 1 + cols (s.data.toList.drop (k + z)) = n by omega)
      have r1 := fun w => rnext_big s hz k w
      rw [hm1] at r1
      clear hm1 hm2 b2 hj2 hj
      by_cases h0 : m = 0
      · subst h0
        obtain rfl : z = 1 := hz2.symm
        clear hz2
        go_wp2_with fail
        ((with_reducible refine (r1 _).mono ?_))
        rintro e w2 ⟨rfl, hg⟩
        have HB2 := Lib.hid (bel_trans hB.out hg)
        clear r1 hg
        go_wp2
        go_roundw
        case rel => exact ⟨j + 1, k + 1, by go_num, by go_num, b1, HJ, HB2⟩
        case measure => simp [intOf]; omega
      · obtain rfl : z = m := by omega
        have q1 : ((z : Int) == 0) = false := by simpa using h0
        clear hz2
        go_wp2_with fail
        ((with_reducible refine (r1 _).mono ?_))
        rintro e w2 ⟨rfl, hg⟩
        have HB2 := Lib.hid (bel_trans hB.out hg)
        clear r1 hg
        go_wp2
        go_roundw
        case rel => exact ⟨j + 1, k + z, by go_num, by go_num, b1, HJ, HB2⟩
        case measure => simp [intOf]; omega
    · obtain rfl : k = s.size := by omega
      have hj2 := hj.out
      rw [size_list, List.drop_length, cols_nil, Nat.add_zero] at hj2
      subst hj2
      clear hj
      go_wp2
      go_ret
      exact ⟨rfl, hB.out⟩
set_option maxHeartbeats 1000000 in
theorem rbreaks_any {t : Int} {v : ByteArray} {r : Bool} (hr : brF t = r) (w : World) :
    Calls Try.prog 42 #[.agg #[.int .i64 t, .string v]] w fun e w' => e = .returned (.bool r) ∧ Below w.heap.size w w' := by
  have hb := bel_alloc (Below.refl _ w) (.cells #[.int .i64 t, .string v] 34)
  by_cases h2 : t = 2
  · obtain rfl : true = r := by rw [← hr, h2]; rfl
    subst h2; clear hr
    go_enter Try.func42, Try.ntmps42
    go_wp2
    go_ret
    exact ⟨rfl, hb⟩
  by_cases h3 : t = 3
  · obtain rfl : true = r := by rw [← hr, h3]; rfl
    subst h3; clear hr
    go_enter Try.func42, Try.ntmps42
    go_wp2
    go_ret
    exact ⟨rfl, hb⟩
  by_cases h4 : t = 4
  · obtain rfl : true = r := by rw [← hr, h4]; rfl
    subst h4; clear hr
    go_enter Try.func42, Try.ntmps42
    go_wp2
    go_ret
    exact ⟨rfl, hb⟩
  have e2 : (t == 2) = false := by simpa using h2
  have e3 : (t == 3) = false := by simpa using h3
  have e4 : (t == 4) = false := by simpa using h4
  by_cases h5 : t = 5
  · obtain rfl : true = r := by rw [← hr, h5]; rfl
    subst h5; clear hr
    go_enter Try.func42, Try.ntmps42
    go_wp2
    go_ret
    exact ⟨rfl, hb⟩
  have e5 : (t == 5) = false := by simpa using h5
  obtain rfl : false = r := by rw [← hr, brF, decide_eq_false (by omega)]
  clear hr h2 h3 h4 h5
  go_enter Try.func42, Try.ntmps42
  go_wp2
  go_ret
  exact ⟨rfl, hb⟩
set_option maxHeartbeats 2000000 in
theorem rflat_any {t : Int} {v S : ByteArray} {is : Bool} (hS : flV ⟨t, v⟩ = S) (hi : flI ⟨t, v⟩ = is) (w : World) :
    Calls Try.prog 39 #[.agg #[.int .i64 t, .string v]] w fun e w' => e = .returned (.tuple #[.string S, .bool is]) ∧ Below w.heap.size w w' := by
  have hb := bel_alloc (Below.refl _ w) (.cells #[.int .i64 t, .string v] 34)
  by_cases hk : 0 ≤ t ∧ t ≤ 9
  · have hc : t = 0 ∨ t = 1 ∨ t = 2 ∨ t = 3 ∨ t = 4 ∨ t = 5 ∨ t = 6 ∨ t = 7 ∨ t = 8 ∨ t = 9 := by omega
    clear hk
    rcases hc with rfl | rfl | rfl | rfl | rfl | rfl | rfl | rfl | rfl | rfl
    all_goals
      subst hS
      subst hi
      go_enter Try.func39, Try.ntmps39
      go_wp2
      go_ret2
      exact ⟨rfl, hb⟩
  · have en : flF ⟨t, v⟩ = none := by
      rw [flF, if_neg (show ¬ t = 0 by omega), if_neg (show ¬ (t = 1 ∨ t = 2) by omega), if_neg (show ¬ t = 4 by omega), if_neg (show ¬ (t = 3 ∨ t = 6 ∨ t = 7 ∨ t = 8 ∨ t = 9) by omega)]
    obtain rfl : noV = S := by rw [← hS, flV, en]; rfl
    obtain rfl : false = is := by rw [← hi, flI, en]; rfl
    have e0 : (t == 0) = false := by simp; omega
    have e1 : (t == 1) = false := by simp; omega
    have e2 : (t == 2) = false := by simp; omega
    have e3 : (t == 3) = false := by simp; omega
    have e4 : (t == 4) = false := by simp; omega
    have e6 : (t == 6) = false := by simp; omega
    have e7 : (t == 7) = false := by simp; omega
    have e8 : (t == 8) = false := by simp; omega
    have e9 : (t == 9) = false := by simp; omega
    clear hS hi hk en
    go_enter Try.func39, Try.ntmps39
    go_wp2
    go_ret2
    exact ⟨rfl, hb⟩
set_option maxHeartbeats 2000000 in
theorem rmatch_any {w : World} {A : Option Addr} {n c : Nat} {ts : List Bq} {i r : Int} (hr : MtA ts i r) (hl : ts.length = n) (hn : n ≤ 1000000) (hA : Br w A ts) :
    Calls Try.prog 38 #[.slice A n c, .int .i64 i] w fun e w' => e = .returned (.int .i64 r) ∧ Below w.heap.size w w' := by
  by_cases h0 : i < 0
  · obtain rfl : r = -1 := hr.no fun j m e => by omega
    clear hr hA hl
    go_enter Try.func38, Try.ntmps38
    go_wp2
    go_ret
    exact ⟨rfl, Below.refl _ _⟩
  by_cases h1 : i < n
  · obtain ⟨j, rfl⟩ := Int.eq_ofNat_of_zero_le (show 0 ≤ i by omega)
    have hjn : j < n := by omega
    obtain ⟨u, ht⟩ : ∃ u, ts[j]? = some u := ⟨_, List.getElem?_eq_getElem (by omega)⟩
    obtain ⟨b, o, rfl, c0, c1⟩ := hA j u ht
    have e0 : decide ((j : Int) < 0) = false := decide_eq_false (by omega)
    have e1 : decide (n ≤ j) = false := decide_eq_false (by omega)
    by_cases h6 : u.m = 6
    · rw [h6] at c0
      have HR := Lib.hid hr
      have HL := Lib.hid hl
      have HA := Lib.hid hA
      have HT := Lib.hid (show ts[j]? = some u ∧ u.m = 6 from ⟨ht, h6⟩)
      clear hr hl hA ht h6 h0 h1
      go_enter Try.func38, Try.ntmps38
      go_wp2
      go_loopw [5, 6] (fun d i wr => ∃ k : Nat, j + k ≤ n ∧ i = .int .i64 ((j + k : Nat) : Int) ∧ d = .int .i64 (oS ((ts.drop j).take k)) ∧ Hid (NoZ ((ts.drop j).take k)) ∧ wr = w) (fun d i _ => n - (intOf i).toNat)
      case atStart => exact ⟨0, by omega, rfl, rfl, Lib.hid (by rw [List.take_zero]; exact NoZ.nil), rfl⟩
      case round =>
        obtain ⟨k, hk, rfl, rfl, hz, rfl⟩ := hrel
        obtain ⟨p, hp⟩ : ∃ p, j + k = p := ⟨_, rfl⟩
        by_cases hlt : p < n
        · obtain ⟨t, ht⟩ : ∃ t, ts[p]? = some t := ⟨_, List.getElem?_eq_getElem (by rw [HL.out]; exact hlt)⟩
          obtain ⟨b', o', hbo, d0, d1⟩ := HA.out p t ht
          injection hbo with hbo
          injection hbo with hb1 hb2 hb3
          subst hb1 hb2
          have hnx : oS ((ts.drop j).take (k + 1)) = oS ((ts.drop j).take k) + dO t.m := oS_next (by rw [List.getElem?_drop, hp]; exact ht)
          have hbd := oS_bd ((ts.drop j).take k)
          have hlen : ((ts.drop j).take k).length ≤ 1000000 := by
            have := HL.out
            rw [List.length_take, List.length_drop]; omega
          obtain ⟨E, hE⟩ : ∃ E, oS ((ts.drop j).take k) = E := ⟨_, rfl⟩
          have hsn : ∀ x : Int, E + dO t.m = x → x ≠ 0 → NoZ ((ts.drop j).take (k + 1)) := fun x hx hx0 => by
            have e3 : (ts.drop j).take (k + 1) = (ts.drop j).take k ++ [t] := by rw [List.take_add_one, List.getElem?_drop, hp, ht]; rfl
            rw [e3]
            refine hz.out.snoc ?_
            rw [← e3, hnx, hE, hx]; exact hx0
          have hfo : E + dO t.m = 0 → r = (p : Int) := fun h => by
            have := HR.out.is (noz_found HT.out.1 HT.out.2 (by rw [HL.out]; omega) hz.out (by rw [hnx, hE]; exact h))
            rw [this, hp]
          rw [hE] at hbd hnx ⊢
          have HSN := Lib.hid hsn
          have HFO := Lib.hid hfo
          have HNX := Lib.hid hnx
          have HP := Lib.hid hp
          obtain ⟨tm, tv⟩ := t
          dsimp only at d0 d1
          simp only [hp]
          rw [hp] at hk
          clear ht hsn hfo hnx hp hz hE
          rcases dO_cases tm with ⟨e, d⟩ | ⟨e, d⟩ | ⟨q6, q7, d⟩
          · subst e
            by_cases hx : E + 1 = 0
            · obtain rfl : r = (p : Int) := HFO.out hx
              have q0 : (E + 1 == 0) = true := by simpa using hx
              go_wp2
              go_ret
              exact ⟨rfl, Below.refl _ _⟩
            · have q0 : (E + 1 == 0) = false := by simpa using hx
              go_wp2
              go_roundw
              case rel => exact ⟨k + 1, by have := HP.out; omega, by have := HP.out; go_num, by rw [HNX.out]; rfl, Lib.hid (HSN.out _ rfl (by show E + dO 6 ≠ 0; exact hx)), trivial⟩
              case measure => simp [intOf]; omega
          · subst e
            by_cases hx : E - 1 = 0
            · obtain rfl : r = (p : Int) := HFO.out hx
              have q0 : (E - 1 == 0) = true := by simpa using hx
              go_wp2
              go_ret
              exact ⟨rfl, Below.refl _ _⟩
            · have q0 : (E - 1 == 0) = false := by simpa using hx
              go_wp2
              go_roundw
              case rel => exact ⟨k + 1, by have := HP.out; omega, by have := HP.out; go_num, by rw [HNX.out]; rfl, Lib.hid (HSN.out _ rfl (by show E + dO 7 ≠ 0; exact hx)), trivial⟩
              case measure => simp [intOf]; omega
          · have e6 : (tm == 6) = false := by simpa using q6
            have e7 : (tm == 7) = false := by simpa using q7
            by_cases hx : E = 0
            · obtain rfl : r = (p : Int) := HFO.out (by show E + dO tm = 0; omega)
              have q0 : (E == 0) = true := by simpa using hx
              clear hx
              go_wp2
              go_ret
              exact ⟨rfl, Below.refl _ _⟩
            · have q0 : (E == 0) = false := by simpa using hx
              have HX := Lib.hid (show E + dO tm ≠ 0 by omega)
              have HD := Lib.hid d
              clear hx d q6 q7
              go_wp2
              go_roundw
              case rel => exact ⟨k + 1, by have := HP.out; omega, by have := HP.out; go_num, by rw [HNX.out, HD.out, Int.add_zero], Lib.hid (HSN.out _ rfl HX.out), trivial⟩
              case measure => simp [intOf]; omega
        · obtain rfl : p = n := by omega
          obtain rfl : r = -1 := HR.out.no fun j' m e hm => by
            obtain rfl : j' = j := by omega
            have := hz.out
            rw [List.take_of_length_le (by rw [List.length_drop, HL.out]; omega)] at this
            exact noz_none this m hm
          simp only [hp]
          clear hp hz hk
          go_wp2
          go_ret
          exact ⟨rfl, Below.refl _ _⟩
    · obtain rfl : r = -1 := hr.no fun j' m e hm => by
        obtain ⟨t, ht2, e6⟩ := hm.op
        obtain rfl : j' = j := by omega
        rw [ht] at ht2
        obtain rfl := Option.some.inj ht2
        exact h6 e6
      have q1 : (u.m != 6) = true := by simpa using h6
      clear hr hl hA ht h6
      go_enter Try.func38, Try.ntmps38
      go_wp2
      go_ret
      exact ⟨rfl, Below.refl _ _⟩
  · obtain rfl : r = -1 := hr.no fun j m e hm => by
      have h2 := hm.len
      have h3 := hm.lt
      omega
    clear hr hA hl
    go_enter Try.func38, Try.ntmps38
    go_wp2
    go_ret
    exact ⟨rfl, Below.refl _ _⟩
theorem colS_next {l : List Bq} {k : Nat} {b : Bq} (h : l[k]? = some b) : colS (l.take (k + 1)) = colS (l.take k) + colB b := by
  rw [List.take_add_one, h, colS_app]; rfl
theorem colS_bd {l : List Bq} (hs : SzB l) (hl : l.length ≤ 1000) (k : Nat) : colS (l.take k) ≤ 140737488351232000 := by
  have h1 := colS_le (hs.take k)
  have h2 := Nat.mul_le_mul_right 140737488351232 (show (l.take k).length ≤ 1000 by rw [List.length_take]; omega)
  omega
theorem col_none {t : Int} {v : ByteArray} (hb : brF t = false) (h0 : t ≠ 0) (h1 : t ≠ 1) : colB ⟨t, v⟩ = 0 := by
  have h2 : ¬ (t = 2 ∨ t = 3 ∨ t = 4 ∨ t = 5) := by
    unfold brF at hb
    exact of_decide_eq_false hb
  unfold colB flV
  rw [flF, if_neg (show ¬ t = 0 from h0), if_neg (show ¬ (t = 1 ∨ t = 2) by omega), if_neg (show ¬ t = 4 by omega)]
  split <;> exact cols_nil
/-- What stands behind, up to the first that breaks, ahead of k none breaking. -/
theorem beF_step {l : List Bq} {k : Nat} (h : ∀ b ∈ l.take k, brF b.m = false) : beF l = colS (l.take k) + beF (l.drop k) := by
  induction l generalizing k with
  | nil => simp [beF, colS]
  | cons b l ih =>
    cases k with
    | zero => rw [List.take_zero, List.drop_zero, colS, Nat.zero_add]
    | succ k =>
      have h1 := h b (by rw [List.take_succ_cons]; exact List.mem_cons_self ..)
      have h2 := ih (k := k) fun x hx => h x (by rw [List.take_succ_cons]; exact List.mem_cons_of_mem _ hx)
      rw [beF, h1, List.take_succ_cons, List.drop_succ_cons, colS, h2]
      simp
      omega
set_option maxHeartbeats 2000000 in
theorem rbehind_any {w : World} {A : Option Addr} {n c j C : Nat} {ts : List Bq} (hC : beF (ts.drop j) = C) (hs : SzB ts) (hl : ts.length = n) (hn : n ≤ 1000) (hj : j ≤ n) (hA : Br w A ts) :
    Calls Try.prog 41 #[.slice A n c, .int .i64 (j : Int)] w fun e w' => e = .returned (.int .i64 (C : Int)) ∧ Below w.heap.size w w' := by
  have HC := Lib.hid hC
  have HL := Lib.hid hl
  have HA := Lib.hid hA
  have HS := Lib.hid hs
  clear hC hl hA hs
  go_enter Try.func41, Try.ntmps41
  go_wp2
  go_loopw [5, 6, 7, 8, 9] (fun d i _ _ _ wr => ∃ k : Nat, j + k ≤ n ∧ i = .int .i64 ((j + k : Nat) : Int) ∧ d = .int .i64 ((colS ((ts.drop j).take k) : Nat) : Int) ∧ Hid (∀ b ∈ (ts.drop j).take k, brF b.m = false) ∧ Hid (Below w.heap.size w wr)) (fun d i _ _ _ _ => n - (intOf i).toNat)
  case atStart => exact ⟨0, by omega, rfl, rfl, Lib.hid (by rw [List.take_zero]; intro b hb; cases hb), Lib.hid (Below.refl _ _)⟩
  case round =>
    obtain ⟨k, hk, rfl, rfl, hz, hB⟩ := hrel
    obtain ⟨p, hp⟩ : ∃ p, j + k = p := ⟨_, rfl⟩
    by_cases hlt : p < n
    · obtain ⟨t, ht⟩ : ∃ t, ts[p]? = some t := ⟨_, List.getElem?_eq_getElem (by rw [HL.out]; exact hlt)⟩
      obtain ⟨b, o, rfl, d0, d1⟩ := (HA.out.below hB.out) p t ht
      have htd : (ts.drop j)[k]? = some t := by rw [List.getElem?_drop, hp]; exact ht
      have hnx := colS_next htd
      have hbd := colS_bd (HS.out.drop j) (by rw [List.length_drop, HL.out]; omega) k
      have hts := HS.out t (List.mem_of_getElem? ht)
      have hcb := colB_le t hts
      have hst := beF_step hz.out
      rw [HC.out, drop_consM htd, beF] at hst
      obtain ⟨y, hy⟩ : ∃ y, brF t.m = y := ⟨_, rfl⟩
      obtain ⟨E, hE⟩ : ∃ E, colS ((ts.drop j).take k) = E := ⟨_, rfl⟩
      obtain ⟨S, hS⟩ : ∃ S, flV t = S := ⟨_, rfl⟩
      obtain ⟨is, hi⟩ : ∃ is, flI t = is := ⟨_, rfl⟩
      have hSz : S.size ≤ 9223372036854775807 := by
        have := flV_size t hts
        rw [hS] at this
        omega
      obtain ⟨z, hzz⟩ : ∃ z, cols S.data.toList = z := ⟨_, rfl⟩
      have hzB : colB t = z := by rw [colB, hS, hzz]
      have hall : y = false → ∀ b ∈ (ts.drop j).take (k + 1), brF b.m = false := fun h b hb => by
        rw [List.take_add_one, htd] at hb
        rcases List.mem_append.1 hb with h' | h'
        · exact hz.out b h'
        · rw [Option.toList_some] at h'
          rw [List.mem_singleton.1 h', hy, h]
      rw [hE] at hnx hst hbd ⊢
      rw [hzB] at hnx hcb
      rw [hy] at hst
      obtain ⟨tm, tv⟩ := t
      dsimp only at d0 d1 hy
      have r1 := fun w => rbreaks_any (v := tv) hy w
      have r2 := fun w => rflat_any hS hi w
      have r3 := fun w => rcols_any S hSz hzz w
      have HNX := Lib.hid hnx
      have HP := Lib.hid hp
      have HALL := Lib.hid hall
      have HST := Lib.hid hst
      have HNO := Lib.hid (fun h0 h1 h2 => (show z = 0 from hzB.symm.trans (col_none (v := tv) (t := tm) (hy.trans h0) h1 h2)))
      simp only [hp]
      rw [hp] at hk
      clear ht htd hnx hp hz hE hall hst hS hi hSz hzz hzB hts hy
      go_wp2_with fail
      ((with_reducible refine (r1 _).mono ?_))
      rintro e w1 ⟨rfl, hb1⟩
      have HB1 := Lib.hid (bel_trans hB.out hb1)
      have D0 := bel_cell hb1 d0
      have D1 := bel_cell hb1 d1
      clear hb1 r1 d0 d1
      cases y with
      | true =>
        obtain rfl : C = E := by have := HST.out; simpa using this
        clear r2 r3
        go_wp2
        go_ret
        exact ⟨rfl, HB1.out⟩
      | false =>
        by_cases h0 : tm = 0
        · subst h0
          have hwr : IntKind.i64.wrap ((E : Int) + (z : Int)) = ((E + z : Nat) : Int) := by rw [IntWalk.i64_in _ (by omega)]; omega
          go_wp2_with fail
          ((with_reducible refine (r2 _).mono ?_))
          rintro e w2 ⟨rfl, hb2⟩
          have HB2 := Lib.hid (bel_trans HB1.out hb2)
          clear hb2 r2
          go_wp2_with fail
          ((with_reducible refine (r3 _).mono ?_))
          rintro e w3 ⟨rfl, hb3⟩
          have HB3 := Lib.hid (bel_trans HB2.out hb3)
          clear hb3 r3
          go_wp2
          go_roundw
          case rel => exact ⟨k + 1, by have := HP.out; omega, by have := HP.out; go_num, by rw [HNX.out]; go_num, Lib.hid (HALL.out (by trivial)), HB3⟩
          case measure => simp [intOf]; omega
        · by_cases h1 : tm = 1
          · subst h1
            have hwr : IntKind.i64.wrap ((E : Int) + (z : Int)) = ((E + z : Nat) : Int) := by rw [IntWalk.i64_in _ (by omega)]; omega
            clear h0
            go_wp2_with fail
            ((with_reducible refine (r2 _).mono ?_))
            rintro e w2 ⟨rfl, hb2⟩
            have HB2 := Lib.hid (bel_trans HB1.out hb2)
            clear hb2 r2
            go_wp2_with fail
            ((with_reducible refine (r3 _).mono ?_))
            rintro e w3 ⟨rfl, hb3⟩
            have HB3 := Lib.hid (bel_trans HB2.out hb3)
            clear hb3 r3
            go_wp2
            go_roundw
            case rel => exact ⟨k + 1, by have := HP.out; omega, by have := HP.out; go_num, by rw [HNX.out]; go_num, Lib.hid (HALL.out (by trivial)), HB3⟩
            case measure => simp [intOf]; omega
          · have q0 : (tm == 0) = false := by simpa using h0
            have q1 : (tm == 1) = false := by simpa using h1
            have hz0 := HNO.out rfl h0 h1
            have HZ0 := Lib.hid hz0
            clear r2 r3 h0 h1 hz0
            go_wp2
            go_roundw
            case rel => exact ⟨k + 1, by have := HP.out; omega, by have := HP.out; go_num, by rw [HNX.out, HZ0.out, Nat.add_zero], Lib.hid (HALL.out (by trivial)), HB1⟩
            case measure => simp [intOf]; omega
    · obtain rfl : p = n := by omega
      have hst := beF_step hz.out
      have e0 : (ts.drop j).drop k = [] := List.drop_eq_nil_of_le (by rw [List.length_drop, HL.out]; omega)
      rw [HC.out, e0, beF, Nat.add_zero] at hst
      rw [← hst]
      simp only [hp]
      clear hp hz hk hst
      go_wp2
      go_ret
      exact ⟨rfl, hB.out⟩
theorem need_open {l : List Bq} {i m : Nat} (h : Mt l i m) : ((l.take m).drop i).all flI = (bet l i m).all flI ∧ colS ((l.take m).drop i) = colS (bet l i m) ∧ beF (l.drop m) = beF (l.drop (m + 1)) := by
  obtain ⟨b, hb, h6⟩ := h.op
  obtain ⟨c, hc, h7⟩ := h.cl
  have h1 : (l.take m)[i]? = some b := by rw [List.getElem?_take, if_pos h.lt]; exact hb
  have e1 : (l.take m).drop i = b :: bet l i m := drop_consM h1
  have e2 : l.drop m = c :: l.drop (m + 1) := drop_consM hc
  obtain ⟨bm, bv⟩ := b
  obtain ⟨cm, cv⟩ := c
  dsimp only at h6 h7
  subst h6 h7
  have c0 : ∀ v, colB ⟨6, v⟩ = 0 := fun v => cols_nil
  have c1 : ∀ v, colB ⟨7, v⟩ = 0 := fun v => cols_nil
  refine ⟨?_, ?_, ?_⟩
  · rw [e1, List.all_cons]; rfl
  · rw [e1, colS, c0, Nat.zero_add]
  · rw [e2, beF, c1, Nat.zero_add]; rfl
end Go.Proofs.Ytfcjihfnimefhaa
