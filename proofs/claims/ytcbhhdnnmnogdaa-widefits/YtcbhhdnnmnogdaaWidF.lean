/- The law WideFits: its walk. -/
import Derived.Test.YtcbhhdnnmnogdaaWidE
import Derived.Test.YtcbhhdnnmnogdaaWidO
import Derived.Test.YtcbhhdnnmnogdaaWidX
import Derived.Test.YtcbhhdnnmnogdaaBitH
namespace Go.Proofs.Ytcbhhdnnmnogdaa
open Go.RowKit
set_option linter.unusedVariables false
set_option maxRecDepth 100000
theorem colS_flS (l : List Bq) : colS l ≤ (flS l).length := by
  induction l with
  | nil => exact Nat.zero_le _
  | cons b l ih =>
    have := cols_le (flV b).data.toList
    rw [colS, flS, List.flatMap_cons, List.length_append]
    rw [flS] at ih
    unfold colB
    omega
theorem vS_endF (l : List Bq) : vS (grp l) = vS l := by
  have e : (noV).size = 0 := rfl
  rw [grp, vS, vS_app, vS, vS, e]; omega
theorem colS_nextF {l : List Bq} {k : Nat} {b : Bq} (h : l[k]? = some b) : colS (l.take (k + 1)) = colS (l.take k) + colB b := by
  rw [List.take_add_one, h, colS_app, Option.toList_some]; simp [colS]

set_option maxHeartbeats 4000000 in
theorem fits_law {w : World} {A : Option Addr} {n c : Nat} {l : List Bq} {W : Int} (hA : Br w A l) (hn : l.length = n) (h0 : A = none → n = 0 ∧ c = 0) (hc : n ≤ c) (hv : vS l ≤ 1048576) :
    Calls Try.prog 4 #[.slice A n c, .int .i64 W] w fun e w' => e = .returned (.bool true) ∧ Below w.heap.size w w' := by
  have r1 := fun w => awake_any w
  have HA := Lib.hid hA
  have HL := Lib.hid hn
  have H0 := Lib.hid h0
  have HV := Lib.hid hv
  clear hA hn h0 hv
  go_enter Try.func4, Try.ntmps4
  go_wp2_with fail
  ((with_reducible refine (r1 _).mono ?_))
  rintro e w1 ⟨rfl, hb1⟩
  have HB1 := Lib.hid hb1
  clear hb1 r1
  by_cases h3 : 300 < n
  · have q3 : (300 : Int) < (n : Int) := by omega
    go_wp2
    go_ret
    exact ⟨rfl, HB1.out⟩
  have q3 : ¬ (300 : Int) < (n : Int) := by omega
  obtain ⟨r, hr⟩ : ∃ r, rmF l W = r := ⟨_, rfl⟩
  have r5 := fun w h => wroom_any (w := w) (A := A) (n := n) (c := c) hr h HL.out (by omega)
  have HR := Lib.hid hr
  clear hr
  go_wp2_with fail
  ((with_reducible refine (r5 _ (HA.out.below HB1.out)).mono ?_))
  rintro e w2 ⟨rfl, hb2⟩
  have HB2 := Lib.hid (bel_trans HB1.out hb2)
  clear hb2 r5
  cases r with
  | false =>
    go_wp2
    go_ret
    exact ⟨rfl, HB2.out⟩
  | true =>
  have HM := Lib.hid (mayL_yes (rm_yes HR.out).2.2)
  have HC2 := Lib.hid (HA.out.below HB2.out)
  have HW := Lib.hid (And.intro (rm_yes HR.out).1 (rm_yes HR.out).2.1)
  obtain ⟨U, hU⟩ : ∃ U, mkb (layF (grp l) W) = U := ⟨_, rfl⟩
  have hmm : rmF (grp l) W = true := rm_mk HW.out.1 HW.out.2 (mayL_group (rm_yes HR.out).2.2 (by rw [HL.out]; omega))
  have hlU : layF (grp l) W = (pgs (grp l) W (l.length + 2)).out := by rw [layF, if_pos hmm, grp_len]
  have hUl : U.data.toList = (pgs (grp l) W (l.length + 2)).out := by rw [← hU, mkb_data, hlU]
  have hUz : U.size ≤ 200000000 := by
    have := (pgs_inv W (mayF_group HM.out) (by rw [show (⟨6, noV⟩ :: (l ++ [⟨7, noV⟩])) = grp l from rfl, grp_len, HL.out]; omega) (l.length + 2) (by rw [show (⟨6, noV⟩ :: (l ++ [⟨7, noV⟩])) = grp l from rfl, grp_len]; exact Nat.le_refl _)).outk
    have h2 := vS_le (grp l) (l.length + 2)
    rw [show (⟨6, noV⟩ :: (l ++ [⟨7, noV⟩])) = grp l from rfl, ← hUl, ← size_list] at this
    rw [vS_endF] at h2
    have hv := HV.out
    have hl := HL.out
    omega
  have hm1 : l.all flI = true → ((colS l : Nat) : Int) ≤ W → U = mkb (flS l) := fun h1 h2 => by
    rw [← hU, hlU, fits_math HM.out h1 h2]
  have hm2 : l.all flI = false → (10 : UInt8) ∈ U.data.toList := fun h1 => by
    rw [hUl]; exact hard_math HM.out h1
  have HM1 := Lib.hid hm1
  have HM2 := Lib.hid hm2
  have r3 := fun w (E : Option Addr) (d : Nat) (h : Br w E (grp l)) h0 hd => wlay_any (w := w) (A := E) (n := n + 2) (c := d) hmm hU h (by rw [grp_len, HL.out]) h0 hd (by omega) (by rw [vS_endF]; exact Nat.le_trans HV.out (by decide))
  clear hU hlU hUl hm1 hm2 h3 hmm
  go_wp2_with fail
  go_loopw [6, 7, 8, 9] (fun s q y i wr => ∃ (j : Nat) (B : ByteArray), i = .int .i64 j ∧ s = .string B ∧ q = .int .i64 ((colS (l.take j) : Nat) : Int) ∧ y = .bool ((l.take j).all flI) ∧ j ≤ n ∧ Hid (B = mkb (flS (l.take j))) ∧ Hid (Below w.heap.size w wr)) (fun _ _ _ i _ => n - (intOf i).toNat)
  case atStart => exact ⟨0, _, rfl, rfl, rfl, rfl, Nat.zero_le _, Lib.hid rfl, HB2⟩
  case round =>
    obtain ⟨j, B, rfl, rfl, rfl, rfl, hj, hB, hbw⟩ := hrel
    by_cases hlt : j < n
    · have q : (j : Int) < (n : Int) := by omega
      obtain ⟨t, ht⟩ : ∃ t, l[j]? = some t := ⟨_, List.getElem?_eq_getElem (by rw [HL.out]; exact hlt)⟩
      obtain ⟨b0, o0, rfl, d0, d1⟩ := (HA.out.below hbw.out) j t ht
      have lb := World.block_lt_of_cell? _ _ d0
      have hv := HV.out
      have hfl := flS_next ht
      have hcn := colS_nextF ht
      have hf1 := flS_len (l.take (j + 1))
      have hv1 := vS_le l (j + 1)
      have hf2 := colS_flS (l.take j)
      have hf3 := colS_flS (l.take (j + 1))
      have htl : (l.take (j + 1)).length ≤ 300 := by rw [List.length_take, HL.out]; omega
      have hok := mayF_ok HM.out t (List.mem_of_getElem? ht)
      have hmk := (ok_marks hok).2.2
      have hall : (l.take (j + 1)).all flI = ((l.take j).all flI && flI t) := by rw [List.take_add_one, ht, List.all_append, Option.toList_some, List.all_cons, List.all_nil, Bool.and_true]
      obtain ⟨S, hS⟩ : ∃ S, flV t = S := ⟨_, rfl⟩
      obtain ⟨is, his⟩ : ∃ is, flI t = is := ⟨_, rfl⟩
      obtain ⟨z, hz⟩ : ∃ z, cols S.data.toList = z := ⟨_, rfl⟩
      rw [hS] at hfl
      rw [his] at hall
      have hzB : colB t = z := by rw [colB, hS, hz]
      rw [hzB] at hcn
      rw [hfl, List.length_append] at hf1 hf3
      have hSz : S.size ≤ 2000000 := by rw [size_list]; omega
      obtain ⟨R, hR, hadd⟩ := sadd2 (A := B) (B := S) hB.out (mkb_of S).symm (by omega)
      have HR2 := Lib.hid (show R = mkb (flS (l.take (j + 1))) by rw [hR, hfl])
      obtain ⟨C, hC⟩ : ∃ C, colS (l.take j) = C := ⟨_, rfl⟩
      obtain ⟨y, hy⟩ : ∃ y, (l.take j).all flI = y := ⟨_, rfl⟩
      rw [hC] at hcn ⊢
      rw [hy] at hall ⊢
      have hwr : IntKind.i64.wrap ((C : Int) + (z : Int)) = ((C + z : Nat) : Int) := by rw [IntWalk.i64_in _ (by omega)]; omega
      obtain ⟨tm, tv⟩ := t
      dsimp only at d0 d1 hmk
      have r6 := fun w => sflat_any (w := w) hmk hS his
      have r7 := fun w => scols_any S (by omega) hz w
      have HCN := Lib.hid hcn
      have HAL := Lib.hid hall
      clear ht hfl hcn hf1 hf2 hf3 hv1 htl hok hall hS his hz hzB hR hv hC hy hSz
      go_wp2_with fail
      ((with_reducible refine (r6 _).mono ?_))
      rintro e w4 ⟨rfl, hb4⟩
      have HB4 := Lib.hid (bel_trans hbw.out hb4)
      clear hb4 r6 d0 d1
      go_wp2_with fail
      ((with_reducible refine (r7 _).mono ?_))
      rintro e w5 ⟨rfl, hb5⟩
      have HB5 := Lib.hid (bel_trans HB4.out hb5)
      clear hb5 r7
      cases y
      · go_wp2
        go_roundw
        case rel => exact ⟨j + 1, R, by go_num, rfl, by rw [HCN.out]; go_num, by rw [HAL.out]; rfl, by omega, HR2, HB5⟩
        case measure => simp [intOf]; omega
      · go_wp2
        go_roundw
        case rel => exact ⟨j + 1, R, by go_num, rfl, by rw [HCN.out]; go_num, by rw [HAL.out]; rfl, by omega, HR2, HB5⟩
        case measure => simp [intOf]; omega
    · obtain rfl : j = n := by omega
      have hlt' : l.take j = l := by rw [← HL.out, List.take_length]
      have hBl := hB.out
      rw [hlt'] at hBl ⊢
      have HBL := Lib.hid hBl
      have HB4 := hbw
      clear hBl hB hbw hlt'
      have HK1 := Lib.hid (bn_blk wr (ts := [⟨6, noV⟩]) (cs := #[.int .i64 6, .string ⟨#[]⟩]) (n := 1) rfl rfl (by omega))
      go_wp2_with (at_builtin; refine app_bns rfl _ _ rfl _ [⟨6, noV⟩] rfl HK1.out rfl (HA.out.below (bel_trans HB4.out HK1.out.bel)) HL.out H0.out (by simp; omega) ?_)
      intro v5 w5 h5
      have H5 := Lib.hid (h5.alloc (.cells #[.int .i64 7, .string ⟨#[]⟩] 31))
      have K5 := Lib.hid (show Br (w5.alloc (.cells #[.int .i64 7, .string ⟨#[]⟩] 31)) (some ⟨w5.heap.size, 0, none⟩) [⟨7, noV⟩] from br_blk (heap_alloc_new w5 _) rfl)
      clear h5
      go_wp2_with (at_builtin; refine app_bns (m := 1) rfl _ _ rfl v5 _ rfl H5.out rfl K5.out rfl (fun e => by cases e) (by have hl := HL.out; simp; omega) ?_)
      intro v6 w6 h6
      have h6' : Bn wr (grp l) v6 w6 := by simpa [grp] using h6
      obtain ⟨E, d, rfl, hE, hE0, hEd⟩ := h6'.row
      rw [grp_len, HL.out] at hE0 hEd ⊢
      have HE := Lib.hid hE
      have HE0 := Lib.hid hE0
      have HB6 := Lib.hid (bel_trans HB4.out h6'.bel)
      clear h6 h6' hE hE0 H5 K5 HK1
      go_wp2_with fail
      ((with_reducible refine (r3 _ _ _ HE.out HE0.out hEd).mono ?_))
      rintro e w7 ⟨rfl, hb7⟩
      have HB7 := Lib.hid (bel_trans HB6.out hb7)
      clear hb7 r3
      obtain ⟨y, hy⟩ : ∃ y, l.all flI = y := ⟨_, rfl⟩
      obtain ⟨C, hC⟩ : ∃ C, colS l = C := ⟨_, rfl⟩
      rw [hy, hC]
      have HY := Lib.hid hy
      have HC := Lib.hid hC
      clear hy hC
      go_wp2_with fail
      go_loop [15, 16] (fun s i => ∃ m : Nat, i = .int .i64 m ∧ s = .int .i64 (((U.data.toList.take m).count 10 : Nat) : Int) ∧ m ≤ U.size) (fun _ i => U.size - (intOf i).toNat)
      case atStart => exact ⟨0, rfl, rfl, Nat.zero_le _⟩
      case round =>
        obtain ⟨m, rfl, rfl, hm⟩ := hrel
        by_cases hlt3 : m < U.size
        · have q2 : (m : Int) < (U.size : Int) := by omega
          have hat := at_str hlt3
          obtain ⟨x, hx⟩ : ∃ x, U[m] = x := ⟨_, rfl⟩
          rw [hx] at hat
          have hnext : (U.data.toList.take (m + 1)).count 10 = (U.data.toList.take m).count 10 + (if (x == 10) = true then 1 else 0) := by
            rw [List.take_add_one, hat, Option.toList_some, List.count_append, List.count_singleton]
          have hcl : (U.data.toList.take m).count 10 ≤ m := Nat.le_trans List.count_le_length (by rw [List.length_take]; omega)
          have q10 : ((x.toNat : Int) == 10) = (x == UInt8.ofNat 10) := byt_is (x := x) (n := 10) (by omega)
          obtain ⟨Z, hZ⟩ : ∃ Z, (U.data.toList.take m).count 10 = Z := ⟨_, rfl⟩
          rw [hZ] at hnext hcl ⊢
          cases c1 : (x == UInt8.ofNat 10)
          · rw [show (x == 10) = false from c1] at hnext
            rw [c1] at q10
            have HNX := Lib.hid hnext
            clear hat hnext hZ c1
            go_wp2
            go_round
            case rel => exact ⟨m + 1, by go_num, by rw [HNX.out]; simp, by omega⟩
            case measure => simp [intOf]; omega
          · rw [show (x == 10) = true from c1] at hnext
            rw [c1] at q10
            have HNX := Lib.hid hnext
            clear hat hnext hZ c1
            go_wp2
            go_round
            case rel => exact ⟨m + 1, by go_num, by rw [HNX.out]; go_num, by omega⟩
            case measure => simp [intOf]; omega
        · obtain rfl : m = U.size := by omega
          have hut : U.data.toList.take U.size = U.data.toList := List.take_of_length_le (by rw [← size_list]; exact Nat.le_refl _)
          rw [hut]
          obtain ⟨Z, hZ⟩ : ∃ Z, U.data.toList.count 10 = Z := ⟨_, rfl⟩
          rw [hZ]
          have HZ := Lib.hid hZ
          clear hut hZ
          cases y
          · have hpos := List.count_pos_iff.2 (HM2.out HY.out)
            rw [HZ.out] at hpos
            have q5 : (0 : Int) < (Z : Int) := by omega
            have q6 : 0 < Z := hpos
            clear hpos
            go_wp2
            go_ret
            exact ⟨by first | rfl | (simp; done) | (simp; omega) | (show Ending.returned (.bool (decide ((0 : Int) < (Z : Int)))) = _; rw [decide_eq_true q5]), HB7.out⟩
          · by_cases hCW : (C : Int) ≤ W
            · have hUB : U = B := by rw [HM1.out HY.out (by rw [HC.out]; exact hCW), HBL.out]
              subst hUB
              go_wp2
              go_ret
              exact ⟨rfl, HB7.out⟩
            · go_wp2
              go_ret
              exact ⟨rfl, HB7.out⟩
end Go.Proofs.Ytcbhhdnnmnogdaa
