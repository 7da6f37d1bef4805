/- The law WideIn: its walk. -/
import Derived.Test.YtcbhhdnnmnogdaaWidE
import Derived.Test.YtcbhhdnnmnogdaaWidO
import Derived.Test.YtcbhhdnnmnogdaaWidX
import Derived.Test.YtcbhhdnnmnogdaaBitH
namespace Go.Proofs.Ytcbhhdnnmnogdaa
open Go.RowKit
set_option linter.unusedVariables false
set_option maxRecDepth 100000
theorem vS_end (l : List Bq) (a b : Int) : vS (⟨a, noV⟩ :: (l ++ [⟨b, noV⟩])) = vS l := by
  have e : (noV).size = 0 := rfl
  rw [vS, vS_app, vS, vS, e]; omega

set_option maxHeartbeats 4000000 in
theorem in_law {w : World} {A : Option Addr} {n c : Nat} {l : List Bq} {W : Int} (hA : Br w A l) (hn : l.length = n) (h0 : A = none → n = 0 ∧ c = 0) (hc : n ≤ c) (hv : vS l ≤ 1048576) :
    Calls Try.prog 7 #[.slice A n c, .int .i64 W] w fun e w' => e = .returned (.bool true) ∧ Below w.heap.size w w' := by
  have r1 := fun w => awake_any w
  have HA := Lib.hid hA
  have HL := Lib.hid hn
  have H0 := Lib.hid h0
  have HV := Lib.hid hv
  clear hA hn h0 hv
  go_enter Try.func7, Try.ntmps7
  go_wp2_with fail
  ((with_reducible refine (r1 _).mono ?_))
  rintro e w1 ⟨rfl, hb1⟩
  have HB1 := Lib.hid hb1
  clear hb1 r1
  by_cases h3 : 300 < n
  · have q3 : (300 : Int) < (n : Int) := by omega
    go_wp2
    go_ret
    exact ⟨rfl, HB1.out⟩
  have q3 : ¬ (300 : Int) < (n : Int) := by omega
  obtain ⟨r, hr⟩ : ∃ r, rmF l W = r := ⟨_, rfl⟩
  have r5 := fun w h => wroom_any (w := w) (A := A) (n := n) (c := c) hr h HL.out (by omega)
  have HR := Lib.hid hr
  clear hr
  go_wp2_with fail
  ((with_reducible refine (r5 _ (HA.out.below HB1.out)).mono ?_))
  rintro e w2 ⟨rfl, hb2⟩
  have HB2 := Lib.hid (bel_trans HB1.out hb2)
  clear hb2 r5
  cases r with
  | false =>
    go_wp2
    go_ret
    exact ⟨rfl, HB2.out⟩
  | true =>
  have HM := Lib.hid (mayL_yes (rm_yes HR.out).2.2)
  have HC2 := Lib.hid (HA.out.below HB2.out)
  have HW := Lib.hid (And.intro (rm_yes HR.out).1 (rm_yes HR.out).2.1)
  obtain ⟨S, hS⟩ : ∃ S, mkb (layF l W) = S := ⟨_, rfl⟩
  obtain ⟨U, hU⟩ : ∃ U, mkb (layF (ming l) W) = U := ⟨_, rfl⟩
  have r2 := fun w h => wlay_any (w := w) (A := A) (n := n) (c := c) HR.out hS h HL.out H0.out hc (by omega) (Nat.le_trans HV.out (by decide))
  have hlW : layF l W = (pgs l W l.length).out := by rw [layF, if_pos HR.out]
  have hmm : rmF (ming l) W = true := rm_mk HW.out.1 HW.out.2 (by rw [mayL_is (by rw [ming_len, HL.out]; omega)]; exact mayF_ming HM.out)
  have hlU : layF (ming l) W = (pgs (ming l) W (l.length + 2)).out := by rw [layF, if_pos hmm, ming_len]
  have hSl : S.data.toList = (pgs l W l.length).out := by rw [← hS, mkb_data, hlW]
  have hSz : S.size ≤ 200000000 := by
    have := (pgs_inv W HM.out (by rw [HL.out]; omega) l.length (Nat.le_refl _)).outk
    rw [List.take_length, ← hSl, ← size_list] at this
    have hv := HV.out
    have hl := HL.out
    omega
  have hmath : (∀ b ∈ l, b.m ≠ 6) → (∀ b ∈ l, (10 : UInt8) ∉ b.v.data.toList) → U = mkb (insL false S.data.toList) := fun h6 h10 => by
    rw [← hU, hlU, in_math h6 h10 HM.out (by rw [HL.out]; omega), hSl]
  have HMT := Lib.hid hmath
  have r3 := fun w (E : Option Addr) (d : Nat) (h : Br w E (ming l)) h0 hd => wlay_any (w := w) (A := E) (n := n + 2) (c := d) hmm hU h (by rw [ming_len, HL.out]) h0 hd (by omega) (by rw [ming, vS_end]; exact Nat.le_trans HV.out (by decide))
  clear hS hU hlW hlU hSl hmath h3 hmm
  go_wp2_with fail
  go_loop [6] (fun i => ∃ j : Nat, i = .int .i64 j ∧ j ≤ n ∧ Hid (∀ b ∈ l.take j, b.m ≠ 6) ∧ Hid (∀ b ∈ l.take j, (10 : UInt8) ∉ b.v.data.toList)) (fun i => n - (intOf i).toNat)
  case atStart => exact ⟨0, rfl, Nat.zero_le _, Lib.hid (fun b hb => by simp at hb), Lib.hid (fun b hb => by simp at hb)⟩
  case round =>
    obtain ⟨j, rfl, hj, hno6, hno⟩ := hrel
    by_cases hlt : j < n
    · have q : (j : Int) < (n : Int) := by omega
      obtain ⟨t, ht⟩ : ∃ t, l[j]? = some t := ⟨_, List.getElem?_eq_getElem (by rw [HL.out]; exact hlt)⟩
      obtain ⟨b0, o0, rfl, d0, d1⟩ := HC2.out j t ht
      have lb := World.block_lt_of_cell? _ _ d0
      have hv := HV.out
      have hts := Nat.le_trans (vS_mem ht) hv
      obtain ⟨tm, tv⟩ := t
      dsimp only at d0 d1 hts
      have HTK := Lib.hid (show l.take (j + 1) = l.take j ++ [⟨tm, tv⟩] by rw [List.take_add_one, ht]; rfl)
      clear ht hv
      by_cases t6 : tm = 6
      · subst t6
        go_wp2
        go_ret
        exact ⟨rfl, HB2.out⟩
      have g6 : (tm == 6) = false := beq_eq_false_iff_ne.2 t6
      have HN6 := Lib.hid (show ∀ b ∈ l.take (j + 1), b.m ≠ 6 from fun b h => by
        rw [HTK.out] at h
        rcases List.mem_append.1 h with h | h
        · exact hno6.out b h
        · rw [List.mem_singleton.1 h]; exact t6)
      clear t6
      go_wp2_with fail
      go_loop [7] (fun i => ∃ k : Nat, i = .int .i64 k ∧ k ≤ tv.size ∧ Hid ((10 : UInt8) ∉ tv.data.toList.take k)) (fun i => tv.size - (intOf i).toNat)
      case atStart => exact ⟨0, rfl, Nat.zero_le _, Lib.hid (by simp)⟩
      case round =>
        obtain ⟨k, rfl, hk, hno2⟩ := hrel
        by_cases hlt2 : k < tv.size
        · have q2 : (k : Int) < (tv.size : Int) := by omega
          have hat := at_str hlt2
          obtain ⟨x, hx⟩ : ∃ x, tv[k] = x := ⟨_, rfl⟩
          rw [hx] at hat
          have HAT := Lib.hid hat
          have q10 : ((x.toNat : Int) == 10) = (x == UInt8.ofNat 10) := byt_is (x := x) (n := 10) (by omega)
          clear hat
          cases c10 : (x == UInt8.ofNat 10)
          · rw [c10] at q10
            have hx10 : (10 : UInt8) ≠ x := fun e => by rw [← e] at c10; exact absurd c10 (by decide)
            have HN := Lib.hid (show (10 : UInt8) ∉ tv.data.toList.take (k + 1) from fun h => by
              rw [List.take_add_one, HAT.out, Option.toList_some] at h
              rcases List.mem_append.1 h with h | h
              · exact hno2.out h
              · exact hx10 (List.mem_singleton.1 h))
            clear c10 hx10
            go_wp2
            go_round
            case rel => exact ⟨k + 1, by go_num, by omega, HN⟩
            case measure => simp [intOf]; omega
          · rw [c10] at q10
            clear c10
            go_wp2
            go_ret
            exact ⟨rfl, HB2.out⟩
        · obtain rfl : k = tv.size := by omega
          have HN := Lib.hid (show ∀ b ∈ l.take (j + 1), (10 : UInt8) ∉ b.v.data.toList from fun b h hc => by
            rw [HTK.out] at h
            rcases List.mem_append.1 h with h | h
            · exact hno.out b h hc
            · rw [List.mem_singleton.1 h] at hc
              exact hno2.out (by rw [List.take_of_length_le (by rw [← size_list]; exact Nat.le_refl _)]; exact hc))
          go_wp2
          go_round
          case rel => exact ⟨j + 1, by go_num, by omega, HN6, HN⟩
          case measure => simp [intOf]; omega
    · obtain rfl : j = n := by omega
      have h := HMT.out (by rw [← List.take_length (l := l), HL.out]; exact hno6.out) (by rw [← List.take_length (l := l), HL.out]; exact hno.out)
      have HUU := Lib.hid h
      clear h hno hno6
      go_wp2_with fail
      ((with_reducible refine (r2 _ HC2.out).mono ?_))
      rintro e w4 ⟨rfl, hb4⟩
      have HB4 := Lib.hid (bel_trans HB2.out hb4)
      clear hb4 r2
      have HK1 := Lib.hid (bn_blk w4 (ts := [⟨8, noV⟩]) (cs := #[.int .i64 8, .string ⟨#[]⟩]) (n := 1) rfl rfl (by omega))
      go_wp2_with (at_builtin; refine app_bns rfl _ _ rfl _ [⟨8, noV⟩] rfl HK1.out rfl (HA.out.below (bel_trans HB4.out HK1.out.bel)) HL.out H0.out (by simp; omega) ?_)
      intro v5 w5 h5
      have H5 := Lib.hid (h5.alloc (.cells #[.int .i64 9, .string ⟨#[]⟩] 31))
      have K5 := Lib.hid (show Br (w5.alloc (.cells #[.int .i64 9, .string ⟨#[]⟩] 31)) (some ⟨w5.heap.size, 0, none⟩) [⟨9, noV⟩] from br_blk (heap_alloc_new w5 _) rfl)
      clear h5
      go_wp2_with (at_builtin; refine app_bns (m := 1) rfl _ _ rfl v5 _ rfl H5.out rfl K5.out rfl (fun e => by cases e) (by have hl := HL.out; simp; omega) ?_)
      intro v6 w6 h6
      have h6' : Bn w4 (ming l) v6 w6 := by simpa [ming] using h6
      obtain ⟨E, d, rfl, hE, hE0, hEd⟩ := h6'.row
      rw [ming_len, HL.out] at hE0 hEd ⊢
      have HE := Lib.hid hE
      have HE0 := Lib.hid hE0
      have HB6 := Lib.hid (bel_trans HB4.out h6'.bel)
      clear h6 h6' hE hE0 H5 K5 HK1
      go_wp2_with fail
      ((with_reducible refine (r3 _ _ _ HE.out HE0.out hEd).mono ?_))
      rintro e w7 ⟨rfl, hb7⟩
      have HB7 := Lib.hid (bel_trans HB6.out hb7)
      clear hb7 r3
      go_wp2_with fail
      go_loop [12, 13] (fun s i => ∃ (m : Nat) (G : ByteArray), i = .int .i64 m ∧ s = .string G ∧ m ≤ S.size ∧ Hid (G = mkb (insL false (S.data.toList.take m)))) (fun _ i => S.size - (intOf i).toNat)
      case atStart => exact ⟨0, _, rfl, rfl, Nat.zero_le _, Lib.hid rfl⟩
      case round =>
        obtain ⟨m, G, rfl, rfl, hm, hG⟩ := hrel
        by_cases hlt3 : m < S.size
        · have q2 : (m : Int) < (S.size : Int) := by omega
          have hat := at_str hlt3
          obtain ⟨x, hx⟩ : ∃ x, S[m] = x := ⟨_, rfl⟩
          rw [hx] at hat
          have hex := ext_one hat
          have hnext := insL_next hat
          have hil := insL_len (S.data.toList.take m) false
          have htl : (S.data.toList.take m).length ≤ m := by rw [List.length_take]; omega
          have q10 : ((x.toNat : Int) == 10) = (x == UInt8.ofNat 10) := byt_is (x := x) (n := 10) (by omega)
          have p10 : ((x.toNat : Int) != 10) = !(x == UInt8.ofNat 10) := by rw [bne, q10]
          have HEX := Lib.hid hex
          have HNX := Lib.hid hnext
          clear hat hnext hex
          have plain : (laB false (S.data.toList.take m) && x != 10) = false → ∃ R, R = mkb (insL false (S.data.toList.take (m + 1))) ∧ ∀ w, (Op.stringOp .add G (S.extract m (m + 1))).run Try.prog w = .ok (.string R) w := fun h => by
            obtain ⟨R, hR, hadd⟩ := sadd2 (A := G) (B := S.extract m (m + 1)) (b := [x]) hG.out HEX.out (by show _ + 1 ≤ _; omega)
            exact ⟨R, by rw [hR, HNX.out, h]; simp, hadd⟩
          have two : (laB false (S.data.toList.take m) && x != 10) = true → ∃ Q R, R = mkb (insL false (S.data.toList.take (m + 1))) ∧ (∀ w, (Op.stringOp .add G ⟨#[32, 32]⟩).run Try.prog w = .ok (.string Q) w) ∧ ∀ w, (Op.stringOp .add Q (S.extract m (m + 1))).run Try.prog w = .ok (.string R) w := fun h => by
            obtain ⟨Q, hQ, hq⟩ := sadd2 (A := G) (B := ⟨#[32, 32]⟩) (b := [32, 32]) hG.out rfl (by show _ + 2 ≤ _; omega)
            obtain ⟨R, hR, hadd⟩ := sadd2 (A := Q) (B := S.extract m (m + 1)) (b := [x]) hQ HEX.out (by rw [List.length_append]; show _ + 2 + 1 ≤ _; omega)
            exact ⟨Q, R, by rw [hR, HNX.out, if_pos h], hq, hadd⟩
          have HP := Lib.hid plain
          have HT := Lib.hid two
          clear plain two htl hil
          cases m with
          | zero =>
            obtain ⟨R, hR, hadd⟩ := HP.out rfl
            have HR3 := Lib.hid hR
            clear hR q10 p10
            go_wp2
            go_round
            case rel => exact ⟨1, R, by go_num, rfl, by omega, HR3⟩
            case measure => simp [intOf]; omega
          | succ m' =>
            have hlt4 : m' < S.size := by omega
            have hat2 := at_str hlt4
            obtain ⟨y, hy⟩ : ∃ y, S[m'] = y := ⟨_, rfl⟩
            rw [hy] at hat2
            have hla := laB_take hat2
            have qy : ((y.toNat : Int) == 10) = (y == UInt8.ofNat 10) := byt_is (x := y) (n := 10) (by omega)
            have HLA := Lib.hid hla
            clear hat2 hla
            cases c1 : (y == UInt8.ofNat 10)
            · obtain ⟨R, hR, hadd⟩ := HP.out (by rw [HLA.out, show (y == 10) = false from c1]; rfl)
              have HR3 := Lib.hid hR
              rw [c1] at qy
              clear hR q10 p10 c1
              go_wp2
              go_round
              case rel => exact ⟨m' + 1 + 1, R, by go_num, rfl, by omega, HR3⟩
              case measure => simp [intOf]; omega
            · cases c2 : (x == UInt8.ofNat 10)
              · obtain ⟨Q, R, hR, hq, hadd⟩ := HT.out (by rw [HLA.out, show (y == 10) = true from c1, bne, show (x == 10) = false from c2]; rfl)
                have HR3 := Lib.hid hR
                rw [c1] at qy
                rw [c2] at q10 p10
                clear hR c1 c2
                go_wp2
                go_round
                case rel => exact ⟨m' + 1 + 1, R, by go_num, rfl, by omega, HR3⟩
                case measure => simp [intOf]; omega
              · obtain ⟨R, hR, hadd⟩ := HP.out (by rw [HLA.out, show (y == 10) = true from c1, bne, show (x == 10) = true from c2]; rfl)
                have HR3 := Lib.hid hR
                rw [c1] at qy
                rw [c2] at q10 p10
                clear hR c1 c2
                go_wp2
                go_round
                case rel => exact ⟨m' + 1 + 1, R, by go_num, rfl, by omega, HR3⟩
                case measure => simp [intOf]; omega
        · obtain rfl : m = S.size := by omega
          have hGB : G = U := by rw [hG.out, HUU.out, List.take_of_length_le (by rw [← size_list]; exact Nat.le_refl _)]
          subst hGB
          clear hG
          go_wp2
          go_ret
          exact ⟨rfl, HB7.out⟩
end Go.Proofs.Ytcbhhdnnmnogdaa
