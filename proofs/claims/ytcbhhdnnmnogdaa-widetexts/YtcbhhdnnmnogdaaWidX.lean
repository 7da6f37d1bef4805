/- The law WideTexts: its walk. -/
import Derived.Test.YtcbhhdnnmnogdaaWidE
import Derived.Test.YtcbhhdnnmnogdaaWidN
namespace Go.Proofs.Ytcbhhdnnmnogdaa
open Go.RowKit
set_option linter.unusedVariables false
set_option maxRecDepth 100000

/-- A sum of strings, under a name of its own. -/
theorem sadd2 {A B : ByteArray} {a b : List UInt8} (hA : A = mkb a) (hB : B = mkb b) (h : a.length + b.length ≤ 1000000000) : ∃ R, R = mkb (a ++ b) ∧ ∀ w, (Op.stringOp .add A B).run Try.prog w = .ok (.string R) w :=
  ⟨mkb (a ++ b), rfl, fun w => by rw [hA, hB, ← mkb_add]; exact run_string_add_sum w _ _ (by rw [mkb_size, mkb_size]; omega)⟩
theorem ext_one {S : ByteArray} {j : Nat} {x : UInt8} (h : S.data.toList[j]? = some x) : S.extract j (j + 1) = mkb [x] := by
  apply ByteArray.ext
  apply Array.ext'
  rw [ByteArray.data_extract, Array.toList_extract, List.extract_eq_take_drop, Nat.add_sub_cancel_left]
  show _ = [x]
  obtain ⟨h1, h2⟩ := List.getElem?_eq_some_iff.1 h
  rw [List.drop_eq_getElem_cons h1, List.take_succ_cons, List.take_zero, h2]
theorem vS_mem {l : List Bq} {k : Nat} {b : Bq} (h : l[k]? = some b) : b.v.size ≤ vS l := by
  have h1 := vS_next h
  have h2 := vS_le l (k + 1)
  omega
set_option maxHeartbeats 4000000 in
theorem texts_law {w : World} {A : Option Addr} {n c : Nat} {l : List Bq} {W : Int} (hA : Br w A l) (hn : l.length = n) (h0 : A = none → n = 0 ∧ c = 0) (hc : n ≤ c) (hv : vS l ≤ 1048576) :
    Calls Try.prog 6 #[.slice A n c, .int .i64 W] w fun e w' => e = .returned (.bool true) ∧ Below w.heap.size w w' := by
  have r1 := fun w => awake_any w
  have HA := Lib.hid hA
  have HL := Lib.hid hn
  have H0 := Lib.hid h0
  have HV := Lib.hid hv
  clear hA hn h0 hv
  go_enter Try.func6, Try.ntmps6
  go_wp2_with fail
  ((with_reducible refine (r1 _).mono ?_))
  rintro e w1 ⟨rfl, hb1⟩
  have HB1 := Lib.hid hb1
  clear hb1 r1
  by_cases h3 : 300 < n
  · have q3 : (300 : Int) < (n : Int) := by omega
    go_wp2
    go_ret
    exact ⟨rfl, HB1.out⟩
  have q3 : ¬ (300 : Int) < (n : Int) := by omega
  obtain ⟨r, hr⟩ : ∃ r, rmF l W = r := ⟨_, rfl⟩
  have r5 := fun w h => wroom_any (w := w) (A := A) (n := n) (c := c) hr h HL.out (by omega)
  have HR := Lib.hid hr
  clear hr
  go_wp2_with fail
  ((with_reducible refine (r5 _ (HA.out.below HB1.out)).mono ?_))
  rintro e w2 ⟨rfl, hb2⟩
  have HB2 := Lib.hid (bel_trans HB1.out hb2)
  clear hb2 r5
  cases r with
  | false =>
    go_wp2
    go_ret
    exact ⟨rfl, HB2.out⟩
  | true =>
  obtain ⟨S, hS⟩ : ∃ S, mkb (layF l W) = S := ⟨_, rfl⟩
  have r2 := fun w h => wlay_any (w := w) (A := A) (n := n) (c := c) HR.out hS h HL.out H0.out hc (by omega) (Nat.le_trans HV.out (by decide))
  have HM := Lib.hid (mayL_yes (rm_yes HR.out).2.2)
  have hlW : layF l W = (pgs l W l.length).out := by rw [layF, if_pos HR.out]
  have hSl : S.data.toList = (pgs l W l.length).out := by rw [← hS, mkb_data, hlW]
  have hSz : S.size ≤ 200000000 := by
    have := (pgs_inv W HM.out (by rw [HL.out]; omega) l.length (Nat.le_refl _)).outk
    rw [List.take_length, ← hSl, ← size_list] at this
    have hv := HV.out
    have hl := HL.out
    omega
  have hmath : (∀ b ∈ l, ∀ c ∈ b.v.data.toList, ntB c = true) → S.data.toList.filter ntB = txS l := fun h => by
    rw [hSl]
    have := texts_math (w := W) HM.out h l.length (Nat.le_refl _)
    rwa [List.take_length] at this
  have HMT := Lib.hid hmath
  clear hS hlW hSl hmath h3
  have HC2 := Lib.hid (HA.out.below HB2.out)
  go_wp2_with fail
  go_loop [6, 7] (fun s i => ∃ (j : Nat) (B : ByteArray), i = .int .i64 j ∧ s = .string B ∧ j ≤ n ∧ Hid (B = mkb (txS (l.take j))) ∧ Hid (∀ b ∈ l.take j, ∀ c ∈ b.v.data.toList, ntB c = true)) (fun _ i => n - (intOf i).toNat)
  case atStart => exact ⟨0, _, rfl, rfl, Nat.zero_le _, Lib.hid rfl, Lib.hid (fun b hb => by simp at hb)⟩
  case round =>
    obtain ⟨j, B, rfl, rfl, hj, hB, hno⟩ := hrel
    by_cases hlt : j < n
    · have q : (j : Int) < (n : Int) := by omega
      obtain ⟨t, ht⟩ : ∃ t, l[j]? = some t := ⟨_, List.getElem?_eq_getElem (by rw [HL.out]; exact hlt)⟩
      obtain ⟨b0, o0, rfl, d0, d1⟩ := HC2.out j t ht
      have lb := World.block_lt_of_cell? _ _ d0
      have hv := HV.out
      have hts := Nat.le_trans (vS_mem ht) hv
      have htx := txS_next ht
      have hl1 := txS_len (l.take (j + 1))
      have hl2 := vS_le l (j + 1)
      rw [htx, List.length_append] at hl1
      obtain ⟨tm, tv⟩ := t
      dsimp only at d0 d1 hts hl1
      obtain ⟨R, hR, hadd⟩ := sadd2 (A := B) (B := tv) hB.out (mkb_of tv).symm (by omega)
      have HTK := Lib.hid (show l.take (j + 1) = l.take j ++ [⟨tm, tv⟩] by rw [List.take_add_one, ht]; rfl)
      have HR2 := Lib.hid (show R = mkb (txS (l.take (j + 1))) by rw [hR, htx])
      clear ht htx hl1 hl2 hR hv
      go_wp2_with fail
      go_loop [8] (fun i => ∃ k : Nat, i = .int .i64 k ∧ k ≤ tv.size ∧ Hid (∀ c ∈ tv.data.toList.take k, ntB c = true)) (fun i => tv.size - (intOf i).toNat)
      case atStart => exact ⟨0, rfl, Nat.zero_le _, Lib.hid (fun c hc => by simp at hc)⟩
      case round =>
        obtain ⟨k, rfl, hk, hno2⟩ := hrel
        by_cases hlt2 : k < tv.size
        · have q2 : (k : Int) < (tv.size : Int) := by omega
          have hat := at_str hlt2
          obtain ⟨x, hx⟩ : ∃ x, tv[k] = x := ⟨_, rfl⟩
          rw [hx] at hat
          have HAT := Lib.hid hat
          have q32 : ((x.toNat : Int) == 32) = (x == UInt8.ofNat 32) := byt_is (x := x) (n := 32) (by omega)
          have q44 : ((x.toNat : Int) == 44) = (x == UInt8.ofNat 44) := byt_is (x := x) (n := 44) (by omega)
          have q10 : ((x.toNat : Int) == 10) = (x == UInt8.ofNat 10) := byt_is (x := x) (n := 10) (by omega)
          clear hat
          cases c32 : (x == UInt8.ofNat 32)
          · cases c44 : (x == UInt8.ofNat 44)
            · cases c10 : (x == UInt8.ofNat 10)
              · rw [c32] at q32
                rw [c44] at q44
                rw [c10] at q10
                have hnt : ntB x = true := by
                  have e1 : (x != 32) = true := by rw [bne]; rw [show (x == 32) = false from c32]; rfl
                  have e2 : (x != 44) = true := by rw [bne]; rw [show (x == 44) = false from c44]; rfl
                  have e3 : (x != 10) = true := by rw [bne]; rw [show (x == 10) = false from c10]; rfl
                  rw [ntB, e1, e2, e3]; rfl
                have HN := Lib.hid (show ∀ c ∈ tv.data.toList.take (k + 1), ntB c = true from fun c h => by
                  rw [List.take_add_one, HAT.out, Option.toList_some] at h
                  rcases List.mem_append.1 h with h | h
                  · exact hno2.out c h
                  · rw [List.mem_singleton.1 h]; exact hnt)
                clear c32 c44 c10 hnt
                go_wp2
                go_round
                case rel => exact ⟨k + 1, by go_num, by omega, HN⟩
                case measure => simp [intOf]; omega
              · rw [c32] at q32
                rw [c44] at q44
                rw [c10] at q10
                clear c32 c44 c10
                go_wp2
                go_ret
                exact ⟨rfl, HB2.out⟩
            · rw [c32] at q32
              rw [c44] at q44
              clear c32 c44 q10
              go_wp2
              go_ret
              exact ⟨rfl, HB2.out⟩
          · rw [c32] at q32
            clear c32 q44 q10
            go_wp2
            go_ret
            exact ⟨rfl, HB2.out⟩
        · obtain rfl : k = tv.size := by omega
          have HN := Lib.hid (show ∀ b ∈ l.take (j + 1), ∀ c ∈ b.v.data.toList, ntB c = true from fun b h c hc => by
            rw [HTK.out] at h
            rcases List.mem_append.1 h with h | h
            · exact hno.out b h c hc
            · rw [List.mem_singleton.1 h] at hc
              exact hno2.out c (by rw [List.take_of_length_le (by rw [← size_list]; exact Nat.le_refl _)]; exact hc))
          go_wp2
          go_round
          case rel => exact ⟨j + 1, R, by go_num, rfl, by omega, HR2, HN⟩
          case measure => simp [intOf]; omega
    · obtain rfl : j = n := by omega
      have h := HMT.out (by rw [← List.take_length (l := l), HL.out]; exact hno.out)
      have hBl : B = mkb (txS l) := by rw [hB.out, ← HL.out, List.take_length]
      rw [← h] at hBl
      have HBL := Lib.hid hBl
      clear h hBl hno hB
      go_wp2_with fail
      ((with_reducible refine (r2 _ (HA.out.below HB2.out)).mono ?_))
      rintro e w4 ⟨rfl, hb4⟩
      have HB4 := Lib.hid (bel_trans HB2.out hb4)
      clear hb4 r2
      go_wp2_with fail
      go_loop [12, 13] (fun s i => ∃ (m : Nat) (G : ByteArray), i = .int .i64 m ∧ s = .string G ∧ m ≤ S.size ∧ Hid (G = mkb ((S.data.toList.take m).filter ntB))) (fun _ i => S.size - (intOf i).toNat)
      case atStart => exact ⟨0, _, rfl, rfl, Nat.zero_le _, Lib.hid rfl⟩
      case round =>
        obtain ⟨m, G, rfl, rfl, hm, hG⟩ := hrel
        by_cases hlt3 : m < S.size
        · have q2 : (m : Int) < (S.size : Int) := by omega
          have hat := at_str hlt3
          obtain ⟨x, hx⟩ : ∃ x, S[m] = x := ⟨_, rfl⟩
          rw [hx] at hat
          have hex := ext_one hat
          have hfl : ((S.data.toList.take m).filter ntB).length ≤ 200000000 := Nat.le_trans (List.length_filter_le _ _) (by rw [List.length_take, ← size_list]; omega)
          have hnext : (S.data.toList.take (m + 1)).filter ntB = (S.data.toList.take m).filter ntB ++ (if ntB x = true then [x] else []) := by
            rw [List.take_add_one, hat, Option.toList_some, List.filter_append]
            congr 1
            cases h : ntB x <;> simp [h]
          have q32 : ((x.toNat : Int) == 32) = (x == UInt8.ofNat 32) := byt_is (x := x) (n := 32) (by omega)
          have q44 : ((x.toNat : Int) == 44) = (x == UInt8.ofNat 44) := byt_is (x := x) (n := 44) (by omega)
          have q10 : ((x.toNat : Int) == 10) = (x == UInt8.ofNat 10) := byt_is (x := x) (n := 10) (by omega)
          have HEX := Lib.hid hex
          have HNX := Lib.hid hnext
          clear hat hnext hex
          have skip : ntB x = false → G = mkb ((S.data.toList.take (m + 1)).filter ntB) := fun h => by rw [HNX.out, h, hG.out]; simp
          have HSK := Lib.hid skip
          clear skip
          cases c32 : (x == UInt8.ofNat 32)
          · cases c44 : (x == UInt8.ofNat 44)
            · cases c10 : (x == UInt8.ofNat 10)
              · rw [c32] at q32; have p32 : ((x.toNat : Int) != 32) = true := by rw [bne, q32]; rfl
                rw [c44] at q44; have p44 : ((x.toNat : Int) != 44) = true := by rw [bne, q44]; rfl
                rw [c10] at q10; have p10 : ((x.toNat : Int) != 10) = true := by rw [bne, q10]; rfl
                have hnt : ntB x = true := by
                  have e1 : (x != 32) = true := by rw [bne]; rw [show (x == 32) = false from c32]; rfl
                  have e2 : (x != 44) = true := by rw [bne]; rw [show (x == 44) = false from c44]; rfl
                  have e3 : (x != 10) = true := by rw [bne]; rw [show (x == 10) = false from c10]; rfl
                  rw [ntB, e1, e2, e3]; rfl
                obtain ⟨R, hR, hadd⟩ := sadd2 (A := G) (B := S.extract m (m + 1)) (b := [x]) hG.out HEX.out (by show _ + 1 ≤ _; omega)
                have HR3 := Lib.hid (show R = mkb ((S.data.toList.take (m + 1)).filter ntB) by rw [hR, HNX.out, if_pos hnt])
                clear c32 c44 c10 hnt hR hfl
                go_wp2
                go_round
                case rel => exact ⟨m + 1, R, by go_num, rfl, by omega, HR3⟩
                case measure => simp [intOf]; omega
              · have hn2 : ntB x = false := by
                  have e : x = 10 := by simpa using c10
                  rw [e]; decide
                have HR3 := Lib.hid (HSK.out hn2)
                rw [c32] at q32; have p32 : ((x.toNat : Int) != 32) = true := by rw [bne, q32]; rfl
                rw [c44] at q44; have p44 : ((x.toNat : Int) != 44) = true := by rw [bne, q44]; rfl
                rw [c10] at q10; have p10 : ((x.toNat : Int) != 10) = false := by rw [bne, q10]; rfl
                clear c32 c44 c10 hn2 hfl
                go_wp2
                go_round
                case rel => exact ⟨m + 1, G, by go_num, rfl, by omega, HR3⟩
                case measure => simp [intOf]; omega
            · have hn2 : ntB x = false := by
                have e : x = 44 := by simpa using c44
                rw [e]; decide
              have HR3 := Lib.hid (HSK.out hn2)
              rw [c32] at q32; have p32 : ((x.toNat : Int) != 32) = true := by rw [bne, q32]; rfl
              rw [c44] at q44; have p44 : ((x.toNat : Int) != 44) = false := by rw [bne, q44]; rfl
              clear c32 c44 q10 hn2 hfl
              go_wp2
              go_round
              case rel => exact ⟨m + 1, G, by go_num, rfl, by omega, HR3⟩
              case measure => simp [intOf]; omega
          · have hn2 : ntB x = false := by
              have e : x = 32 := by simpa using c32
              rw [e]; decide
            have HR3 := Lib.hid (HSK.out hn2)
            rw [c32] at q32; have p32 : ((x.toNat : Int) != 32) = false := by rw [bne, q32]; rfl
            clear c32 q44 q10 hn2 hfl
            go_wp2
            go_round
            case rel => exact ⟨m + 1, G, by go_num, rfl, by omega, HR3⟩
            case measure => simp [intOf]; omega
        · obtain rfl : m = S.size := by omega
          have hGB : G = B := by rw [hG.out, HBL.out, List.take_of_length_le (by rw [← size_list]; exact Nat.le_refl _)]
          subst hGB
          clear hG
          go_wp2
          go_ret
          exact ⟨rfl, HB4.out⟩
end Go.Proofs.Ytcbhhdnnmnogdaa
