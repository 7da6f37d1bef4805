/- The document's own answers for layer 7 (copperplateref07): three, Raw, cut, Indent. -/
import Derived.Test.YtcedfonkahffcaaGreatFoldE
namespace Go.Proofs.YtcedfonkahffcaaGreat.Fo
open Go.RowKit
set_option linter.unusedVariables false
set_option maxRecDepth 100000

theorem q3_ext (s : ByteArray) (k : Nat) (h : k ≤ s.size) : ((s.extract k (k + 3)).toList == [34, 34, 34]) = stB s.data.toList k q3 := by
  have hsz : s.data.toList.length = s.size := (Lib.size_eq s).symm
  rw [stB_at (by omega), ext_mkb, mkb_toList, Bool.eq_iff_iff, pre_take, beq_iff_eq]; rfl
set_option maxHeartbeats 400000 in
theorem three_any (s : ByteArray) (i : Int) (hs : s.size ≤ 1000000000) (w : World) :
    Calls Tryz.prog 63 #[.string s, .int .i64 i] w fun e w' => e = .returned (.bool (stB s.data.toList i q3)) ∧ w = w' := by
  have hsz : s.data.toList.length = s.size := (Lib.size_eq s).symm
  by_cases h0 : 0 ≤ i
  · obtain ⟨k, rfl⟩ := Int.eq_ofNat_of_zero_le h0
    by_cases h1 : k < s.size
    · have d0 : decide ((0 : Int) ≤ (k : Int)) = true := by simp
      have d1 : decide ((k : Int) < (s.size : Int)) = true := by simp [h1]
      by_cases h3 : k + 3 ≤ s.size
      · have d2 : decide ((3 : Int) ≤ (s.size : Int) - (k : Int)) = true := decide_eq_true (by omega)
        rw [← q3_ext s k (by omega)]
        obtain ⟨Q, hQ⟩ : ∃ Q, s.extract k (k + 3) = Q := ⟨_, rfl⟩
        rw [hQ]
        clear hsz
        go_enter Tryz.func63, Tryz.ntmps63
        go_wp2
        go_ret
        exact ⟨rfl, rfl⟩
      · have d2 : decide ((3 : Int) ≤ (s.size : Int) - (k : Int)) = false := decide_eq_false (by omega)
        have hst : stB s.data.toList k q3 = false := by
          cases e : stB s.data.toList k q3
          · rfl
          · have := stB_in e; rw [q3_len] at this; omega
        rw [hst]
        clear hsz hst
        go_enter Tryz.func63, Tryz.ntmps63
        go_wp2
        go_ret
        exact ⟨rfl, rfl⟩
    · have hst : stB s.data.toList k q3 = false := by
        cases e : stB s.data.toList k q3
        · rfl
        · have := stB_in e; rw [q3_len] at this; omega
      rw [hst]
      clear hsz hst
      have d0 : decide ((0 : Int) ≤ (k : Int)) = true := by simp
      have d1 : decide ((k : Int) < (s.size : Int)) = false := by simp; omega
      go_enter Tryz.func63, Tryz.ntmps63
      go_wp2
      go_ret
      exact ⟨rfl, rfl⟩
  · rw [stB_out (.inl (by omega))]
    clear hsz
    have d0 : decide ((0 : Int) ≤ i) = false := by simp; omega
    go_enter Tryz.func63, Tryz.ntmps63
    go_wp2
    go_ret
    exact ⟨rfl, rfl⟩
theorem three_b {s : ByteArray} {i : Int} {b : Bool} (hs : s.size ≤ 1000000000) (h : stB s.data.toList i q3 = b) (w : World) :
    Calls Tryz.prog 63 #[.string s, .int .i64 i] w fun e w' => e = .returned (.bool b) ∧ w = w' := by rw [← h]; exact three_any s i hs w

theorem b3_split {l : List UInt8} {j : Nat} {c : UInt8} (hc : l[j]? = some c) : b3.isPrefixOf (l.drop j) = (c == 92 && stB l ((j + 1 : Nat) : Int) q3) := by
  obtain ⟨h3, h4⟩ := List.getElem?_eq_some_iff.1 hc
  rw [stB_at (by omega), List.drop_eq_getElem_cons h3, h4]
  show ((92 : UInt8) == c && q3.isPrefixOf (l.drop (j + 1))) = _
  congr 1
  rw [Bool.eq_iff_iff, beq_iff_eq, beq_iff_eq]; exact eq_comm

set_option maxHeartbeats 1000000 in
theorem rraw_any (s : ByteArray) (i : Int) (w : World) (hs : s.size ≤ 100000) :
    Calls Tryz.prog 42 #[.string s, .int .i64 i] w fun e w' => e = rawE (rawA s.data.toList i) i ∧ Below w.heap.size w w' := by
  have hsz : s.data.toList.length = s.size := (Lib.size_eq s).symm
  cases h1 : stB s.data.toList i q3
  · rw [rawA_no h1]
    have r1 := three_b (by omega) h1
    clear h1 hsz
    go_enter Tryz.func42, Tryz.ntmps42
    go_wp2_with fail
    (with_reducible refine (r1 _).mono ?_)
    rintro e w' ⟨rfl, rfl⟩
    go_wp2
    go_ret3
    exact ⟨by simp [rawE, mkb], Below.refl _ _⟩
  have hin := stB_in h1
  rw [q3_len] at hin
  obtain ⟨k, rfl⟩ := Int.eq_ofNat_of_zero_le hin.1
  have r1 := three_b (by omega) h1
  have hk : k + 3 ≤ s.size := by omega
  have HH := Lib.hid h1
  have HZ := Lib.hid hsz
  clear h1 hin hsz
  go_enter Tryz.func42, Tryz.ntmps42
  go_wp2_with fail
  (with_reducible refine (r1 _).mono ?_)
  rintro e w' ⟨rfl, rfl⟩
  clear r1
  go_wp2_with fail
  go_loopw [8, 9] (fun t a wr => ∃ (j : Nat) (acc : List UInt8), j ≤ s.size ∧ a = .int .i64 j ∧ t = .string (mkb acc) ∧ Rel s.data.toList k acc j ∧ Below w.heap.size w wr) (fun _ a _ => s.size - (intOf a).toNat)
  case atStart => exact ⟨k + 3, [], hk, by simp, rfl, Rel.start _ _, Below.refl _ _⟩
  case round =>
    obtain ⟨j, acc, hj, rfl, rfl, hrl, hB⟩ := hrel
    have hal : acc.length ≤ j := hrl.2.1
    have hjk : k + 3 ≤ j := hrl.1
    have HL := Lib.hid hrl
    clear hrl
    by_cases hlt : j < s.size
    · have ra := fun (w : World) => three_any s ((j : Int) + 1) (by omega) w
      obtain ⟨mo, hmo⟩ : ∃ mo, stB s.data.toList ((j : Int) + 1) q3 = mo := ⟨_, rfl⟩
      rw [hmo] at ra
      cases h34 : q3.isPrefixOf (s.data.toList.drop j)
      · have r1 := three_b (s := s) (i := j) (b := false) (by omega) (by rw [stB_at (by rw [HZ.out]; exact hj)]; exact h34)
        obtain ⟨c, hc1, hc2⟩ := at_byte hlt
        have hsp := b3_split hc1
        rw [show ((j + 1 : Nat) : Int) = (j : Int) + 1 by omega, hmo] at hsp
        cases hb3 : b3.isPrefixOf (s.data.toList.drop j)
        · rw [hb3] at hsp
          have HNB : Hid (∀ w : World, True) := Lib.hid fun _ => trivial
          -- no backslash with three quotes: a character, or nothing
          have hcase : (((s[j]'hlt).toNat : Int) == 92) = false ∨ ((((s[j]'hlt).toNat : Int) == 92) = true ∧ mo = false) := by
            cases hcc : (c == 92)
            · left
              rw [hc2]; simp only [beq_eq_false_iff_ne, ne_eq] at hcc ⊢; intro h; exact hcc (UInt8.toNat_inj.1 (by exact_mod_cast h))
            · right
              rw [hcc, Bool.true_and] at hsp
              refine ⟨?_, hsp.symm⟩
              rw [beq_iff_eq] at hcc; rw [hc2, hcc]; rfl
          obtain ⟨m, hm, hm2, hm3⟩ := nxtN_bd s j hj
          have r2 : ∀ w : World, Calls Tryz.prog 48 #[.string s, .int .i64 j] w fun e w' => e = .returned (.tuple #[.int .i64 (nxtC s j), .int .i64 (m : Int)]) ∧ Below w.heap.size w w' := by
            intro w; rw [← hm]; exact rnext_any s (by omega) j w
          obtain ⟨cc, hcc⟩ : ∃ c, nxtC s j = c := ⟨_, rfl⟩
          rw [hcc] at r2
          by_cases hm0 : m = 0
          · subst hm0
            have HW := Lib.hid (HL.out.no HH.out h34 (pcR_n hb3 hm2))
            have n0 : (((0 : Nat) : Int) == 0) = true := rfl
            clear hsp hm hm2 hc1 hc2 h34 hb3 hmo hcc HNB
            rcases hcase with b92 | ⟨b92, rfl⟩
            all_goals
              go_wp2_with fail
              (with_reducible refine (r1 _).mono ?_)
              rintro e w' ⟨rfl, rfl⟩
              go_wp2_with fail
              (with_reducible refine (ra _).mono ?_)
              rintro e w' ⟨rfl, rfl⟩
              go_wp2_with fail
              (with_reducible refine (r2 _).mono ?_)
              rintro e w1 ⟨rfl, hb1⟩
              go_wp2
              go_ret3
              refine ⟨?_, bel_trans hB hb1⟩
              rw [HW.out]; unfold rawE
              rw [show (k : Int) + ((j - k : Nat) : Int) = (j : Int) by omega]
              rfl
          · have hp := pcR_c hb3 (by rw [hm2]; exact hm0)
            rw [hm2] at hp
            have HX := Lib.hid (HL.out.next h34 hp)
            have n0 : ((m : Int) == 0) = false := by simp only [beq_eq_false_iff_ne, ne_eq]; omega
            have ex := ext_mkb s j m
            obtain ⟨T, hT⟩ : ∃ T, (s.data.toList.drop j).take m = T := ⟨_, rfl⟩
            have hTl : T.length ≤ m := by rw [← hT, List.length_take]; omega
            rw [hT] at ex HX
            have hadd := fun (w : World) => sadd acc T (by omega) w
            obtain ⟨E, hE⟩ : ∃ E, mkb T = E := ⟨_, rfl⟩
            rw [hE] at ex hadd
            clear hsp hm hm2 hc1 hc2 h34 hb3 hmo hcc HNB hp hT hE
            rcases hcase with b92 | ⟨b92, rfl⟩
            all_goals
              go_wp2_with fail
              (with_reducible refine (r1 _).mono ?_)
              rintro e w' ⟨rfl, rfl⟩
              go_wp2_with fail
              (with_reducible refine (ra _).mono ?_)
              rintro e w' ⟨rfl, rfl⟩
              go_wp2_with fail
              (with_reducible refine (r2 _).mono ?_)
              rintro e w1 ⟨rfl, hb1⟩
              go_wp2
              go_roundw
              case rel => exact ⟨j + m, acc ++ T, by omega, by go_num, rfl, HX.out, bel_trans hB hb1⟩
              case measure => simp [intOf]; omega
        · rw [hb3] at hsp
          have hsp2 := hsp.symm
          rw [Bool.and_eq_true] at hsp2
          obtain ⟨hcc, rfl⟩ := hsp2
          have b92 : (((s[j]'hlt).toNat : Int) == 92) = true := by rw [beq_iff_eq] at hcc; rw [hc2, hcc]; rfl
          have HX := Lib.hid (HL.out.next h34 (pcR_b hb3))
          have hbl := pre_len hb3
          rw [b3_len, List.length_drop, HZ.out] at hbl
          have hadd := fun (w : World) => sadd acc q3 (by rw [q3_len]; omega) w
          have hadd' : ∀ w : World, (Op.stringOp .add (mkb acc) ⟨#[34, 34, 34]⟩).run Tryz.prog w = .ok (.string (mkb (acc ++ q3))) w := hadd
          clear hsp hc1 hc2 h34 hb3 hmo hcc hadd
          go_wp2_with fail
          (with_reducible refine (r1 _).mono ?_)
          rintro e w' ⟨rfl, rfl⟩
          go_wp2_with fail
          (with_reducible refine (ra _).mono ?_)
          rintro e w' ⟨rfl, rfl⟩
          go_wp2
          go_roundw
          case rel => exact ⟨j + 4, acc ++ q3, by omega, by go_num, rfl, HX.out, hB⟩
          case measure => simp [intOf]; omega
      · have r1 := three_b (s := s) (i := j) (b := true) (by omega) (by rw [stB_at (by rw [HZ.out]; exact hj)]; exact h34)
        have HW := Lib.hid (HL.out.yes HH.out h34)
        clear h34 hmo
        go_wp2_with fail
        (with_reducible refine (r1 _).mono ?_)
        rintro e w' ⟨rfl, rfl⟩
        go_wp2_with fail
        (with_reducible refine (ra _).mono ?_)
        rintro e w' ⟨rfl, rfl⟩
        go_wp2
        go_ret3
        refine ⟨?_, hB⟩
        rw [HW.out]; unfold rawE
        rw [show (k : Int) + ((j + 3 - k : Nat) : Int) = (j : Int) + 3 by omega]
        rfl
    · obtain rfl : j = s.size := by omega
      have hd : s.data.toList.drop s.size = [] := List.drop_eq_nil_of_le (by rw [HZ.out]; omega)
      have HW := Lib.hid (HL.out.no HH.out (by rw [hd]; rfl) (by rw [hd]; exact pcR_n rfl (by rw [nxt_nil])))
      clear hd
      go_wp2
      go_ret3
      refine ⟨?_, hB⟩
      rw [HW.out]; unfold rawE
      rw [show (k : Int) + ((s.size - k : Nat) : Int) = (s.size : Int) by omega]
      rfl

set_option maxHeartbeats 400000 in
theorem cut_any (x : List UInt8) (n : Nat) (hx : x.length ≤ 1000000000) (w : World) :
    Calls Tryz.prog 66 #[.string (mkb x), .int .i64 n] w fun e w' => e = .returned (.string (mkb (x.drop n))) ∧ w = w' := by
  have hz := mkb_size x
  by_cases h : n ≤ x.length
  · have HE := Lib.hid (show (mkb x).extract n (mkb x).size = mkb (x.drop n) by rw [ext_drop]; rfl)
    have g : ¬ ((mkb x).size : Int) < (n : Int) := by rw [hz]; omega
    have g2 : n ≤ (mkb x).size := by omega
    clear h hz
    generalize mkb x = X at *
    go_enter Tryz.func66, Tryz.ntmps66
    go_wp2
    go_ret
    refine ⟨?_, rfl⟩
    rw [← HE.out]; rfl
  · have g : ((mkb x).size : Int) < (n : Int) := by rw [hz]; omega
    rw [List.drop_eq_nil_of_le (by omega)]
    clear h hz
    generalize mkb x = X at *
    go_enter Tryz.func66, Tryz.ntmps66
    go_wp2
    go_ret
    exact ⟨rfl, rfl⟩

set_option maxHeartbeats 1000000 in
theorem rindent_any {w : World} {n c : Nat} {A : Option Addr} {ls : List (List UInt8)} (hr : Rs w w.heap.size A ls) (hn : ls.length = n) (hl : ∀ x ∈ ls, x.length ≤ 1000000000) (hn2 : n ≤ 1000000000) :
    Calls Tryz.prog 65 #[.slice A n c] w fun e w' => e = .returned (.int .i64 (ind ls)) ∧ w = w' := by
  have HR := Lib.hid hr
  have HN := Lib.hid hn
  have HL := Lib.hid hl
  clear hr hn hl
  go_enter Tryz.func65, Tryz.ntmps65
  go_wp2_with fail
  go_loop [3, 4] (fun a i => ∃ k : Nat, 1 ≤ k ∧ k ≤ n + 1 ∧ i = .int .i64 k ∧ a = .int .i64 (indP ls k)) (fun _ i => n + 1 - (intOf i).toNat)
  case atStart => exact ⟨1, by omega, by omega, rfl, by rw [indP_one]⟩
  case round =>
    obtain ⟨k, hk1, hk2, rfl, rfl⟩ := hrel
    by_cases hlt : k < n
    · obtain ⟨x, hx, hxm⟩ := get_of (ls := ls) (k := k) (by rw [HN.out]; exact hlt)
      have hxl := HL.out x hxm
      have hnext := indP_next hk1 hx
      obtain ⟨ad, hA, hab, had⟩ := HR.out k x hx
      subst hA
      have hmz : (mkb x).size = x.length := mkb_size x
      have r2 : ∀ w : World, Calls Tryz.prog 67 #[.string (mkb x)] w fun e w' => e = .returned (.int .i64 (mg x : Nat)) ∧ w = w' := fun w => margin_any (mkb x) w (by rw [hmz]; omega)
      have hbd := indP_bd ls k
      have hml := mg_le x
      have HNX := Lib.hid hnext
      generalize indP ls k = p at *
      clear hnext hx
      cases hb : blk x
      · have hlt2 := blk_no hb
        have d0 : mg x < (mkb x).size := by rw [hmz]; omega
        by_cases hp : p = -1
        · have d1 : (p == -1) = true := by simp [hp]
          have HS := Lib.hid (indS_y hb (a := p) (.inl (by omega)))
          clear hb hp hmz
          generalize mkb x = X at *
          go_wp2_with fail
          (with_reducible refine (r2 _).mono ?_)
          rintro e w' ⟨rfl, rfl⟩
          go_wp2
          go_round
          case rel => exact ⟨k + 1, by omega, by omega, by go_num, by rw [HNX.out, HS.out]⟩
          case measure => simp [intOf]; omega
        by_cases hq : (mg x : Int) < p
        · have d1 : (p == -1) = false := by simp only [beq_eq_false_iff_ne, ne_eq]; omega
          have d2 : decide ((mg x : Int) < p) = true := by simp [hq]
          have HS := Lib.hid (indS_y hb (a := p) (.inr hq))
          clear hb hmz
          generalize mkb x = X at *
          go_wp2_with fail
          (with_reducible refine (r2 _).mono ?_)
          rintro e w' ⟨rfl, rfl⟩
          go_wp2
          go_round
          case rel => exact ⟨k + 1, by omega, by omega, by go_num, by rw [HNX.out, HS.out]⟩
          case measure => simp [intOf]; omega
        · have d1 : (p == -1) = false := by simp only [beq_eq_false_iff_ne, ne_eq]; omega
          have d2 : decide ((mg x : Int) < p) = false := by simp; omega
          have HS := Lib.hid (indS_n (x := x) (a := p) (by omega))
          clear hb hmz
          generalize mkb x = X at *
          go_wp2_with fail
          (with_reducible refine (r2 _).mono ?_)
          rintro e w' ⟨rfl, rfl⟩
          go_wp2
          go_round
          case rel => exact ⟨k + 1, by omega, by omega, by go_num, by rw [HNX.out, HS.out]⟩
          case measure => simp [intOf]; omega
      · have heq := (blk_mg x).1 hb
        have d0 : ¬ mg x < (mkb x).size := by rw [hmz]; omega
        have HS := Lib.hid (indS_b hb p)
        clear hb heq hmz
        generalize mkb x = X at *
        go_wp2_with fail
        (with_reducible refine (r2 _).mono ?_)
        rintro e w' ⟨rfl, rfl⟩
        go_wp2
        go_round
        case rel => exact ⟨k + 1, by omega, by omega, by go_num, by rw [HNX.out, HS.out]⟩
        case measure => simp [intOf]; omega
    · have HE := Lib.hid (indP_end (ls := ls) (k := k) (by rw [HN.out]; omega))
      go_wp2
      go_ret
      refine ⟨?_, rfl⟩
      rw [← HE.out]; rfl
end Go.Proofs.YtcedfonkahffcaaGreat.Fo
