/- The reference's Texts; the law FoldLines: its walk. -/
import Derived.Test.YtpmdkjbkcncnnaaFoldJ
import Derived.Laws.AppendOwn
namespace Go.Proofs.Ytpmdkjbkcncnnaa
open Go.RowKit
set_option linter.unusedVariables false

set_option maxHeartbeats 1000000 in
theorem texts_eq {w : World} {n m c d : Nat} {A A' : Option Addr} {ls : List (List UInt8)} (ha : Rs w w.heap.size A ls) (hb : Rs w w.heap.size A' ls) (hn : ls.length = n) (hm : ls.length = m) (hn2 : n ≤ 1000000000) :
    Calls Try.prog 13 #[.slice A n c, .slice A' m d] w fun e w' => e = .returned (.bool true) ∧ Below w.heap.size w w' := by
  obtain rfl : n = m := hn.symm.trans hm
  have HA := Lib.hid ha
  have HB := Lib.hid hb
  have HN := Lib.hid hn
  have t0 : ((n : Int) != (n : Int)) = false := by simp
  clear ha hb hn hm
  go_enter Try.func13, Try.ntmps13
  go_wp2_with fail
  go_loopw [5] (fun i wr => ∃ k : Nat, k ≤ n ∧ i = .int .i64 k ∧ Below w.heap.size w wr) (fun i _ => n - (intOf i).toNat)
  case atStart => exact ⟨0, by omega, rfl, Below.refl _ _⟩
  case round =>
    obtain ⟨k, hk, rfl, hbel⟩ := hrel
    by_cases hlt : k < n
    · obtain ⟨x, hx, _⟩ := get_of (ls := ls) (k := k) (by rw [HN.out]; exact hlt)
      obtain ⟨ad, hA, _, h1⟩ := (HA.out.below hbel) k x hx
      obtain ⟨ad', hA', _, h2⟩ := (HB.out.below hbel) k x hx
      subst hA hA'
      have t1 : ((mkb x).toList != (mkb x).toList) = false := by simp
      clear hx
      generalize mkb x = X at *
      go_wp2_with fail
      go_quiet (fail)
      go_wp2
      go_roundw
      case rel => exact ⟨k + 1, by omega, by go_num, below_drewN hbel _⟩
      case measure => simp [intOf]; omega
    · go_wp2
      go_ret
      exact ⟨rfl, hbel⟩

theorem Row.svs {w : World} {B g : Nat} {ls : List (List UInt8)} (h : Row w B g ls) : ∀ j u, (ls.map sv)[j]? = some u → w.cell? ((⟨g, 0, none⟩ : Addr).add j) = some u := by
  intro j u hu
  rw [List.getElem?_map, Option.map_eq_some_iff] at hu
  obtain ⟨x, hx, rfl⟩ := hu
  rw [add0]; exact h.cell j x hx
theorem sv_one (ls : List (List UInt8)) : ∀ u ∈ ls.map sv, u.oneCell' = true := by
  intro u hu
  obtain ⟨x, _, rfl⟩ := List.mem_map.1 hu
  simp [sv, Value.oneCell']

set_option maxHeartbeats 4000000 in
set_option maxRecDepth 100000 in
theorem lines_law (a b : ByteArray) (i : Int) (w : World) (za : a.size ≤ 9223372036854775807) (zb : b.size ≤ 9223372036854775807) (hi0 : -9223372036854775808 ≤ i) (hi : i ≤ 9223372036854775807) :
    Calls Try.prog 5 #[.string a, .string b, .int .i64 i] w fun e w' => e = .returned (.bool true) ∧ Below w.heap.size w w' := by
  by_cases ha : 300 < a.size
  · have ga : (300 : Int) < (a.size : Int) := by omega
    clear ha
    go_enter Try.func5, Try.ntmps5
    (try simp only [List.append_eq, List.cons_append, List.nil_append])
    go_wp2_with fail
    (with_reducible refine (awake_any _).mono ?_)
    rintro e w1 ⟨rfl, hb1⟩
    go_wp2_with fail
    go_ret
    exact ⟨by first | rfl | (simp; done) | (simp; omega), hb1⟩
  have ga : ¬ (300 : Int) < (a.size : Int) := by omega
  by_cases hb : 300 < b.size
  · have gb : (300 : Int) < (b.size : Int) := by omega
    clear ha hb
    go_enter Try.func5, Try.ntmps5
    (try simp only [List.append_eq, List.cons_append, List.nil_append])
    go_wp2_with fail
    (with_reducible refine (awake_any _).mono ?_)
    rintro e w1 ⟨rfl, hb1⟩
    go_wp2_with fail
    go_ret
    exact ⟨by first | rfl | (simp; done) | (simp; omega), hb1⟩
  have gb : ¬ (300 : Int) < (b.size : Int) := by omega
  by_cases hb0 : ∃ h : 0 < b.size, (((b[0]'h).toNat : Int) == 10) = true
  · obtain ⟨h, b0⟩ := hb0
    have g0 : (0 : Int) < (b.size : Int) := by omega
    clear ha hb
    go_enter Try.func5, Try.ntmps5
    (try simp only [List.append_eq, List.cons_append, List.nil_append])
    go_wp2_with fail
    (with_reducible refine (awake_any _).mono ?_)
    rintro e w1 ⟨rfl, hb1⟩
    go_wp2_with fail
    go_ret
    exact ⟨by first | rfl | (simp; done) | (simp; omega), hb1⟩
  by_cases ha0 : ∃ h : a.size - 1 < a.size, (((a[a.size - 1]'h).toNat : Int) == 13) = true
  · obtain ⟨h, a0⟩ := ha0
    have g0 : (0 : Int) < (a.size : Int) := by omega
    by_cases hz : 0 < b.size
    · have g1 : (0 : Int) < (b.size : Int) := by omega
      have b0 : (((b[0]'hz).toNat : Int) == 10) = false := by
        cases e : (((b[0]'hz).toNat : Int) == 10)
        · rfl
        · exact absurd ⟨hz, e⟩ hb0
      clear ha hb hb0
      go_enter Try.func5, Try.ntmps5
      (try simp only [List.append_eq, List.cons_append, List.nil_append])
      go_wp2_with fail
      (with_reducible refine (awake_any _).mono ?_)
      rintro e w1 ⟨rfl, hb1⟩
      go_wp2_with fail
      go_ret
      exact ⟨by first | rfl | (simp; done) | (simp; omega), hb1⟩
    · have g1 : ¬ (0 : Int) < (b.size : Int) := by omega
      clear ha hb hb0 hz
      go_enter Try.func5, Try.ntmps5
      (try simp only [List.append_eq, List.cons_append, List.nil_append])
      go_wp2_with fail
      (with_reducible refine (awake_any _).mono ?_)
      rintro e w1 ⟨rfl, hb1⟩
      go_wp2_with fail
      go_ret
      exact ⟨by first | rfl | (simp; done) | (simp; omega), hb1⟩
  have la : a.data.toList.length = a.size := (Lib.size_eq a).symm
  have lb : b.data.toList.length = b.size := (Lib.size_eq b).symm
  have hla : a.data.toList.getLast? ≠ some 13 := by
    intro h
    rw [List.getLast?_eq_getElem?, la] at h
    have hz : a.size - 1 < a.size := by
      have := (List.getElem?_eq_some_iff.1 h).1; omega
    obtain ⟨c, hc1, hc2⟩ := at_byte hz
    rw [hc1] at h; injection h with h
    exact ha0 ⟨hz, by rw [hc2, h]; rfl⟩
  have hlb : b.data.toList.head? ≠ some 10 := by
    intro h
    rw [List.head?_eq_getElem?] at h
    have hz : 0 < b.size := by
      have := (List.getElem?_eq_some_iff.1 h).1; omega
    obtain ⟨c, hc1, hc2⟩ := at_byte hz
    rw [hc1] at h; injection h with h
    exact hb0 ⟨hz, by rw [hc2, h]; rfl⟩
  obtain ⟨A1, p1, s1⟩ := sadd' (A := a) (B := ⟨#[10]⟩) (b := [10]) (mkb_of a).symm rfl (by first | (simp; done) | (simp; omega))
  obtain ⟨S1, p2, s2⟩ := sadd' (A := A1) (B := b) p1 (mkb_of b).symm (by first | (simp; done) | (simp; omega))
  obtain ⟨A2, p3, s3⟩ := sadd' (A := a) (B := ⟨#[13, 10]⟩) (b := [13, 10]) (mkb_of a).symm rfl (by first | (simp; done) | (simp; omega))
  obtain ⟨S2, p4, s4⟩ := sadd' (A := A2) (B := b) p3 (mkb_of b).symm (by first | (simp; done) | (simp; omega))
  obtain ⟨A3, p5, s5⟩ := sadd' (A := a) (B := ⟨#[13]⟩) (b := [13]) (mkb_of a).symm rfl (by first | (simp; done) | (simp; omega))
  obtain ⟨S3, p6, s6⟩ := sadd' (A := A3) (B := b) p5 (mkb_of b).symm (by first | (simp; done) | (simp; omega))
  obtain ⟨LA, hLA⟩ : ∃ L, L = lns a.data.toList := ⟨_, rfl⟩
  obtain ⟨LB, hLB⟩ : ∃ L, L = lns b.data.toList := ⟨_, rfl⟩
  obtain ⟨n, hn⟩ : ∃ n, LA.length = n + 1 := ⟨LA.length - 1, by have := lns_pos a.data.toList; rw [hLA]; omega⟩
  obtain ⟨m, hm⟩ : ∃ m, LB.length = m + 1 := ⟨LB.length - 1, by have := lns_pos b.data.toList; rw [hLB]; omega⟩
  have hW : (LA ++ LB).length = n + 1 + m + 1 := by rw [List.length_append]; omega
  have hca := lns_count a.data.toList
  have hcb := lns_count b.data.toList
  rw [← hLA, la] at hca
  rw [← hLB, lb] at hcb
  have e1 : lns S1.data.toList = LA ++ LB := by
    rw [p2, mkb_data, List.append_assoc, hLA, hLB]; exact lns_app10 hla _
  have e2 : lns S2.data.toList = LA ++ LB := by
    rw [p4, mkb_data, List.append_assoc, hLA, hLB]; exact lns_app1310 _ _
  have e3 : lns S3.data.toList = LA ++ LB := by
    rw [p6, mkb_data, List.append_assoc, hLA, hLB]; exact lns_app13 _ hlb
  have ra := lines_n a (by omega) n (by rw [← hLA]; exact hn)
  have rb := lines_n b (by omega) m (by rw [← hLB]; exact hm)
  rw [← hLA] at ra
  rw [← hLB] at rb
  have z1 : S1.size ≤ 1000 := by rw [p2, mkb_size]; first | (simp; done) | (simp; omega)
  have z2 : S2.size ≤ 1000 := by rw [p4, mkb_size]; first | (simp; done) | (simp; omega)
  have z3 : S3.size ≤ 1000 := by rw [p6, mkb_size]; first | (simp; done) | (simp; omega)
  have r1 := lines_n S1 (by omega) (n + 1 + m) (by rw [e1]; exact hW)
  have r2 := lines_n S2 (by omega) (n + 1 + m) (by rw [e2]; exact hW)
  have r3 := lines_n S3 (by omega) (n + 1 + m) (by rw [e3]; exact hW)
  rw [e1] at r1
  rw [e2] at r2
  rw [e3] at r3
  obtain ⟨i0, hi', hz0, hz1, hz2⟩ := info_parts infoS
  have HI := Lib.hid hi'
  have HI0 := Lib.hid hz0
  have HI1 := Lib.hid hz1
  have HI2 := Lib.hid hz2
  have HLA := Lib.hid hn
  have HLB := Lib.hid hm
  have HLW := Lib.hid hW
  have hne : ∀ x ∈ LA, noE x := by rw [hLA]; exact lns_noE _
  have hll : ∀ x ∈ LA, x.length ≤ 300 := by
    intro x hx; rw [hLA] at hx; have := lnA_len false a.data.toList x hx; omega
  have HNE := Lib.hid hne
  have HLN := Lib.hid hll
  have hn3 : n ≤ 400 := by omega
  have hm3 : m ≤ 400 := by omega
  clear p1 p2 p3 p4 p5 p6 hLA hLB hn hm hW e1 e2 e3 hi' hz0 hz1 hz2 la lb hla hlb hne hll hca hcb z1 z2 z3
  by_cases hz : 0 < b.size
  · have g1 : (0 : Int) < (b.size : Int) := by omega
    have b0 : (((b[0]'hz).toNat : Int) == 10) = false := by
      cases e : (((b[0]'hz).toNat : Int) == 10)
      · rfl
      · exact absurd ⟨hz, e⟩ hb0
    by_cases hy : 0 < a.size
    · have g2 : (0 : Int) < (a.size : Int) := by omega
      have hy2 : a.size - 1 < a.size := by omega
      have a0 : (((a[a.size - 1]'hy2).toNat : Int) == 13) = false := by
        cases e : (((a[a.size - 1]'hy2).toNat : Int) == 13)
        · rfl
        · exact absurd ⟨hy2, e⟩ ha0
      clear hb0 ha0
      go_enter Try.func5, Try.ntmps5
      (try simp only [List.append_eq, List.cons_append, List.nil_append])
      go_wp2_with fail
      (with_reducible refine (awake_any _).mono ?_)
      rintro e w1 ⟨rfl, hb1⟩
      go_wp2_with fail
      (with_reducible refine (ra _).mono ?_)
      rintro e w2 ⟨g2, c2, rfl, hc2, row2, hb2⟩
      go_wp2_with fail
      (with_reducible refine (rb _).mono ?_)
      rintro e w3 ⟨g3, c3, rfl, hc3, row3, hb3⟩
      clear ra rb
      have HA3 := Lib.hid (row2.below hb3)
      have HB3 := Lib.hid row3
      have hB3 := bel_trans (bel_trans hb1 hb2) hb3
      clear row2 row3 hb1 hb2 hb3
      go_wp2_with (first
        | (at_builtin
           refine wpList_append_own _ rfl (.const (.slice none 0 0)) (.tmp 56) 22 rfl w3.heap.size 9 i0 (.string ⟨#[]⟩) 1 16 Try.underlying22 HI.out HI0.out HI1.out HI2.out rfl (by decide) (.slice none 0 0) 0 [] rfl (World.ownsRow_nil _ _ _ _) ⟨g2, 0, none⟩ (n + 1) c2 (LA.map sv) rfl (by rw [List.length_map, HLA.out, Nat.mul_one]) (HA3.out.svs) (sv_one LA) (by unfold maxLen; omega) (by omega) (Nat.le_refl _) ?_
           intro v1 w4 hown1 hg1 _
           have hb4 : Below w3.heap.size w3 w4 := (Below.refl _ _).grown hg1 (Nat.le_refl _) (by simp [Value.ownBlock])
           rw [List.nil_append, Nat.zero_add] at hown1
           have HB4 := Lib.hid (HB3.out.below hb4)
           have HO1 := Lib.hid hown1)
        | (at_builtin
           refine wpList_append_own _ rfl (.tmp 57) (.tmp 58) 22 rfl w3.heap.size 9 i0 (.string ⟨#[]⟩) 1 16 Try.underlying22 HI.out HI0.out HI1.out HI2.out rfl (by decide) v1 (n + 1) (LA.map sv) rfl HO1.out ⟨g3, 0, none⟩ (m + 1) c3 (LB.map sv) rfl (by rw [List.length_map, HLB.out, Nat.mul_one]) (HB4.out.svs) (sv_one LB) (by unfold maxLen; omega) (by omega) hb4.size ?_
           intro v2 w5 hown2 hg2 _
           have hb5 : Below w3.heap.size w3 w5 := hb4.grown hg2 hb4.size (fun k hk => (HO1.out.lt k hk).1)
           have hown3 : w5.ownsRow w3.heap.size 9 1 v2 (n + 1 + m + 1) ((LA ++ LB).map sv) := by rw [List.map_append]; exact hown2
           obtain ⟨g5, c5, rfl⟩ := ownsRow_succ hown3
           have HW5 := Lib.hid (Row.of_own (by omega) hown3)
           have hc5 := own_cap hown3
           have HA5 := Lib.hid (HA3.out.below hb5)
           have hB5 := bel_trans hB3 hb5
           clear hown1 hown2 hown3 hg1 hg2 hb4 hb5 HO1 HB4))
      go_wp2_with fail
      (with_reducible refine (r1 _).mono ?_)
      rintro e w6 ⟨g6, c6, rfl, hc6, row6, hb6⟩
      have HA6 := Lib.hid (HA5.out.below hb6)
      have HW6 := Lib.hid (HW5.out.below hb6)
      have HR6 := Lib.hid row6
      have hB6 := bel_trans hB5 hb6
      clear row6 hb6 HA5 HW5 hB5 r1
      go_wp2_with fail
      (with_reducible refine (texts_eq HR6.out.rs HW6.out.rs HLW.out HLW.out (by omega)).mono ?_)
      rintro e w7 ⟨rfl, hb7⟩
      have HA7 := Lib.hid (HA6.out.below hb7)
      have HW7 := Lib.hid (HW6.out.below hb7)
      have hB7 := bel_trans hB6 hb7
      clear hb7 HA6 HW6 HR6 hB6
      go_wp2_with fail
      (with_reducible refine (r2 _).mono ?_)
      rintro e w8 ⟨g8, c8, rfl, hc8, row8, hb8⟩
      have HA8 := Lib.hid (HA7.out.below hb8)
      have HW8 := Lib.hid (HW7.out.below hb8)
      have HR8 := Lib.hid row8
      have hB8 := bel_trans hB7 hb8
      clear row8 hb8 HA7 HW7 hB7 r2
      go_wp2_with fail
      (with_reducible refine (texts_eq HR8.out.rs HW8.out.rs HLW.out HLW.out (by omega)).mono ?_)
      rintro e w9 ⟨rfl, hb9⟩
      have HA9 := Lib.hid (HA8.out.below hb9)
      have HW9 := Lib.hid (HW8.out.below hb9)
      have hB9 := bel_trans hB8 hb9
      clear hb9 HA8 HW8 HR8 hB8
      go_wp2_with fail
      (with_reducible refine (r3 _).mono ?_)
      rintro e wa ⟨ga, ca, rfl, hca, rowa, hba⟩
      have HAa := Lib.hid (HA9.out.below hba)
      have HWa := Lib.hid (HW9.out.below hba)
      have HRa := Lib.hid rowa
      have hBa := bel_trans hB9 hba
      clear rowa hba HA9 HW9 hB9 r3
      go_wp2_with fail
      (with_reducible refine (texts_eq HRa.out.rs HWa.out.rs HLW.out HLW.out (by omega)).mono ?_)
      rintro e wb ⟨rfl, hbb⟩
      have HAb := Lib.hid (HAa.out.below hbb)
      have hBb := bel_trans hBa hbb
      clear hbb HAa HWa HRa hBa
      have t0 : ((n : Int) + 1 == 0) = false := by simp only [beq_eq_false_iff_ne, ne_eq]; omega
      by_cases hi1 : i < 0
      · have t1 : decide (i < 0) = true := decide_eq_true hi1
        go_wp2
        go_ret
        exact ⟨rfl, hBb⟩
      have t1 : decide (i < 0) = false := decide_eq_false hi1
      by_cases hi2 : (n : Int) + 1 ≤ i
      · have t2 : decide ((n : Int) + 1 ≤ i) = true := decide_eq_true hi2
        go_wp2
        go_ret
        exact ⟨rfl, hBb⟩
      have t2 : decide ((n : Int) + 1 ≤ i) = false := decide_eq_false hi2
      obtain ⟨k, rfl⟩ := Int.eq_ofNat_of_zero_le (show 0 ≤ i by omega)
      obtain ⟨x, hx, hxm⟩ := get_of (ls := LA) (k := k) (by rw [HLA.out]; omega)
      have hxe := HNE.out x hxm
      have hc := HAb.out.cell k x hx
      have hxz : (mkb x).size ≤ 1000 := by have := HLN.out x hxm; rw [mkb_size]; omega
      have hby : ∀ j (h : j < (mkb x).size), ((((mkb x)[j]'h).toNat : Int) == 10) = false ∧ ((((mkb x)[j]'h).toNat : Int) == 13) = false := by
        intro j h
        obtain ⟨c, hc1, hc2⟩ := at_byte h
        rw [mkb_data] at hc1
        have := hxe c (List.mem_of_getElem? hc1)
        rw [hc2]
        refine ⟨?_, ?_⟩
        · simp only [beq_eq_false_iff_ne, ne_eq]; intro h; exact this.1 (UInt8.toNat_inj.1 (by exact_mod_cast h))
        · simp only [beq_eq_false_iff_ne, ne_eq]; intro h; exact this.2 (UInt8.toNat_inj.1 (by exact_mod_cast h))
      have HBY := Lib.hid hby
      clear hby hx hxe
      generalize mkb x = X at *
      go_wp2_with fail
      go_loop [14] (fun i => ∃ j : Nat, j ≤ X.size ∧ i = .int .i64 j) (fun i => X.size - (intOf i).toNat)
      case atStart => exact ⟨0, by omega, rfl⟩
      case round =>
        obtain ⟨j, hj, rfl⟩ := hrel
        by_cases hlt : j < X.size
        · have b1 := (HBY.out j hlt).1
          have b2 := (HBY.out j hlt).2
          go_wp2
          go_round
          case rel => exact ⟨j + 1, by omega, by go_num⟩
          case measure => simp [intOf]; omega
        · go_wp2
          go_ret
          exact ⟨rfl, hBb⟩
    · have g2 : ¬ (0 : Int) < (a.size : Int) := by omega
      clear hb0 ha0 hy
      go_enter Try.func5, Try.ntmps5
      (try simp only [List.append_eq, List.cons_append, List.nil_append])
      go_wp2_with fail
      (with_reducible refine (awake_any _).mono ?_)
      rintro e w1 ⟨rfl, hb1⟩
      go_wp2_with fail
      (with_reducible refine (ra _).mono ?_)
      rintro e w2 ⟨g2, c2, rfl, hc2, row2, hb2⟩
      go_wp2_with fail
      (with_reducible refine (rb _).mono ?_)
      rintro e w3 ⟨g3, c3, rfl, hc3, row3, hb3⟩
      clear ra rb
      have HA3 := Lib.hid (row2.below hb3)
      have HB3 := Lib.hid row3
      have hB3 := bel_trans (bel_trans hb1 hb2) hb3
      clear row2 row3 hb1 hb2 hb3
      go_wp2_with (first
        | (at_builtin
           refine wpList_append_own _ rfl (.const (.slice none 0 0)) (.tmp 56) 22 rfl w3.heap.size 9 i0 (.string ⟨#[]⟩) 1 16 Try.underlying22 HI.out HI0.out HI1.out HI2.out rfl (by decide) (.slice none 0 0) 0 [] rfl (World.ownsRow_nil _ _ _ _) ⟨g2, 0, none⟩ (n + 1) c2 (LA.map sv) rfl (by rw [List.length_map, HLA.out, Nat.mul_one]) (HA3.out.svs) (sv_one LA) (by unfold maxLen; omega) (by omega) (Nat.le_refl _) ?_
           intro v1 w4 hown1 hg1 _
           have hb4 : Below w3.heap.size w3 w4 := (Below.refl _ _).grown hg1 (Nat.le_refl _) (by simp [Value.ownBlock])
           rw [List.nil_append, Nat.zero_add] at hown1
           have HB4 := Lib.hid (HB3.out.below hb4)
           have HO1 := Lib.hid hown1)
        | (at_builtin
           refine wpList_append_own _ rfl (.tmp 57) (.tmp 58) 22 rfl w3.heap.size 9 i0 (.string ⟨#[]⟩) 1 16 Try.underlying22 HI.out HI0.out HI1.out HI2.out rfl (by decide) v1 (n + 1) (LA.map sv) rfl HO1.out ⟨g3, 0, none⟩ (m + 1) c3 (LB.map sv) rfl (by rw [List.length_map, HLB.out, Nat.mul_one]) (HB4.out.svs) (sv_one LB) (by unfold maxLen; omega) (by omega) hb4.size ?_
           intro v2 w5 hown2 hg2 _
           have hb5 : Below w3.heap.size w3 w5 := hb4.grown hg2 hb4.size (fun k hk => (HO1.out.lt k hk).1)
           have hown3 : w5.ownsRow w3.heap.size 9 1 v2 (n + 1 + m + 1) ((LA ++ LB).map sv) := by rw [List.map_append]; exact hown2
           obtain ⟨g5, c5, rfl⟩ := ownsRow_succ hown3
           have HW5 := Lib.hid (Row.of_own (by omega) hown3)
           have hc5 := own_cap hown3
           have HA5 := Lib.hid (HA3.out.below hb5)
           have hB5 := bel_trans hB3 hb5
           clear hown1 hown2 hown3 hg1 hg2 hb4 hb5 HO1 HB4))
      go_wp2_with fail
      (with_reducible refine (r1 _).mono ?_)
      rintro e w6 ⟨g6, c6, rfl, hc6, row6, hb6⟩
      have HA6 := Lib.hid (HA5.out.below hb6)
      have HW6 := Lib.hid (HW5.out.below hb6)
      have HR6 := Lib.hid row6
      have hB6 := bel_trans hB5 hb6
      clear row6 hb6 HA5 HW5 hB5 r1
      go_wp2_with fail
      (with_reducible refine (texts_eq HR6.out.rs HW6.out.rs HLW.out HLW.out (by omega)).mono ?_)
      rintro e w7 ⟨rfl, hb7⟩
      have HA7 := Lib.hid (HA6.out.below hb7)
      have HW7 := Lib.hid (HW6.out.below hb7)
      have hB7 := bel_trans hB6 hb7
      clear hb7 HA6 HW6 HR6 hB6
      go_wp2_with fail
      (with_reducible refine (r2 _).mono ?_)
      rintro e w8 ⟨g8, c8, rfl, hc8, row8, hb8⟩
      have HA8 := Lib.hid (HA7.out.below hb8)
      have HW8 := Lib.hid (HW7.out.below hb8)
      have HR8 := Lib.hid row8
      have hB8 := bel_trans hB7 hb8
      clear row8 hb8 HA7 HW7 hB7 r2
      go_wp2_with fail
      (with_reducible refine (texts_eq HR8.out.rs HW8.out.rs HLW.out HLW.out (by omega)).mono ?_)
      rintro e w9 ⟨rfl, hb9⟩
      have HA9 := Lib.hid (HA8.out.below hb9)
      have HW9 := Lib.hid (HW8.out.below hb9)
      have hB9 := bel_trans hB8 hb9
      clear hb9 HA8 HW8 HR8 hB8
      go_wp2_with fail
      (with_reducible refine (r3 _).mono ?_)
      rintro e wa ⟨ga, ca, rfl, hca, rowa, hba⟩
      have HAa := Lib.hid (HA9.out.below hba)
      have HWa := Lib.hid (HW9.out.below hba)
      have HRa := Lib.hid rowa
      have hBa := bel_trans hB9 hba
      clear rowa hba HA9 HW9 hB9 r3
      go_wp2_with fail
      (with_reducible refine (texts_eq HRa.out.rs HWa.out.rs HLW.out HLW.out (by omega)).mono ?_)
      rintro e wb ⟨rfl, hbb⟩
      have HAb := Lib.hid (HAa.out.below hbb)
      have hBb := bel_trans hBa hbb
      clear hbb HAa HWa HRa hBa
      have t0 : ((n : Int) + 1 == 0) = false := by simp only [beq_eq_false_iff_ne, ne_eq]; omega
      by_cases hi1 : i < 0
      · have t1 : decide (i < 0) = true := decide_eq_true hi1
        go_wp2
        go_ret
        exact ⟨rfl, hBb⟩
      have t1 : decide (i < 0) = false := decide_eq_false hi1
      by_cases hi2 : (n : Int) + 1 ≤ i
      · have t2 : decide ((n : Int) + 1 ≤ i) = true := decide_eq_true hi2
        go_wp2
        go_ret
        exact ⟨rfl, hBb⟩
      have t2 : decide ((n : Int) + 1 ≤ i) = false := decide_eq_false hi2
      obtain ⟨k, rfl⟩ := Int.eq_ofNat_of_zero_le (show 0 ≤ i by omega)
      obtain ⟨x, hx, hxm⟩ := get_of (ls := LA) (k := k) (by rw [HLA.out]; omega)
      have hxe := HNE.out x hxm
      have hc := HAb.out.cell k x hx
      have hxz : (mkb x).size ≤ 1000 := by have := HLN.out x hxm; rw [mkb_size]; omega
      have hby : ∀ j (h : j < (mkb x).size), ((((mkb x)[j]'h).toNat : Int) == 10) = false ∧ ((((mkb x)[j]'h).toNat : Int) == 13) = false := by
        intro j h
        obtain ⟨c, hc1, hc2⟩ := at_byte h
        rw [mkb_data] at hc1
        have := hxe c (List.mem_of_getElem? hc1)
        rw [hc2]
        refine ⟨?_, ?_⟩
        · simp only [beq_eq_false_iff_ne, ne_eq]; intro h; exact this.1 (UInt8.toNat_inj.1 (by exact_mod_cast h))
        · simp only [beq_eq_false_iff_ne, ne_eq]; intro h; exact this.2 (UInt8.toNat_inj.1 (by exact_mod_cast h))
      have HBY := Lib.hid hby
      clear hby hx hxe
      generalize mkb x = X at *
      go_wp2_with fail
      go_loop [14] (fun i => ∃ j : Nat, j ≤ X.size ∧ i = .int .i64 j) (fun i => X.size - (intOf i).toNat)
      case atStart => exact ⟨0, by omega, rfl⟩
      case round =>
        obtain ⟨j, hj, rfl⟩ := hrel
        by_cases hlt : j < X.size
        · have b1 := (HBY.out j hlt).1
          have b2 := (HBY.out j hlt).2
          go_wp2
          go_round
          case rel => exact ⟨j + 1, by omega, by go_num⟩
          case measure => simp [intOf]; omega
        · go_wp2
          go_ret
          exact ⟨rfl, hBb⟩
  · have g1 : ¬ (0 : Int) < (b.size : Int) := by omega
    by_cases hy : 0 < a.size
    · have g2 : (0 : Int) < (a.size : Int) := by omega
      have hy2 : a.size - 1 < a.size := by omega
      have a0 : (((a[a.size - 1]'hy2).toNat : Int) == 13) = false := by
        cases e : (((a[a.size - 1]'hy2).toNat : Int) == 13)
        · rfl
        · exact absurd ⟨hy2, e⟩ ha0
      clear hb0 ha0 hz
      go_enter Try.func5, Try.ntmps5
      (try simp only [List.append_eq, List.cons_append, List.nil_append])
      go_wp2_with fail
      (with_reducible refine (awake_any _).mono ?_)
      rintro e w1 ⟨rfl, hb1⟩
      go_wp2_with fail
      (with_reducible refine (ra _).mono ?_)
      rintro e w2 ⟨g2, c2, rfl, hc2, row2, hb2⟩
      go_wp2_with fail
      (with_reducible refine (rb _).mono ?_)
      rintro e w3 ⟨g3, c3, rfl, hc3, row3, hb3⟩
      clear ra rb
      have HA3 := Lib.hid (row2.below hb3)
      have HB3 := Lib.hid row3
      have hB3 := bel_trans (bel_trans hb1 hb2) hb3
      clear row2 row3 hb1 hb2 hb3
      go_wp2_with (first
        | (at_builtin
           refine wpList_append_own _ rfl (.const (.slice none 0 0)) (.tmp 56) 22 rfl w3.heap.size 9 i0 (.string ⟨#[]⟩) 1 16 Try.underlying22 HI.out HI0.out HI1.out HI2.out rfl (by decide) (.slice none 0 0) 0 [] rfl (World.ownsRow_nil _ _ _ _) ⟨g2, 0, none⟩ (n + 1) c2 (LA.map sv) rfl (by rw [List.length_map, HLA.out, Nat.mul_one]) (HA3.out.svs) (sv_one LA) (by unfold maxLen; omega) (by omega) (Nat.le_refl _) ?_
           intro v1 w4 hown1 hg1 _
           have hb4 : Below w3.heap.size w3 w4 := (Below.refl _ _).grown hg1 (Nat.le_refl _) (by simp [Value.ownBlock])
           rw [List.nil_append, Nat.zero_add] at hown1
           have HB4 := Lib.hid (HB3.out.below hb4)
           have HO1 := Lib.hid hown1)
        | (at_builtin
           refine wpList_append_own _ rfl (.tmp 57) (.tmp 58) 22 rfl w3.heap.size 9 i0 (.string ⟨#[]⟩) 1 16 Try.underlying22 HI.out HI0.out HI1.out HI2.out rfl (by decide) v1 (n + 1) (LA.map sv) rfl HO1.out ⟨g3, 0, none⟩ (m + 1) c3 (LB.map sv) rfl (by rw [List.length_map, HLB.out, Nat.mul_one]) (HB4.out.svs) (sv_one LB) (by unfold maxLen; omega) (by omega) hb4.size ?_
           intro v2 w5 hown2 hg2 _
           have hb5 : Below w3.heap.size w3 w5 := hb4.grown hg2 hb4.size (fun k hk => (HO1.out.lt k hk).1)
           have hown3 : w5.ownsRow w3.heap.size 9 1 v2 (n + 1 + m + 1) ((LA ++ LB).map sv) := by rw [List.map_append]; exact hown2
           obtain ⟨g5, c5, rfl⟩ := ownsRow_succ hown3
           have HW5 := Lib.hid (Row.of_own (by omega) hown3)
           have hc5 := own_cap hown3
           have HA5 := Lib.hid (HA3.out.below hb5)
           have hB5 := bel_trans hB3 hb5
           clear hown1 hown2 hown3 hg1 hg2 hb4 hb5 HO1 HB4))
      go_wp2_with fail
      (with_reducible refine (r1 _).mono ?_)
      rintro e w6 ⟨g6, c6, rfl, hc6, row6, hb6⟩
      have HA6 := Lib.hid (HA5.out.below hb6)
      have HW6 := Lib.hid (HW5.out.below hb6)
      have HR6 := Lib.hid row6
      have hB6 := bel_trans hB5 hb6
      clear row6 hb6 HA5 HW5 hB5 r1
      go_wp2_with fail
      (with_reducible refine (texts_eq HR6.out.rs HW6.out.rs HLW.out HLW.out (by omega)).mono ?_)
      rintro e w7 ⟨rfl, hb7⟩
      have HA7 := Lib.hid (HA6.out.below hb7)
      have HW7 := Lib.hid (HW6.out.below hb7)
      have hB7 := bel_trans hB6 hb7
      clear hb7 HA6 HW6 HR6 hB6
      go_wp2_with fail
      (with_reducible refine (r2 _).mono ?_)
      rintro e w8 ⟨g8, c8, rfl, hc8, row8, hb8⟩
      have HA8 := Lib.hid (HA7.out.below hb8)
      have HW8 := Lib.hid (HW7.out.below hb8)
      have HR8 := Lib.hid row8
      have hB8 := bel_trans hB7 hb8
      clear row8 hb8 HA7 HW7 hB7 r2
      go_wp2_with fail
      (with_reducible refine (texts_eq HR8.out.rs HW8.out.rs HLW.out HLW.out (by omega)).mono ?_)
      rintro e w9 ⟨rfl, hb9⟩
      have HA9 := Lib.hid (HA8.out.below hb9)
      have HW9 := Lib.hid (HW8.out.below hb9)
      have hB9 := bel_trans hB8 hb9
      clear hb9 HA8 HW8 HR8 hB8
      go_wp2_with fail
      (with_reducible refine (r3 _).mono ?_)
      rintro e wa ⟨ga, ca, rfl, hca, rowa, hba⟩
      have HAa := Lib.hid (HA9.out.below hba)
      have HWa := Lib.hid (HW9.out.below hba)
      have HRa := Lib.hid rowa
      have hBa := bel_trans hB9 hba
      clear rowa hba HA9 HW9 hB9 r3
      go_wp2_with fail
      (with_reducible refine (texts_eq HRa.out.rs HWa.out.rs HLW.out HLW.out (by omega)).mono ?_)
      rintro e wb ⟨rfl, hbb⟩
      have HAb := Lib.hid (HAa.out.below hbb)
      have hBb := bel_trans hBa hbb
      clear hbb HAa HWa HRa hBa
      have t0 : ((n : Int) + 1 == 0) = false := by simp only [beq_eq_false_iff_ne, ne_eq]; omega
      by_cases hi1 : i < 0
      · have t1 : decide (i < 0) = true := decide_eq_true hi1
        go_wp2
        go_ret
        exact ⟨rfl, hBb⟩
      have t1 : decide (i < 0) = false := decide_eq_false hi1
      by_cases hi2 : (n : Int) + 1 ≤ i
      · have t2 : decide ((n : Int) + 1 ≤ i) = true := decide_eq_true hi2
        go_wp2
        go_ret
        exact ⟨rfl, hBb⟩
      have t2 : decide ((n : Int) + 1 ≤ i) = false := decide_eq_false hi2
      obtain ⟨k, rfl⟩ := Int.eq_ofNat_of_zero_le (show 0 ≤ i by omega)
      obtain ⟨x, hx, hxm⟩ := get_of (ls := LA) (k := k) (by rw [HLA.out]; omega)
      have hxe := HNE.out x hxm
      have hc := HAb.out.cell k x hx
      have hxz : (mkb x).size ≤ 1000 := by have := HLN.out x hxm; rw [mkb_size]; omega
      have hby : ∀ j (h : j < (mkb x).size), ((((mkb x)[j]'h).toNat : Int) == 10) = false ∧ ((((mkb x)[j]'h).toNat : Int) == 13) = false := by
        intro j h
        obtain ⟨c, hc1, hc2⟩ := at_byte h
        rw [mkb_data] at hc1
        have := hxe c (List.mem_of_getElem? hc1)
        rw [hc2]
        refine ⟨?_, ?_⟩
        · simp only [beq_eq_false_iff_ne, ne_eq]; intro h; exact this.1 (UInt8.toNat_inj.1 (by exact_mod_cast h))
        · simp only [beq_eq_false_iff_ne, ne_eq]; intro h; exact this.2 (UInt8.toNat_inj.1 (by exact_mod_cast h))
      have HBY := Lib.hid hby
      clear hby hx hxe
      generalize mkb x = X at *
      go_wp2_with fail
      go_loop [14] (fun i => ∃ j : Nat, j ≤ X.size ∧ i = .int .i64 j) (fun i => X.size - (intOf i).toNat)
      case atStart => exact ⟨0, by omega, rfl⟩
      case round =>
        obtain ⟨j, hj, rfl⟩ := hrel
        by_cases hlt : j < X.size
        · have b1 := (HBY.out j hlt).1
          have b2 := (HBY.out j hlt).2
          go_wp2
          go_round
          case rel => exact ⟨j + 1, by omega, by go_num⟩
          case measure => simp [intOf]; omega
        · go_wp2
          go_ret
          exact ⟨rfl, hBb⟩
    · have g2 : ¬ (0 : Int) < (a.size : Int) := by omega
      clear hb0 ha0 hz hy
      go_enter Try.func5, Try.ntmps5
      (try simp only [List.append_eq, List.cons_append, List.nil_append])
      go_wp2_with fail
      (with_reducible refine (awake_any _).mono ?_)
      rintro e w1 ⟨rfl, hb1⟩
      go_wp2_with fail
      (with_reducible refine (ra _).mono ?_)
      rintro e w2 ⟨g2, c2, rfl, hc2, row2, hb2⟩
      go_wp2_with fail
      (with_reducible refine (rb _).mono ?_)
      rintro e w3 ⟨g3, c3, rfl, hc3, row3, hb3⟩
      clear ra rb
      have HA3 := Lib.hid (row2.below hb3)
      have HB3 := Lib.hid row3
      have hB3 := bel_trans (bel_trans hb1 hb2) hb3
      clear row2 row3 hb1 hb2 hb3
      go_wp2_with (first
        | (at_builtin
           refine wpList_append_own _ rfl (.const (.slice none 0 0)) (.tmp 56) 22 rfl w3.heap.size 9 i0 (.string ⟨#[]⟩) 1 16 Try.underlying22 HI.out HI0.out HI1.out HI2.out rfl (by decide) (.slice none 0 0) 0 [] rfl (World.ownsRow_nil _ _ _ _) ⟨g2, 0, none⟩ (n + 1) c2 (LA.map sv) rfl (by rw [List.length_map, HLA.out, Nat.mul_one]) (HA3.out.svs) (sv_one LA) (by unfold maxLen; omega) (by omega) (Nat.le_refl _) ?_
           intro v1 w4 hown1 hg1 _
           have hb4 : Below w3.heap.size w3 w4 := (Below.refl _ _).grown hg1 (Nat.le_refl _) (by simp [Value.ownBlock])
           rw [List.nil_append, Nat.zero_add] at hown1
           have HB4 := Lib.hid (HB3.out.below hb4)
           have HO1 := Lib.hid hown1)
        | (at_builtin
           refine wpList_append_own _ rfl (.tmp 57) (.tmp 58) 22 rfl w3.heap.size 9 i0 (.string ⟨#[]⟩) 1 16 Try.underlying22 HI.out HI0.out HI1.out HI2.out rfl (by decide) v1 (n + 1) (LA.map sv) rfl HO1.out ⟨g3, 0, none⟩ (m + 1) c3 (LB.map sv) rfl (by rw [List.length_map, HLB.out, Nat.mul_one]) (HB4.out.svs) (sv_one LB) (by unfold maxLen; omega) (by omega) hb4.size ?_
           intro v2 w5 hown2 hg2 _
           have hb5 : Below w3.heap.size w3 w5 := hb4.grown hg2 hb4.size (fun k hk => (HO1.out.lt k hk).1)
           have hown3 : w5.ownsRow w3.heap.size 9 1 v2 (n + 1 + m + 1) ((LA ++ LB).map sv) := by rw [List.map_append]; exact hown2
           obtain ⟨g5, c5, rfl⟩ := ownsRow_succ hown3
           have HW5 := Lib.hid (Row.of_own (by omega) hown3)
           have hc5 := own_cap hown3
           have HA5 := Lib.hid (HA3.out.below hb5)
           have hB5 := bel_trans hB3 hb5
           clear hown1 hown2 hown3 hg1 hg2 hb4 hb5 HO1 HB4))
      go_wp2_with fail
      (with_reducible refine (r1 _).mono ?_)
      rintro e w6 ⟨g6, c6, rfl, hc6, row6, hb6⟩
      have HA6 := Lib.hid (HA5.out.below hb6)
      have HW6 := Lib.hid (HW5.out.below hb6)
      have HR6 := Lib.hid row6
      have hB6 := bel_trans hB5 hb6
      clear row6 hb6 HA5 HW5 hB5 r1
      go_wp2_with fail
      (with_reducible refine (texts_eq HR6.out.rs HW6.out.rs HLW.out HLW.out (by omega)).mono ?_)
      rintro e w7 ⟨rfl, hb7⟩
      have HA7 := Lib.hid (HA6.out.below hb7)
      have HW7 := Lib.hid (HW6.out.below hb7)
      have hB7 := bel_trans hB6 hb7
      clear hb7 HA6 HW6 HR6 hB6
      go_wp2_with fail
      (with_reducible refine (r2 _).mono ?_)
      rintro e w8 ⟨g8, c8, rfl, hc8, row8, hb8⟩
      have HA8 := Lib.hid (HA7.out.below hb8)
      have HW8 := Lib.hid (HW7.out.below hb8)
      have HR8 := Lib.hid row8
      have hB8 := bel_trans hB7 hb8
      clear row8 hb8 HA7 HW7 hB7 r2
      go_wp2_with fail
      (with_reducible refine (texts_eq HR8.out.rs HW8.out.rs HLW.out HLW.out (by omega)).mono ?_)
      rintro e w9 ⟨rfl, hb9⟩
      have HA9 := Lib.hid (HA8.out.below hb9)
      have HW9 := Lib.hid (HW8.out.below hb9)
      have hB9 := bel_trans hB8 hb9
      clear hb9 HA8 HW8 HR8 hB8
      go_wp2_with fail
      (with_reducible refine (r3 _).mono ?_)
      rintro e wa ⟨ga, ca, rfl, hca, rowa, hba⟩
      have HAa := Lib.hid (HA9.out.below hba)
      have HWa := Lib.hid (HW9.out.below hba)
      have HRa := Lib.hid rowa
      have hBa := bel_trans hB9 hba
      clear rowa hba HA9 HW9 hB9 r3
      go_wp2_with fail
      (with_reducible refine (texts_eq HRa.out.rs HWa.out.rs HLW.out HLW.out (by omega)).mono ?_)
      rintro e wb ⟨rfl, hbb⟩
      have HAb := Lib.hid (HAa.out.below hbb)
      have hBb := bel_trans hBa hbb
      clear hbb HAa HWa HRa hBa
      have t0 : ((n : Int) + 1 == 0) = false := by simp only [beq_eq_false_iff_ne, ne_eq]; omega
      by_cases hi1 : i < 0
      · have t1 : decide (i < 0) = true := decide_eq_true hi1
        go_wp2
        go_ret
        exact ⟨rfl, hBb⟩
      have t1 : decide (i < 0) = false := decide_eq_false hi1
      by_cases hi2 : (n : Int) + 1 ≤ i
      · have t2 : decide ((n : Int) + 1 ≤ i) = true := decide_eq_true hi2
        go_wp2
        go_ret
        exact ⟨rfl, hBb⟩
      have t2 : decide ((n : Int) + 1 ≤ i) = false := decide_eq_false hi2
      obtain ⟨k, rfl⟩ := Int.eq_ofNat_of_zero_le (show 0 ≤ i by omega)
      obtain ⟨x, hx, hxm⟩ := get_of (ls := LA) (k := k) (by rw [HLA.out]; omega)
      have hxe := HNE.out x hxm
      have hc := HAb.out.cell k x hx
      have hxz : (mkb x).size ≤ 1000 := by have := HLN.out x hxm; rw [mkb_size]; omega
      have hby : ∀ j (h : j < (mkb x).size), ((((mkb x)[j]'h).toNat : Int) == 10) = false ∧ ((((mkb x)[j]'h).toNat : Int) == 13) = false := by
        intro j h
        obtain ⟨c, hc1, hc2⟩ := at_byte h
        rw [mkb_data] at hc1
        have := hxe c (List.mem_of_getElem? hc1)
        rw [hc2]
        refine ⟨?_, ?_⟩
        · simp only [beq_eq_false_iff_ne, ne_eq]; intro h; exact this.1 (UInt8.toNat_inj.1 (by exact_mod_cast h))
        · simp only [beq_eq_false_iff_ne, ne_eq]; intro h; exact this.2 (UInt8.toNat_inj.1 (by exact_mod_cast h))
      have HBY := Lib.hid hby
      clear hby hx hxe
      generalize mkb x = X at *
      go_wp2_with fail
      go_loop [14] (fun i => ∃ j : Nat, j ≤ X.size ∧ i = .int .i64 j) (fun i => X.size - (intOf i).toNat)
      case atStart => exact ⟨0, by omega, rfl⟩
      case round =>
        obtain ⟨j, hj, rfl⟩ := hrel
        by_cases hlt : j < X.size
        · have b1 := (HBY.out j hlt).1
          have b2 := (HBY.out j hlt).2
          go_wp2
          go_round
          case rel => exact ⟨j + 1, by omega, by go_num⟩
          case measure => simp [intOf]; omega
        · go_wp2
          go_ret
          exact ⟨rfl, hBb⟩
end Go.Proofs.Ytpmdkjbkcncnnaa
