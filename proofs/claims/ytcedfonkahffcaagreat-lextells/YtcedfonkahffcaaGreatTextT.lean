/- The document's own answers for layer 6 (copperplateref06): the contract of String; the law TextTells: its walk. -/
import Derived.Test.YtcedfonkahffcaaGreatTextS
import Derived.Deep.LoopGhost
namespace Go.Proofs.YtcedfonkahffcaaGreat
open Go.RowKit
set_option linter.unusedVariables false

theorem rnext_b {s : ByteArray} {k c n : Nat} (hs : s.size ≤ 1000000) (hk : k ≤ s.size) (h : nxt (s.data.toList.drop k) = (c, n)) (w : World) :
    Calls Tryz.prog 48 #[.string s, .int .i64 k] w fun e w' => e = .returned (.tuple #[.int .i64 (c : Int), .int .i64 (n : Int)]) ∧ Below w.heap.size w w' := by
  have := rnext_any s (by omega) k w
  rwa [nxtC_at s k hk, nxtN_at s k hk, h] at this
/-- An answer of String. -/
def strT (r : Tx) (i : Int) : Ending := .returned (.tuple #[.string (mkb r.v), .int .i64 (i + (r.n : Int)), .bool r.b])
theorem strT_no (i : Int) : strT ⟨[], 0, false⟩ i = .returned (.tuple #[.string ⟨#[]⟩, .int .i64 i, .bool false]) := by
  unfold strT; rw [show i + (((0 : Nat) : Int)) = i by omega]; rfl
theorem strT_wrong {k j : Nat} (h : k ≤ j) : strT ⟨[], j - k, false⟩ k = .returned (.tuple #[.string ⟨#[]⟩, .int .i64 (j : Int), .bool false]) := by
  unfold strT; simp only; rw [show (k : Int) + ((j - k : Nat) : Int) = (j : Int) by omega]; rfl
theorem strT_right {k j : Nat} {acc : List UInt8} (h : k ≤ j) : strT ⟨acc, j + 1 - k, true⟩ k = .returned (.tuple #[.string (mkb acc), .int .i64 ((j : Int) + 1), .bool true]) := by
  unfold strT; simp only; rw [show (k : Int) + ((j + 1 - k : Nat) : Int) = (j : Int) + 1 by omega]
theorem str_out {l : List UInt8} {i : Int} (h : i < 0 ∨ (l.length : Int) ≤ i) : strA l i = ⟨[], 0, false⟩ := strA_no (stI_out h 34)

set_option maxHeartbeats 2000000 in
set_option maxRecDepth 100000 in
theorem rstring_any (s : ByteArray) (i : Int) (w : World) (hs : s.size ≤ 1000000) (hi0 : -9223372036854775808 ≤ i) :
    Calls Tryz.prog 44 #[.string s, .int .i64 i] w fun e w' => e = strT (strA s.data.toList i) i ∧ Below w.heap.size w w' := by
  have hsz : s.data.toList.length = s.size := (Lib.size_eq s).symm
  by_cases h0 : i < 0
  · rw [str_out (.inl h0), strT_no]
    clear hsz
    go_enter Tryz.func44, Tryz.ntmps44
    go_wp2_with fail
    go_ret3
    exact ⟨rfl, Below.refl _ _⟩
  obtain ⟨k, rfl⟩ := Int.eq_ofNat_of_zero_le (show 0 ≤ i by omega)
  by_cases h1 : s.size ≤ k
  · rw [str_out (.inr (by omega)), strT_no]
    clear hsz
    go_enter Tryz.func44, Tryz.ntmps44
    go_wp2_with fail
    go_ret3
    exact ⟨rfl, Below.refl _ _⟩
  have h2 : k < s.size := by omega
  by_cases x34 : (s[k]).toNat = 34
  rotate_left
  · have e : stI s.data.toList k 34 = false := by rw [stI_in h2]; exact beq_false_of_ne (by omega)
    rw [strA_no e, strT_no]
    have t34 : (((s[k]).toNat : Int) != 34) = true := bne_iff_ne.2 (by omega)
    clear hsz e x34
    go_enter Tryz.func44, Tryz.ntmps44
    go_wp2_with fail
    go_ret3
    exact ⟨rfl, Below.refl _ _⟩
  have t34 : (((s[k]).toNat : Int) != 34) = false := by rw [x34]; rfl
  have HH := Lib.hid (head_of (c := 34) h2 x34)
  have HZ := Lib.hid hsz
  clear hsz x34 h1
  go_enter Tryz.func44, Tryz.ntmps44
  go_wp2_with fail
  go_loopg [7, 8, 9, 10, 11, 12, 13] (s.size - (k + 1)) (fun g s7 s8 s9 s10 s11 s12 s13 wr => ∃ (j : Nat) (acc : List UInt8), g = s.size - j ∧ j ≤ s.size ∧ s7 = .string (mkb acc) ∧ s8 = .int .i64 j ∧ Lnk s.data.toList k acc j ∧ Below w.heap.size w wr)
  case atStart => exact ⟨k + 1, [], rfl, by omega, rfl, by go_num, Lnk.start _ _, Below.refl _ _⟩
  case round =>
    obtain ⟨j, acc, hg, hj, rfl, rfl, hl, hbel⟩ := hrel
    have hle := hl.le
    have HL := Lib.hid hl
    have HG := Lib.hid hg
    have HB := Lib.hid hbel
    clear hl hg hbel t34
    obtain ⟨O, hO⟩ : ∃ O, O = mkb acc := ⟨_, rfl⟩
    rw [← hO]
    have HO := Lib.hid hO
    clear hO
    by_cases hlt : j < s.size
    rotate_left
    · have hd : s.data.toList.drop j = [] := List.drop_eq_nil_of_le (by rw [HZ.out]; omega)
      have hw := HL.out.wrong HH.out (by rw [hd]; simp) (by rw [hd]; exact pce_nil)
      have HW := Lib.hid hw
      have g1 : s.size ≤ j := by omega
      clear hw hd
      go_wp2_with fail
      go_ret3
      exact ⟨by rw [HW.out, strT_wrong (by omega)]; rfl, HB.out⟩
    by_cases y34 : (s[j]).toNat = 34
    · have hw := HL.out.quote HH.out (head_of (c := 34) hlt y34)
      have HW := Lib.hid hw
      have u34 : (((s[j]).toNat : Int) != 34) = false := by rw [y34]; rfl
      clear hw y34
      go_wp2_with fail
      go_ret3
      exact ⟨by rw [HW.out, strT_right (by omega), ← HO.out]; rfl, HB.out⟩
    have u34 : (((s[j]).toNat : Int) != 34) = true := bne_iff_ne.2 (by omega)
    have HN := Lib.hid (head_not (c := 34) hlt y34)
    clear y34
    by_cases y92 : (s[j]).toNat = 92
    · have u92 : (((s[j]).toNat : Int) == 92) = true := by rw [y92]; rfl
      have ep := pce_esc (head_of (c := 92) hlt y92)
      rw [← escA_nat] at ep
      clear y92
      cases hp : escA s.data.toList j with
      | none =>
        have r3 := rescape_n hp hs (by omega)
        have hw := HL.out.wrong HH.out HN.out (ep.trans hp)
        have HW := Lib.hid hw
        clear hp hw ep
        go_wp2_with fail
        (with_reducible refine (r3 _).mono ?_)
        rintro e w1 ⟨rfl, hb1⟩
        go_wp2_with fail
        go_ret3
        exact ⟨by rw [HW.out, strT_wrong (by omega)]; rfl, bel_trans HB.out hb1⟩
      | some q =>
        obtain ⟨t, m⟩ := q
        have r3 := rescape_y hp hs (by omega)
        have hbd := pce_bd HN.out (ep.trans hp)
        rw [List.length_drop, HZ.out] at hbd
        have HX := Lib.hid (HL.out.next HN.out (ep.trans hp))
        obtain ⟨T1, hT⟩ : ∃ T, T = mkb t := ⟨_, rfl⟩
        rw [← hT] at r3
        obtain ⟨R, hR, s1⟩ := sadd' HO.out hT (by omega)
        have HR := Lib.hid hR
        have b1 := hbd.1
        have b2 := hbd.2.1
        clear hp hbd ep hT hR
        go_wp2_with fail
        (with_reducible refine (r3 _).mono ?_)
        rintro e w1 ⟨rfl, hb1⟩
        go_wp2_with fail
        go_roundg (s.size - (j + m))
        case measure => rw [HG.out]; omega
        case rel => exact ⟨j + m, acc ++ t, rfl, by omega, by rw [HR.out], by go_num, HX.out, bel_trans HB.out hb1⟩
    · have u92 : (((s[j]).toNat : Int) == 92) = false := beq_false_of_ne (by omega)
      obtain ⟨c, n, hn, ⟨hp, hb⟩ | ⟨hp, n0, n10, n13⟩⟩ := plain_pce (head_not (c := 92) hlt y92)
      · have r3 := rnext_b hs hj hn
        have hw := HL.out.wrong HH.out HN.out hp
        have HW := Lib.hid hw
        clear hp hw hn y92
        by_cases m0 : n = 0
        · have t0 : ((n : Int) == 0) = true := by simp [m0]
          clear m0 hb
          go_wp2_with fail
          (with_reducible refine (r3 _).mono ?_)
          rintro e w1 ⟨rfl, hb1⟩
          go_wp2_with fail
          go_ret3
          exact ⟨by rw [HW.out, strT_wrong (by omega)]; rfl, bel_trans HB.out hb1⟩
        have t0 : ((n : Int) == 0) = false := beq_false_of_ne (by omega)
        by_cases m1 : c = 10
        · have t1 : ((c : Int) == 10) = true := by simp [m1]
          clear m0 m1 hb
          go_wp2_with fail
          (with_reducible refine (r3 _).mono ?_)
          rintro e w1 ⟨rfl, hb1⟩
          go_wp2_with fail
          go_ret3
          exact ⟨by rw [HW.out, strT_wrong (by omega)]; rfl, bel_trans HB.out hb1⟩
        have t1 : ((c : Int) == 10) = false := beq_false_of_ne (by omega)
        have t2 : ((c : Int) == 13) = true := beq_iff_eq.2 (by omega)
        clear m0 m1 hb
        go_wp2_with fail
        (with_reducible refine (r3 _).mono ?_)
        rintro e w1 ⟨rfl, hb1⟩
        go_wp2_with fail
        go_ret3
        exact ⟨by rw [HW.out, strT_wrong (by omega)]; rfl, bel_trans HB.out hb1⟩
      · have r3 := rnext_b hs hj hn
        have hbd := pce_bd HN.out hp
        rw [List.length_drop, HZ.out] at hbd
        have HX := Lib.hid (HL.out.next HN.out hp)
        have ex : s.extract j (j + n) = mkb ((s.data.toList.drop j).take n) := by
          rw [← mkb_of (s.extract j (j + n)), Lib.extract_data, Nat.add_sub_cancel_left]
        obtain ⟨T1, hT⟩ : ∃ T, T = mkb ((s.data.toList.drop j).take n) := ⟨_, rfl⟩
        rw [← hT] at ex
        obtain ⟨R, hR, s1⟩ := sadd' HO.out hT (by omega)
        have HR := Lib.hid hR
        have b1 := hbd.1
        have b2 := hbd.2.1
        have t0 : ((n : Int) == 0) = false := beq_false_of_ne (by omega)
        have t1 : ((c : Int) == 10) = false := beq_false_of_ne (by omega)
        have t2 : ((c : Int) == 13) = false := beq_false_of_ne (by omega)
        have b3 : j + n ≤ s.size := by omega
        clear hp hbd hT hR hn y92 n0 n10 n13
        go_wp2_with fail
        (with_reducible refine (r3 _).mono ?_)
        rintro e w1 ⟨rfl, hb1⟩
        go_wp2_with fail
        go_roundg (s.size - (j + n))
        case measure => rw [HG.out]; omega
        case rel => exact ⟨j + n, _, rfl, b3, by rw [HR.out], by go_num, HX.out, bel_trans HB.out hb1⟩

end Go.Proofs.YtcedfonkahffcaaGreat
