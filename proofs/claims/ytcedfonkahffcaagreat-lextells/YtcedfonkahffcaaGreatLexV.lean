/- The reference's functions of layer 9 (copperplateref09): some; One. -/
import Derived.Test.YtcedfonkahffcaaGreatLexW
import Derived.Test.YtcedfonkahffcaaGreatTextT
import Derived.Test.YtcedfonkahffcaaGreatFoldT
namespace Go.Proofs.YtcedfonkahffcaaGreat
open Go.RowKit
set_option linter.unusedVariables false
set_option maxRecDepth 100000

set_option maxHeartbeats 400000 in
theorem some_str_ok {s : ByteArray} {k n : Nat} {v : List UInt8} (hs : s.size ≤ 1000) (hk : k < s.size) (hq : Fo.q3.isPrefixOf (s.data.toList.drop k) = false) (hv : strA s.data.toList k = ⟨v, n, true⟩) (w : World) :
    Calls Tryz.prog 24 #[.string s, .int .i64 k] w fun r w' => r = .returned (.tuple #[.string (mkb v), .int .i64 ((k : Int) + (n : Int)), .bool true]) ∧ Below w.heap.size w w' := by
  have r1 := fun w => rstring_any s k w (by omega) (by omega)
  rw [hv] at r1
  unfold strT at r1
  dsimp only at r1
  clear hv
  by_cases hl3 : k + 3 ≤ s.size
  · have hqq : ((s.extract k (k + 3)).toList == [34, 34, 34]) = false := (pre3 (p := [34, 34, 34]) rfl).trans hq
    have g3 : (3 : Int) ≤ (s.size : Int) - (k : Int) := by omega
    clear hq
    go_enter Tryz.func24, Tryz.ntmps24
    go_wp2_with fail
    (with_reducible refine (r1 _).mono ?_)
    rintro e w1 ⟨rfl, hb1⟩
    go_wp2
    go_ret3
    exact ⟨rfl, hb1⟩
  · have g3 : ¬ (3 : Int) ≤ (s.size : Int) - (k : Int) := by omega
    clear hq
    go_enter Tryz.func24, Tryz.ntmps24
    go_wp2_with fail
    (with_reducible refine (r1 _).mono ?_)
    rintro e w1 ⟨rfl, hb1⟩
    go_wp2
    go_ret3
    exact ⟨rfl, hb1⟩
set_option maxHeartbeats 400000 in
theorem some_str_no {s : ByteArray} {k n : Nat} {v : List UInt8} (hs : s.size ≤ 1000) (hk : k < s.size) (hq : Fo.q3.isPrefixOf (s.data.toList.drop k) = false) (hv : strA s.data.toList k = ⟨v, n, false⟩) (w : World) :
    Calls Tryz.prog 24 #[.string s, .int .i64 k] w fun r w' => r = .returned (.tuple #[.string (mkb v), .int .i64 ((k : Int) + (n : Int)), .bool false]) ∧ Below w.heap.size w w' := by
  have r1 := fun w => rstring_any s k w (by omega) (by omega)
  rw [hv] at r1
  unfold strT at r1
  dsimp only at r1
  clear hv
  by_cases hl3 : k + 3 ≤ s.size
  · have hqq : ((s.extract k (k + 3)).toList == [34, 34, 34]) = false := (pre3 (p := [34, 34, 34]) rfl).trans hq
    have g3 : (3 : Int) ≤ (s.size : Int) - (k : Int) := by omega
    clear hq
    go_enter Tryz.func24, Tryz.ntmps24
    go_wp2_with fail
    (with_reducible refine (r1 _).mono ?_)
    rintro e w1 ⟨rfl, hb1⟩
    go_wp2
    go_ret3
    exact ⟨rfl, hb1⟩
  · have g3 : ¬ (3 : Int) ≤ (s.size : Int) - (k : Int) := by omega
    clear hq
    go_enter Tryz.func24, Tryz.ntmps24
    go_wp2_with fail
    (with_reducible refine (r1 _).mono ?_)
    rintro e w1 ⟨rfl, hb1⟩
    go_wp2
    go_ret3
    exact ⟨rfl, hb1⟩
set_option maxHeartbeats 400000 in
theorem some_raw_ok {s : ByteArray} {k n : Nat} {v : List UInt8} (hs : s.size ≤ 1000) (hk : k < s.size) (hq : Fo.q3.isPrefixOf (s.data.toList.drop k) = true) (hv : Fo.rawA s.data.toList k = ⟨v, n, true⟩) (w : World) :
    Calls Tryz.prog 24 #[.string s, .int .i64 k] w fun r w' => r = .returned (.tuple #[.string (mkb (Fo.fld v)), .int .i64 ((k : Int) + (n : Int)), .bool true]) ∧ Below w.heap.size w w' := by
  have hvl := (Fo.rawA_n s.data.toList k).2.2.2.2
  rw [hv, ← Lib.size_eq] at hvl
  have r1 := fun w => Fo.rraw_any s k w (by omega)
  rw [hv] at r1
  unfold Fo.rawE at r1
  dsimp only at r1 hvl
  clear hv
  have hl3 : k + 3 ≤ s.size := Decidable.byContradiction fun h => pre3_no (p := Fo.q3) rfl h hq
  have hqq : ((s.extract k (k + 3)).toList == [34, 34, 34]) = true := (pre3 (p := [34, 34, 34]) rfl).trans hq
  have g3 : (3 : Int) ≤ (s.size : Int) - (k : Int) := by omega
  clear hq
  have r2 := fun w => Fo.rfold_any (mkb v) (by rw [mkb_size]; omega) w
  rw [mkb_data] at r2
  go_enter Tryz.func24, Tryz.ntmps24
  go_wp2_with fail
  (with_reducible refine (r1 _).mono ?_)
  rintro e w1 ⟨rfl, hb1⟩
  go_wp2_with fail
  (with_reducible refine (r2 _).mono ?_)
  rintro e w2 ⟨rfl, hb2⟩
  go_wp2
  go_ret3
  exact ⟨rfl, bel_trans hb1 hb2⟩
set_option maxHeartbeats 400000 in
theorem some_raw_no {s : ByteArray} {k n : Nat} {v : List UInt8} (hs : s.size ≤ 1000) (hk : k < s.size) (hq : Fo.q3.isPrefixOf (s.data.toList.drop k) = true) (hv : Fo.rawA s.data.toList k = ⟨v, n, false⟩) (w : World) :
    Calls Tryz.prog 24 #[.string s, .int .i64 k] w fun r w' => r = .returned (.tuple #[.string (⟨#[]⟩), .int .i64 ((k : Int) + (n : Int)), .bool false]) ∧ Below w.heap.size w w' := by
  have hvl := (Fo.rawA_n s.data.toList k).2.2.2.2
  rw [hv, ← Lib.size_eq] at hvl
  have r1 := fun w => Fo.rraw_any s k w (by omega)
  rw [hv] at r1
  unfold Fo.rawE at r1
  dsimp only at r1 hvl
  clear hv
  have hl3 : k + 3 ≤ s.size := Decidable.byContradiction fun h => pre3_no (p := Fo.q3) rfl h hq
  have hqq : ((s.extract k (k + 3)).toList == [34, 34, 34]) = true := (pre3 (p := [34, 34, 34]) rfl).trans hq
  have g3 : (3 : Int) ≤ (s.size : Int) - (k : Int) := by omega
  clear hq
  go_enter Tryz.func24, Tryz.ntmps24
  go_wp2_with fail
  (with_reducible refine (r1 _).mono ?_)
  rintro e w1 ⟨rfl, hb1⟩
  go_wp2
  go_ret3
  exact ⟨rfl, hb1⟩
set_option maxHeartbeats 400000 in
theorem rone_str_ok {s : ByteArray} {k : Nat} {c : UInt8} (hs : s.size ≤ 1000) (hk : k < s.size) (hc : s[k] = c) (h34 : c = 34) {n : Nat} {v : List UInt8} (hq : Fo.q3.isPrefixOf (s.data.toList.drop k) = false) (hv : strA s.data.toList k = ⟨v, n, true⟩) (w : World) :
    Calls Tryz.prog 7 #[.string s, .int .i64 k] w fun r w' => r = tokE 5 (mkb v) k ((k : Int) + (n : Int)) 0 ((k : Int) + (n : Int)) ∧ Below w.heap.size w w' := by
  subst h34
  have r2 := fun w => some_str_ok hs hk hq hv w
  have r1 : ∀ w, Calls Tryz.prog 20 #[.int .u8 34] w fun e w' => e = .returned (.bool false) ∧ w = w' := fun w => rbg (c := 34) (by decide) w
  clear hq hv
  go_enter Tryz.func7, Tryz.ntmps7
  go_wp2_with fail
  (with_reducible refine (r1 _).mono ?_)
  rintro e w' ⟨rfl, rfl⟩
  go_wp2_with fail
  (with_reducible refine (r2 _).mono ?_)
  rintro e w1 ⟨rfl, hb1⟩
  obtain ⟨c0, c1, c2, c3, f0, f1, f2, f3⟩ := (B4.new w (.int .i64 0) (.string ⟨#[]⟩) (.int .i64 0) (.int .i64 0) 26).below hb1
  have hb := bel_trans (bel_alloc (Below.refl _ w) _) hb1
  clear hb1
  go_wp2
  refine body_box rfl ⟨c0, c1, c2, c3, f0, f1, f2, f3⟩ rfl rfl ?_
  exact ⟨rfl, bel_set4 hb (Nat.le_refl _) _ _ _ _⟩
set_option maxHeartbeats 400000 in
theorem rone_str_no {s : ByteArray} {k : Nat} {c : UInt8} (hs : s.size ≤ 1000) (hk : k < s.size) (hc : s[k] = c) (h34 : c = 34) {n : Nat} {v : List UInt8} (hq : Fo.q3.isPrefixOf (s.data.toList.drop k) = false) (hv : strA s.data.toList k = ⟨v, n, false⟩) (w : World) :
    Calls Tryz.prog 7 #[.string s, .int .i64 k] w fun r w' => r = tokE 0 ⟨#[]⟩ 0 0 4 ((k : Int) + (n : Int)) ∧ Below w.heap.size w w' := by
  subst h34
  have r2 := fun w => some_str_no hs hk hq hv w
  have r1 : ∀ w, Calls Tryz.prog 20 #[.int .u8 34] w fun e w' => e = .returned (.bool false) ∧ w = w' := fun w => rbg (c := 34) (by decide) w
  clear hq hv
  go_enter Tryz.func7, Tryz.ntmps7
  go_wp2_with fail
  (with_reducible refine (r1 _).mono ?_)
  rintro e w' ⟨rfl, rfl⟩
  go_wp2_with fail
  (with_reducible refine (r2 _).mono ?_)
  rintro e w1 ⟨rfl, hb1⟩
  obtain ⟨c0, c1, c2, c3, f0, f1, f2, f3⟩ := (B4.new w (.int .i64 0) (.string ⟨#[]⟩) (.int .i64 0) (.int .i64 0) 26).below hb1
  have hb := bel_trans (bel_alloc (Below.refl _ w) _) hb1
  clear hb1
  go_wp2
  refine body_box rfl ⟨c0, c1, c2, c3, f0, f1, f2, f3⟩ rfl rfl ?_
  exact ⟨rfl, bel_set4 hb (Nat.le_refl _) _ _ _ _⟩
set_option maxHeartbeats 400000 in
theorem rone_raw_ok {s : ByteArray} {k : Nat} {c : UInt8} (hs : s.size ≤ 1000) (hk : k < s.size) (hc : s[k] = c) (h34 : c = 34) {n : Nat} {v : List UInt8} (hq : Fo.q3.isPrefixOf (s.data.toList.drop k) = true) (hv : Fo.rawA s.data.toList k = ⟨v, n, true⟩) (w : World) :
    Calls Tryz.prog 7 #[.string s, .int .i64 k] w fun r w' => r = tokE 5 (mkb (Fo.fld v)) k ((k : Int) + (n : Int)) 0 ((k : Int) + (n : Int)) ∧ Below w.heap.size w w' := by
  subst h34
  have r2 := fun w => some_raw_ok hs hk hq hv w
  have r1 : ∀ w, Calls Tryz.prog 20 #[.int .u8 34] w fun e w' => e = .returned (.bool false) ∧ w = w' := fun w => rbg (c := 34) (by decide) w
  clear hq hv
  generalize Fo.fld v = v at *
  go_enter Tryz.func7, Tryz.ntmps7
  go_wp2_with fail
  (with_reducible refine (r1 _).mono ?_)
  rintro e w' ⟨rfl, rfl⟩
  go_wp2_with fail
  (with_reducible refine (r2 _).mono ?_)
  rintro e w1 ⟨rfl, hb1⟩
  obtain ⟨c0, c1, c2, c3, f0, f1, f2, f3⟩ := (B4.new w (.int .i64 0) (.string ⟨#[]⟩) (.int .i64 0) (.int .i64 0) 26).below hb1
  have hb := bel_trans (bel_alloc (Below.refl _ w) _) hb1
  clear hb1
  go_wp2
  refine body_box rfl ⟨c0, c1, c2, c3, f0, f1, f2, f3⟩ rfl rfl ?_
  exact ⟨rfl, bel_set4 hb (Nat.le_refl _) _ _ _ _⟩
set_option maxHeartbeats 400000 in
theorem rone_raw_no {s : ByteArray} {k : Nat} {c : UInt8} (hs : s.size ≤ 1000) (hk : k < s.size) (hc : s[k] = c) (h34 : c = 34) {n : Nat} {v : List UInt8} (hq : Fo.q3.isPrefixOf (s.data.toList.drop k) = true) (hv : Fo.rawA s.data.toList k = ⟨v, n, false⟩) (w : World) :
    Calls Tryz.prog 7 #[.string s, .int .i64 k] w fun r w' => r = tokE 0 ⟨#[]⟩ 0 0 4 ((k : Int) + (n : Int)) ∧ Below w.heap.size w w' := by
  subst h34
  have r2 := fun w => some_raw_no hs hk hq hv w
  have r1 : ∀ w, Calls Tryz.prog 20 #[.int .u8 34] w fun e w' => e = .returned (.bool false) ∧ w = w' := fun w => rbg (c := 34) (by decide) w
  clear hq hv
  go_enter Tryz.func7, Tryz.ntmps7
  go_wp2_with fail
  (with_reducible refine (r1 _).mono ?_)
  rintro e w' ⟨rfl, rfl⟩
  go_wp2_with fail
  (with_reducible refine (r2 _).mono ?_)
  rintro e w1 ⟨rfl, hb1⟩
  obtain ⟨c0, c1, c2, c3, f0, f1, f2, f3⟩ := (B4.new w (.int .i64 0) (.string ⟨#[]⟩) (.int .i64 0) (.int .i64 0) 26).below hb1
  have hb := bel_trans (bel_alloc (Below.refl _ w) _) hb1
  clear hb1
  go_wp2
  refine body_box rfl ⟨c0, c1, c2, c3, f0, f1, f2, f3⟩ rfl rfl ?_
  exact ⟨rfl, bel_set4 hb (Nat.le_refl _) _ _ _ _⟩
/-- One, at a place of the text. -/
theorem rone_at {s : ByteArray} {k : Nat} {t : Tk} (hs : s.size ≤ 1000) (hk : k < s.size) (ht : tk (s.data.toList.drop k) = t) (w : World) :
    Calls Tryz.prog 7 #[.string s, .int .i64 k] w fun r w' => r = oneE t k ∧ Below w.heap.size w w' := by
  have hl : k < s.data.toList.length := by rw [← Lib.size_eq]; exact hk
  have hd : s.data.toList.drop k = s[k] :: s.data.toList.drop (k + 1) := List.drop_eq_getElem_cons hl
  have hw := way (s[k]) (s.data.toList.drop k)
  have htk : tkC (s[k]) (s.data.toList.drop k) = t := by rw [← ht, hd]; rfl
  rw [htk] at hw
  clear htk ht
  have k0 : (k : Int) + ((0 : Nat) : Int) = (k : Int) := by omega
  cases hw with
  | dots h1 h2 =>
    have := rone_dots hs hk rfl h1 h2 w
    rw [show (s.data.toList.drop k).take 3 = d3 from Fo.pre_take.1 h2] at this
    exact this
  | dot h1 h2 => rw [oneE_no (by decide)]; show Calls _ _ _ _ fun r w' => r = tokE 0 ⟨#[]⟩ 0 0 2 ((k : Int) + ((0 : Nat) : Int)) ∧ _; rw [k0]; exact rone_dot hs hk rfl h1 h2 w
  | sign h1 h2 =>
    have := rone_sign hs hk rfl h2 w
    rw [show (s.data.toList.drop k).take 1 = [s[k]] by rw [hd]; rfl] at this
    exact this
  | name h1 h2 h3 => exact rone_name hs hk rfl h3 rfl w
  | num h1 h2 h3 h4 =>
    have hn := sh_at s.data.toList k (by omega)
    have h0 := num0 (s.data.toList.drop k)
    rw [List.length_drop, ← Lib.size_eq] at h0
    cases hb : (Sc.numA (s.data.toList.drop k) 0).b
    · rw [hb] at hn
      rw [show tkNum (s.data.toList.drop k) = ⟨0, [], (Sc.numA (s.data.toList.drop k) 0).e.toNat, 3⟩ by unfold tkNum; rw [if_neg (by rw [hb]; decide)], oneE_no (by simp)]
      exact rone_num_no hs hk rfl h4 hn w
    · rw [hb] at hn
      rw [show tkNum (s.data.toList.drop k) = ⟨(Sc.numA (s.data.toList.drop k) 0).k, (s.data.toList.drop k).take (Sc.numA (s.data.toList.drop k) 0).e.toNat, (Sc.numA (s.data.toList.drop k) 0).e.toNat, 0⟩ by unfold tkNum; rw [if_pos hb]]
      exact rone_num_ok hs hk rfl h4 hn (by omega) w
  | raw h1 h2 =>
    have hn := raw_at s.data.toList k (by omega)
    unfold tkRaw
    generalize Fo.rawA (s.data.toList.drop k) 0 = R at *
    obtain ⟨v, n, b⟩ := R
    cases b
    · rw [if_neg (by simp), oneE_no (by simp)]
      exact rone_raw_no hs hk rfl h1 h2 hn w
    · rw [if_pos rfl]
      exact rone_raw_ok hs hk rfl h1 h2 hn w
  | str h1 h2 =>
    have hn := str_at s.data.toList k
    unfold tkStr
    generalize strA (s.data.toList.drop k) 0 = R at *
    obtain ⟨v, n, b⟩ := R
    cases b
    · rw [if_neg (by simp), oneE_no (by simp)]
      exact rone_str_no hs hk rfl h1 h2 hn w
    · rw [if_pos rfl]
      exact rone_str_ok hs hk rfl h1 h2 hn w
  | bad h1 h2 h3 h4 h5 => rw [oneE_no (by decide)]; show Calls _ _ _ _ fun r w' => r = tokE 0 ⟨#[]⟩ 0 0 2 ((k : Int) + ((0 : Nat) : Int)) ∧ _; rw [k0]; exact rone_bad hs hk rfl h1 h2 h3 h4 h5 w
end Go.Proofs.YtcedfonkahffcaaGreat
