/- The reference's functions of layer 9 (copperplateref09): tok; One, where no string begins. -/
import Derived.Test.YtcedfonkahffcaaGreatLexT
import Derived.Test.YtcedfonkahffcaaGreatScanT
import Derived.Test.YtcedfonkahffcaaGreatNumS
namespace Go.Proofs.YtcedfonkahffcaaGreat
open Go.RowKit
set_option linter.unusedVariables false
set_option maxRecDepth 100000

set_option maxHeartbeats 400000 in
theorem rtok_any {s : ByteArray} {k m : Nat} {kd : Int} (hle : k + m ≤ s.size) (hs : s.size ≤ 1000000) (w : World) :
    Calls Tryz.prog 22 #[.string s, .int .i64 kd, .int .i64 k, .int .i64 ((k : Int) + (m : Int))] w fun r w' => r = .returned (.agg #[.int .i64 kd, .string (mkb ((s.data.toList.drop k).take m)), .int .i64 k, .int .i64 ((k : Int) + (m : Int))]) ∧ Below w.heap.size w w' := by
  have HX := Lib.hid (ext_take s k m)
  go_enter Tryz.func22, Tryz.ntmps22
  go_wp2
  go_returns
  refine ⟨?_, by go_grown⟩
  rw [← HX.out]
theorem rbg {c : UInt8} {b : Bool} (h : Sc.bgI c.toNat = b) (w : World) : Calls Tryz.prog 20 #[.int .u8 c.toNat] w fun e w' => e = .returned (.bool b) ∧ w = w' := by
  rw [← h]; exact Sc.rbegins_any c.toNat w
theorem pre3 {s : ByteArray} {k : Nat} {p : List UInt8} (hp : p.length = 3) : ((s.extract k (k + 3)).toList == p) = p.isPrefixOf (s.data.toList.drop k) := by
  rw [ext_take, mkb_toList, Bool.eq_iff_iff, beq_iff_eq, Fo.pre_take, hp]
theorem pre3_no {s : ByteArray} {k : Nat} {p : List UInt8} (hp : p.length = 3) (hk : ¬ k + 3 ≤ s.size) (h : p.isPrefixOf (s.data.toList.drop k) = true) : False := by
  have := Fo.pre_len h
  rw [List.length_drop, ← Lib.size_eq, hp] at this
  omega

set_option maxHeartbeats 400000 in
theorem rone_out (s : ByteArray) {i : Int} (h : i < 0 ∨ (s.size : Int) ≤ i) (w : World) :
    Calls Tryz.prog 7 #[.string s, .int .i64 i] w fun r w' => r = tokE 0 ⟨#[]⟩ 0 0 2 i ∧ Below w.heap.size w w' := by
  by_cases h0 : i < 0
  · skip
    go_enter Tryz.func7, Tryz.ntmps7
    go_wp2
    go_returns
    exact ⟨rfl, by go_grown⟩
  · have h1 : (s.size : Int) ≤ i := by omega
    clear h
    go_enter Tryz.func7, Tryz.ntmps7
    go_wp2
    go_returns
    exact ⟨rfl, by go_grown⟩
set_option maxHeartbeats 4000000 in
theorem rone_bad {s : ByteArray} {k : Nat} {c : UInt8} (hs : s.size ≤ 1000) (hk : k < s.size) (hc : s[k] = c) (h46 : c ≠ 46) (hsg : sgL.contains c = false) (hbg : Sc.bgI c.toNat = false) (hnum : ¬ (c = 45 ∨ Sc.dgI c.toNat = true)) (h34 : c ≠ 34) (w : World) :
    Calls Tryz.prog 7 #[.string s, .int .i64 k] w fun r w' => r = tokE 0 ⟨#[]⟩ 0 0 2 k ∧ Below w.heap.size w w' := by
  have r1 := fun w => rbg hbg w
  have hm : ∀ d ∈ sgL, c ≠ d := fun d hd e => by rw [e] at hsg; have : sgL.contains d = true := by simpa using hd
                                                 rw [this] at hsg; cases hsg
  have hd : ∀ n : Nat, 48 ≤ n → n ≤ 57 → c ≠ UInt8.ofNat n := fun n h1 h2 e => hnum (.inr ((Sc.dg_iff _).2 (by rw [e, toNat_ofNat (by omega)]; omega)))
  have e33 := neB (n := 33) (hm 33 (by decide)) (by decide)
  have e36 := neB (n := 36) (hm 36 (by decide)) (by decide)
  have e38 := neB (n := 38) (hm 38 (by decide)) (by decide)
  have e40 := neB (n := 40) (hm 40 (by decide)) (by decide)
  have e41 := neB (n := 41) (hm 41 (by decide)) (by decide)
  have e58 := neB (n := 58) (hm 58 (by decide)) (by decide)
  have e61 := neB (n := 61) (hm 61 (by decide)) (by decide)
  have e64 := neB (n := 64) (hm 64 (by decide)) (by decide)
  have e91 := neB (n := 91) (hm 91 (by decide)) (by decide)
  have e93 := neB (n := 93) (hm 93 (by decide)) (by decide)
  have e123 := neB (n := 123) (hm 123 (by decide)) (by decide)
  have e124 := neB (n := 124) (hm 124 (by decide)) (by decide)
  have e125 := neB (n := 125) (hm 125 (by decide)) (by decide)
  have e48 := neB (n := 48) (hd 48 (by decide) (by decide)) (by decide)
  have e49 := neB (n := 49) (hd 49 (by decide) (by decide)) (by decide)
  have e50 := neB (n := 50) (hd 50 (by decide) (by decide)) (by decide)
  have e51 := neB (n := 51) (hd 51 (by decide) (by decide)) (by decide)
  have e52 := neB (n := 52) (hd 52 (by decide) (by decide)) (by decide)
  have e53 := neB (n := 53) (hd 53 (by decide) (by decide)) (by decide)
  have e54 := neB (n := 54) (hd 54 (by decide) (by decide)) (by decide)
  have e55 := neB (n := 55) (hd 55 (by decide) (by decide)) (by decide)
  have e56 := neB (n := 56) (hd 56 (by decide) (by decide)) (by decide)
  have e57 := neB (n := 57) (hd 57 (by decide) (by decide)) (by decide)
  have e46 := neB (n := 46) h46 (by decide)
  have e34 := neB (n := 34) h34 (by decide)
  have e45 := neB (n := 45) (fun h => hnum (.inl h)) (by decide)
  clear h46 h34 hnum hsg hbg hm hd
  go_enter Tryz.func7, Tryz.ntmps7
  go_wp2_with fail
  (with_reducible refine (r1 _).mono ?_)
  rintro e w' ⟨rfl, rfl⟩
  go_wp2
  go_returns
  exact ⟨rfl, by go_grown⟩
set_option maxHeartbeats 4000000 in
theorem rone_name {s : ByteArray} {k : Nat} {c : UInt8} (hs : s.size ≤ 1000) (hk : k < s.size) (hc : s[k] = c) (hbg : Sc.bgI c.toNat = true) {n : Nat} (hn : Sc.nmT (s.data.toList.drop k) = n) (w : World) :
    Calls Tryz.prog 7 #[.string s, .int .i64 k] w fun r w' => r = tokE 2 (mkb ((s.data.toList.drop k).take n)) k ((k : Int) + (n : Int)) 0 ((k : Int) + (n : Int)) ∧ Below w.heap.size w w' := by
  have r1 := fun w => rbg hbg w
  have hle := Sc.nmT_le (s.data.toList.drop k)
  rw [List.length_drop, ← Lib.size_eq, hn] at hle
  have hl2 : k + n ≤ s.size := by omega
  have r2 := fun w => Sc.rname_any s k w (by omega)
  rw [Sc.atE_in (by rw [← Lib.size_eq]; omega), hn] at r2
  have ht := fun w => rtok_any (kd := 2) hl2 (by omega) w
  clear hbg hn hle
  go_enter Tryz.func7, Tryz.ntmps7
  go_wp2_with fail
  (with_reducible refine (r1 _).mono ?_)
  rintro e w' ⟨rfl, rfl⟩
  go_wp2_with fail
  (with_reducible refine (r2 _).mono ?_)
  rintro e w' ⟨rfl, rfl⟩
  go_wp2_with fail
  (with_reducible refine (ht _).mono ?_)
  rintro e w1 ⟨rfl, hb1⟩
  obtain ⟨c0, c1, c2, c3, f0, f1, f2, f3⟩ := ((B4.new w (.int .i64 0) (.string ⟨#[]⟩) (.int .i64 0) (.int .i64 0) 26).below hb1)
  have hb := (bel_trans (bel_alloc (Below.refl _ w) _) hb1)
  clear hb1
  go_wp2
  refine body_box rfl ⟨c0, c1, c2, c3, f0, f1, f2, f3⟩ rfl rfl ?_
  exact ⟨rfl, bel_set4 hb (Nat.le_refl _) _ _ _ _⟩
set_option maxHeartbeats 4000000 in
theorem rone_sign {s : ByteArray} {k : Nat} {c : UInt8} (hs : s.size ≤ 1000) (hk : k < s.size) (hc : s[k] = c) (hsg : sgL.contains c = true) (w : World) :
    Calls Tryz.prog 7 #[.string s, .int .i64 k] w fun r w' => r = tokE 1 (mkb ((s.data.toList.drop k).take 1)) k ((k : Int) + (1 : Int)) 0 ((k : Int) + (1 : Int)) ∧ Below w.heap.size w w' := by
  have ht := fun w => rtok_any (kd := 1) (m := 1) (show k + 1 ≤ s.size by omega) (by omega) w
  have hm : c ∈ sgL := by simpa using hsg
  have hcs : c = 33 ∨ c = 36 ∨ c = 38 ∨ c = 40 ∨ c = 41 ∨ c = 58 ∨ c = 61 ∨ c = 64 ∨ c = 91 ∨ c = 93 ∨ c = 123 ∨ c = 124 ∨ c = 125 := by simpa [sgL] using hm
  clear hsg hm
  have ht' : ∀ w, Calls Tryz.prog 22 #[.string s, .int .i64 1, .int .i64 k, .int .i64 ((k : Int) + 1)] w fun r w' => r = .returned (.agg #[.int .i64 1, .string (mkb ((s.data.toList.drop k).take 1)), .int .i64 k, .int .i64 ((k : Int) + 1)]) ∧ Below w.heap.size w w' := ht
  clear ht
  have rb := fun (c : UInt8) (h : Sc.bgI c.toNat = false) w => rbg h w
  rcases hcs with rfl | rfl | rfl | rfl | rfl | rfl | rfl | rfl | rfl | rfl | rfl | rfl | rfl
  · have r1 : ∀ w, Calls Tryz.prog 20 #[.int .u8 33] w fun e w' => e = .returned (.bool false) ∧ w = w' := rb 33 (by decide)
    clear rb
    go_enter Tryz.func7, Tryz.ntmps7
    go_wp2_with fail
    (with_reducible refine (r1 _).mono ?_)
    rintro e w' ⟨rfl, rfl⟩
    go_wp2_with fail
    (with_reducible refine (ht' _).mono ?_)
    rintro e w1 ⟨rfl, hb1⟩
    obtain ⟨c0, c1, c2, c3, f0, f1, f2, f3⟩ := ((B4.new w (.int .i64 0) (.string ⟨#[]⟩) (.int .i64 0) (.int .i64 0) 26).below hb1)
    have hb := (bel_trans (bel_alloc (Below.refl _ w) _) hb1)
    clear hb1
    go_wp2
    refine body_box rfl ⟨c0, c1, c2, c3, f0, f1, f2, f3⟩ rfl rfl ?_
    exact ⟨rfl, bel_set4 hb (Nat.le_refl _) _ _ _ _⟩
  · have r1 : ∀ w, Calls Tryz.prog 20 #[.int .u8 36] w fun e w' => e = .returned (.bool false) ∧ w = w' := rb 36 (by decide)
    clear rb
    go_enter Tryz.func7, Tryz.ntmps7
    go_wp2_with fail
    (with_reducible refine (r1 _).mono ?_)
    rintro e w' ⟨rfl, rfl⟩
    go_wp2_with fail
    (with_reducible refine (ht' _).mono ?_)
    rintro e w1 ⟨rfl, hb1⟩
    obtain ⟨c0, c1, c2, c3, f0, f1, f2, f3⟩ := ((B4.new w (.int .i64 0) (.string ⟨#[]⟩) (.int .i64 0) (.int .i64 0) 26).below hb1)
    have hb := (bel_trans (bel_alloc (Below.refl _ w) _) hb1)
    clear hb1
    go_wp2
    refine body_box rfl ⟨c0, c1, c2, c3, f0, f1, f2, f3⟩ rfl rfl ?_
    exact ⟨rfl, bel_set4 hb (Nat.le_refl _) _ _ _ _⟩
  · have r1 : ∀ w, Calls Tryz.prog 20 #[.int .u8 38] w fun e w' => e = .returned (.bool false) ∧ w = w' := rb 38 (by decide)
    clear rb
    go_enter Tryz.func7, Tryz.ntmps7
    go_wp2_with fail
    (with_reducible refine (r1 _).mono ?_)
    rintro e w' ⟨rfl, rfl⟩
    go_wp2_with fail
    (with_reducible refine (ht' _).mono ?_)
    rintro e w1 ⟨rfl, hb1⟩
    obtain ⟨c0, c1, c2, c3, f0, f1, f2, f3⟩ := ((B4.new w (.int .i64 0) (.string ⟨#[]⟩) (.int .i64 0) (.int .i64 0) 26).below hb1)
    have hb := (bel_trans (bel_alloc (Below.refl _ w) _) hb1)
    clear hb1
    go_wp2
    refine body_box rfl ⟨c0, c1, c2, c3, f0, f1, f2, f3⟩ rfl rfl ?_
    exact ⟨rfl, bel_set4 hb (Nat.le_refl _) _ _ _ _⟩
  · have r1 : ∀ w, Calls Tryz.prog 20 #[.int .u8 40] w fun e w' => e = .returned (.bool false) ∧ w = w' := rb 40 (by decide)
    clear rb
    go_enter Tryz.func7, Tryz.ntmps7
    go_wp2_with fail
    (with_reducible refine (r1 _).mono ?_)
    rintro e w' ⟨rfl, rfl⟩
    go_wp2_with fail
    (with_reducible refine (ht' _).mono ?_)
    rintro e w1 ⟨rfl, hb1⟩
    obtain ⟨c0, c1, c2, c3, f0, f1, f2, f3⟩ := ((B4.new w (.int .i64 0) (.string ⟨#[]⟩) (.int .i64 0) (.int .i64 0) 26).below hb1)
    have hb := (bel_trans (bel_alloc (Below.refl _ w) _) hb1)
    clear hb1
    go_wp2
    refine body_box rfl ⟨c0, c1, c2, c3, f0, f1, f2, f3⟩ rfl rfl ?_
    exact ⟨rfl, bel_set4 hb (Nat.le_refl _) _ _ _ _⟩
  · have r1 : ∀ w, Calls Tryz.prog 20 #[.int .u8 41] w fun e w' => e = .returned (.bool false) ∧ w = w' := rb 41 (by decide)
    clear rb
    go_enter Tryz.func7, Tryz.ntmps7
    go_wp2_with fail
    (with_reducible refine (r1 _).mono ?_)
    rintro e w' ⟨rfl, rfl⟩
    go_wp2_with fail
    (with_reducible refine (ht' _).mono ?_)
    rintro e w1 ⟨rfl, hb1⟩
    obtain ⟨c0, c1, c2, c3, f0, f1, f2, f3⟩ := ((B4.new w (.int .i64 0) (.string ⟨#[]⟩) (.int .i64 0) (.int .i64 0) 26).below hb1)
    have hb := (bel_trans (bel_alloc (Below.refl _ w) _) hb1)
    clear hb1
    go_wp2
    refine body_box rfl ⟨c0, c1, c2, c3, f0, f1, f2, f3⟩ rfl rfl ?_
    exact ⟨rfl, bel_set4 hb (Nat.le_refl _) _ _ _ _⟩
  · have r1 : ∀ w, Calls Tryz.prog 20 #[.int .u8 58] w fun e w' => e = .returned (.bool false) ∧ w = w' := rb 58 (by decide)
    clear rb
    go_enter Tryz.func7, Tryz.ntmps7
    go_wp2_with fail
    (with_reducible refine (r1 _).mono ?_)
    rintro e w' ⟨rfl, rfl⟩
    go_wp2_with fail
    (with_reducible refine (ht' _).mono ?_)
    rintro e w1 ⟨rfl, hb1⟩
    obtain ⟨c0, c1, c2, c3, f0, f1, f2, f3⟩ := ((B4.new w (.int .i64 0) (.string ⟨#[]⟩) (.int .i64 0) (.int .i64 0) 26).below hb1)
    have hb := (bel_trans (bel_alloc (Below.refl _ w) _) hb1)
    clear hb1
    go_wp2
    refine body_box rfl ⟨c0, c1, c2, c3, f0, f1, f2, f3⟩ rfl rfl ?_
    exact ⟨rfl, bel_set4 hb (Nat.le_refl _) _ _ _ _⟩
  · have r1 : ∀ w, Calls Tryz.prog 20 #[.int .u8 61] w fun e w' => e = .returned (.bool false) ∧ w = w' := rb 61 (by decide)
    clear rb
    go_enter Tryz.func7, Tryz.ntmps7
    go_wp2_with fail
    (with_reducible refine (r1 _).mono ?_)
    rintro e w' ⟨rfl, rfl⟩
    go_wp2_with fail
    (with_reducible refine (ht' _).mono ?_)
    rintro e w1 ⟨rfl, hb1⟩
    obtain ⟨c0, c1, c2, c3, f0, f1, f2, f3⟩ := ((B4.new w (.int .i64 0) (.string ⟨#[]⟩) (.int .i64 0) (.int .i64 0) 26).below hb1)
    have hb := (bel_trans (bel_alloc (Below.refl _ w) _) hb1)
    clear hb1
    go_wp2
    refine body_box rfl ⟨c0, c1, c2, c3, f0, f1, f2, f3⟩ rfl rfl ?_
    exact ⟨rfl, bel_set4 hb (Nat.le_refl _) _ _ _ _⟩
  · have r1 : ∀ w, Calls Tryz.prog 20 #[.int .u8 64] w fun e w' => e = .returned (.bool false) ∧ w = w' := rb 64 (by decide)
    clear rb
    go_enter Tryz.func7, Tryz.ntmps7
    go_wp2_with fail
    (with_reducible refine (r1 _).mono ?_)
    rintro e w' ⟨rfl, rfl⟩
    go_wp2_with fail
    (with_reducible refine (ht' _).mono ?_)
    rintro e w1 ⟨rfl, hb1⟩
    obtain ⟨c0, c1, c2, c3, f0, f1, f2, f3⟩ := ((B4.new w (.int .i64 0) (.string ⟨#[]⟩) (.int .i64 0) (.int .i64 0) 26).below hb1)
    have hb := (bel_trans (bel_alloc (Below.refl _ w) _) hb1)
    clear hb1
    go_wp2
    refine body_box rfl ⟨c0, c1, c2, c3, f0, f1, f2, f3⟩ rfl rfl ?_
    exact ⟨rfl, bel_set4 hb (Nat.le_refl _) _ _ _ _⟩
  · have r1 : ∀ w, Calls Tryz.prog 20 #[.int .u8 91] w fun e w' => e = .returned (.bool false) ∧ w = w' := rb 91 (by decide)
    clear rb
    go_enter Tryz.func7, Tryz.ntmps7
    go_wp2_with fail
    (with_reducible refine (r1 _).mono ?_)
    rintro e w' ⟨rfl, rfl⟩
    go_wp2_with fail
    (with_reducible refine (ht' _).mono ?_)
    rintro e w1 ⟨rfl, hb1⟩
    obtain ⟨c0, c1, c2, c3, f0, f1, f2, f3⟩ := ((B4.new w (.int .i64 0) (.string ⟨#[]⟩) (.int .i64 0) (.int .i64 0) 26).below hb1)
    have hb := (bel_trans (bel_alloc (Below.refl _ w) _) hb1)
    clear hb1
    go_wp2
    refine body_box rfl ⟨c0, c1, c2, c3, f0, f1, f2, f3⟩ rfl rfl ?_
    exact ⟨rfl, bel_set4 hb (Nat.le_refl _) _ _ _ _⟩
  · have r1 : ∀ w, Calls Tryz.prog 20 #[.int .u8 93] w fun e w' => e = .returned (.bool false) ∧ w = w' := rb 93 (by decide)
    clear rb
    go_enter Tryz.func7, Tryz.ntmps7
    go_wp2_with fail
    (with_reducible refine (r1 _).mono ?_)
    rintro e w' ⟨rfl, rfl⟩
    go_wp2_with fail
    (with_reducible refine (ht' _).mono ?_)
    rintro e w1 ⟨rfl, hb1⟩
    obtain ⟨c0, c1, c2, c3, f0, f1, f2, f3⟩ := ((B4.new w (.int .i64 0) (.string ⟨#[]⟩) (.int .i64 0) (.int .i64 0) 26).below hb1)
    have hb := (bel_trans (bel_alloc (Below.refl _ w) _) hb1)
    clear hb1
    go_wp2
    refine body_box rfl ⟨c0, c1, c2, c3, f0, f1, f2, f3⟩ rfl rfl ?_
    exact ⟨rfl, bel_set4 hb (Nat.le_refl _) _ _ _ _⟩
  · have r1 : ∀ w, Calls Tryz.prog 20 #[.int .u8 123] w fun e w' => e = .returned (.bool false) ∧ w = w' := rb 123 (by decide)
    clear rb
    go_enter Tryz.func7, Tryz.ntmps7
    go_wp2_with fail
    (with_reducible refine (r1 _).mono ?_)
    rintro e w' ⟨rfl, rfl⟩
    go_wp2_with fail
    (with_reducible refine (ht' _).mono ?_)
    rintro e w1 ⟨rfl, hb1⟩
    obtain ⟨c0, c1, c2, c3, f0, f1, f2, f3⟩ := ((B4.new w (.int .i64 0) (.string ⟨#[]⟩) (.int .i64 0) (.int .i64 0) 26).below hb1)
    have hb := (bel_trans (bel_alloc (Below.refl _ w) _) hb1)
    clear hb1
    go_wp2
    refine body_box rfl ⟨c0, c1, c2, c3, f0, f1, f2, f3⟩ rfl rfl ?_
    exact ⟨rfl, bel_set4 hb (Nat.le_refl _) _ _ _ _⟩
  · have r1 : ∀ w, Calls Tryz.prog 20 #[.int .u8 124] w fun e w' => e = .returned (.bool false) ∧ w = w' := rb 124 (by decide)
    clear rb
    go_enter Tryz.func7, Tryz.ntmps7
    go_wp2_with fail
    (with_reducible refine (r1 _).mono ?_)
    rintro e w' ⟨rfl, rfl⟩
    go_wp2_with fail
    (with_reducible refine (ht' _).mono ?_)
    rintro e w1 ⟨rfl, hb1⟩
    obtain ⟨c0, c1, c2, c3, f0, f1, f2, f3⟩ := ((B4.new w (.int .i64 0) (.string ⟨#[]⟩) (.int .i64 0) (.int .i64 0) 26).below hb1)
    have hb := (bel_trans (bel_alloc (Below.refl _ w) _) hb1)
    clear hb1
    go_wp2
    refine body_box rfl ⟨c0, c1, c2, c3, f0, f1, f2, f3⟩ rfl rfl ?_
    exact ⟨rfl, bel_set4 hb (Nat.le_refl _) _ _ _ _⟩
  · have r1 : ∀ w, Calls Tryz.prog 20 #[.int .u8 125] w fun e w' => e = .returned (.bool false) ∧ w = w' := rb 125 (by decide)
    clear rb
    go_enter Tryz.func7, Tryz.ntmps7
    go_wp2_with fail
    (with_reducible refine (r1 _).mono ?_)
    rintro e w' ⟨rfl, rfl⟩
    go_wp2_with fail
    (with_reducible refine (ht' _).mono ?_)
    rintro e w1 ⟨rfl, hb1⟩
    obtain ⟨c0, c1, c2, c3, f0, f1, f2, f3⟩ := ((B4.new w (.int .i64 0) (.string ⟨#[]⟩) (.int .i64 0) (.int .i64 0) 26).below hb1)
    have hb := (bel_trans (bel_alloc (Below.refl _ w) _) hb1)
    clear hb1
    go_wp2
    refine body_box rfl ⟨c0, c1, c2, c3, f0, f1, f2, f3⟩ rfl rfl ?_
    exact ⟨rfl, bel_set4 hb (Nat.le_refl _) _ _ _ _⟩
set_option maxHeartbeats 4000000 in
theorem rone_dots {s : ByteArray} {k : Nat} {c : UInt8} (hs : s.size ≤ 1000) (hk : k < s.size) (hc : s[k] = c) (h46 : c = 46) (hp : d3.isPrefixOf (s.data.toList.drop k) = true) (w : World) :
    Calls Tryz.prog 7 #[.string s, .int .i64 k] w fun r w' => r = tokE 1 (mkb ((s.data.toList.drop k).take 3)) k ((k : Int) + (3 : Int)) 0 ((k : Int) + (3 : Int)) ∧ Below w.heap.size w w' := by
  subst h46
  have r1 : ∀ w, Calls Tryz.prog 20 #[.int .u8 46] w fun e w' => e = .returned (.bool false) ∧ w = w' := fun w => rbg (c := 46) (by decide) w
  have hl3 : k + 3 ≤ s.size := Decidable.byContradiction fun h => pre3_no (p := d3) rfl h hp
  have hq : ((s.extract k (k + 3)).toList == [46, 46, 46]) = true := (pre3 (p := [46, 46, 46]) rfl).trans hp
  have g3 : (3 : Int) ≤ (s.size : Int) - (k : Int) := by omega
  have ht : ∀ w, Calls Tryz.prog 22 #[.string s, .int .i64 1, .int .i64 k, .int .i64 ((k : Int) + 3)] w fun r w' => r = .returned (.agg #[.int .i64 1, .string (mkb ((s.data.toList.drop k).take 3)), .int .i64 k, .int .i64 ((k : Int) + 3)]) ∧ Below w.heap.size w w' := fun w => rtok_any (kd := 1) (m := 3) hl3 (by omega) w
  clear hp
  go_enter Tryz.func7, Tryz.ntmps7
  go_wp2_with fail
  (with_reducible refine (r1 _).mono ?_)
  rintro e w' ⟨rfl, rfl⟩
  go_wp2_with fail
  (with_reducible refine (ht _).mono ?_)
  rintro e w1 ⟨rfl, hb1⟩
  obtain ⟨c0, c1, c2, c3, f0, f1, f2, f3⟩ := ((B4.new w (.int .i64 0) (.string ⟨#[]⟩) (.int .i64 0) (.int .i64 0) 26).below hb1)
  have hb := (bel_trans (bel_alloc (Below.refl _ w) _) hb1)
  clear hb1
  go_wp2
  refine body_box rfl ⟨c0, c1, c2, c3, f0, f1, f2, f3⟩ rfl rfl ?_
  exact ⟨rfl, bel_set4 hb (Nat.le_refl _) _ _ _ _⟩
set_option maxHeartbeats 4000000 in
theorem rone_dot {s : ByteArray} {k : Nat} {c : UInt8} (hs : s.size ≤ 1000) (hk : k < s.size) (hc : s[k] = c) (h46 : c = 46) (hp : d3.isPrefixOf (s.data.toList.drop k) = false) (w : World) :
    Calls Tryz.prog 7 #[.string s, .int .i64 k] w fun r w' => r = tokE 0 ⟨#[]⟩ 0 0 2 k ∧ Below w.heap.size w w' := by
  subst h46
  have r1 : ∀ w, Calls Tryz.prog 20 #[.int .u8 46] w fun e w' => e = .returned (.bool false) ∧ w = w' := fun w => rbg (c := 46) (by decide) w
  by_cases hl3 : k + 3 ≤ s.size
  · have hq : ((s.extract k (k + 3)).toList == [46, 46, 46]) = false := (pre3 (p := [46, 46, 46]) rfl).trans hp
    have g3 : (3 : Int) ≤ (s.size : Int) - (k : Int) := by omega
    clear hp
    go_enter Tryz.func7, Tryz.ntmps7
    go_wp2_with fail
    (with_reducible refine (r1 _).mono ?_)
    rintro e w' ⟨rfl, rfl⟩
    go_wp2
    go_returns
    exact ⟨rfl, by go_grown⟩
  · have g3 : ¬ (3 : Int) ≤ (s.size : Int) - (k : Int) := by omega
    clear hp
    go_enter Tryz.func7, Tryz.ntmps7
    go_wp2_with fail
    (with_reducible refine (r1 _).mono ?_)
    rintro e w' ⟨rfl, rfl⟩
    go_wp2
    go_returns
    exact ⟨rfl, by go_grown⟩
end Go.Proofs.YtcedfonkahffcaaGreat

/- The reference's One (copperplateref09), where a number begins. -/
namespace Go.Proofs.YtcedfonkahffcaaGreat
open Go.RowKit
set_option linter.unusedVariables false
set_option maxRecDepth 100000

set_option maxHeartbeats 4000000 in
theorem rone_num_ok {s : ByteArray} {k : Nat} {c : UInt8} (hs : s.size ≤ 1000) (hk : k < s.size) (hc : s[k] = c) (hnum : c = 45 ∨ Sc.dgI c.toNat = true) {m : Nat} {kd : Int} (hn : Sc.numA s.data.toList k = ⟨kd, (k : Int) + (m : Int), true⟩) (hle : k + m ≤ s.size) (w : World) :
    Calls Tryz.prog 7 #[.string s, .int .i64 k] w fun r w' => r = tokE kd (mkb ((s.data.toList.drop k).take m)) k ((k : Int) + (m : Int)) 0 ((k : Int) + (m : Int)) ∧ Below w.heap.size w w' := by
  have r2 := fun w => Sc.rnumber_any s k w (by omega)
  rw [hn] at r2
  unfold Sc.Nm.end at r2
  have ht := fun w => rtok_any (kd := kd) hle (by omega) w
  have hcs : c = 45 ∨ c = 48 ∨ c = 49 ∨ c = 50 ∨ c = 51 ∨ c = 52 ∨ c = 53 ∨ c = 54 ∨ c = 55 ∨ c = 56 ∨ c = 57 := by
    rcases hnum with h | h
    · exact .inl h
    · have h2 := (Sc.dg_iff _).1 h
      have key : ∀ n : Nat, c.toNat = n → c = UInt8.ofNat n := fun n e => by rw [← e]; simp
      have h3 : c.toNat = 48 ∨ c.toNat = 49 ∨ c.toNat = 50 ∨ c.toNat = 51 ∨ c.toNat = 52 ∨ c.toNat = 53 ∨ c.toNat = 54 ∨ c.toNat = 55 ∨ c.toNat = 56 ∨ c.toNat = 57 := by omega
      rcases h3 with e | e | e | e | e | e | e | e | e | e
      all_goals (have := key _ e; subst this; decide)
  clear hnum hn
  have rb := fun (c : UInt8) (h : Sc.bgI c.toNat = false) w => rbg h w
  rcases hcs with rfl | rfl | rfl | rfl | rfl | rfl | rfl | rfl | rfl | rfl | rfl
  · have r1 : ∀ w, Calls Tryz.prog 20 #[.int .u8 45] w fun e w' => e = .returned (.bool false) ∧ w = w' := rb 45 (by decide)
    clear rb
    go_enter Tryz.func7, Tryz.ntmps7
    go_wp2_with fail
    (with_reducible refine (r1 _).mono ?_)
    rintro e w' ⟨rfl, rfl⟩
    go_wp2_with fail
    (with_reducible refine (r2 _).mono ?_)
    rintro e w1 ⟨rfl, hb1⟩
    go_wp2_with fail
    (with_reducible refine (ht _).mono ?_)
    rintro e w2 ⟨rfl, hb2⟩
    obtain ⟨c0, c1, c2, c3, f0, f1, f2, f3⟩ := (((B4.new w (.int .i64 0) (.string ⟨#[]⟩) (.int .i64 0) (.int .i64 0) 26).below hb1).below hb2)
    have hb := (bel_trans (bel_trans (bel_alloc (Below.refl _ w) _) hb1) hb2)
    clear hb1 hb2
    go_wp2
    refine body_box rfl ⟨c0, c1, c2, c3, f0, f1, f2, f3⟩ rfl rfl ?_
    exact ⟨rfl, bel_set4 hb (Nat.le_refl _) _ _ _ _⟩
  · have r1 : ∀ w, Calls Tryz.prog 20 #[.int .u8 48] w fun e w' => e = .returned (.bool false) ∧ w = w' := rb 48 (by decide)
    clear rb
    go_enter Tryz.func7, Tryz.ntmps7
    go_wp2_with fail
    (with_reducible refine (r1 _).mono ?_)
    rintro e w' ⟨rfl, rfl⟩
    go_wp2_with fail
    (with_reducible refine (r2 _).mono ?_)
    rintro e w1 ⟨rfl, hb1⟩
    go_wp2_with fail
    (with_reducible refine (ht _).mono ?_)
    rintro e w2 ⟨rfl, hb2⟩
    obtain ⟨c0, c1, c2, c3, f0, f1, f2, f3⟩ := (((B4.new w (.int .i64 0) (.string ⟨#[]⟩) (.int .i64 0) (.int .i64 0) 26).below hb1).below hb2)
    have hb := (bel_trans (bel_trans (bel_alloc (Below.refl _ w) _) hb1) hb2)
    clear hb1 hb2
    go_wp2
    refine body_box rfl ⟨c0, c1, c2, c3, f0, f1, f2, f3⟩ rfl rfl ?_
    exact ⟨rfl, bel_set4 hb (Nat.le_refl _) _ _ _ _⟩
  · have r1 : ∀ w, Calls Tryz.prog 20 #[.int .u8 49] w fun e w' => e = .returned (.bool false) ∧ w = w' := rb 49 (by decide)
    clear rb
    go_enter Tryz.func7, Tryz.ntmps7
    go_wp2_with fail
    (with_reducible refine (r1 _).mono ?_)
    rintro e w' ⟨rfl, rfl⟩
    go_wp2_with fail
    (with_reducible refine (r2 _).mono ?_)
    rintro e w1 ⟨rfl, hb1⟩
    go_wp2_with fail
    (with_reducible refine (ht _).mono ?_)
    rintro e w2 ⟨rfl, hb2⟩
    obtain ⟨c0, c1, c2, c3, f0, f1, f2, f3⟩ := (((B4.new w (.int .i64 0) (.string ⟨#[]⟩) (.int .i64 0) (.int .i64 0) 26).below hb1).below hb2)
    have hb := (bel_trans (bel_trans (bel_alloc (Below.refl _ w) _) hb1) hb2)
    clear hb1 hb2
    go_wp2
    refine body_box rfl ⟨c0, c1, c2, c3, f0, f1, f2, f3⟩ rfl rfl ?_
    exact ⟨rfl, bel_set4 hb (Nat.le_refl _) _ _ _ _⟩
  · have r1 : ∀ w, Calls Tryz.prog 20 #[.int .u8 50] w fun e w' => e = .returned (.bool false) ∧ w = w' := rb 50 (by decide)
    clear rb
    go_enter Tryz.func7, Tryz.ntmps7
    go_wp2_with fail
    (with_reducible refine (r1 _).mono ?_)
    rintro e w' ⟨rfl, rfl⟩
    go_wp2_with fail
    (with_reducible refine (r2 _).mono ?_)
    rintro e w1 ⟨rfl, hb1⟩
    go_wp2_with fail
    (with_reducible refine (ht _).mono ?_)
    rintro e w2 ⟨rfl, hb2⟩
    obtain ⟨c0, c1, c2, c3, f0, f1, f2, f3⟩ := (((B4.new w (.int .i64 0) (.string ⟨#[]⟩) (.int .i64 0) (.int .i64 0) 26).below hb1).below hb2)
    have hb := (bel_trans (bel_trans (bel_alloc (Below.refl _ w) _) hb1) hb2)
    clear hb1 hb2
    go_wp2
    refine body_box rfl ⟨c0, c1, c2, c3, f0, f1, f2, f3⟩ rfl rfl ?_
    exact ⟨rfl, bel_set4 hb (Nat.le_refl _) _ _ _ _⟩
  · have r1 : ∀ w, Calls Tryz.prog 20 #[.int .u8 51] w fun e w' => e = .returned (.bool false) ∧ w = w' := rb 51 (by decide)
    clear rb
    go_enter Tryz.func7, Tryz.ntmps7
    go_wp2_with fail
    (with_reducible refine (r1 _).mono ?_)
    rintro e w' ⟨rfl, rfl⟩
    go_wp2_with fail
    (with_reducible refine (r2 _).mono ?_)
    rintro e w1 ⟨rfl, hb1⟩
    go_wp2_with fail
    (with_reducible refine (ht _).mono ?_)
    rintro e w2 ⟨rfl, hb2⟩
    obtain ⟨c0, c1, c2, c3, f0, f1, f2, f3⟩ := (((B4.new w (.int .i64 0) (.string ⟨#[]⟩) (.int .i64 0) (.int .i64 0) 26).below hb1).below hb2)
    have hb := (bel_trans (bel_trans (bel_alloc (Below.refl _ w) _) hb1) hb2)
    clear hb1 hb2
    go_wp2
    refine body_box rfl ⟨c0, c1, c2, c3, f0, f1, f2, f3⟩ rfl rfl ?_
    exact ⟨rfl, bel_set4 hb (Nat.le_refl _) _ _ _ _⟩
  · have r1 : ∀ w, Calls Tryz.prog 20 #[.int .u8 52] w fun e w' => e = .returned (.bool false) ∧ w = w' := rb 52 (by decide)
    clear rb
    go_enter Tryz.func7, Tryz.ntmps7
    go_wp2_with fail
    (with_reducible refine (r1 _).mono ?_)
    rintro e w' ⟨rfl, rfl⟩
    go_wp2_with fail
    (with_reducible refine (r2 _).mono ?_)
    rintro e w1 ⟨rfl, hb1⟩
    go_wp2_with fail
    (with_reducible refine (ht _).mono ?_)
    rintro e w2 ⟨rfl, hb2⟩
    obtain ⟨c0, c1, c2, c3, f0, f1, f2, f3⟩ := (((B4.new w (.int .i64 0) (.string ⟨#[]⟩) (.int .i64 0) (.int .i64 0) 26).below hb1).below hb2)
    have hb := (bel_trans (bel_trans (bel_alloc (Below.refl _ w) _) hb1) hb2)
    clear hb1 hb2
    go_wp2
    refine body_box rfl ⟨c0, c1, c2, c3, f0, f1, f2, f3⟩ rfl rfl ?_
    exact ⟨rfl, bel_set4 hb (Nat.le_refl _) _ _ _ _⟩
  · have r1 : ∀ w, Calls Tryz.prog 20 #[.int .u8 53] w fun e w' => e = .returned (.bool false) ∧ w = w' := rb 53 (by decide)
    clear rb
    go_enter Tryz.func7, Tryz.ntmps7
    go_wp2_with fail
    (with_reducible refine (r1 _).mono ?_)
    rintro e w' ⟨rfl, rfl⟩
    go_wp2_with fail
    (with_reducible refine (r2 _).mono ?_)
    rintro e w1 ⟨rfl, hb1⟩
    go_wp2_with fail
    (with_reducible refine (ht _).mono ?_)
    rintro e w2 ⟨rfl, hb2⟩
    obtain ⟨c0, c1, c2, c3, f0, f1, f2, f3⟩ := (((B4.new w (.int .i64 0) (.string ⟨#[]⟩) (.int .i64 0) (.int .i64 0) 26).below hb1).below hb2)
    have hb := (bel_trans (bel_trans (bel_alloc (Below.refl _ w) _) hb1) hb2)
    clear hb1 hb2
    go_wp2
    refine body_box rfl ⟨c0, c1, c2, c3, f0, f1, f2, f3⟩ rfl rfl ?_
    exact ⟨rfl, bel_set4 hb (Nat.le_refl _) _ _ _ _⟩
  · have r1 : ∀ w, Calls Tryz.prog 20 #[.int .u8 54] w fun e w' => e = .returned (.bool false) ∧ w = w' := rb 54 (by decide)
    clear rb
    go_enter Tryz.func7, Tryz.ntmps7
    go_wp2_with fail
    (with_reducible refine (r1 _).mono ?_)
    rintro e w' ⟨rfl, rfl⟩
    go_wp2_with fail
    (with_reducible refine (r2 _).mono ?_)
    rintro e w1 ⟨rfl, hb1⟩
    go_wp2_with fail
    (with_reducible refine (ht _).mono ?_)
    rintro e w2 ⟨rfl, hb2⟩
    obtain ⟨c0, c1, c2, c3, f0, f1, f2, f3⟩ := (((B4.new w (.int .i64 0) (.string ⟨#[]⟩) (.int .i64 0) (.int .i64 0) 26).below hb1).below hb2)
    have hb := (bel_trans (bel_trans (bel_alloc (Below.refl _ w) _) hb1) hb2)
    clear hb1 hb2
    go_wp2
    refine body_box rfl ⟨c0, c1, c2, c3, f0, f1, f2, f3⟩ rfl rfl ?_
    exact ⟨rfl, bel_set4 hb (Nat.le_refl _) _ _ _ _⟩
  · have r1 : ∀ w, Calls Tryz.prog 20 #[.int .u8 55] w fun e w' => e = .returned (.bool false) ∧ w = w' := rb 55 (by decide)
    clear rb
    go_enter Tryz.func7, Tryz.ntmps7
    go_wp2_with fail
    (with_reducible refine (r1 _).mono ?_)
    rintro e w' ⟨rfl, rfl⟩
    go_wp2_with fail
    (with_reducible refine (r2 _).mono ?_)
    rintro e w1 ⟨rfl, hb1⟩
    go_wp2_with fail
    (with_reducible refine (ht _).mono ?_)
    rintro e w2 ⟨rfl, hb2⟩
    obtain ⟨c0, c1, c2, c3, f0, f1, f2, f3⟩ := (((B4.new w (.int .i64 0) (.string ⟨#[]⟩) (.int .i64 0) (.int .i64 0) 26).below hb1).below hb2)
    have hb := (bel_trans (bel_trans (bel_alloc (Below.refl _ w) _) hb1) hb2)
    clear hb1 hb2
    go_wp2
    refine body_box rfl ⟨c0, c1, c2, c3, f0, f1, f2, f3⟩ rfl rfl ?_
    exact ⟨rfl, bel_set4 hb (Nat.le_refl _) _ _ _ _⟩
  · have r1 : ∀ w, Calls Tryz.prog 20 #[.int .u8 56] w fun e w' => e = .returned (.bool false) ∧ w = w' := rb 56 (by decide)
    clear rb
    go_enter Tryz.func7, Tryz.ntmps7
    go_wp2_with fail
    (with_reducible refine (r1 _).mono ?_)
    rintro e w' ⟨rfl, rfl⟩
    go_wp2_with fail
    (with_reducible refine (r2 _).mono ?_)
    rintro e w1 ⟨rfl, hb1⟩
    go_wp2_with fail
    (with_reducible refine (ht _).mono ?_)
    rintro e w2 ⟨rfl, hb2⟩
    obtain ⟨c0, c1, c2, c3, f0, f1, f2, f3⟩ := (((B4.new w (.int .i64 0) (.string ⟨#[]⟩) (.int .i64 0) (.int .i64 0) 26).below hb1).below hb2)
    have hb := (bel_trans (bel_trans (bel_alloc (Below.refl _ w) _) hb1) hb2)
    clear hb1 hb2
    go_wp2
    refine body_box rfl ⟨c0, c1, c2, c3, f0, f1, f2, f3⟩ rfl rfl ?_
    exact ⟨rfl, bel_set4 hb (Nat.le_refl _) _ _ _ _⟩
  · have r1 : ∀ w, Calls Tryz.prog 20 #[.int .u8 57] w fun e w' => e = .returned (.bool false) ∧ w = w' := rb 57 (by decide)
    clear rb
    go_enter Tryz.func7, Tryz.ntmps7
    go_wp2_with fail
    (with_reducible refine (r1 _).mono ?_)
    rintro e w' ⟨rfl, rfl⟩
    go_wp2_with fail
    (with_reducible refine (r2 _).mono ?_)
    rintro e w1 ⟨rfl, hb1⟩
    go_wp2_with fail
    (with_reducible refine (ht _).mono ?_)
    rintro e w2 ⟨rfl, hb2⟩
    obtain ⟨c0, c1, c2, c3, f0, f1, f2, f3⟩ := (((B4.new w (.int .i64 0) (.string ⟨#[]⟩) (.int .i64 0) (.int .i64 0) 26).below hb1).below hb2)
    have hb := (bel_trans (bel_trans (bel_alloc (Below.refl _ w) _) hb1) hb2)
    clear hb1 hb2
    go_wp2
    refine body_box rfl ⟨c0, c1, c2, c3, f0, f1, f2, f3⟩ rfl rfl ?_
    exact ⟨rfl, bel_set4 hb (Nat.le_refl _) _ _ _ _⟩
set_option maxHeartbeats 4000000 in
theorem rone_num_no {s : ByteArray} {k : Nat} {c : UInt8} (hs : s.size ≤ 1000) (hk : k < s.size) (hc : s[k] = c) (hnum : c = 45 ∨ Sc.dgI c.toNat = true) {m : Nat} {kd : Int} (hn : Sc.numA s.data.toList k = ⟨kd, (k : Int) + (m : Int), false⟩) (w : World) :
    Calls Tryz.prog 7 #[.string s, .int .i64 k] w fun r w' => r = tokE 0 ⟨#[]⟩ 0 0 3 ((k : Int) + (m : Int)) ∧ Below w.heap.size w w' := by
  have r2 := fun w => Sc.rnumber_any s k w (by omega)
  rw [hn] at r2
  unfold Sc.Nm.end at r2
  have hcs : c = 45 ∨ c = 48 ∨ c = 49 ∨ c = 50 ∨ c = 51 ∨ c = 52 ∨ c = 53 ∨ c = 54 ∨ c = 55 ∨ c = 56 ∨ c = 57 := by
    rcases hnum with h | h
    · exact .inl h
    · have h2 := (Sc.dg_iff _).1 h
      have key : ∀ n : Nat, c.toNat = n → c = UInt8.ofNat n := fun n e => by rw [← e]; simp
      have h3 : c.toNat = 48 ∨ c.toNat = 49 ∨ c.toNat = 50 ∨ c.toNat = 51 ∨ c.toNat = 52 ∨ c.toNat = 53 ∨ c.toNat = 54 ∨ c.toNat = 55 ∨ c.toNat = 56 ∨ c.toNat = 57 := by omega
      rcases h3 with e | e | e | e | e | e | e | e | e | e
      all_goals (have := key _ e; subst this; decide)
  clear hnum hn
  have rb := fun (c : UInt8) (h : Sc.bgI c.toNat = false) w => rbg h w
  rcases hcs with rfl | rfl | rfl | rfl | rfl | rfl | rfl | rfl | rfl | rfl | rfl
  · have r1 : ∀ w, Calls Tryz.prog 20 #[.int .u8 45] w fun e w' => e = .returned (.bool false) ∧ w = w' := rb 45 (by decide)
    clear rb
    go_enter Tryz.func7, Tryz.ntmps7
    go_wp2_with fail
    (with_reducible refine (r1 _).mono ?_)
    rintro e w' ⟨rfl, rfl⟩
    go_wp2_with fail
    (with_reducible refine (r2 _).mono ?_)
    rintro e w1 ⟨rfl, hb1⟩
    obtain ⟨c0, c1, c2, c3, f0, f1, f2, f3⟩ := ((B4.new w (.int .i64 0) (.string ⟨#[]⟩) (.int .i64 0) (.int .i64 0) 26).below hb1)
    have hb := (bel_trans (bel_alloc (Below.refl _ w) _) hb1)
    clear hb1
    go_wp2
    refine body_box rfl ⟨c0, c1, c2, c3, f0, f1, f2, f3⟩ rfl rfl ?_
    exact ⟨rfl, bel_set4 hb (Nat.le_refl _) _ _ _ _⟩
  · have r1 : ∀ w, Calls Tryz.prog 20 #[.int .u8 48] w fun e w' => e = .returned (.bool false) ∧ w = w' := rb 48 (by decide)
    clear rb
    go_enter Tryz.func7, Tryz.ntmps7
    go_wp2_with fail
    (with_reducible refine (r1 _).mono ?_)
    rintro e w' ⟨rfl, rfl⟩
    go_wp2_with fail
    (with_reducible refine (r2 _).mono ?_)
    rintro e w1 ⟨rfl, hb1⟩
    obtain ⟨c0, c1, c2, c3, f0, f1, f2, f3⟩ := ((B4.new w (.int .i64 0) (.string ⟨#[]⟩) (.int .i64 0) (.int .i64 0) 26).below hb1)
    have hb := (bel_trans (bel_alloc (Below.refl _ w) _) hb1)
    clear hb1
    go_wp2
    refine body_box rfl ⟨c0, c1, c2, c3, f0, f1, f2, f3⟩ rfl rfl ?_
    exact ⟨rfl, bel_set4 hb (Nat.le_refl _) _ _ _ _⟩
  · have r1 : ∀ w, Calls Tryz.prog 20 #[.int .u8 49] w fun e w' => e = .returned (.bool false) ∧ w = w' := rb 49 (by decide)
    clear rb
    go_enter Tryz.func7, Tryz.ntmps7
    go_wp2_with fail
    (with_reducible refine (r1 _).mono ?_)
    rintro e w' ⟨rfl, rfl⟩
    go_wp2_with fail
    (with_reducible refine (r2 _).mono ?_)
    rintro e w1 ⟨rfl, hb1⟩
    obtain ⟨c0, c1, c2, c3, f0, f1, f2, f3⟩ := ((B4.new w (.int .i64 0) (.string ⟨#[]⟩) (.int .i64 0) (.int .i64 0) 26).below hb1)
    have hb := (bel_trans (bel_alloc (Below.refl _ w) _) hb1)
    clear hb1
    go_wp2
    refine body_box rfl ⟨c0, c1, c2, c3, f0, f1, f2, f3⟩ rfl rfl ?_
    exact ⟨rfl, bel_set4 hb (Nat.le_refl _) _ _ _ _⟩
  · have r1 : ∀ w, Calls Tryz.prog 20 #[.int .u8 50] w fun e w' => e = .returned (.bool false) ∧ w = w' := rb 50 (by decide)
    clear rb
    go_enter Tryz.func7, Tryz.ntmps7
    go_wp2_with fail
    (with_reducible refine (r1 _).mono ?_)
    rintro e w' ⟨rfl, rfl⟩
    go_wp2_with fail
    (with_reducible refine (r2 _).mono ?_)
    rintro e w1 ⟨rfl, hb1⟩
    obtain ⟨c0, c1, c2, c3, f0, f1, f2, f3⟩ := ((B4.new w (.int .i64 0) (.string ⟨#[]⟩) (.int .i64 0) (.int .i64 0) 26).below hb1)
    have hb := (bel_trans (bel_alloc (Below.refl _ w) _) hb1)
    clear hb1
    go_wp2
    refine body_box rfl ⟨c0, c1, c2, c3, f0, f1, f2, f3⟩ rfl rfl ?_
    exact ⟨rfl, bel_set4 hb (Nat.le_refl _) _ _ _ _⟩
  · have r1 : ∀ w, Calls Tryz.prog 20 #[.int .u8 51] w fun e w' => e = .returned (.bool false) ∧ w = w' := rb 51 (by decide)
    clear rb
    go_enter Tryz.func7, Tryz.ntmps7
    go_wp2_with fail
    (with_reducible refine (r1 _).mono ?_)
    rintro e w' ⟨rfl, rfl⟩
    go_wp2_with fail
    (with_reducible refine (r2 _).mono ?_)
    rintro e w1 ⟨rfl, hb1⟩
    obtain ⟨c0, c1, c2, c3, f0, f1, f2, f3⟩ := ((B4.new w (.int .i64 0) (.string ⟨#[]⟩) (.int .i64 0) (.int .i64 0) 26).below hb1)
    have hb := (bel_trans (bel_alloc (Below.refl _ w) _) hb1)
    clear hb1
    go_wp2
    refine body_box rfl ⟨c0, c1, c2, c3, f0, f1, f2, f3⟩ rfl rfl ?_
    exact ⟨rfl, bel_set4 hb (Nat.le_refl _) _ _ _ _⟩
  · have r1 : ∀ w, Calls Tryz.prog 20 #[.int .u8 52] w fun e w' => e = .returned (.bool false) ∧ w = w' := rb 52 (by decide)
    clear rb
    go_enter Tryz.func7, Tryz.ntmps7
    go_wp2_with fail
    (with_reducible refine (r1 _).mono ?_)
    rintro e w' ⟨rfl, rfl⟩
    go_wp2_with fail
    (with_reducible refine (r2 _).mono ?_)
    rintro e w1 ⟨rfl, hb1⟩
    obtain ⟨c0, c1, c2, c3, f0, f1, f2, f3⟩ := ((B4.new w (.int .i64 0) (.string ⟨#[]⟩) (.int .i64 0) (.int .i64 0) 26).below hb1)
    have hb := (bel_trans (bel_alloc (Below.refl _ w) _) hb1)
    clear hb1
    go_wp2
    refine body_box rfl ⟨c0, c1, c2, c3, f0, f1, f2, f3⟩ rfl rfl ?_
    exact ⟨rfl, bel_set4 hb (Nat.le_refl _) _ _ _ _⟩
  · have r1 : ∀ w, Calls Tryz.prog 20 #[.int .u8 53] w fun e w' => e = .returned (.bool false) ∧ w = w' := rb 53 (by decide)
    clear rb
    go_enter Tryz.func7, Tryz.ntmps7
    go_wp2_with fail
    (with_reducible refine (r1 _).mono ?_)
    rintro e w' ⟨rfl, rfl⟩
    go_wp2_with fail
    (with_reducible refine (r2 _).mono ?_)
    rintro e w1 ⟨rfl, hb1⟩
    obtain ⟨c0, c1, c2, c3, f0, f1, f2, f3⟩ := ((B4.new w (.int .i64 0) (.string ⟨#[]⟩) (.int .i64 0) (.int .i64 0) 26).below hb1)
    have hb := (bel_trans (bel_alloc (Below.refl _ w) _) hb1)
    clear hb1
    go_wp2
    refine body_box rfl ⟨c0, c1, c2, c3, f0, f1, f2, f3⟩ rfl rfl ?_
    exact ⟨rfl, bel_set4 hb (Nat.le_refl _) _ _ _ _⟩
  · have r1 : ∀ w, Calls Tryz.prog 20 #[.int .u8 54] w fun e w' => e = .returned (.bool false) ∧ w = w' := rb 54 (by decide)
    clear rb
    go_enter Tryz.func7, Tryz.ntmps7
    go_wp2_with fail
    (with_reducible refine (r1 _).mono ?_)
    rintro e w' ⟨rfl, rfl⟩
    go_wp2_with fail
    (with_reducible refine (r2 _).mono ?_)
    rintro e w1 ⟨rfl, hb1⟩
    obtain ⟨c0, c1, c2, c3, f0, f1, f2, f3⟩ := ((B4.new w (.int .i64 0) (.string ⟨#[]⟩) (.int .i64 0) (.int .i64 0) 26).below hb1)
    have hb := (bel_trans (bel_alloc (Below.refl _ w) _) hb1)
    clear hb1
    go_wp2
    refine body_box rfl ⟨c0, c1, c2, c3, f0, f1, f2, f3⟩ rfl rfl ?_
    exact ⟨rfl, bel_set4 hb (Nat.le_refl _) _ _ _ _⟩
  · have r1 : ∀ w, Calls Tryz.prog 20 #[.int .u8 55] w fun e w' => e = .returned (.bool false) ∧ w = w' := rb 55 (by decide)
    clear rb
    go_enter Tryz.func7, Tryz.ntmps7
    go_wp2_with fail
    (with_reducible refine (r1 _).mono ?_)
    rintro e w' ⟨rfl, rfl⟩
    go_wp2_with fail
    (with_reducible refine (r2 _).mono ?_)
    rintro e w1 ⟨rfl, hb1⟩
    obtain ⟨c0, c1, c2, c3, f0, f1, f2, f3⟩ := ((B4.new w (.int .i64 0) (.string ⟨#[]⟩) (.int .i64 0) (.int .i64 0) 26).below hb1)
    have hb := (bel_trans (bel_alloc (Below.refl _ w) _) hb1)
    clear hb1
    go_wp2
    refine body_box rfl ⟨c0, c1, c2, c3, f0, f1, f2, f3⟩ rfl rfl ?_
    exact ⟨rfl, bel_set4 hb (Nat.le_refl _) _ _ _ _⟩
  · have r1 : ∀ w, Calls Tryz.prog 20 #[.int .u8 56] w fun e w' => e = .returned (.bool false) ∧ w = w' := rb 56 (by decide)
    clear rb
    go_enter Tryz.func7, Tryz.ntmps7
    go_wp2_with fail
    (with_reducible refine (r1 _).mono ?_)
    rintro e w' ⟨rfl, rfl⟩
    go_wp2_with fail
    (with_reducible refine (r2 _).mono ?_)
    rintro e w1 ⟨rfl, hb1⟩
    obtain ⟨c0, c1, c2, c3, f0, f1, f2, f3⟩ := ((B4.new w (.int .i64 0) (.string ⟨#[]⟩) (.int .i64 0) (.int .i64 0) 26).below hb1)
    have hb := (bel_trans (bel_alloc (Below.refl _ w) _) hb1)
    clear hb1
    go_wp2
    refine body_box rfl ⟨c0, c1, c2, c3, f0, f1, f2, f3⟩ rfl rfl ?_
    exact ⟨rfl, bel_set4 hb (Nat.le_refl _) _ _ _ _⟩
  · have r1 : ∀ w, Calls Tryz.prog 20 #[.int .u8 57] w fun e w' => e = .returned (.bool false) ∧ w = w' := rb 57 (by decide)
    clear rb
    go_enter Tryz.func7, Tryz.ntmps7
    go_wp2_with fail
    (with_reducible refine (r1 _).mono ?_)
    rintro e w' ⟨rfl, rfl⟩
    go_wp2_with fail
    (with_reducible refine (r2 _).mono ?_)
    rintro e w1 ⟨rfl, hb1⟩
    obtain ⟨c0, c1, c2, c3, f0, f1, f2, f3⟩ := ((B4.new w (.int .i64 0) (.string ⟨#[]⟩) (.int .i64 0) (.int .i64 0) 26).below hb1)
    have hb := (bel_trans (bel_alloc (Below.refl _ w) _) hb1)
    clear hb1
    go_wp2
    refine body_box rfl ⟨c0, c1, c2, c3, f0, f1, f2, f3⟩ rfl rfl ?_
    exact ⟨rfl, bel_set4 hb (Nat.le_refl _) _ _ _ _⟩
end Go.Proofs.YtcedfonkahffcaaGreat
