/- Contracts of package text's functions: coded, escaped. -/
import Derived.Test.YtjfhcgolgabkkaaDoorTextA
import Derived.Test.YtjfhcgolgabkkaaDoorBytes
import Derived.Test.YtjfhcgolgabkkaaDoorUtfH
namespace Go.Proofs.YtjfhcgolgabkkaaDoor
open Go.RowKit
set_option linter.unusedVariables false
attribute [local go_sem] conv1

/-- How a piece ends: what it tells, and where it ends; or it goes wrong at i. -/
def escE (o : Option (List UInt8 × Nat)) (i : Int) : Ending :=
  match o with
  | some (t, m) => .returned (.tuple #[.string (mkb t), .int .i64 (i + (m : Int))])
  | none => wrE i

theorem code_y2 {s : ByteArray} {k n : Nat} {i : Int} (hi : i = k) (h : cod (s.data.toList.drop k) = some n) (hs : s.size ≤ 1000000) (hk : k ≤ 2000000) (w : World) :
    Calls Tryd.prog 84 #[.string s, .int .i64 i] w fun e w' => e = .returned (.tuple #[.int .i64 (n : Int), .bool true]) ∧ w = w' := by
  subst hi; exact code_y h hs hk w
theorem code_n2 {s : ByteArray} {k : Nat} {i : Int} (hi : i = k) (h : cod (s.data.toList.drop k) = none) (hs : s.size ≤ 1000000) (hk : k ≤ 2000000) (w : World) :
    Calls Tryd.prog 84 #[.string s, .int .i64 i] w fun e w' => e = .returned (.tuple #[.int .i64 0, .bool false]) ∧ w = w' := by
  subst hi; exact code_n h hs hk w
theorem put_b {r : Int} {c : Nat} (hr : r = c) (h : srcB c = true) (w : World) :
    Calls Tryd.prog 52 #[.int .i64 r] w fun e w' => e = .returned (.string (mkb (enc c))) ∧ w = w' := by
  subst hr
  have e : putA (c : Int) = mkb (enc c) := by unfold putA mkb; rw [putL_yes h, Int.toNat_natCast]
  have := put_any c w
  rwa [e] at this

set_option maxHeartbeats 1000000 in
theorem coded_any (s : ByteArray) (k : Nat) (w : World) (hs : s.size ≤ 1000000) (hk : k ≤ 1000000) :
    Calls Tryd.prog 77 #[.string s, .int .i64 k] w fun e w' => e = escE (uni (s.data.toList.drop k)) k ∧ Below w.heap.size w w' := by
  have e6 : (s.data.toList.drop k).drop 6 = s.data.toList.drop (k + 6) := by rw [List.drop_drop]
  cases h1 : cod (s.data.toList.drop k) with
  | none =>
    rw [uni_n1 h1]
    have r1 := code_n h1 hs (by omega)
    clear h1 e6
    go_enter Tryd.func77, Tryd.ntmps77
    go_wp2_with fail
    (with_reducible refine (r1 _).mono ?_)
    rintro e w' ⟨rfl, rfl⟩
    go_wp2
    exact ⟨rfl, rfl, Below.refl _ _⟩
  | some n =>
    have r1 := code_y h1 hs (by omega)
    have bn : n < 65536 := by obtain ⟨t, _, ht⟩ := cod_some h1; exact hx4_lt ht
    cases h2 : loB n
    · have r2 := low_b h2
      cases h3 : hiB n
      · have r3 := high_b h3
        rw [uni_one h1 h2 h3]
        by_cases h4 : n < 32
        · have e1 : putC n = [UInt8.ofNat n] := by unfold putC; rw [if_pos h4]
          have e2 : IntKind.u8.wrap (n : Int) = (n : Int) := by unfold IntKind.wrap; simp [IntKind.bits, IntKind.signed]; omega
          rw [e1]
          clear h1 h2 h3 e1 e6
          go_enter Tryd.func77, Tryd.ntmps77
          go_wp2_with fail
          (with_reducible refine (r1 _).mono ?_)
          rintro e w' ⟨rfl, rfl⟩
          go_wp2_with fail
          (with_reducible refine (r2 _).mono ?_)
          rintro e w' ⟨rfl, rfl⟩
          go_wp2_with fail
          (with_reducible refine (r3 _).mono ?_)
          rintro e w' ⟨rfl, rfl⟩
          go_wp2
          go_ret2
          exact ⟨rfl, (Below.refl _ _).alloc (Nat.le_refl _) _⟩
        · have e1 : putC n = enc n := by unfold putC; rw [if_neg h4]
          have r4 := put_b rfl (put_src bn h2 h3 (by omega))
          have g4 : ¬ (n : Int) < 32 := by omega
          rw [e1]
          clear h1 h2 h3 e1 e6
          go_enter Tryd.func77, Tryd.ntmps77
          go_wp2_with fail
          (with_reducible refine (r1 _).mono ?_)
          rintro e w' ⟨rfl, rfl⟩
          go_wp2_with fail
          (with_reducible refine (r2 _).mono ?_)
          rintro e w' ⟨rfl, rfl⟩
          go_wp2_with fail
          (with_reducible refine (r3 _).mono ?_)
          rintro e w' ⟨rfl, rfl⟩
          go_wp2_with fail
          (with_reducible refine (r4 _).mono ?_)
          rintro e w' ⟨rfl, rfl⟩
          go_wp2
          go_ret2
          exact ⟨rfl, Below.refl _ _⟩
      · have r3 := high_b h3
        cases h4 : cod (s.data.toList.drop (k + 6)) with
        | none =>
          rw [uni_n3 h1 h3 (by rw [e6]; exact h4)]
          have r4 := code_n2 (i := (k : Int) + 6) (by omega) h4 hs (by omega)
          clear h1 h2 h3 h4 e6
          go_enter Tryd.func77, Tryd.ntmps77
          go_wp2_with fail
          (with_reducible refine (r1 _).mono ?_)
          rintro e w' ⟨rfl, rfl⟩
          go_wp2_with fail
          (with_reducible refine (r2 _).mono ?_)
          rintro e w' ⟨rfl, rfl⟩
          go_wp2_with fail
          (with_reducible refine (r3 _).mono ?_)
          rintro e w' ⟨rfl, rfl⟩
          go_wp2_with fail
          (with_reducible refine (r4 _).mono ?_)
          rintro e w' ⟨rfl, rfl⟩
          go_wp2
          exact ⟨rfl, rfl, Below.refl _ _⟩
        | some m =>
          have r4 := code_y2 (i := (k : Int) + 6) (by omega) h4 hs (by omega)
          have bm : m < 65536 := by obtain ⟨t, _, ht⟩ := cod_some h4; exact hx4_lt ht
          cases h5 : loB m
          · have r5 := low_b h5
            rw [uni_n4 h1 h3 (by rw [e6]; exact h4) h5]
            clear h1 h2 h3 h4 h5 e6
            go_enter Tryd.func77, Tryd.ntmps77
            go_wp2_with fail
            (with_reducible refine (r1 _).mono ?_)
            rintro e w' ⟨rfl, rfl⟩
            go_wp2_with fail
            (with_reducible refine (r2 _).mono ?_)
            rintro e w' ⟨rfl, rfl⟩
            go_wp2_with fail
            (with_reducible refine (r3 _).mono ?_)
            rintro e w' ⟨rfl, rfl⟩
            go_wp2_with fail
            (with_reducible refine (r4 _).mono ?_)
            rintro e w' ⟨rfl, rfl⟩
            go_wp2_with fail
            (with_reducible refine (r5 _).mono ?_)
            rintro e w' ⟨rfl, rfl⟩
            go_wp2
            exact ⟨rfl, rfl, Below.refl _ _⟩
          · have r5 := low_b h5
            rw [uni_two h1 h3 (by rw [e6]; exact h4) h5]
            have t1 := (hiB_iff).1 h3
            have t2 := (loB_iff).1 h5
            have r6 := put_b (r := 65536 + 1024 * ((n : Int) - 55296) + (m : Int) - 56320) (c := two n m) (by unfold two; omega) (two_bd h3 h5).2.2
            clear h1 h2 h3 h4 h5 e6
            go_enter Tryd.func77, Tryd.ntmps77
            go_wp2_with fail
            (with_reducible refine (r1 _).mono ?_)
            rintro e w' ⟨rfl, rfl⟩
            go_wp2_with fail
            (with_reducible refine (r2 _).mono ?_)
            rintro e w' ⟨rfl, rfl⟩
            go_wp2_with fail
            (with_reducible refine (r3 _).mono ?_)
            rintro e w' ⟨rfl, rfl⟩
            go_wp2_with fail
            (with_reducible refine (r4 _).mono ?_)
            rintro e w' ⟨rfl, rfl⟩
            go_wp2_with fail
            (with_reducible refine (r5 _).mono ?_)
            rintro e w' ⟨rfl, rfl⟩
            go_wp2_with fail
            (with_reducible refine (r6 _).mono ?_)
            rintro e w' ⟨rfl, rfl⟩
            go_wp2
            go_ret2
            exact ⟨rfl, Below.refl _ _⟩
    · have r2 := low_b h2
      rw [uni_n2 h1 h2]
      clear h1 h2 e6
      go_enter Tryd.func77, Tryd.ntmps77
      go_wp2_with fail
      (with_reducible refine (r1 _).mono ?_)
      rintro e w' ⟨rfl, rfl⟩
      go_wp2_with fail
      (with_reducible refine (r2 _).mono ?_)
      rintro e w' ⟨rfl, rfl⟩
      go_wp2
      exact ⟨rfl, rfl, Below.refl _ _⟩

theorem esc_no {l : List UInt8} (h : l.head? ≠ some 92) : esc l = none := by
  cases e : esc l with
  | none => rfl
  | some q => obtain ⟨t, k⟩ := q; exact absurd (esc_head e) h
theorem escA_neg {l : List UInt8} {i : Int} (h : i < 0) : escA l i = none := by unfold escA; rw [if_neg (by omega)]
theorem escA_nat {l : List UInt8} {k : Nat} : escA l k = esc (l.drop k) := by unfold escA; rw [if_pos (by omega)]; rfl
theorem escA_no {l : List UInt8} {i : Int} (h : stI l i 92 = false) : escA l i = none := by
  by_cases h0 : 0 ≤ i
  · obtain ⟨k, rfl⟩ := Int.eq_ofNat_of_zero_le h0
    rw [escA_nat]; exact esc_no (not_st (c := 92) h)
  · exact escA_neg (by omega)
theorem drop_two {s : ByteArray} {k : Nat} (h : (s.data.toList.drop k).head? = some 92) (h1 : k + 1 < s.size) : s.data.toList.drop k = 92 :: s[k + 1] :: s.data.toList.drop (k + 2) := by
  have hsz : s.data.toList.length = s.size := (Lib.size_eq s).symm
  rw [drop_cons h, List.drop_eq_getElem_cons (by omega)]; rfl
theorem extract_one {s : ByteArray} {k : Nat} (h : k + 1 < s.size) : s.extract (k + 1) (k + 2) = mkb [s[k + 1]] := by
  have hsz : s.data.toList.length = s.size := (Lib.size_eq s).symm
  rw [← mkb_of (s.extract (k + 1) (k + 2)), Lib.extract_data]
  have e : k + 2 - (k + 1) = 1 := by omega
  rw [e, List.drop_eq_getElem_cons (by omega)]; rfl
theorem esc_two {X : ByteArray} {t : List UInt8} {i : Int} (h : X = mkb t) : Ending.returned (.tuple #[.string X, .int .i64 (i + 2)]) = escE (some (t, 2)) i := by rw [h]; rfl
theorem byte_of {c : UInt8} {n : Nat} (h : c.toNat = n) : c = UInt8.ofNat n := by rw [← h]; simp
theorem shB_none {c : UInt8} (h : ∀ n ∈ [34, 92, 47, 98, 102, 110, 114, 116], c.toNat ≠ n) : shB c = none := by
  have g : ∀ n : Nat, n ∈ [34, 92, 47, 98, 102, 110, 114, 116] → c ≠ UInt8.ofNat n := fun n hn e => by
    have h9 : n < 256 := by simp at hn; omega
    refine h n hn ?_; rw [e]; simp; omega
  have g1 : c ≠ 34 := g 34 (by simp)
  have g2 : c ≠ 92 := g 92 (by simp)
  have g3 : c ≠ 47 := g 47 (by simp)
  have g4 : c ≠ 98 := g 98 (by simp)
  have g5 : c ≠ 102 := g 102 (by simp)
  have g6 : c ≠ 110 := g 110 (by simp)
  have g7 : c ≠ 114 := g 114 (by simp)
  have g8 : c ≠ 116 := g 116 (by simp)
  unfold shB
  rw [if_neg (fun h => h.elim g1 (fun h => h.elim g2 g3)), if_neg g4, if_neg g5, if_neg g6, if_neg g7, if_neg g8]

set_option maxHeartbeats 2000000 in
theorem escaped_any (s : ByteArray) (i : Int) (w : World) (hs : s.size ≤ 1000000) :
    Calls Tryd.prog 69 #[.string s, .int .i64 i] w fun e w' => e = escE (escA s.data.toList i) i ∧ Below w.heap.size w w' := by
  have hsz : s.data.toList.length = s.size := (Lib.size_eq s).symm
  cases h1 : stI s.data.toList i 92
  · rw [escA_no h1]
    have r1 := stands_b h1
    clear h1 hsz
    go_enter Tryd.func69, Tryd.ntmps69
    go_wp2_with fail
    (with_reducible refine (r1 _).mono ?_)
    rintro e w' ⟨rfl, rfl⟩
    go_wp2
    exact ⟨rfl, rfl, Below.refl _ _⟩
  have hin := stI_lt h1
  obtain ⟨k, rfl⟩ := Int.eq_ofNat_of_zero_le hin.1
  have r1 := stands_b h1
  have hk : k < s.size := by omega
  have hh := (stI_head (c := 92)).1 h1
  rw [escA_nat]
  clear h1 hin
  by_cases h2 : k + 1 = s.size
  · have t1 : (((k : Int) + 1) == (s.size : Int)) = true := by simp; omega
    have e1 : esc (s.data.toList.drop k) = none := by
      rw [drop_cons hh, List.drop_eq_nil_of_le (by omega)]; rfl
    rw [e1]
    clear e1 h2 hsz hh
    go_enter Tryd.func69, Tryd.ntmps69
    go_wp2_with fail
    (with_reducible refine (r1 _).mono ?_)
    rintro e w' ⟨rfl, rfl⟩
    go_wp2
    exact ⟨rfl, rfl, Below.refl _ _⟩
  have t1 : (((k : Int) + 1) == (s.size : Int)) = false := by simp; omega
  have h3 : k + 1 < s.size := by omega
  have d2 := drop_two hh h3
  have ru := fun w => coded_any s k w hs (by omega)
  rw [d2] at ru ⊢
  clear hh hsz h2 d2
  by_cases x34 : (s[k + 1]).toNat = 34
  · have ec : s[k + 1] = 34 := byte_of x34
    have t34 : (((s[k + 1]).toNat : Int) == 34) = true := by rw [x34]; rfl
    have ee : esc (92 :: s[k + 1] :: s.data.toList.drop (k + 2)) = some ([s[k + 1]], 2) := by rw [esc_sh (by rw [ec]; decide)]; unfold shB; rw [if_pos (by rw [ec]; decide)]; rfl
    have hx := extract_one h3
    rw [ee]
    have HX := Lib.hid hx
    clear ee ec hx ru x34
    go_enter Tryd.func69, Tryd.ntmps69
    go_wp2_with fail
    (with_reducible refine (r1 _).mono ?_)
    rintro e w' ⟨rfl, rfl⟩
    go_wp2
    go_ret2
    exact ⟨esc_two HX.out, Below.refl _ _⟩
  by_cases x92 : (s[k + 1]).toNat = 92
  · have ec : s[k + 1] = 92 := byte_of x92
    have t34 : (((s[k + 1]).toNat : Int) == 34) = false := by rw [x92]; rfl
    have t92 : (((s[k + 1]).toNat : Int) == 92) = true := by rw [x92]; rfl
    have ee : esc (92 :: s[k + 1] :: s.data.toList.drop (k + 2)) = some ([s[k + 1]], 2) := by rw [esc_sh (by rw [ec]; decide)]; unfold shB; rw [if_pos (by rw [ec]; decide)]; rfl
    have hx := extract_one h3
    rw [ee]
    have HX := Lib.hid hx
    clear ee ec hx ru x34 x92
    go_enter Tryd.func69, Tryd.ntmps69
    go_wp2_with fail
    (with_reducible refine (r1 _).mono ?_)
    rintro e w' ⟨rfl, rfl⟩
    go_wp2
    go_ret2
    exact ⟨esc_two HX.out, Below.refl _ _⟩
  by_cases x47 : (s[k + 1]).toNat = 47
  · have ec : s[k + 1] = 47 := byte_of x47
    have t34 : (((s[k + 1]).toNat : Int) == 34) = false := by rw [x47]; rfl
    have t92 : (((s[k + 1]).toNat : Int) == 92) = false := by rw [x47]; rfl
    have t47 : (((s[k + 1]).toNat : Int) == 47) = true := by rw [x47]; rfl
    have ee : esc (92 :: s[k + 1] :: s.data.toList.drop (k + 2)) = some ([s[k + 1]], 2) := by rw [esc_sh (by rw [ec]; decide)]; unfold shB; rw [if_pos (by rw [ec]; decide)]; rfl
    have hx := extract_one h3
    rw [ee]
    have HX := Lib.hid hx
    clear ee ec hx ru x34 x92 x47
    go_enter Tryd.func69, Tryd.ntmps69
    go_wp2_with fail
    (with_reducible refine (r1 _).mono ?_)
    rintro e w' ⟨rfl, rfl⟩
    go_wp2
    go_ret2
    exact ⟨esc_two HX.out, Below.refl _ _⟩
  by_cases x98 : (s[k + 1]).toNat = 98
  · have ec : s[k + 1] = 98 := byte_of x98
    have t34 : (((s[k + 1]).toNat : Int) == 34) = false := by rw [x98]; rfl
    have t92 : (((s[k + 1]).toNat : Int) == 92) = false := by rw [x98]; rfl
    have t47 : (((s[k + 1]).toNat : Int) == 47) = false := by rw [x98]; rfl
    have t98 : (((s[k + 1]).toNat : Int) == 98) = true := by rw [x98]; rfl
    have ee : esc (92 :: s[k + 1] :: s.data.toList.drop (k + 2)) = some ([8], 2) := by rw [ec]; rfl
    rw [ee]
    clear ee ec ru x34 x92 x47 x98
    go_enter Tryd.func69, Tryd.ntmps69
    go_wp2_with fail
    (with_reducible refine (r1 _).mono ?_)
    rintro e w' ⟨rfl, rfl⟩
    go_wp2
    go_ret2
    exact ⟨rfl, Below.refl _ _⟩
  by_cases x102 : (s[k + 1]).toNat = 102
  · have ec : s[k + 1] = 102 := byte_of x102
    have t34 : (((s[k + 1]).toNat : Int) == 34) = false := by rw [x102]; rfl
    have t92 : (((s[k + 1]).toNat : Int) == 92) = false := by rw [x102]; rfl
    have t47 : (((s[k + 1]).toNat : Int) == 47) = false := by rw [x102]; rfl
    have t98 : (((s[k + 1]).toNat : Int) == 98) = false := by rw [x102]; rfl
    have t102 : (((s[k + 1]).toNat : Int) == 102) = true := by rw [x102]; rfl
    have ee : esc (92 :: s[k + 1] :: s.data.toList.drop (k + 2)) = some ([12], 2) := by rw [ec]; rfl
    rw [ee]
    clear ee ec ru x34 x92 x47 x98 x102
    go_enter Tryd.func69, Tryd.ntmps69
    go_wp2_with fail
    (with_reducible refine (r1 _).mono ?_)
    rintro e w' ⟨rfl, rfl⟩
    go_wp2
    go_ret2
    exact ⟨rfl, Below.refl _ _⟩
  by_cases x110 : (s[k + 1]).toNat = 110
  · have ec : s[k + 1] = 110 := byte_of x110
    have t34 : (((s[k + 1]).toNat : Int) == 34) = false := by rw [x110]; rfl
    have t92 : (((s[k + 1]).toNat : Int) == 92) = false := by rw [x110]; rfl
    have t47 : (((s[k + 1]).toNat : Int) == 47) = false := by rw [x110]; rfl
    have t98 : (((s[k + 1]).toNat : Int) == 98) = false := by rw [x110]; rfl
    have t102 : (((s[k + 1]).toNat : Int) == 102) = false := by rw [x110]; rfl
    have t110 : (((s[k + 1]).toNat : Int) == 110) = true := by rw [x110]; rfl
    have ee : esc (92 :: s[k + 1] :: s.data.toList.drop (k + 2)) = some ([10], 2) := by rw [ec]; rfl
    rw [ee]
    clear ee ec ru x34 x92 x47 x98 x102 x110
    go_enter Tryd.func69, Tryd.ntmps69
    go_wp2_with fail
    (with_reducible refine (r1 _).mono ?_)
    rintro e w' ⟨rfl, rfl⟩
    go_wp2
    go_ret2
    exact ⟨rfl, Below.refl _ _⟩
  by_cases x114 : (s[k + 1]).toNat = 114
  · have ec : s[k + 1] = 114 := byte_of x114
    have t34 : (((s[k + 1]).toNat : Int) == 34) = false := by rw [x114]; rfl
    have t92 : (((s[k + 1]).toNat : Int) == 92) = false := by rw [x114]; rfl
    have t47 : (((s[k + 1]).toNat : Int) == 47) = false := by rw [x114]; rfl
    have t98 : (((s[k + 1]).toNat : Int) == 98) = false := by rw [x114]; rfl
    have t102 : (((s[k + 1]).toNat : Int) == 102) = false := by rw [x114]; rfl
    have t110 : (((s[k + 1]).toNat : Int) == 110) = false := by rw [x114]; rfl
    have t114 : (((s[k + 1]).toNat : Int) == 114) = true := by rw [x114]; rfl
    have ee : esc (92 :: s[k + 1] :: s.data.toList.drop (k + 2)) = some ([13], 2) := by rw [ec]; rfl
    rw [ee]
    clear ee ec ru x34 x92 x47 x98 x102 x110 x114
    go_enter Tryd.func69, Tryd.ntmps69
    go_wp2_with fail
    (with_reducible refine (r1 _).mono ?_)
    rintro e w' ⟨rfl, rfl⟩
    go_wp2
    go_ret2
    exact ⟨rfl, Below.refl _ _⟩
  by_cases x116 : (s[k + 1]).toNat = 116
  · have ec : s[k + 1] = 116 := byte_of x116
    have t34 : (((s[k + 1]).toNat : Int) == 34) = false := by rw [x116]; rfl
    have t92 : (((s[k + 1]).toNat : Int) == 92) = false := by rw [x116]; rfl
    have t47 : (((s[k + 1]).toNat : Int) == 47) = false := by rw [x116]; rfl
    have t98 : (((s[k + 1]).toNat : Int) == 98) = false := by rw [x116]; rfl
    have t102 : (((s[k + 1]).toNat : Int) == 102) = false := by rw [x116]; rfl
    have t110 : (((s[k + 1]).toNat : Int) == 110) = false := by rw [x116]; rfl
    have t114 : (((s[k + 1]).toNat : Int) == 114) = false := by rw [x116]; rfl
    have t116 : (((s[k + 1]).toNat : Int) == 116) = true := by rw [x116]; rfl
    have ee : esc (92 :: s[k + 1] :: s.data.toList.drop (k + 2)) = some ([9], 2) := by rw [ec]; rfl
    rw [ee]
    clear ee ec ru x34 x92 x47 x98 x102 x110 x114 x116
    go_enter Tryd.func69, Tryd.ntmps69
    go_wp2_with fail
    (with_reducible refine (r1 _).mono ?_)
    rintro e w' ⟨rfl, rfl⟩
    go_wp2
    go_ret2
    exact ⟨rfl, Below.refl _ _⟩
  by_cases x117 : (s[k + 1]).toNat = 117
  · have ec : s[k + 1] = 117 := byte_of x117
    have t34 : (((s[k + 1]).toNat : Int) == 34) = false := by rw [x117]; rfl
    have t92 : (((s[k + 1]).toNat : Int) == 92) = false := by rw [x117]; rfl
    have t47 : (((s[k + 1]).toNat : Int) == 47) = false := by rw [x117]; rfl
    have t98 : (((s[k + 1]).toNat : Int) == 98) = false := by rw [x117]; rfl
    have t102 : (((s[k + 1]).toNat : Int) == 102) = false := by rw [x117]; rfl
    have t110 : (((s[k + 1]).toNat : Int) == 110) = false := by rw [x117]; rfl
    have t114 : (((s[k + 1]).toNat : Int) == 114) = false := by rw [x117]; rfl
    have t116 : (((s[k + 1]).toNat : Int) == 116) = false := by rw [x117]; rfl
    have t117 : (((s[k + 1]).toNat : Int) == 117) = true := by rw [x117]; rfl
    have ee : esc (92 :: s[k + 1] :: s.data.toList.drop (k + 2)) = uni (92 :: s[k + 1] :: s.data.toList.drop (k + 2)) := by rw [ec]; rfl
    rw [ee]
    clear ee ec x34 x92 x47 x98 x102 x110 x114 x116 x117
    cases hu : uni (92 :: s[k + 1] :: s.data.toList.drop (k + 2)) with
    | none =>
      have rn : ∀ w, Calls Tryd.prog 77 #[.string s, .int .i64 k] w fun e w' => e = .panicked [{ v := .iface 80 (.int .i64 (k : Int)), recovered := false }] ∧ Below w.heap.size w w' := fun w => by have := ru w; rw [hu] at this; exact this
      clear ru hu
      go_enter Tryd.func69, Tryd.ntmps69
      go_wp2_with fail
      (with_reducible refine (r1 _).mono ?_)
      rintro e w' ⟨rfl, rfl⟩
      go_wp2_with fail
      (with_reducible refine (rn _).mono ?_)
      rintro e w1 ⟨rfl, hb1⟩
      go_wp2
      exact ⟨rfl, rfl, hb1⟩
    | some q =>
      obtain ⟨t, m⟩ := q
      have ry : ∀ w, Calls Tryd.prog 77 #[.string s, .int .i64 k] w fun e w' => e = .returned (.tuple #[.string (mkb t), .int .i64 ((k : Int) + (m : Int))]) ∧ Below w.heap.size w w' := fun w => by have := ru w; rw [hu] at this; exact this
      clear ru hu
      go_enter Tryd.func69, Tryd.ntmps69
      go_wp2_with fail
      (with_reducible refine (r1 _).mono ?_)
      rintro e w' ⟨rfl, rfl⟩
      go_wp2_with fail
      (with_reducible refine (ry _).mono ?_)
      rintro e w1 ⟨rfl, hb1⟩
      go_wp2
      go_ret2
      exact ⟨rfl, hb1⟩
  have ee : esc (92 :: s[k + 1] :: s.data.toList.drop (k + 2)) = none := by
    rw [esc_sh (fun e => x117 (by rw [e]; rfl)), shB_none (by intro n hn; simp at hn; rcases hn with rfl | rfl | rfl | rfl | rfl | rfl | rfl | rfl <;> assumption)]; rfl
  rw [ee]
  have t34 : (((s[k + 1]).toNat : Int) == 34) = false := beq_false_of_ne (by omega)
  have t92 : (((s[k + 1]).toNat : Int) == 92) = false := beq_false_of_ne (by omega)
  have t47 : (((s[k + 1]).toNat : Int) == 47) = false := beq_false_of_ne (by omega)
  have t98 : (((s[k + 1]).toNat : Int) == 98) = false := beq_false_of_ne (by omega)
  have t102 : (((s[k + 1]).toNat : Int) == 102) = false := beq_false_of_ne (by omega)
  have t110 : (((s[k + 1]).toNat : Int) == 110) = false := beq_false_of_ne (by omega)
  have t114 : (((s[k + 1]).toNat : Int) == 114) = false := beq_false_of_ne (by omega)
  have t116 : (((s[k + 1]).toNat : Int) == 116) = false := beq_false_of_ne (by omega)
  have t117 : (((s[k + 1]).toNat : Int) == 117) = false := beq_false_of_ne (by omega)
  clear ee ru x34 x92 x47 x98 x102 x110 x114 x116 x117
  go_enter Tryd.func69, Tryd.ntmps69
  go_wp2_with fail
  (with_reducible refine (r1 _).mono ?_)
  rintro e w' ⟨rfl, rfl⟩
  go_wp2
  exact ⟨rfl, rfl, Below.refl _ _⟩
theorem escaped_y {s : ByteArray} {i : Int} {t : List UInt8} {m : Nat} (h : escA s.data.toList i = some (t, m)) (hs : s.size ≤ 1000000) (w : World) :
    Calls Tryd.prog 69 #[.string s, .int .i64 i] w fun e w' => e = .returned (.tuple #[.string (mkb t), .int .i64 (i + (m : Int))]) ∧ Below w.heap.size w w' := by
  have := escaped_any s i w hs; rw [h] at this; exact this
theorem escaped_n {s : ByteArray} {i : Int} (h : escA s.data.toList i = none) (hs : s.size ≤ 1000000) (w : World) :
    Calls Tryd.prog 69 #[.string s, .int .i64 i] w fun e w' => e = .panicked [{ v := .iface 80 (.int .i64 i), recovered := false }] ∧ Below w.heap.size w w' := by
  have := escaped_any s i w hs; rw [h] at this; exact this
end Go.Proofs.YtjfhcgolgabkkaaDoor
