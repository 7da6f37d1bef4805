/- The contract of the document's value. -/
import Derived.Test.YtdbcdofekfjilaaDoorRealO
namespace Go.Proofs.YtdbcdofekfjilaaDoor
open Go.RowKit
set_option linter.unusedVariables false

theorem tz_cons0 (l : List UInt8) : tz (48 :: l) = tz l := by unfold tz; rw [List.dropWhile_cons, if_pos (by decide)]
theorem tz_cons {c : UInt8} (l : List UInt8) (h : ¬ c = 48) : tz (c :: l) = c :: l := by unfold tz; rw [List.dropWhile_cons, if_neg (by simpa using h)]
theorem mul_ten_tenB {k : Nat} (h : k < 22) (t : TypeId) (w : World) : (binOp .mul t (.float .f64 4621819117588971520) (.float .f64 (tenB k))).run Tryd.prog w = .ok (.float .f64 (tenB (k + 1))) w :=
  run_float_arith w _ _ _ _ _ _ ((mul_comm' _ _).trans (tenB_step k h))
theorem one_by_0 (t : TypeId) (w : World) : (binOp .quo t (.float .f64 4607182418800017408) (.float .f64 0)).run Tryd.prog w = .ok (.float .f64 9218868437227405312) w :=
  run_float_arith w _ _ _ _ _ _ (by decide +kernel)
theorem ag_refl {v : Nat} (h : v < 18446744073709551616) : Ag v v := ⟨h, .inr rfl⟩

def NanE (w : World) (e : Ending) (w' : World) : Prop := ∃ b, e = .returned (.float .f64 b) ∧ (nanB b = true ∧ b < 18446744073709551616) ∧ Below w.heap.size w w'


set_option maxHeartbeats 1000000 in
set_option maxRecDepth 100000 in
theorem rvalue_empty (s : ByteArray) (x : Int) (w : World) (hs : s.size ≤ 100000) (hx1 : -1000000000 ≤ x) (hx2 : x ≤ 1000000000) {T : List UInt8} (hT : T = tz s.data.toList) (hTe0 : T = []) :
    Calls Tryd.prog 36 #[.string s, .int .i64 x] w fun e w' => e = .returned (.float .f64 0) ∧ w = w' := by
  have hls : s.data.toList.length ≤ 100000 := by rw [← Lib.size_eq]; exact hs
  have HT := Lib.hid hT
  clear hT
  go_enter Tryd.func36, Tryd.ntmps36
  go_wp2_with fail
  go_loop [0] (fun v => ∃ r : List UInt8, r.length ≤ 100000 ∧ v = .string (mkb r) ∧ Hid (tz r = T)) (fun v => Lib.strSize v)
  case atStart => exact ⟨s.data.toList, hls, rfl, HT.out.symm⟩
  case round =>
    obtain ⟨r, hr, rfl, hz⟩ := hrel
    cases r with
    | nil =>
      have hTe : T = [] := hz.out.symm
      have t0 : ¬ (0 : Int) < ((mkb []).size : Int) := by decide
      have t1 : (((mkb []).size : Int) == 0) = true := by decide
      clear hz hTe
      generalize mkb [] = t at t0 t1 ⊢
      go_wp2_with fail
      go_ret
      exact ⟨rfl, rfl⟩
    | cons c r =>
      have hts : (mkb (c :: r)).size = r.length + 1 := by rw [mkb_size]; rfl
      have hx0 : (mkb (c :: r)).extract 1 (r.length + 1) = mkb r := by rw [mkb_extract]; simp
      have hb0 : ∀ h, (mkb (c :: r))[0]'h = c := fun h => rfl
      have hr2 : r.length + 1 ≤ 100000 := hr
      have hin : ∀ (i : Nat) (h : i < (mkb (c :: r)).size) (h2 : i < (c :: r).length), (mkb (c :: r))[i]'h = (c :: r)[i]'h2 := fun i h h2 => rfl
      by_cases hc : c = 48
      · skip
        have hz2 : tz r = T := by rw [← hz.out, hc, tz_cons0]
        have HZ2 := Lib.hid hz2
        clear hz2 hz hin
        generalize mkb (c :: r) = t at hts hx0 hb0 ⊢
        have t0 : 0 < t.size := by omega
        have heq : ((t[0]'t0).toNat : Int) = 48 := by rw [hb0 t0, hc]; rfl
        have HTS := Lib.hid hts
        have hx1' : t.extract 1 t.size = mkb r := by rw [hts]; exact hx0
        clear hb0 hc hts hx0
        go_wp2_with fail
        refine ⟨⟨r, by omega, rfl, HZ2⟩, ?_⟩
        rw [Lib.strSize_string, Lib.strSize_string, HTS.out, mkb_size]; omega
      · skip
        have hTc : T = c :: r := by rw [← hz.out, tz_cons r hc]
        rw [hTe0] at hTc; cases hTc
theorem rvalue_nil (w : World) : Calls Tryd.prog 36 #[.string ⟨#[]⟩, .int .i64 0] w fun e w' => e = .returned (.float .f64 0) ∧ w = w' :=
  rvalue_empty ⟨#[]⟩ 0 w (by decide) (by decide) (by decide) (T := []) rfl rfl

set_option maxHeartbeats 1000000 in
set_option maxRecDepth 100000 in
theorem rvalue_low (s : ByteArray) (x : Int) (w : World) (hs : s.size ≤ 100000) (hx1 : -1000000000 ≤ x) (hx2 : x ≤ 1000000000) {T : List UInt8} (hT : T = tz s.data.toList) (hne : T ≠ []) (hlo : (T.length : Int) + x < -400) :
    Calls Tryd.prog 36 #[.string s, .int .i64 x] w fun e w' => e = .returned (.float .f64 0) ∧ w = w' := by
  have hls : s.data.toList.length ≤ 100000 := by rw [← Lib.size_eq]; exact hs
  have HT := Lib.hid hT
  clear hT
  go_enter Tryd.func36, Tryd.ntmps36
  go_wp2_with fail
  go_loop [0] (fun v => ∃ r : List UInt8, r.length ≤ 100000 ∧ v = .string (mkb r) ∧ Hid (tz r = T)) (fun v => Lib.strSize v)
  case atStart => exact ⟨s.data.toList, hls, rfl, HT.out.symm⟩
  case round =>
    obtain ⟨r, hr, rfl, hz⟩ := hrel
    cases r with
    | nil =>
      have hTe : T = [] := hz.out.symm
      exact absurd hTe hne
    | cons c r =>
      have hts : (mkb (c :: r)).size = r.length + 1 := by rw [mkb_size]; rfl
      have hx0 : (mkb (c :: r)).extract 1 (r.length + 1) = mkb r := by rw [mkb_extract]; simp
      have hb0 : ∀ h, (mkb (c :: r))[0]'h = c := fun h => rfl
      have hr2 : r.length + 1 ≤ 100000 := hr
      have hin : ∀ (i : Nat) (h : i < (mkb (c :: r)).size) (h2 : i < (c :: r).length), (mkb (c :: r))[i]'h = (c :: r)[i]'h2 := fun i h h2 => rfl
      by_cases hc : c = 48
      · skip
        have hz2 : tz r = T := by rw [← hz.out, hc, tz_cons0]
        have HZ2 := Lib.hid hz2
        clear hz2 hz hin
        generalize mkb (c :: r) = t at hts hx0 hb0 ⊢
        have t0 : 0 < t.size := by omega
        have heq : ((t[0]'t0).toNat : Int) = 48 := by rw [hb0 t0, hc]; rfl
        have HTS := Lib.hid hts
        have hx1' : t.extract 1 t.size = mkb r := by rw [hts]; exact hx0
        clear hb0 hc hts hx0
        go_wp2_with fail
        refine ⟨⟨r, by omega, rfl, HZ2⟩, ?_⟩
        rw [Lib.strSize_string, Lib.strSize_string, HTS.out, mkb_size]; omega
      · skip
        have hTc : T = c :: r := by rw [← hz.out, tz_cons r hc]
        clear hz
        generalize mkb (c :: r) = t at hts hx0 hb0 hin ⊢
        have t0 : 0 < t.size := by omega
        have hbf : (((t[0]'t0).toNat : Int) == 48) = false := by rw [hb0 t0]; exact beq_false_of_ne (fun e => hc (UInt8.toNat_inj.1 (by exact_mod_cast e)))
        have tsz : t.size = T.length := by rw [hts, hTc]; rfl
        have tby : ∀ (i : Nat) (h : i < t.size) (h2 : i < T.length), t[i]'h = (T)[i]'h2 := fun i h h2 => by rw [hin i h (by rw [← hTc]; exact h2)]; simp [hTc]
        have t1 : (0 : Int) < (t.size : Int) := by omega
        have t2 : ((t.size : Int) == 0) = false := beq_false_of_ne (by omega)
        have hsm : t.size ≤ 100000 := by omega
        have TSZ := Lib.hid tsz
        have TBY := Lib.hid tby
        clear hb0 hc hts hx0 hin hTc tby
        have lo : (t.size : Int) + x < -400 := by omega
        clear tsz
        go_wp2_with fail
        go_ret
        exact ⟨rfl, rfl⟩

set_option maxHeartbeats 1000000 in
set_option maxRecDepth 100000 in
theorem rvalue_high (s : ByteArray) (x : Int) (w : World) (hs : s.size ≤ 100000) (hx1 : -1000000000 ≤ x) (hx2 : x ≤ 1000000000) {T : List UInt8} (hT : T = tz s.data.toList) (hne : T ≠ []) (hhi : 400 < (T.length : Int) + x) :
    Calls Tryd.prog 36 #[.string s, .int .i64 x] w fun e w' => e = .returned (.float .f64 9218868437227405312) ∧ w = w' := by
  have hls : s.data.toList.length ≤ 100000 := by rw [← Lib.size_eq]; exact hs
  have HT := Lib.hid hT
  clear hT
  go_enter Tryd.func36, Tryd.ntmps36
  go_wp2_with fail
  go_loop [0] (fun v => ∃ r : List UInt8, r.length ≤ 100000 ∧ v = .string (mkb r) ∧ Hid (tz r = T)) (fun v => Lib.strSize v)
  case atStart => exact ⟨s.data.toList, hls, rfl, HT.out.symm⟩
  case round =>
    obtain ⟨r, hr, rfl, hz⟩ := hrel
    cases r with
    | nil =>
      have hTe : T = [] := hz.out.symm
      exact absurd hTe hne
    | cons c r =>
      have hts : (mkb (c :: r)).size = r.length + 1 := by rw [mkb_size]; rfl
      have hx0 : (mkb (c :: r)).extract 1 (r.length + 1) = mkb r := by rw [mkb_extract]; simp
      have hb0 : ∀ h, (mkb (c :: r))[0]'h = c := fun h => rfl
      have hr2 : r.length + 1 ≤ 100000 := hr
      have hin : ∀ (i : Nat) (h : i < (mkb (c :: r)).size) (h2 : i < (c :: r).length), (mkb (c :: r))[i]'h = (c :: r)[i]'h2 := fun i h h2 => rfl
      by_cases hc : c = 48
      · skip
        have hz2 : tz r = T := by rw [← hz.out, hc, tz_cons0]
        have HZ2 := Lib.hid hz2
        clear hz2 hz hin
        generalize mkb (c :: r) = t at hts hx0 hb0 ⊢
        have t0 : 0 < t.size := by omega
        have heq : ((t[0]'t0).toNat : Int) = 48 := by rw [hb0 t0, hc]; rfl
        have HTS := Lib.hid hts
        have hx1' : t.extract 1 t.size = mkb r := by rw [hts]; exact hx0
        clear hb0 hc hts hx0
        go_wp2_with fail
        refine ⟨⟨r, by omega, rfl, HZ2⟩, ?_⟩
        rw [Lib.strSize_string, Lib.strSize_string, HTS.out, mkb_size]; omega
      · skip
        have hTc : T = c :: r := by rw [← hz.out, tz_cons r hc]
        clear hz
        generalize mkb (c :: r) = t at hts hx0 hb0 hin ⊢
        have t0 : 0 < t.size := by omega
        have hbf : (((t[0]'t0).toNat : Int) == 48) = false := by rw [hb0 t0]; exact beq_false_of_ne (fun e => hc (UInt8.toNat_inj.1 (by exact_mod_cast e)))
        have tsz : t.size = T.length := by rw [hts, hTc]; rfl
        have tby : ∀ (i : Nat) (h : i < t.size) (h2 : i < T.length), t[i]'h = (T)[i]'h2 := fun i h h2 => by rw [hin i h (by rw [← hTc]; exact h2)]; simp [hTc]
        have t1 : (0 : Int) < (t.size : Int) := by omega
        have t2 : ((t.size : Int) == 0) = false := beq_false_of_ne (by omega)
        have hsm : t.size ≤ 100000 := by omega
        have TSZ := Lib.hid tsz
        have TBY := Lib.hid tby
        clear hb0 hc hts hx0 hin hTc tby
        have lo : ¬ (t.size : Int) + x < -400 := by omega
        have hi : 400 < (t.size : Int) + x := by omega
        clear tsz
        go_wp2_with fail
        (with_reducible refine (rvalue_nil _).mono ?_); rintro e w1 ⟨rfl, rfl⟩
        have hq := one_by_0
        go_wp2_with fail
        go_ret
        exact ⟨rfl, rfl⟩

set_option maxHeartbeats 1000000 in
set_option maxRecDepth 100000 in
theorem rvalue_nan1 (s : ByteArray) (x : Int) (w : World) (hs : s.size ≤ 100000) (hx1 : -1000000000 ≤ x) (hx2 : x ≤ 1000000000) {T : List UInt8} (hT : T = tz s.data.toList) (hne : T ≠ []) (hlo : ¬ (T.length : Int) + x < -400) (hhi : ¬ 400 < (T.length : Int) + x) (k1 : 15 < T.length) :
    Calls Tryd.prog 36 #[.string s, .int .i64 x] w fun e w' => ∃ b, e = .returned (.float .f64 b) ∧ (nanB b = true ∧ b < 18446744073709551616) ∧ Below w.heap.size w w' := by
  suffices h : Calls Tryd.prog 36 #[.string s, .int .i64 x] w (fun e w' => NanE w e w') from h
  have hls : s.data.toList.length ≤ 100000 := by rw [← Lib.size_eq]; exact hs
  have HT := Lib.hid hT
  clear hT
  go_enter Tryd.func36, Tryd.ntmps36
  go_wp2_with fail
  go_loop [0] (fun v => ∃ r : List UInt8, r.length ≤ 100000 ∧ v = .string (mkb r) ∧ Hid (tz r = T)) (fun v => Lib.strSize v)
  case atStart => exact ⟨s.data.toList, hls, rfl, HT.out.symm⟩
  case round =>
    obtain ⟨r, hr, rfl, hz⟩ := hrel
    cases r with
    | nil =>
      have hTe : T = [] := hz.out.symm
      exact absurd hTe hne
    | cons c r =>
      have hts : (mkb (c :: r)).size = r.length + 1 := by rw [mkb_size]; rfl
      have hx0 : (mkb (c :: r)).extract 1 (r.length + 1) = mkb r := by rw [mkb_extract]; simp
      have hb0 : ∀ h, (mkb (c :: r))[0]'h = c := fun h => rfl
      have hr2 : r.length + 1 ≤ 100000 := hr
      have hin : ∀ (i : Nat) (h : i < (mkb (c :: r)).size) (h2 : i < (c :: r).length), (mkb (c :: r))[i]'h = (c :: r)[i]'h2 := fun i h h2 => rfl
      by_cases hc : c = 48
      · skip
        have hz2 : tz r = T := by rw [← hz.out, hc, tz_cons0]
        have HZ2 := Lib.hid hz2
        clear hz2 hz hin
        generalize mkb (c :: r) = t at hts hx0 hb0 ⊢
        have t0 : 0 < t.size := by omega
        have heq : ((t[0]'t0).toNat : Int) = 48 := by rw [hb0 t0, hc]; rfl
        have HTS := Lib.hid hts
        have hx1' : t.extract 1 t.size = mkb r := by rw [hts]; exact hx0
        clear hb0 hc hts hx0
        go_wp2_with fail
        refine ⟨⟨r, by omega, rfl, HZ2⟩, ?_⟩
        rw [Lib.strSize_string, Lib.strSize_string, HTS.out, mkb_size]; omega
      · skip
        have hTc : T = c :: r := by rw [← hz.out, tz_cons r hc]
        clear hz
        generalize mkb (c :: r) = t at hts hx0 hb0 hin ⊢
        have t0 : 0 < t.size := by omega
        have hbf : (((t[0]'t0).toNat : Int) == 48) = false := by rw [hb0 t0]; exact beq_false_of_ne (fun e => hc (UInt8.toNat_inj.1 (by exact_mod_cast e)))
        have tsz : t.size = T.length := by rw [hts, hTc]; rfl
        have tby : ∀ (i : Nat) (h : i < t.size) (h2 : i < T.length), t[i]'h = (T)[i]'h2 := fun i h h2 => by rw [hin i h (by rw [← hTc]; exact h2)]; simp [hTc]
        have t1 : (0 : Int) < (t.size : Int) := by omega
        have t2 : ((t.size : Int) == 0) = false := beq_false_of_ne (by omega)
        have hsm : t.size ≤ 100000 := by omega
        have TSZ := Lib.hid tsz
        have TBY := Lib.hid tby
        clear hb0 hc hts hx0 hin hTc tby
        have lo : ¬ (t.size : Int) + x < -400 := by omega
        have hi : ¬ 400 < (t.size : Int) + x := by omega
        have g1 : (15 : Int) < (t.size : Int) := by omega
        clear tsz
        go_wp2_with fail
        (with_reducible refine (rnan_any _).mono ?_); rintro e w1 ⟨b, rfl, hb, hbel⟩
        have HB := Lib.hid hb
        clear hb
        go_wp2_with fail
        go_ret
        exact ⟨b, rfl, HB.out, hbel⟩

set_option maxHeartbeats 1000000 in
set_option maxRecDepth 100000 in
theorem rvalue_nan2 (s : ByteArray) (x : Int) (w : World) (hs : s.size ≤ 100000) (hx1 : -1000000000 ≤ x) (hx2 : x ≤ 1000000000) {T : List UInt8} (hT : T = tz s.data.toList) (hne : T ≠ []) (hlo : ¬ (T.length : Int) + x < -400) (hhi : ¬ 400 < (T.length : Int) + x) (k1 : T.length ≤ 15) (k2 : 22 < x) :
    Calls Tryd.prog 36 #[.string s, .int .i64 x] w fun e w' => ∃ b, e = .returned (.float .f64 b) ∧ (nanB b = true ∧ b < 18446744073709551616) ∧ Below w.heap.size w w' := by
  suffices h : Calls Tryd.prog 36 #[.string s, .int .i64 x] w (fun e w' => NanE w e w') from h
  have hls : s.data.toList.length ≤ 100000 := by rw [← Lib.size_eq]; exact hs
  have HT := Lib.hid hT
  clear hT
  go_enter Tryd.func36, Tryd.ntmps36
  go_wp2_with fail
  go_loop [0] (fun v => ∃ r : List UInt8, r.length ≤ 100000 ∧ v = .string (mkb r) ∧ Hid (tz r = T)) (fun v => Lib.strSize v)
  case atStart => exact ⟨s.data.toList, hls, rfl, HT.out.symm⟩
  case round =>
    obtain ⟨r, hr, rfl, hz⟩ := hrel
    cases r with
    | nil =>
      have hTe : T = [] := hz.out.symm
      exact absurd hTe hne
    | cons c r =>
      have hts : (mkb (c :: r)).size = r.length + 1 := by rw [mkb_size]; rfl
      have hx0 : (mkb (c :: r)).extract 1 (r.length + 1) = mkb r := by rw [mkb_extract]; simp
      have hb0 : ∀ h, (mkb (c :: r))[0]'h = c := fun h => rfl
      have hr2 : r.length + 1 ≤ 100000 := hr
      have hin : ∀ (i : Nat) (h : i < (mkb (c :: r)).size) (h2 : i < (c :: r).length), (mkb (c :: r))[i]'h = (c :: r)[i]'h2 := fun i h h2 => rfl
      by_cases hc : c = 48
      · skip
        have hz2 : tz r = T := by rw [← hz.out, hc, tz_cons0]
        have HZ2 := Lib.hid hz2
        clear hz2 hz hin
        generalize mkb (c :: r) = t at hts hx0 hb0 ⊢
        have t0 : 0 < t.size := by omega
        have heq : ((t[0]'t0).toNat : Int) = 48 := by rw [hb0 t0, hc]; rfl
        have HTS := Lib.hid hts
        have hx1' : t.extract 1 t.size = mkb r := by rw [hts]; exact hx0
        clear hb0 hc hts hx0
        go_wp2_with fail
        refine ⟨⟨r, by omega, rfl, HZ2⟩, ?_⟩
        rw [Lib.strSize_string, Lib.strSize_string, HTS.out, mkb_size]; omega
      · skip
        have hTc : T = c :: r := by rw [← hz.out, tz_cons r hc]
        clear hz
        generalize mkb (c :: r) = t at hts hx0 hb0 hin ⊢
        have t0 : 0 < t.size := by omega
        have hbf : (((t[0]'t0).toNat : Int) == 48) = false := by rw [hb0 t0]; exact beq_false_of_ne (fun e => hc (UInt8.toNat_inj.1 (by exact_mod_cast e)))
        have tsz : t.size = T.length := by rw [hts, hTc]; rfl
        have tby : ∀ (i : Nat) (h : i < t.size) (h2 : i < T.length), t[i]'h = (T)[i]'h2 := fun i h h2 => by rw [hin i h (by rw [← hTc]; exact h2)]; simp [hTc]
        have t1 : (0 : Int) < (t.size : Int) := by omega
        have t2 : ((t.size : Int) == 0) = false := beq_false_of_ne (by omega)
        have hsm : t.size ≤ 100000 := by omega
        have TSZ := Lib.hid tsz
        have TBY := Lib.hid tby
        clear hb0 hc hts hx0 hin hTc tby
        have lo : ¬ (t.size : Int) + x < -400 := by omega
        have hi : ¬ 400 < (t.size : Int) + x := by omega
        have g1 : ¬ (15 : Int) < (t.size : Int) := by omega
        clear tsz
        go_wp2_with fail
        (with_reducible refine (rnan_any _).mono ?_); rintro e w1 ⟨b, rfl, hb, hbel⟩
        have HB := Lib.hid hb
        clear hb
        go_wp2_with fail
        go_ret
        exact ⟨b, rfl, HB.out, hbel⟩

set_option maxHeartbeats 1000000 in
set_option maxRecDepth 100000 in
theorem rvalue_nan3 (s : ByteArray) (x : Int) (w : World) (hs : s.size ≤ 100000) (hx1 : -1000000000 ≤ x) (hx2 : x ≤ 1000000000) {T : List UInt8} (hT : T = tz s.data.toList) (hne : T ≠ []) (hlo : ¬ (T.length : Int) + x < -400) (hhi : ¬ 400 < (T.length : Int) + x) (k1 : T.length ≤ 15) (k2 : x < -22) :
    Calls Tryd.prog 36 #[.string s, .int .i64 x] w fun e w' => ∃ b, e = .returned (.float .f64 b) ∧ (nanB b = true ∧ b < 18446744073709551616) ∧ Below w.heap.size w w' := by
  suffices h : Calls Tryd.prog 36 #[.string s, .int .i64 x] w (fun e w' => NanE w e w') from h
  have hls : s.data.toList.length ≤ 100000 := by rw [← Lib.size_eq]; exact hs
  have HT := Lib.hid hT
  clear hT
  go_enter Tryd.func36, Tryd.ntmps36
  go_wp2_with fail
  go_loop [0] (fun v => ∃ r : List UInt8, r.length ≤ 100000 ∧ v = .string (mkb r) ∧ Hid (tz r = T)) (fun v => Lib.strSize v)
  case atStart => exact ⟨s.data.toList, hls, rfl, HT.out.symm⟩
  case round =>
    obtain ⟨r, hr, rfl, hz⟩ := hrel
    cases r with
    | nil =>
      have hTe : T = [] := hz.out.symm
      exact absurd hTe hne
    | cons c r =>
      have hts : (mkb (c :: r)).size = r.length + 1 := by rw [mkb_size]; rfl
      have hx0 : (mkb (c :: r)).extract 1 (r.length + 1) = mkb r := by rw [mkb_extract]; simp
      have hb0 : ∀ h, (mkb (c :: r))[0]'h = c := fun h => rfl
      have hr2 : r.length + 1 ≤ 100000 := hr
      have hin : ∀ (i : Nat) (h : i < (mkb (c :: r)).size) (h2 : i < (c :: r).length), (mkb (c :: r))[i]'h = (c :: r)[i]'h2 := fun i h h2 => rfl
      by_cases hc : c = 48
      · skip
        have hz2 : tz r = T := by rw [← hz.out, hc, tz_cons0]
        have HZ2 := Lib.hid hz2
        clear hz2 hz hin
        generalize mkb (c :: r) = t at hts hx0 hb0 ⊢
        have t0 : 0 < t.size := by omega
        have heq : ((t[0]'t0).toNat : Int) = 48 := by rw [hb0 t0, hc]; rfl
        have HTS := Lib.hid hts
        have hx1' : t.extract 1 t.size = mkb r := by rw [hts]; exact hx0
        clear hb0 hc hts hx0
        go_wp2_with fail
        refine ⟨⟨r, by omega, rfl, HZ2⟩, ?_⟩
        rw [Lib.strSize_string, Lib.strSize_string, HTS.out, mkb_size]; omega
      · skip
        have hTc : T = c :: r := by rw [← hz.out, tz_cons r hc]
        clear hz
        generalize mkb (c :: r) = t at hts hx0 hb0 hin ⊢
        have t0 : 0 < t.size := by omega
        have hbf : (((t[0]'t0).toNat : Int) == 48) = false := by rw [hb0 t0]; exact beq_false_of_ne (fun e => hc (UInt8.toNat_inj.1 (by exact_mod_cast e)))
        have tsz : t.size = T.length := by rw [hts, hTc]; rfl
        have tby : ∀ (i : Nat) (h : i < t.size) (h2 : i < T.length), t[i]'h = (T)[i]'h2 := fun i h h2 => by rw [hin i h (by rw [← hTc]; exact h2)]; simp [hTc]
        have t1 : (0 : Int) < (t.size : Int) := by omega
        have t2 : ((t.size : Int) == 0) = false := beq_false_of_ne (by omega)
        have hsm : t.size ≤ 100000 := by omega
        have TSZ := Lib.hid tsz
        have TBY := Lib.hid tby
        clear hb0 hc hts hx0 hin hTc tby
        have lo : ¬ (t.size : Int) + x < -400 := by omega
        have hi : ¬ 400 < (t.size : Int) + x := by omega
        have g1 : ¬ (15 : Int) < (t.size : Int) := by omega
        have g2 : ¬ 22 < x := by omega
        clear tsz
        go_wp2_with fail
        (with_reducible refine (rnan_any _).mono ?_); rintro e w1 ⟨b, rfl, hb, hbel⟩
        have HB := Lib.hid hb
        clear hb
        go_wp2_with fail
        go_ret
        exact ⟨b, rfl, HB.out, hbel⟩

set_option maxHeartbeats 2000000 in
set_option maxRecDepth 100000 in
theorem rvalue_pos (s : ByteArray) (K : Nat) (w : World) (hs : s.size ≤ 100000) {T : List UInt8} (hT : T = tz s.data.toList) (hne : T ≠ []) (hall : T.all isD = true) (h15 : T.length ≤ 15) (hK : K ≤ 22) :
    Calls Tryd.prog 36 #[.string s, .int .i64 ((K : Int))] w fun e w' => e = .returned (.float .f64 ((Ieee.double.mul (W (dval T)) (tenB K)).getD 0)) ∧ w = w' := by
  have HALL := Lib.hid hall
  clear hall
  have hls : s.data.toList.length ≤ 100000 := by rw [← Lib.size_eq]; exact hs
  have HT := Lib.hid hT
  clear hT
  go_enter Tryd.func36, Tryd.ntmps36
  go_wp2_with fail
  go_loop [0] (fun v => ∃ r : List UInt8, r.length ≤ 100000 ∧ v = .string (mkb r) ∧ Hid (tz r = T)) (fun v => Lib.strSize v)
  case atStart => exact ⟨s.data.toList, hls, rfl, HT.out.symm⟩
  case round =>
    obtain ⟨r, hr, rfl, hz⟩ := hrel
    cases r with
    | nil =>
      have hTe : T = [] := hz.out.symm
      exact absurd hTe hne
    | cons c r =>
      have hts : (mkb (c :: r)).size = r.length + 1 := by rw [mkb_size]; rfl
      have hx0 : (mkb (c :: r)).extract 1 (r.length + 1) = mkb r := by rw [mkb_extract]; simp
      have hb0 : ∀ h, (mkb (c :: r))[0]'h = c := fun h => rfl
      have hr2 : r.length + 1 ≤ 100000 := hr
      have hin : ∀ (i : Nat) (h : i < (mkb (c :: r)).size) (h2 : i < (c :: r).length), (mkb (c :: r))[i]'h = (c :: r)[i]'h2 := fun i h h2 => rfl
      by_cases hc : c = 48
      · skip
        have hz2 : tz r = T := by rw [← hz.out, hc, tz_cons0]
        have HZ2 := Lib.hid hz2
        clear hz2 hz hin
        generalize mkb (c :: r) = t at hts hx0 hb0 ⊢
        have t0 : 0 < t.size := by omega
        have heq : ((t[0]'t0).toNat : Int) = 48 := by rw [hb0 t0, hc]; rfl
        have HTS := Lib.hid hts
        have hx1' : t.extract 1 t.size = mkb r := by rw [hts]; exact hx0
        clear hb0 hc hts hx0
        go_wp2_with fail
        refine ⟨⟨r, by omega, rfl, HZ2⟩, ?_⟩
        rw [Lib.strSize_string, Lib.strSize_string, HTS.out, mkb_size]; omega
      · skip
        have hTc : T = c :: r := by rw [← hz.out, tz_cons r hc]
        clear hz
        generalize mkb (c :: r) = t at hts hx0 hb0 hin ⊢
        have t0 : 0 < t.size := by omega
        have hbf : (((t[0]'t0).toNat : Int) == 48) = false := by rw [hb0 t0]; exact beq_false_of_ne (fun e => hc (UInt8.toNat_inj.1 (by exact_mod_cast e)))
        have tsz : t.size = T.length := by rw [hts, hTc]; rfl
        have tby : ∀ (i : Nat) (h : i < t.size) (h2 : i < T.length), t[i]'h = (T)[i]'h2 := fun i h h2 => by rw [hin i h (by rw [← hTc]; exact h2)]; simp [hTc]
        have t1 : (0 : Int) < (t.size : Int) := by omega
        have t2 : ((t.size : Int) == 0) = false := beq_false_of_ne (by omega)
        have hsm : t.size ≤ 100000 := by omega
        have TSZ := Lib.hid tsz
        have TBY := Lib.hid tby
        clear hb0 hc hts hx0 hin hTc tby
        have lo : ¬ (t.size : Int) + (K : Int) < -400 := by omega
        have hi : ¬ 400 < (t.size : Int) + (K : Int) := by omega
        have g1 : ¬ (15 : Int) < (t.size : Int) := by omega
        have g2 : ¬ 22 < (K : Int) := by omega
        have g3 : ¬ (K : Int) < -22 := by omega
        have t15 : t.size ≤ 15 := by omega
        clear tsz
        go_wp2_with fail
        go_loop [7, 8] (fun mv iv => ∃ i : Nat, i ≤ t.size ∧ iv = .int .i64 i ∧ mv = .int .i64 (dval (T.take i))) (fun _ iv => t.size - (intOf iv).toNat)
        case atStart => exact ⟨0, Nat.zero_le _, rfl, rfl⟩
        case round =>
          obtain ⟨i, hi1, rfl, rfl⟩ := hrel
          by_cases hlt : i < t.size
          · skip
            have hlt2 : i < T.length := by have := TSZ.out; omega
            have hby := TBY.out i hlt hlt2
            have hdig := (isD_iff _).1 (List.all_eq_true.1 HALL.out _ (List.getElem_mem hlt2))
            rw [← hby] at hdig
            have hv : (dval (T.take (i + 1)) : Int) = 10 * (dval (T.take i) : Int) + ((t[i]'hlt).toNat : Int) - 48 := by rw [List.take_succ_eq_append_getElem hlt2, dval_snoc, ← hby]; omega
            have HV := Lib.hid hv
            have hbd := dval_lt15 (T.take i) (all_take HALL.out i) (by have := List.length_take_le i T; have := TSZ.out; omega)
            have d1 := hdig.1
            have d2 := hdig.2
            clear hv hby hdig
            go_wp2_with fail
            go_round
            case rel => exact ⟨i + 1, by omega, by go_num, by rw [HV.out]⟩
            case measure => simp [intOf]; omega
          · have e3 : T.take i = T := List.take_of_length_le (by have := TSZ.out; omega)
            rw [e3]
            have hdl := dval_lt15 T HALL.out (by have := TSZ.out; omega)
            clear e3
            go_wp2_with fail
            go_loop [9, 10] (fun pv iv => ∃ j : Nat, j ≤ K ∧ iv = .int .i64 j ∧ pv = .float .f64 (tenB j)) (fun _ iv => K - (intOf iv).toNat)
            case atStart => exact ⟨0, Nat.zero_le _, rfl, rfl⟩
            case round =>
              obtain ⟨j, hj, rfl, rfl⟩ := hrel
              by_cases hjl : j < K
              · have hm := mul_ten_tenB (k := j) (by omega)
                have c1 : (j : Int) < (K : Int) := by omega
                go_wp2_with fail
                go_round
                case rel => exact ⟨j + 1, by omega, by go_num, rfl⟩
                case measure => simp [intOf]; omega
              · obtain rfl : j = K := by omega
                have hq := mul_run (d := dval T) (k := j) (by omega) (by omega)
                have hf : floatOfInt .f64 (dval T : Int) = W (dval T) := floatOfInt_W _ (by omega)
                have c1 : ¬ (j : Int) < (j : Int) := by omega
                have c2 : ¬ (j : Int) < -(j : Int) := by omega
                have c3 : ¬ (j : Int) < 0 := by omega
                go_wp2_with fail
                go_ret
                exact ⟨rfl, rfl⟩

set_option maxHeartbeats 2000000 in
set_option maxRecDepth 100000 in
theorem rvalue_neg (s : ByteArray) (K : Nat) (w : World) (hs : s.size ≤ 100000) {T : List UInt8} (hT : T = tz s.data.toList) (hne : T ≠ []) (hall : T.all isD = true) (h15 : T.length ≤ 15) (hK : K ≤ 22) (hK1 : 1 ≤ K) :
    Calls Tryd.prog 36 #[.string s, .int .i64 (-(K : Int))] w fun e w' => e = .returned (.float .f64 ((Ieee.double.div (W (dval T)) (tenB K)).getD 0)) ∧ w = w' := by
  have HALL := Lib.hid hall
  clear hall
  have hls : s.data.toList.length ≤ 100000 := by rw [← Lib.size_eq]; exact hs
  have HT := Lib.hid hT
  clear hT
  go_enter Tryd.func36, Tryd.ntmps36
  go_wp2_with fail
  go_loop [0] (fun v => ∃ r : List UInt8, r.length ≤ 100000 ∧ v = .string (mkb r) ∧ Hid (tz r = T)) (fun v => Lib.strSize v)
  case atStart => exact ⟨s.data.toList, hls, rfl, HT.out.symm⟩
  case round =>
    obtain ⟨r, hr, rfl, hz⟩ := hrel
    cases r with
    | nil =>
      have hTe : T = [] := hz.out.symm
      exact absurd hTe hne
    | cons c r =>
      have hts : (mkb (c :: r)).size = r.length + 1 := by rw [mkb_size]; rfl
      have hx0 : (mkb (c :: r)).extract 1 (r.length + 1) = mkb r := by rw [mkb_extract]; simp
      have hb0 : ∀ h, (mkb (c :: r))[0]'h = c := fun h => rfl
      have hr2 : r.length + 1 ≤ 100000 := hr
      have hin : ∀ (i : Nat) (h : i < (mkb (c :: r)).size) (h2 : i < (c :: r).length), (mkb (c :: r))[i]'h = (c :: r)[i]'h2 := fun i h h2 => rfl
      by_cases hc : c = 48
      · skip
        have hz2 : tz r = T := by rw [← hz.out, hc, tz_cons0]
        have HZ2 := Lib.hid hz2
        clear hz2 hz hin
        generalize mkb (c :: r) = t at hts hx0 hb0 ⊢
        have t0 : 0 < t.size := by omega
        have heq : ((t[0]'t0).toNat : Int) = 48 := by rw [hb0 t0, hc]; rfl
        have HTS := Lib.hid hts
        have hx1' : t.extract 1 t.size = mkb r := by rw [hts]; exact hx0
        clear hb0 hc hts hx0
        go_wp2_with fail
        refine ⟨⟨r, by omega, rfl, HZ2⟩, ?_⟩
        rw [Lib.strSize_string, Lib.strSize_string, HTS.out, mkb_size]; omega
      · skip
        have hTc : T = c :: r := by rw [← hz.out, tz_cons r hc]
        clear hz
        generalize mkb (c :: r) = t at hts hx0 hb0 hin ⊢
        have t0 : 0 < t.size := by omega
        have hbf : (((t[0]'t0).toNat : Int) == 48) = false := by rw [hb0 t0]; exact beq_false_of_ne (fun e => hc (UInt8.toNat_inj.1 (by exact_mod_cast e)))
        have tsz : t.size = T.length := by rw [hts, hTc]; rfl
        have tby : ∀ (i : Nat) (h : i < t.size) (h2 : i < T.length), t[i]'h = (T)[i]'h2 := fun i h h2 => by rw [hin i h (by rw [← hTc]; exact h2)]; simp [hTc]
        have t1 : (0 : Int) < (t.size : Int) := by omega
        have t2 : ((t.size : Int) == 0) = false := beq_false_of_ne (by omega)
        have hsm : t.size ≤ 100000 := by omega
        have TSZ := Lib.hid tsz
        have TBY := Lib.hid tby
        clear hb0 hc hts hx0 hin hTc tby
        have lo : ¬ (t.size : Int) + -(K : Int) < -400 := by omega
        have hi : ¬ 400 < (t.size : Int) + -(K : Int) := by omega
        have g1 : ¬ (15 : Int) < (t.size : Int) := by omega
        have g2 : ¬ 22 < -(K : Int) := by omega
        have g3 : ¬ -(K : Int) < -22 := by omega
        have t15 : t.size ≤ 15 := by omega
        clear tsz
        go_wp2_with fail
        go_loop [7, 8] (fun mv iv => ∃ i : Nat, i ≤ t.size ∧ iv = .int .i64 i ∧ mv = .int .i64 (dval (T.take i))) (fun _ iv => t.size - (intOf iv).toNat)
        case atStart => exact ⟨0, Nat.zero_le _, rfl, rfl⟩
        case round =>
          obtain ⟨i, hi1, rfl, rfl⟩ := hrel
          by_cases hlt : i < t.size
          · skip
            have hlt2 : i < T.length := by have := TSZ.out; omega
            have hby := TBY.out i hlt hlt2
            have hdig := (isD_iff _).1 (List.all_eq_true.1 HALL.out _ (List.getElem_mem hlt2))
            rw [← hby] at hdig
            have hv : (dval (T.take (i + 1)) : Int) = 10 * (dval (T.take i) : Int) + ((t[i]'hlt).toNat : Int) - 48 := by rw [List.take_succ_eq_append_getElem hlt2, dval_snoc, ← hby]; omega
            have HV := Lib.hid hv
            have hbd := dval_lt15 (T.take i) (all_take HALL.out i) (by have := List.length_take_le i T; have := TSZ.out; omega)
            have d1 := hdig.1
            have d2 := hdig.2
            clear hv hby hdig
            go_wp2_with fail
            go_round
            case rel => exact ⟨i + 1, by omega, by go_num, by rw [HV.out]⟩
            case measure => simp [intOf]; omega
          · have e3 : T.take i = T := List.take_of_length_le (by have := TSZ.out; omega)
            rw [e3]
            have hdl := dval_lt15 T HALL.out (by have := TSZ.out; omega)
            clear e3
            go_wp2_with fail
            go_loop [9, 10] (fun pv iv => ∃ j : Nat, j ≤ K ∧ iv = .int .i64 j ∧ pv = .float .f64 (tenB j)) (fun _ iv => K - (intOf iv).toNat)
            case atStart => exact ⟨0, Nat.zero_le _, rfl, rfl⟩
            case round =>
              obtain ⟨j, hj, rfl, rfl⟩ := hrel
              by_cases hjl : j < K
              · have hm := mul_ten_tenB (k := j) (by omega)
                have c1 : ¬ (j : Int) < -(K : Int) := by omega
                have c2 : (j : Int) < (K : Int) := by omega
                go_wp2_with fail
                go_round
                case rel => exact ⟨j + 1, by omega, by go_num, rfl⟩
                case measure => simp [intOf]; omega
              · obtain rfl : j = K := by omega
                have hq := quo_run (d := dval T) (k := j) (by omega) (by omega)
                have hf : floatOfInt .f64 (dval T : Int) = W (dval T) := floatOfInt_W _ (by omega)
                have c1 : ¬ (j : Int) < -(j : Int) := by omega
                have c2 : ¬ (j : Int) < (j : Int) := by omega
                have c3 : -(j : Int) < 0 := by omega
                go_wp2_with fail
                go_ret
                exact ⟨rfl, rfl⟩

theorem rvalue_any (s : ByteArray) (x : Int) (w : World) (hs : s.size ≤ 100000) (hx1 : -1000000000 ≤ x) (hx2 : x ≤ 1000000000) (hall : s.data.toList.all isD = true) :
    Calls Tryd.prog 36 #[.string s, .int .i64 x] w fun e w' => RN (valB (tz s.data.toList) x) w e w' := by
  have hA := tz_all hall
  have hlt := valB_lt (tz s.data.toList) x
  obtain ⟨T, hT⟩ : ∃ T, T = tz s.data.toList := ⟨_, rfl⟩
  rw [← hT] at hA hlt ⊢
  by_cases hne : T = []
  · have e : valB T x = 0 := by rw [hne, valB_nil]
    refine (rvalue_empty s x w hs hx1 hx2 hT hne).mono ?_
    rintro e w1 ⟨rfl, rfl⟩
    exact ⟨_, rfl, ⟨by decide, .inr (by rw [‹valB T x = 0›])⟩, Below.refl _ _⟩
  have hl0 : T.length ≠ 0 := fun e => hne (List.length_eq_zero_iff.1 e)
  by_cases hhi : 400 < (T.length : Int) + x
  · have e : valB T x = 9218868437227405312 := by unfold valB; rw [if_neg hl0, if_pos hhi]
    refine (rvalue_high s x w hs hx1 hx2 hT hne hhi).mono ?_
    rintro e w1 ⟨rfl, rfl⟩
    exact ⟨_, rfl, ⟨by decide, .inr (by rw [‹valB T x = _›])⟩, Below.refl _ _⟩
  by_cases hlo : (T.length : Int) + x < -400
  · have e : valB T x = 0 := by unfold valB; rw [if_neg hl0, if_neg hhi, if_pos hlo]
    refine (rvalue_low s x w hs hx1 hx2 hT hne hlo).mono ?_
    rintro e w1 ⟨rfl, rfl⟩
    exact ⟨_, rfl, ⟨by decide, .inr (by rw [‹valB T x = 0›])⟩, Below.refl _ _⟩
  by_cases hN : 15 < T.length ∨ 22 < x ∨ x < -22
  · have e : valB T x = 9221120237041090561 := by unfold valB; rw [if_neg hl0, if_neg hhi, if_neg hlo, if_pos hN]
    have hn : nanB (valB T x) = true := by rw [e]; decide +kernel
    have fin : ∀ e w', NanE w e w' → RN (valB T x) w e w' := by
      rintro e w' ⟨b, rfl, ⟨h1, h2⟩, hb⟩
      exact ⟨b, rfl, ⟨h2, .inl ⟨hn, h1⟩⟩, hb⟩
    by_cases k1 : 15 < T.length
    · exact (rvalue_nan1 s x w hs hx1 hx2 hT hne hlo hhi k1).mono fin
    by_cases k2 : 22 < x
    · exact (rvalue_nan2 s x w hs hx1 hx2 hT hne hlo hhi (by omega) k2).mono fin
    · exact (rvalue_nan3 s x w hs hx1 hx2 hT hne hlo hhi (by omega) (by omega)).mono fin
  by_cases h0 : x < 0
  · obtain ⟨K, rfl⟩ : ∃ K : Nat, x = -(K : Int) := ⟨(-x).toNat, by omega⟩
    have e : valB T (-(K : Int)) = (Ieee.double.div (W (dval T)) (tenB K)).getD 0 := by
      unfold valB; rw [if_neg hl0, if_neg hhi, if_neg hlo, if_neg hN, if_pos h0, show (- -(K:Int)).toNat = K by omega]
    refine (rvalue_neg s K w hs hT hne hA (by omega) (by omega) (by omega)).mono ?_
    rintro e w1 ⟨rfl, rfl⟩
    rw [e] at hlt ⊢
    exact ⟨_, rfl, ag_refl hlt, Below.refl _ _⟩
  · obtain ⟨K, rfl⟩ : ∃ K : Nat, x = (K : Int) := ⟨x.toNat, by omega⟩
    have e : valB T (K : Int) = (Ieee.double.mul (W (dval T)) (tenB K)).getD 0 := by
      unfold valB; rw [if_neg hl0, if_neg hhi, if_neg hlo, if_neg hN, if_neg h0, Int.toNat_natCast]
    refine (rvalue_pos s K w hs hT hne hA (by omega) (by omega)).mono ?_
    rintro e w1 ⟨rfl, rfl⟩
    rw [e] at hlt ⊢
    exact ⟨_, rfl, ag_refl hlt, Below.refl _ _⟩
end Go.Proofs.YtdbcdofekfjilaaDoor
