/- The contracts of the document's plain and Real; the walk of RealTells. -/
import Derived.Test.YtdbcdofekfjilaaDoorRealP
import Derived.Test.YtdbcdofekfjilaaDoorRealL
namespace Go.Proofs.YtdbcdofekfjilaaDoor
open Go.RowKit

def pvo : Option (List UInt8 × Int) → Nat
  | none => 9221120237041090561
  | some (d, x) => valB (tz d) x
def pv (l : List UInt8) : Nat := pvo (plainD l)
theorem expoD_bd {l : List UInt8} {x : Int} (h : expoD l = some x) : -1000000 ≤ x ∧ x ≤ 1000000 := by
  rw [← expo_D (Nat.le_refl _)] at h; exact expo_bd h
theorem nan_RN {v : Nat} (hv : nanB v = true) {w w' : World} {b : Nat} (hb : nanB b = true ∧ b < 18446744073709551616) (hB : Below w.heap.size w w') : RN v w (.returned (.float .f64 b)) w' :=
  ⟨b, rfl, ⟨hb.2, .inl ⟨hv, hb.1⟩⟩, hB⟩
theorem head_at {R : ByteArray} {c : UInt8} {t : List UInt8} (h : R.data.toList = c :: t) (h0 : 0 < R.size) : R[0]'h0 = c := by
  have h9 : R[0]'h0 = R.data.toList[0]'(by rw [h]; simp) := rfl
  rw [h9]; simp [h]
theorem nanC : nanB 9221120237041090561 = true := by decide +kernel


set_option maxHeartbeats 1500000 in
set_option maxRecDepth 100000 in
theorem rplain_none (s : ByteArray) (w : World) (hs : s.size ≤ 100000) (hU : ud s.data.toList = []) :
    Calls Tryd.prog 23 #[.string s] w fun e w' => RN (pv s.data.toList) w e w' := by
  have hsp : dg s.data.toList ++ ud s.data.toList = s.data.toList := List.takeWhile_append_dropWhile
  have hln : (dg s.data.toList).length + (ud s.data.toList).length = s.size := by have := congrArg List.length hsp; rw [List.length_append, ← Lib.size_eq] at this; exact this
  have eA : s.extract 0 (dg s.data.toList).length = mkb (dg s.data.toList) := by rw [← mkb_of s, mkb_extract, mkb_data, List.drop_zero, Nat.sub_zero]; congr 1; exact take_tw isD _
  have eR : s.extract (dg s.data.toList).length s.size = mkb (ud s.data.toList) := by rw [← mkb_of s, mkb_extract, mkb_data, mkb_size, List.take_of_length_le (by simp)]; congr 1; exact drop_tw isD _
  have hD0 := digs_dg s.data.toList
  have hdr0 : s.data.toList.drop 0 = s.data.toList := List.drop_zero
  obtain ⟨A, hA⟩ : ∃ A : ByteArray, A = mkb (dg s.data.toList) := ⟨_, rfl⟩
  obtain ⟨R, hR⟩ : ∃ R : ByteArray, R = mkb (ud s.data.toList) := ⟨_, rfl⟩
  rw [← hA] at eA
  rw [← hR] at eR
  have hRz : R.size = (ud s.data.toList).length := by rw [hR, mkb_size]
  have hRd : R.data.toList = ud s.data.toList := by rw [hR]; rfl
  obtain ⟨N, hN⟩ : ∃ N, N = (dg s.data.toList).length := ⟨_, rfl⟩
  rw [← hN] at eA eR hln
  have hNn : N = 0 ↔ dg s.data.toList = [] := by rw [hN]; exact List.length_eq_zero_iff
  have HN := Lib.hid hN
  have EA := Lib.hid eA
  have ER := Lib.hid eR
  clear eA eR
  have hR0 : R.size = 0 := by rw [hRz, hU]; rfl
  have z1 : ¬ (0 : Int) < (R.size : Int) := by omega
  have hpl : pv s.data.toList = if dg s.data.toList = [] then 9221120237041090561 else match expoD R.data.toList with | none => 9221120237041090561 | some x => valB (tz (dg s.data.toList)) x := by
    unfold pv plainD
    rw [hRd, hU, tk1_nil, dr1_nil]
    split
    · rfl
    · simp only [if_true]; cases expoD [] <;> rfl
  have HDR := Lib.hid hdr0
  clear hdr0
  have hXz : R.size ≤ 100000 := by omega
  have HVd := Lib.hid (show A.data.toList = dg s.data.toList by rw [hA]; rfl)
  have hVz : A.size ≤ 100000 := by rw [hA, mkb_size]; omega
  have HVa := Lib.hid (show A.data.toList.all isD = true by rw [hA]; exact hD0)
  clear hU hsp hA hR hRd hN hRz
  by_cases n0 : N = 0
  · have HNV := Lib.hid (show nanB (pv s.data.toList) = true by rw [hpl, if_pos (hNn.1 n0)]; exact nanC)
    have nz : ((N : Int) == 0) = true := by rw [n0]; rfl
    clear hpl hNn n0
    go_enter Tryd.func23, Tryd.ntmps23
    go_wp2_with fail
    refine (rdigits_any s 0 _ (by omega) hs).mono ?_; rintro e w1 ⟨rfl, rfl⟩
    rw [HDR.out, ← HN.out]
    have eA := EA.out
    have eR := ER.out
    have hNle : N ≤ s.size := by omega
    go_wp2_with fail
    (with_reducible refine (rexp_any R _ hXz).mono ?_); rintro e w3 ⟨rfl, rfl⟩
    cases expoD R.data.toList
    · unfold rev
      go_wp2_with fail
      (with_reducible refine (rnan_any _).mono ?_); rintro e w9 ⟨b, rfl, hb, hbel⟩
      have HB := Lib.hid hb
      clear hb
      go_wp2_with fail
      go_ret
      exact nan_RN HNV.out HB.out hbel
    · unfold rev
      go_wp2_with fail
      (with_reducible refine (rnan_any _).mono ?_); rintro e w9 ⟨b, rfl, hb, hbel⟩
      have HB := Lib.hid hb
      clear hb
      go_wp2_with fail
      go_ret
      exact nan_RN HNV.out HB.out hbel
  have nz : ((N : Int) == 0) = false := beq_false_of_ne (by omega)
  have hds : dg s.data.toList ≠ [] := fun e => n0 (hNn.2 e)
  rw [if_neg hds] at hpl
  clear hds hNn n0
  cases hx : expoD R.data.toList with
  | none =>
    rw [hx] at hpl
    have HNV := Lib.hid (show nanB (pv s.data.toList) = true by rw [hpl]; exact nanC)
    have HX := Lib.hid hx
    clear hpl hx
    go_enter Tryd.func23, Tryd.ntmps23
    go_wp2_with fail
    refine (rdigits_any s 0 _ (by omega) hs).mono ?_; rintro e w1 ⟨rfl, rfl⟩
    rw [HDR.out, ← HN.out]
    have eA := EA.out
    have eR := ER.out
    have hNle : N ≤ s.size := by omega
    go_wp2_with fail
    (with_reducible refine (rexp_any R _ hXz).mono ?_); rintro e w3 ⟨rfl, rfl⟩
    rw [HX.out]
    unfold rev
    go_wp2_with fail
    (with_reducible refine (rnan_any _).mono ?_); rintro e w9 ⟨b, rfl, hb, hbel⟩
    have HB := Lib.hid hb
    clear hb
    go_wp2_with fail
    go_ret
    exact nan_RN HNV.out HB.out hbel
  | some x =>
    rw [hx] at hpl
    have hxb := expoD_bd hx
    have hxb1 := hxb.1
    have hxb2 := hxb.2
    have HP := Lib.hid hpl
    have HX := Lib.hid hx
    clear hpl hx hxb
    go_enter Tryd.func23, Tryd.ntmps23
    go_wp2_with fail
    refine (rdigits_any s 0 _ (by omega) hs).mono ?_; rintro e w1 ⟨rfl, rfl⟩
    rw [HDR.out, ← HN.out]
    have eA := EA.out
    have eR := ER.out
    have hNle : N ≤ s.size := by omega
    go_wp2_with fail
    (with_reducible refine (rexp_any R _ hXz).mono ?_); rintro e w3 ⟨rfl, rfl⟩
    rw [HX.out]
    unfold rev
    go_wp2_with fail
    (with_reducible refine (rvalue_any A x _ hVz (by omega) (by omega) HVa.out).mono ?_); rintro e w9 ⟨b, rfl, hag, hbel⟩
    have HG := Lib.hid hag
    clear hag
    go_wp2_with fail
    go_ret
    refine ⟨b, rfl, ?_, hbel⟩
    have h := HG.out
    rw [HVd.out] at h
    rw [HP.out]
    exact h

set_option maxHeartbeats 1500000 in
set_option maxRecDepth 100000 in
theorem rplain_other (s : ByteArray) (w : World) (hs : s.size ≤ 100000) {c : UInt8} {t : List UInt8} (hU : ud s.data.toList = c :: t) (hc : ¬ c = 46) :
    Calls Tryd.prog 23 #[.string s] w fun e w' => RN (pv s.data.toList) w e w' := by
  have hsp : dg s.data.toList ++ ud s.data.toList = s.data.toList := List.takeWhile_append_dropWhile
  have hln : (dg s.data.toList).length + (ud s.data.toList).length = s.size := by have := congrArg List.length hsp; rw [List.length_append, ← Lib.size_eq] at this; exact this
  have eA : s.extract 0 (dg s.data.toList).length = mkb (dg s.data.toList) := by rw [← mkb_of s, mkb_extract, mkb_data, List.drop_zero, Nat.sub_zero]; congr 1; exact take_tw isD _
  have eR : s.extract (dg s.data.toList).length s.size = mkb (ud s.data.toList) := by rw [← mkb_of s, mkb_extract, mkb_data, mkb_size, List.take_of_length_le (by simp)]; congr 1; exact drop_tw isD _
  have hD0 := digs_dg s.data.toList
  have hdr0 : s.data.toList.drop 0 = s.data.toList := List.drop_zero
  obtain ⟨A, hA⟩ : ∃ A : ByteArray, A = mkb (dg s.data.toList) := ⟨_, rfl⟩
  obtain ⟨R, hR⟩ : ∃ R : ByteArray, R = mkb (ud s.data.toList) := ⟨_, rfl⟩
  rw [← hA] at eA
  rw [← hR] at eR
  have hRz : R.size = (ud s.data.toList).length := by rw [hR, mkb_size]
  have hRd : R.data.toList = ud s.data.toList := by rw [hR]; rfl
  obtain ⟨N, hN⟩ : ∃ N, N = (dg s.data.toList).length := ⟨_, rfl⟩
  rw [← hN] at eA eR hln
  have hNn : N = 0 ↔ dg s.data.toList = [] := by rw [hN]; exact List.length_eq_zero_iff
  have HN := Lib.hid hN
  have EA := Lib.hid eA
  have ER := Lib.hid eR
  clear eA eR
  have hR0 : 0 < R.size := by rw [hRz, hU]; simp
  have z1 : (0 : Int) < (R.size : Int) := by omega
  have hh : R[0]'hR0 = c := head_at (by rw [hRd, hU]) hR0
  have z2 : (((R[0]'hR0).toNat : Int) == 46) = false := by rw [hh]; exact beq_false_of_ne (fun e => hc (UInt8.toNat_inj.1 (by exact_mod_cast e)))
  have hpl : pv s.data.toList = if dg s.data.toList = [] then 9221120237041090561 else match expoD R.data.toList with | none => 9221120237041090561 | some x => valB (tz (dg s.data.toList)) x := by
    have hs1 : ([46] : List UInt8).contains c = false := by simp [hc]
    unfold pv plainD
    rw [hRd, hU, tk1_cons, dr1_cons, hs1]
    split
    · rfl
    · simp only [if_true, Bool.false_eq_true, if_false]; cases expoD (c :: t) <;> rfl
  have HDR := Lib.hid hdr0
  clear hdr0
  have hXz : R.size ≤ 100000 := by omega
  have HVd := Lib.hid (show A.data.toList = dg s.data.toList by rw [hA]; rfl)
  have hVz : A.size ≤ 100000 := by rw [hA, mkb_size]; omega
  have HVa := Lib.hid (show A.data.toList.all isD = true by rw [hA]; exact hD0)
  clear hU hsp hA hR hRd hN hRz hh
  by_cases n0 : N = 0
  · have HNV := Lib.hid (show nanB (pv s.data.toList) = true by rw [hpl, if_pos (hNn.1 n0)]; exact nanC)
    have nz : ((N : Int) == 0) = true := by rw [n0]; rfl
    clear hpl hNn n0
    go_enter Tryd.func23, Tryd.ntmps23
    go_wp2_with fail
    refine (rdigits_any s 0 _ (by omega) hs).mono ?_; rintro e w1 ⟨rfl, rfl⟩
    rw [HDR.out, ← HN.out]
    have eA := EA.out
    have eR := ER.out
    have hNle : N ≤ s.size := by omega
    go_wp2_with fail
    (with_reducible refine (rexp_any R _ hXz).mono ?_); rintro e w3 ⟨rfl, rfl⟩
    cases expoD R.data.toList
    · unfold rev
      go_wp2_with fail
      (with_reducible refine (rnan_any _).mono ?_); rintro e w9 ⟨b, rfl, hb, hbel⟩
      have HB := Lib.hid hb
      clear hb
      go_wp2_with fail
      go_ret
      exact nan_RN HNV.out HB.out hbel
    · unfold rev
      go_wp2_with fail
      (with_reducible refine (rnan_any _).mono ?_); rintro e w9 ⟨b, rfl, hb, hbel⟩
      have HB := Lib.hid hb
      clear hb
      go_wp2_with fail
      go_ret
      exact nan_RN HNV.out HB.out hbel
  have nz : ((N : Int) == 0) = false := beq_false_of_ne (by omega)
  have hds : dg s.data.toList ≠ [] := fun e => n0 (hNn.2 e)
  rw [if_neg hds] at hpl
  clear hds hNn n0
  cases hx : expoD R.data.toList with
  | none =>
    rw [hx] at hpl
    have HNV := Lib.hid (show nanB (pv s.data.toList) = true by rw [hpl]; exact nanC)
    have HX := Lib.hid hx
    clear hpl hx
    go_enter Tryd.func23, Tryd.ntmps23
    go_wp2_with fail
    refine (rdigits_any s 0 _ (by omega) hs).mono ?_; rintro e w1 ⟨rfl, rfl⟩
    rw [HDR.out, ← HN.out]
    have eA := EA.out
    have eR := ER.out
    have hNle : N ≤ s.size := by omega
    go_wp2_with fail
    (with_reducible refine (rexp_any R _ hXz).mono ?_); rintro e w3 ⟨rfl, rfl⟩
    rw [HX.out]
    unfold rev
    go_wp2_with fail
    (with_reducible refine (rnan_any _).mono ?_); rintro e w9 ⟨b, rfl, hb, hbel⟩
    have HB := Lib.hid hb
    clear hb
    go_wp2_with fail
    go_ret
    exact nan_RN HNV.out HB.out hbel
  | some x =>
    rw [hx] at hpl
    have hxb := expoD_bd hx
    have hxb1 := hxb.1
    have hxb2 := hxb.2
    have HP := Lib.hid hpl
    have HX := Lib.hid hx
    clear hpl hx hxb
    go_enter Tryd.func23, Tryd.ntmps23
    go_wp2_with fail
    refine (rdigits_any s 0 _ (by omega) hs).mono ?_; rintro e w1 ⟨rfl, rfl⟩
    rw [HDR.out, ← HN.out]
    have eA := EA.out
    have eR := ER.out
    have hNle : N ≤ s.size := by omega
    go_wp2_with fail
    (with_reducible refine (rexp_any R _ hXz).mono ?_); rintro e w3 ⟨rfl, rfl⟩
    rw [HX.out]
    unfold rev
    go_wp2_with fail
    (with_reducible refine (rvalue_any A x _ hVz (by omega) (by omega) HVa.out).mono ?_); rintro e w9 ⟨b, rfl, hag, hbel⟩
    have HG := Lib.hid hag
    clear hag
    go_wp2_with fail
    go_ret
    refine ⟨b, rfl, ?_, hbel⟩
    have h := HG.out
    rw [HVd.out] at h
    rw [HP.out]
    exact h

set_option maxHeartbeats 1500000 in
set_option maxRecDepth 100000 in
theorem rplain_dot (s : ByteArray) (w : World) (hs : s.size ≤ 100000) {t : List UInt8} (hU : ud s.data.toList = 46 :: t) :
    Calls Tryd.prog 23 #[.string s] w fun e w' => RN (pv s.data.toList) w e w' := by
  have hsp : dg s.data.toList ++ ud s.data.toList = s.data.toList := List.takeWhile_append_dropWhile
  have hln : (dg s.data.toList).length + (ud s.data.toList).length = s.size := by have := congrArg List.length hsp; rw [List.length_append, ← Lib.size_eq] at this; exact this
  have eA : s.extract 0 (dg s.data.toList).length = mkb (dg s.data.toList) := by rw [← mkb_of s, mkb_extract, mkb_data, List.drop_zero, Nat.sub_zero]; congr 1; exact take_tw isD _
  have eR : s.extract (dg s.data.toList).length s.size = mkb (ud s.data.toList) := by rw [← mkb_of s, mkb_extract, mkb_data, mkb_size, List.take_of_length_le (by simp)]; congr 1; exact drop_tw isD _
  have hD0 := digs_dg s.data.toList
  have hdr0 : s.data.toList.drop 0 = s.data.toList := List.drop_zero
  obtain ⟨A, hA⟩ : ∃ A : ByteArray, A = mkb (dg s.data.toList) := ⟨_, rfl⟩
  obtain ⟨R, hR⟩ : ∃ R : ByteArray, R = mkb (ud s.data.toList) := ⟨_, rfl⟩
  rw [← hA] at eA
  rw [← hR] at eR
  have hRz : R.size = (ud s.data.toList).length := by rw [hR, mkb_size]
  have hRd : R.data.toList = ud s.data.toList := by rw [hR]; rfl
  obtain ⟨N, hN⟩ : ∃ N, N = (dg s.data.toList).length := ⟨_, rfl⟩
  rw [← hN] at eA eR hln
  have hNn : N = 0 ↔ dg s.data.toList = [] := by rw [hN]; exact List.length_eq_zero_iff
  have HN := Lib.hid hN
  have EA := Lib.hid eA
  have ER := Lib.hid eR
  clear eA eR
  have hR0 : 0 < R.size := by rw [hRz, hU]; simp
  have z1 : (0 : Int) < (R.size : Int) := by omega
  have hh : R[0]'hR0 = 46 := head_at (by rw [hRd, hU]) hR0
  have z2 : (((R[0]'hR0).toNat : Int) == 46) = true := by rw [hh]; rfl
  have hRl : R.size = t.length + 1 := by rw [hRz, hU]; rfl
  have hRle : R.size ≤ 100000 := by rw [hRz]; omega
  have hd1 : R.data.toList.drop 1 = t := by rw [hRd, hU]; rfl
  have hkl := dg_len t
  have hT2 := digs_dg t
  have hsp2 : dg t ++ ud t = t := List.takeWhile_append_dropWhile
  have hln2 : (dg t).length + (ud t).length = t.length := by have := congrArg List.length hsp2; rw [List.length_append] at this; exact this
  have hRm : R = mkb (46 :: t) := by rw [hR, hU]
  have eB : R.extract 1 ((dg t).length + 1) = mkb (dg t) := by rw [hRm, mkb_extract]; simp only [List.drop_succ_cons, List.drop_zero, Nat.add_sub_cancel]; congr 1; exact take_tw isD t
  have eC : R.extract ((dg t).length + 1) R.size = mkb (ud t) := by rw [hRm, mkb_extract, mkb_size, List.drop_succ_cons, List.take_of_length_le (by simp)]; congr 1; exact drop_tw isD t
  obtain ⟨B, hB⟩ : ∃ B : ByteArray, B = mkb (dg t) := ⟨_, rfl⟩
  obtain ⟨C, hC⟩ : ∃ C : ByteArray, C = mkb (ud t) := ⟨_, rfl⟩
  rw [← hB] at eB
  rw [← hC] at eC
  have hCz : C.size ≤ 100000 := by rw [hC, mkb_size]; omega
  have hCd : C.data.toList = ud t := by rw [hC]; rfl
  obtain ⟨D, hD, aD⟩ := sadd' hA hB (by omega)
  have hDz : D.size ≤ 200000 := by rw [hD, mkb_size, List.length_append]; omega
  have hDd : D.data.toList = dg s.data.toList ++ dg t := by rw [hD]; rfl
  obtain ⟨M, hM⟩ : ∃ M, M = (dg t).length := ⟨_, rfl⟩
  rw [← hM] at eB eC hkl hln2
  have hMn : M = 0 ↔ dg t = [] := by rw [hM]; exact List.length_eq_zero_iff
  have HM := Lib.hid hM
  have EB := Lib.hid eB
  have EC := Lib.hid eC
  clear eB eC
  have hpl : pv s.data.toList = if dg s.data.toList = [] then 9221120237041090561 else if dg t = [] then 9221120237041090561 else match expoD C.data.toList with | none => 9221120237041090561 | some x => valB (tz (dg s.data.toList ++ dg t)) (x - (M : Int)) := by
    have e1 : tk [46] 1 (46 :: t) = [46] := by rw [tk1_cons]; rfl
    have e2 : dr [46] 1 (46 :: t) = t := by rw [dr1_cons]; rfl
    unfold pv plainD
    rw [hCd, hU, e1, e2, hM]
    split
    · rfl
    · simp only [List.cons_ne_nil, if_false]
      split
      · rfl
      · cases expoD (ud t) <;> rfl
  have HDR := Lib.hid hdr0
  clear hdr0
  have hXz := hCz
  have HD1 := Lib.hid hd1
  have hRM : M + 1 ≤ R.size := by omega
  have HVd := Lib.hid (show D.data.toList = dg s.data.toList ++ dg t by exact hDd)
  have hVz : D.size ≤ 100000 := by rw [hD, mkb_size, List.length_append]; omega
  have HVa := Lib.hid (show D.data.toList.all isD = true by rw [hDd, List.all_append, hD0, hT2]; rfl)
  clear hDd hDz hCd
  clear hU hsp hA hR hRd hN hRz hRm hd1 hsp2 hB hC hD hM hh hRl
  by_cases m0 : M = 0
  · have HNV := Lib.hid (show nanB (pv s.data.toList) = true by rw [hpl]; split; (· exact nanC); (· rw [if_pos (hMn.1 m0)]; exact nanC))
    have mz : ((M : Int) == 0) = true := by rw [m0]; rfl
    clear hpl hMn hNn m0
    go_enter Tryd.func23, Tryd.ntmps23
    go_wp2_with fail
    refine (rdigits_any s 0 _ (by omega) hs).mono ?_; rintro e w1 ⟨rfl, rfl⟩
    rw [HDR.out, ← HN.out]
    have eA := EA.out
    have eR := ER.out
    have hNle : N ≤ s.size := by omega
    go_wp2_with fail
    refine (rdigits_any R 1 _ (by omega) hRle).mono ?_; rintro e w2 ⟨rfl, rfl⟩
    rw [HD1.out, ← HM.out]
    go_wp2_with fail
    (with_reducible refine (rnan_any _).mono ?_); rintro e w9 ⟨b, rfl, hb, hbel⟩
    have HB := Lib.hid hb
    clear hb
    go_wp2_with fail
    go_ret
    exact nan_RN HNV.out HB.out hbel
  have mz : ((M : Int) == 0) = false := beq_false_of_ne (by omega)
  have hdt : dg t ≠ [] := fun e => m0 (hMn.2 e)
  rw [if_neg hdt] at hpl
  clear hdt hMn m0
  by_cases n0 : N = 0
  · have HNV := Lib.hid (show nanB (pv s.data.toList) = true by rw [hpl, if_pos (hNn.1 n0)]; exact nanC)
    have nz : ((N : Int) == 0) = true := by rw [n0]; rfl
    clear hpl hNn n0
    go_enter Tryd.func23, Tryd.ntmps23
    go_wp2_with fail
    refine (rdigits_any s 0 _ (by omega) hs).mono ?_; rintro e w1 ⟨rfl, rfl⟩
    rw [HDR.out, ← HN.out]
    have eA := EA.out
    have eR := ER.out
    have hNle : N ≤ s.size := by omega
    go_wp2_with fail
    refine (rdigits_any R 1 _ (by omega) hRle).mono ?_; rintro e w2 ⟨rfl, rfl⟩
    rw [HD1.out, ← HM.out]
    have eB := EB.out
    have eC := EC.out
    have aM1 : (1 : Int) ≤ (M : Int) + 1 := by omega
    have aM2 : (M : Int) + 1 ≤ (R.size : Int) := by omega
    go_wp2_with fail
    (with_reducible refine (rexp_any C _ hXz).mono ?_); rintro e w3 ⟨rfl, rfl⟩
    cases expoD C.data.toList
    · unfold rev
      go_wp2_with fail
      (with_reducible refine (rnan_any _).mono ?_); rintro e w9 ⟨b, rfl, hb, hbel⟩
      have HB := Lib.hid hb
      clear hb
      go_wp2_with fail
      go_ret
      exact nan_RN HNV.out HB.out hbel
    · unfold rev
      go_wp2_with fail
      (with_reducible refine (rnan_any _).mono ?_); rintro e w9 ⟨b, rfl, hb, hbel⟩
      have HB := Lib.hid hb
      clear hb
      go_wp2_with fail
      go_ret
      exact nan_RN HNV.out HB.out hbel
  have nz : ((N : Int) == 0) = false := beq_false_of_ne (by omega)
  have hds : dg s.data.toList ≠ [] := fun e => n0 (hNn.2 e)
  rw [if_neg hds] at hpl
  clear hds hNn n0
  cases hx : expoD C.data.toList with
  | none =>
    rw [hx] at hpl
    have HNV := Lib.hid (show nanB (pv s.data.toList) = true by rw [hpl]; exact nanC)
    have HX := Lib.hid hx
    clear hpl hx
    go_enter Tryd.func23, Tryd.ntmps23
    go_wp2_with fail
    refine (rdigits_any s 0 _ (by omega) hs).mono ?_; rintro e w1 ⟨rfl, rfl⟩
    rw [HDR.out, ← HN.out]
    have eA := EA.out
    have eR := ER.out
    have hNle : N ≤ s.size := by omega
    go_wp2_with fail
    refine (rdigits_any R 1 _ (by omega) hRle).mono ?_; rintro e w2 ⟨rfl, rfl⟩
    rw [HD1.out, ← HM.out]
    have eB := EB.out
    have eC := EC.out
    have aM1 : (1 : Int) ≤ (M : Int) + 1 := by omega
    have aM2 : (M : Int) + 1 ≤ (R.size : Int) := by omega
    go_wp2_with fail
    (with_reducible refine (rexp_any C _ hXz).mono ?_); rintro e w3 ⟨rfl, rfl⟩
    rw [HX.out]
    unfold rev
    go_wp2_with fail
    (with_reducible refine (rnan_any _).mono ?_); rintro e w9 ⟨b, rfl, hb, hbel⟩
    have HB := Lib.hid hb
    clear hb
    go_wp2_with fail
    go_ret
    exact nan_RN HNV.out HB.out hbel
  | some x =>
    rw [hx] at hpl
    have hxb := expoD_bd hx
    have hxb1 := hxb.1
    have hxb2 := hxb.2
    have HP := Lib.hid hpl
    have HX := Lib.hid hx
    clear hpl hx hxb
    go_enter Tryd.func23, Tryd.ntmps23
    go_wp2_with fail
    refine (rdigits_any s 0 _ (by omega) hs).mono ?_; rintro e w1 ⟨rfl, rfl⟩
    rw [HDR.out, ← HN.out]
    have eA := EA.out
    have eR := ER.out
    have hNle : N ≤ s.size := by omega
    go_wp2_with fail
    refine (rdigits_any R 1 _ (by omega) hRle).mono ?_; rintro e w2 ⟨rfl, rfl⟩
    rw [HD1.out, ← HM.out]
    have eB := EB.out
    have eC := EC.out
    have aM1 : (1 : Int) ≤ (M : Int) + 1 := by omega
    have aM2 : (M : Int) + 1 ≤ (R.size : Int) := by omega
    go_wp2_with fail
    (with_reducible refine (rexp_any C _ hXz).mono ?_); rintro e w3 ⟨rfl, rfl⟩
    rw [HX.out]
    unfold rev
    go_wp2_with fail
    (with_reducible refine (rvalue_any D (x - (M : Int)) _ hVz (by omega) (by omega) HVa.out).mono ?_); rintro e w9 ⟨b, rfl, hag, hbel⟩
    have HG := Lib.hid hag
    clear hag
    go_wp2_with fail
    go_ret
    refine ⟨b, rfl, ?_, hbel⟩
    have h := HG.out
    rw [HVd.out] at h
    rw [HP.out]
    exact h

theorem rplain_any (s : ByteArray) (w : World) (hs : s.size ≤ 100000) :
    Calls Tryd.prog 23 #[.string s] w fun e w' => RN (pv s.data.toList) w e w' := by
  cases hU : ud s.data.toList with
  | nil => exact rplain_none s w hs hU
  | cons c t =>
    by_cases hc : c = 46
    · subst hc; exact rplain_dot s w hs hU
    · exact rplain_other s w hs hU hc

theorem rv_plain {l : List UInt8} (h : ∀ t, l ≠ 45 :: t) : rv l = pv l := by
  unfold rv pv
  rw [num_plain l h]
  cases plainD l with
  | none => rfl
  | some q => obtain ⟨d, x⟩ := q; simp [rvo, pvo]
theorem pv_half (l : List UInt8) : nanB (pv l) = true ∨ pv l < 9223372036854775808 := by
  unfold pv
  cases hp : plainD l with
  | none => left; exact nanC
  | some q =>
    obtain ⟨d, x⟩ := q
    refine valB_half (tz d) (tz_all ?_) x
    rw [← plain_D (Nat.le_refl _)] at hp
    exact (plainN_ok hp).1
theorem rv_neg_plain (t : List UInt8) : rv (45 :: t) = if nanB (pv t) then pv t else rg (pv t) + 9223372036854775808 := by
  unfold rv
  rw [num_minus]
  unfold pv
  cases plainD t with
  | none => exact (if_pos nanC).symm
  | some q => obtain ⟨d, x⟩ := q; simp only [Option.map_some, rvo, pvo, Bool.true_and]; by_cases hv : nanB (valB (tz d) x) = true <;> simp [hv]

set_option maxHeartbeats 1000000 in
theorem rreal_any (s : ByteArray) (w : World) (hs : s.size ≤ 100000) :
    Calls Tryd.prog 12 #[.string s] w fun e w' => RN (rv s.data.toList) w e w' := by
  cases hl : s.data.toList with
  | nil =>
    have h0 : ¬ (0 : Int) < (s.size : Int) := by rw [Lib.size_eq, hl]; simp
    have HP := Lib.hid (show rv [] = pv s.data.toList by rw [hl]; exact rv_plain (by intro t e; cases e))
    clear hl
    go_enter Tryd.func12, Tryd.ntmps12
    go_wp2_with fail
    (with_reducible refine (rplain_any s _ hs).mono ?_); rintro e w1 ⟨b, rfl, hag, hbel⟩
    have HG := Lib.hid hag
    clear hag
    go_wp2_with fail
    go_ret
    exact ⟨b, rfl, by rw [HP.out]; exact HG.out, hbel⟩
  | cons c t =>
    have h0 : 0 < s.size := by rw [Lib.size_eq, hl]; simp
    have h0' : (0 : Int) < (s.size : Int) := by omega
    have hc : s[0]'h0 = c := by
      have : s[0]'h0 = s.data.toList[0]'(by rw [hl]; simp) := rfl
      rw [this]; simp [hl]
    by_cases h45 : c = 45
    · have k : (((s[0]'h0).toNat : Int) == 45) = true := by rw [hc, h45]; rfl
      obtain ⟨A, hA⟩ : ∃ A : ByteArray, A = mkb t := ⟨_, rfl⟩
      have hx : s.extract 1 s.size = A := by
        rw [hA, ← mkb_of s, mkb_extract, mkb_size, hl]
        simp
      have hAz : A.size ≤ 100000 := by
        rw [hA, mkb_size]
        have : s.size = t.length + 1 := by rw [Lib.size_eq, hl]; rfl
        omega
      have h1 : (1 : Int) ≤ (s.size : Int) := by omega
      have HAd := Lib.hid (show A.data.toList = t by rw [hA]; rfl)
      have HP := Lib.hid (show rv (c :: t) = if nanB (pv t) then pv t else rg (pv t) + 9223372036854775808 by rw [h45]; exact rv_neg_plain t)
      clear hl hc hA h45
      go_enter Tryd.func12, Tryd.ntmps12
      go_wp2_with fail
      (with_reducible refine (rplain_any A _ hAz).mono ?_); rintro e w1 ⟨b, rfl, hag, hbel⟩
      rw [HAd.out] at hag
      have hbl := hag.1
      have HG := Lib.hid hag
      clear hag
      have hneg : ∀ w, (Op.unary .neg (.float .f64 b)).run Tryd.prog w = .ok (.float .f64 (negB b)) w := fun w => by rw [← neg_eq hbl]; rfl
      go_wp2_with fail
      go_ret
      refine ⟨negB b, rfl, ⟨(negB_facts hbl).1, ?_⟩, hbel⟩
      rw [HP.out]
      rcases HG.out.2 with ⟨g1, g2⟩ | g
      · left; rw [if_pos g1]; exact ⟨g1, by rw [negB_nan hbl]; exact g2⟩
      · subst g
        cases hn : nanB (pv t)
        · right
          have hp : pv t < 9223372036854775808 := by
            rcases pv_half t with h | h
            · rw [hn] at h; cases h
            · exact h
          simp only [Bool.false_eq_true, if_false]
          unfold negB sg rg
          have : ¬ 9223372036854775808 ≤ pv t := by omega
          simp only [this, decide_false, Bool.false_eq_true, if_false]
          omega
        · left
          simp only [if_true]
          exact ⟨hn, by rw [negB_nan hbl]; exact hn⟩
    · have k : (((s[0]'h0).toNat : Int) == 45) = false := by rw [hc]; exact beq_false_of_ne (fun e => h45 (UInt8.toNat_inj.1 (by exact_mod_cast e)))
      have HP := Lib.hid (show rv (c :: t) = pv s.data.toList by rw [hl]; exact rv_plain (by intro u e; exact h45 (List.cons.inj e).1))
      clear hl hc
      go_enter Tryd.func12, Tryd.ntmps12
      go_wp2_with fail
      (with_reducible refine (rplain_any s _ hs).mono ?_); rintro e w1 ⟨b, rfl, hag, hbel⟩
      have HG := Lib.hid hag
      clear hag
      go_wp2_with fail
      go_ret
      exact ⟨b, rfl, by rw [HP.out]; exact HG.out, hbel⟩

theorem ag_same {b v : Nat} (hv : v < 18446744073709551616) (h : Ag b v) : samev v b = true := by
  rcases h.2 with ⟨h1, h2⟩ | rfl
  · rw [same_nan h1, h2]
  · exact same_self hv

set_option maxHeartbeats 1000000 in
set_option maxRecDepth 100000 in
theorem tells_any (s : ByteArray) (a b : Nat) (w : World) (hs : s.size ≤ 9223372036854775807) (ha : a < 18446744073709551616) (hb : b < 18446744073709551616) :
    Calls Tryd.prog 3 #[.string s, .float .f64 a, .float .f64 b] w fun e w' => e = .returned (.bool true) ∧ Below w.heap.size w w' := by
  by_cases h6 : 600 < (s.size : Int)
  · go_enter Tryd.func3, Tryd.ntmps3
    go_wp2_with fail
    refine (awake_any _).mono ?_; rintro e w1 ⟨rfl, hb1⟩
    go_wp2_with fail
    go_ret
    exact ⟨rfl, hb1⟩
  have hs6 : s.size ≤ 600 := by omega
  have hl : s.data.toList.length ≤ 600 := by rw [← Lib.size_eq]; exact hs6
  have r0 := fun w => real_b (w := w) (A := s) (l := s.data.toList) rfl rfl (by omega)
  have hv := rv_lt s.data.toList
  go_enter Tryd.func3, Tryd.ntmps3
  go_wp2_with fail
  refine (awake_any _).mono ?_; rintro e w1 ⟨rfl, hb1⟩
  go_wp2_with fail
  (with_reducible refine (r0 _).mono ?_); rintro e w2 ⟨rfl, hb2⟩
  go_wp2_with fail
  (with_reducible refine (rreal_any s _ (by omega)).mono ?_); rintro e w3 ⟨g, rfl, hag, hb3⟩
  have hgl := hag.1
  have HS := Lib.hid (ag_same hv hag)
  clear hag
  go_wp2_with fail
  (with_reducible refine (rsame_any _ _ _ hv hgl).mono ?_); rintro e w4 ⟨rfl, rfl⟩
  rw [HS.out]
  go_wp2_with fail
  (with_reducible refine (rsame_any _ _ _ ha hb).mono ?_); rintro e w4 ⟨rfl, rfl⟩
  go_wp2_with fail
  (with_reducible refine (rnegative_any _ _ ha).mono ?_); rintro e w4 ⟨rfl, rfl⟩
  go_wp2_with fail
  (with_reducible refine (same_any _ _ _ ha hb).mono ?_); rintro e w4 ⟨rfl, rfl⟩
  go_wp2_with fail
  (with_reducible refine (sort_any _ _ ha).mono ?_); rintro e w4 ⟨rfl, rfl⟩
  go_wp2_with fail
  (with_reducible refine (rsort_any _ _ ha).mono ?_); rintro e w4 ⟨rfl, rfl⟩
  go_wp2_with fail
  (with_reducible refine (negative_any _ _ ha).mono ?_); rintro e w4 ⟨rfl, rfl⟩
  go_wp2_with fail
  go_ret
  exact ⟨by simp, bel_trans (bel_trans hb1 hb2) hb3⟩
end Go.Proofs.YtdbcdofekfjilaaDoor
