/- The law FoldFirst: its walk. -/
import Derived.Test.YtpmdkjbkcncnnaaFoldH
namespace Go.Proofs.Ytpmdkjbkcncnnaa
open Go.RowKit
set_option linter.unusedVariables false

def noM (x : List UInt8) : Bool := decide (mg x = 0) && decide (x ≠ [])
/-- Has one of the first k lines no indent, and something? -/
def mar (ls : List (List UInt8)) (k : Nat) : Bool := (ls.take k).any noM
theorem mar_next {ls : List (List UInt8)} {k : Nat} {x : List UInt8} (h : ls[k]? = some x) : mar ls (k + 1) = (mar ls k || noM x) := by
  unfold mar; rw [List.take_add_one, h]; simp
theorem mar_end {ls : List (List UInt8)} {k : Nat} {x : List UInt8} (h : ls.length ≤ k) (hx : x ∈ ls) (h1 : mg x = 0) (h2 : x ≠ []) : mar ls k = true := by
  unfold mar; rw [List.take_of_length_le h, List.any_eq_true]; exact ⟨x, hx, by simp [noM, h1, h2]⟩

set_option maxHeartbeats 1000000 in
set_option maxRecDepth 100000 in
theorem first_law (s : ByteArray) (w : World) (zs : s.size ≤ 9223372036854775807) :
    Calls Try.prog 9 #[.string s] w fun e w' => e = .returned (.bool true) ∧ Below w.heap.size w w' := by
  by_cases hs : 300 < s.size
  · have gs : (300 : Int) < (s.size : Int) := by omega
    clear hs
    go_enter Try.func9, Try.ntmps9
    (try simp only [List.append_eq, List.cons_append, List.nil_append])
    go_wp2_with fail
    (with_reducible refine (awake_any _).mono ?_)
    rintro e w1 ⟨rfl, hb1⟩
    go_wp2_with fail
    go_ret
    exact ⟨by first | (simp; done) | (simp; omega), hb1⟩
  have gs : ¬ (300 : Int) < (s.size : Int) := by omega
  have ls : s.data.toList.length = s.size := (Lib.size_eq s).symm
  obtain ⟨S0, p0, s0⟩ := sadd' (A := ⟨#[10]⟩) (B := s) (a := [10]) rfl (mkb_of s).symm (by first | (simp; done) | (simp; omega))
  obtain ⟨v, hv⟩ : ∃ v, fld (10 :: s.data.toList) = v := ⟨_, rfl⟩
  have hvl := fld_len (10 :: s.data.toList)
  rw [hv] at hvl
  simp only [List.length_cons] at hvl
  have r0 := fold_b p0 hv (by first | (simp; done) | (simp; omega))
  obtain ⟨V, hV⟩ : ∃ V, mkb v = V := ⟨_, rfl⟩
  have hVl : V.data.toList = v := by rw [← hV]; rfl
  obtain ⟨n, hn⟩ : ∃ n, (lns v).length = n + 1 := ⟨(lns v).length - 1, by have := lns_pos v; omega⟩
  have hct := lns_count v
  have r1 := lines_n V (by rw [Lib.size_eq, hVl]; omega) n (by rw [hVl]; exact hn)
  rw [hVl] at r1
  rw [hV] at r0
  obtain ⟨S5, p5, s5⟩ := sadd' (A := ⟨#[10]⟩) (B := V) (a := [10]) (b := v) rfl hV.symm (by first | (simp; done) | (simp; omega))
  have hln := lnA_len false v
  change ∀ x ∈ lns v, x.length ≤ v.length at hln
  obtain ⟨L, hL⟩ : ∃ L, L = lns v := ⟨_, rfl⟩
  have hend : v ≠ [] → mar L (n + 1) = true := by
    intro h
    subst hv
    obtain ⟨y, hy, h1, h2⟩ := first_zero h
    rw [hL]; exact mar_end (by omega) hy h1 h2
  have hagain : v ≠ [] → ∀ w : World, Calls Try.prog 18 #[.string S5] w fun e w' => e = .returned (.string V) ∧ Below w.heap.size w w' := by
    intro h
    rw [← hV]
    exact fold_b p5 (by subst hv; exact first_again h) (by first | (simp; done) | (simp; omega))
  rw [← hL] at r1 hn hct hln
  rw [hn] at hct
  have hve : V.toList = v := by rw [← hV, mkb_toList]
  have hv3 : v.length ≤ 301 := by omega
  have hn3 : n ≤ 301 := by omega
  have HV := Lib.hid hve
  have HN := Lib.hid hn
  have HL := Lib.hid hln
  have HE := Lib.hid hend
  have HA := Lib.hid hagain
  clear p0 p5 hv hV hVl hL hn ls hln hend hagain hve hvl hct
  go_enter Try.func9, Try.ntmps9
  (try simp only [List.append_eq, List.cons_append, List.nil_append])
  go_wp2_with fail
  (with_reducible refine (awake_any _).mono ?_)
  rintro e w1 ⟨rfl, hb1⟩
  go_wp2_with fail
  (with_reducible refine (r0 _).mono ?_)
  rintro e w2 ⟨rfl, hb2⟩
  go_wp2_with fail
  (with_reducible refine (r1 _).mono ?_)
  rintro e w3 ⟨g, c, rfl, hgc, hrow, hb3⟩
  clear r0 r1
  have HR := Lib.hid hrow
  clear hrow
  go_wp2_with fail
  go_loop [6, 7] (fun m i => ∃ k : Nat, k ≤ n + 1 ∧ i = .int .i64 k ∧ m = .bool (mar L k)) (fun _ i => n + 1 - (intOf i).toNat)
  case atStart => exact ⟨0, by omega, rfl, rfl⟩
  case round =>
    obtain ⟨k, hk, rfl, rfl⟩ := hrel
    by_cases hlt : k < n + 1
    · obtain ⟨x, hx, hxm⟩ := get_of (ls := L) (k := k) (by rw [HN.out]; exact hlt)
      have hxl := HL.out x hxm
      have hc := HR.out.cell k x hx
      have HX := Lib.hid (mar_next hx)
      have r2 : ∀ w : World, Calls Try.prog 20 #[.string (mkb x)] w fun e w' => e = .returned (.int .i64 (mg x : Nat)) ∧ w = w' := fun w => margin_any (mkb x) w (by rw [mkb_size]; omega)
      cases hm : mar L k
      · by_cases h0 : mg x = 0
        · by_cases h1 : x = []
          · have HQ := Lib.hid (show noM x = false by simp [noM, h1])
            have t0 : (((mg x : Nat) : Int) == 0) = true := by simp [h0]
            have t1 : ((mkb x).toList != []) = false := by rw [mkb_toList, h1]; rfl
            have t2 : (mkb x).toList = [] := by rw [mkb_toList, h1]
            have t3 : (mkb x).toList.isEmpty = true := by rw [t2]; rfl
            generalize mkb x = X at *
            clear h0 h1 hx
            go_wp2_with fail
            (with_reducible refine (r2 _).mono ?_)
            rintro e w' ⟨rfl, rfl⟩
            go_wp2
            go_round
            case rel => exact ⟨k + 1, by omega, by go_num, by rw [HX.out, hm, HQ.out]; rfl⟩
            case measure => simp [intOf]; omega
          · have HQ := Lib.hid (show noM x = true by simp [noM, h0, h1])
            have t0 : (((mg x : Nat) : Int) == 0) = true := by simp [h0]
            have t1 : ((mkb x).toList != []) = true := by rw [mkb_toList]; simpa using h1
            have t2 : ¬ (mkb x).toList = [] := by rw [mkb_toList]; exact h1
            have t3 : (mkb x).toList.isEmpty = false := by rw [mkb_toList]; simpa using h1
            generalize mkb x = X at *
            clear h0 h1 hx
            go_wp2_with fail
            (with_reducible refine (r2 _).mono ?_)
            rintro e w' ⟨rfl, rfl⟩
            go_wp2
            go_round
            case rel => exact ⟨k + 1, by omega, by go_num, by rw [HX.out, hm, HQ.out]; rfl⟩
            case measure => simp [intOf]; omega
        · have HQ := Lib.hid (show noM x = false by simp [noM, h0])
          have t0 : (((mg x : Nat) : Int) == 0) = false := by simp [h0]
          generalize mkb x = X at *
          clear h0 hx
          go_wp2_with fail
          (with_reducible refine (r2 _).mono ?_)
          rintro e w' ⟨rfl, rfl⟩
          go_wp2
          go_round
          case rel => exact ⟨k + 1, by omega, by go_num, by rw [HX.out, hm, HQ.out]; rfl⟩
          case measure => simp [intOf]; omega
      · clear hx
        go_wp2
        go_round
        case rel => exact ⟨k + 1, by omega, by go_num, by rw [HX.out, hm]; rfl⟩
        case measure => simp [intOf]; omega
    · obtain rfl : k = n + 1 := by omega
      by_cases h0 : v = []
      · have t1 : (V.toList == []) = true := by rw [HV.out, h0]; rfl
        have t2 : V.toList = [] := by rw [HV.out, h0]
        have t3 : V.toList.isEmpty = true := by rw [t2]; rfl
        clear h0
        go_wp2
        go_ret
        exact ⟨rfl, bel_trans (bel_trans hb1 hb2) hb3⟩
      · have t1 : (V.toList == []) = false := by rw [HV.out]; simpa using h0
        have t2 : ¬ V.toList = [] := by rw [HV.out]; exact h0
        have t3 : V.toList.isEmpty = false := by rw [HV.out]; simpa using h0
        have hm := HE.out h0
        have r5 := HA.out h0
        clear h0
        go_wp2_with fail
        (with_reducible refine (r5 _).mono ?_)
        rintro e w4 ⟨rfl, hb4⟩
        go_wp2
        go_ret
        exact ⟨by first | rfl | (simp; done), bel_trans (bel_trans (bel_trans hb1 hb2) hb3) hb4⟩
end Go.Proofs.Ytpmdkjbkcncnnaa
