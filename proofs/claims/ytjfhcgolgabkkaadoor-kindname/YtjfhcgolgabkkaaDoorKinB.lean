/- Package kind: Of, In, Text. -/
import Derived.Test.YtjfhcgolgabkkaaDoorKinA
namespace Go.Proofs.YtjfhcgolgabkkaaDoor
open Go.RowKit
set_option linter.unusedVariables false

set_option maxHeartbeats 1000000 in
theorem kof_any {k : Int} {s : ByteArray} {a z : Int} {r : Int} (hr : ((ofK k s.data.toList : Nat) : Int) = r) {w : World} (ht : TabK w) :
    Calls Tryd.prog 17 #[.agg #[.int .i64 k, .string s, .int .i64 a, .int .i64 z]] w fun e w' => e = .returned (.int .i64 r) ∧ Below w.heap.size w w' := by
  subst hr
  have hB : Below w.heap.size w ((w.alloc (.cells #[.int .i64 k, .string s, .int .i64 a, .int .i64 z] 23)).alloc (.cells #[.string s] 9)) := bel_alloc (bel_alloc (Below.refl _ _) _) _
  have HT := Lib.hid (ht.below hB)
  clear ht
  by_cases h1 : k = 1
  · subst h1
    have e : ofK 1 s.data.toList = fndK s.data.toList 0 1 14 := rfl
    rw [e]; clear e
    go_enter Tryd.func17, Tryd.ntmps17
    go_wp2_with fail
    (with_reducible refine (finding_any s _).mono ?_)
    rintro e w1 ⟨rfl, rfl⟩
    go_wp2_with fail
    refine (find_any (a := 1) (b := 14) (o := 0) (s := s) 1 14 0 rfl (by decide) rfl (by decide) (by simp [go_sem]) HT.out).mono ?_
    rintro e w2 ⟨rfl, hb2⟩
    have hb := bel_trans hB hb2
    clear hb2
    go_wp2
    go_ret
    exact ⟨rfl, hb⟩
  by_cases h2 : k = 2
  · subst h2
    have e : ofK 2 s.data.toList = fndK s.data.toList 18 19 12 := rfl
    rw [e]; clear e
    go_enter Tryd.func17, Tryd.ntmps17
    go_wp2_with fail
    (with_reducible refine (finding_any s _).mono ?_)
    rintro e w1 ⟨rfl, rfl⟩
    go_wp2_with fail
    refine (find_any (a := 19) (b := 30) (o := 18) (s := s) 19 12 18 rfl (by decide) rfl (by decide) (by simp [go_sem]) HT.out).mono ?_
    rintro e w2 ⟨rfl, hb2⟩
    have hb := bel_trans hB hb2
    clear hb2
    go_wp2
    go_ret
    exact ⟨rfl, hb⟩
  have e : ofK k s.data.toList = if k = 3 then 15 else if k = 4 then 16 else if k = 5 then 17 else 0 := by unfold ofK; rw [if_neg h1, if_neg h2]
  rw [e]; clear e
  have q1 : (k == 1) = false := by simpa using h1
  have q2 : (k == 2) = false := by simpa using h2
  clear h1 h2
  by_cases h3 : k = 3
  · subst h3
    clear q1 q2
    go_enter Tryd.func17, Tryd.ntmps17
    go_wp2_with fail
    (with_reducible refine (finding_any s _).mono ?_)
    rintro e w1 ⟨rfl, rfl⟩
    go_wp2
    go_ret
    exact ⟨rfl, hB⟩
  by_cases h4 : k = 4
  · subst h4
    clear q1 q2 h3
    go_enter Tryd.func17, Tryd.ntmps17
    go_wp2_with fail
    (with_reducible refine (finding_any s _).mono ?_)
    rintro e w1 ⟨rfl, rfl⟩
    go_wp2
    go_ret
    exact ⟨rfl, hB⟩
  by_cases h5 : k = 5
  · subst h5
    clear q1 q2 h3 h4
    go_enter Tryd.func17, Tryd.ntmps17
    go_wp2_with fail
    (with_reducible refine (finding_any s _).mono ?_)
    rintro e w1 ⟨rfl, rfl⟩
    go_wp2
    go_ret
    exact ⟨rfl, hB⟩
  rw [if_neg h3, if_neg h4, if_neg h5]
  have q3 : (k == 3) = false := by simpa using h3
  have q4 : (k == 4) = false := by simpa using h4
  have q5 : (k == 5) = false := by simpa using h5
  clear h3 h4 h5
  go_enter Tryd.func17, Tryd.ntmps17
  go_wp2_with fail
  (with_reducible refine (finding_any s _).mono ?_)
  rintro e w1 ⟨rfl, rfl⟩
  go_wp2
  go_ret
  exact ⟨rfl, hB⟩

/-- Is a terminal a name's? -/
def nmB (te : Int) : Bool := decide (18 ≤ te ∧ te ≤ 30)
set_option maxHeartbeats 400000 in
theorem isName_any (te : Int) (w : World) : Calls Tryd.prog 24 #[.int .i64 te] w fun e w' => e = .returned (.bool (nmB te)) ∧ w = w' := by
  by_cases h1 : 18 ≤ te
  · by_cases h2 : te ≤ 30
    · have e : nmB te = true := by simp [nmB, h1, h2]
      rw [e]; clear e
      go_enter Tryd.func24, Tryd.ntmps24
      go_wp2
      go_ret
      exact ⟨by simp, rfl⟩
    · have e : nmB te = false := by simp [nmB, h2]
      rw [e]; clear e
      go_enter Tryd.func24, Tryd.ntmps24
      go_wp2
      go_ret
      exact ⟨by simp, rfl⟩
  · have e : nmB te = false := by simp [nmB, h1]
    rw [e]; clear e
    go_enter Tryd.func24, Tryd.ntmps24
    go_wp2
    go_ret
    exact ⟨by simp, rfl⟩

/-- Is a terminal in a class? -/
theorem inK_0 (te : Int) : inK 0 te = nmB te := by simp [inK, nmB]
theorem inK_1 (te : Int) : inK 1 te = (nmB te && (te != 23)) := by
  unfold inK nmB
  by_cases h1 : 18 ≤ te <;> by_cases h2 : te ≤ 30 <;> by_cases h3 : te = 23 <;> simp [h1, h2, h3]
theorem inK_2 (te : Int) : inK 2 te = decide (19 ≤ te ∧ te ≤ 21) := by simp [inK]
theorem inK_no {c : Int} (h0 : c ≠ 0) (h1 : c ≠ 1) (h2 : c ≠ 2) (te : Int) : inK c te = false := by simp [inK, h0, h1, h2]
set_option maxHeartbeats 1000000 in
theorem in_any {c te : Int} {r : Bool} (hr : inK c te = r) (w : World) :
    Calls Tryd.prog 19 #[.int .i64 c, .int .i64 te] w fun e w' => e = .returned (.bool r) ∧ w = w' := by
  subst hr
  have rn := isName_any te
  by_cases h0 : c = 0
  · subst h0
    rw [inK_0]
    generalize nmB te = v at *
    go_enter Tryd.func19, Tryd.ntmps19
    go_wp2_with fail
    (with_reducible refine (rn _).mono ?_)
    rintro e w1 ⟨rfl, rfl⟩
    go_wp2
    go_ret
    exact ⟨rfl, rfl⟩
  by_cases h1 : c = 1
  · subst h1
    rw [inK_1]
    generalize nmB te = v at *
    by_cases h3 : te = 23
    · subst h3
      cases v
      all_goals
        go_enter Tryd.func19, Tryd.ntmps19
        go_wp2_with fail
        (with_reducible refine (rn _).mono ?_)
        rintro e w1 ⟨rfl, rfl⟩
        go_wp2
        go_ret
        exact ⟨by simp, rfl⟩
    · have q : (te != 23) = true := by simpa using h3
      rw [q]
      clear h0 h3
      cases v
      all_goals
        go_enter Tryd.func19, Tryd.ntmps19
        go_wp2_with fail
        (with_reducible refine (rn _).mono ?_)
        rintro e w1 ⟨rfl, rfl⟩
        go_wp2
        go_ret
        exact ⟨by simp, rfl⟩
  by_cases h2 : c = 2
  · subst h2
    rw [inK_2]
    by_cases g1 : te = 19
    · subst g1
      go_enter Tryd.func19, Tryd.ntmps19
      go_wp2
      go_ret
      exact ⟨by simp, rfl⟩
    by_cases g2 : te = 20
    · subst g2
      go_enter Tryd.func19, Tryd.ntmps19
      go_wp2
      go_ret
      exact ⟨by simp, rfl⟩
    by_cases g3 : te = 21
    · subst g3
      go_enter Tryd.func19, Tryd.ntmps19
      go_wp2
      go_ret
      exact ⟨by simp, rfl⟩
    have q1 : (te == 19) = false := by simpa using g1
    have q2 : (te == 20) = false := by simpa using g2
    have q3 : (te == 21) = false := by simpa using g3
    have e : decide (19 ≤ te ∧ te ≤ 21) = false := by simp; omega
    rw [e]
    clear g1 g2 g3 h0 h1 e
    go_enter Tryd.func19, Tryd.ntmps19
    go_wp2
    go_ret
    exact ⟨by simp, rfl⟩
  rw [inK_no h0 h1 h2]
  have q1 : (c == 0) = false := by simpa using h0
  have q2 : (c == 1) = false := by simpa using h1
  have q3 : (c == 2) = false := by simpa using h2
  clear h0 h1 h2 rn
  go_enter Tryd.func19, Tryd.ntmps19
  go_wp2
  go_ret
  exact ⟨by simp, rfl⟩

/-- A terminal's text, as Text tells it. -/
def txK (te : Int) : ByteArray := mkb (stK te.toNat)
theorem txK_no {te : Int} (h : hasK te = false) : txK te = ⟨#[]⟩ := by
  unfold txK
  by_cases h0 : te < 0
  · rw [show te.toNat = 0 by omega]; rfl
  · obtain ⟨n, rfl⟩ := Int.eq_ofNat_of_zero_le (by omega : 0 ≤ te)
    rw [Int.toNat_natCast]
    by_cases h1 : n < 31
    · rw [stK_none n h1 h]; rfl
    · have : stK n = [] := by
        unfold stK; split <;> first | omega | rfl
      rw [this]; rfl
theorem hasK_iff {te : Int} : hasK te = true ↔ (1 ≤ te ∧ te ≤ 14) ∨ (19 ≤ te ∧ te ≤ 30) := by simp [hasK]
set_option maxHeartbeats 1000000 in
theorem ktext_any (te : Int) {w : World} (ht : TabK w) :
    Calls Tryd.prog 11 #[.int .i64 te] w fun e w' => e = .returned (.tuple #[.string (txK te), .bool (hasK te)]) ∧ Below w.heap.size w w' := by
  by_cases h0 : te < 0
  · have e : hasK te = false := by simp [hasK]; omega
    rw [txK_no e, e]; clear e ht
    go_enter Tryd.func11, Tryd.ntmps11
    go_wp2
    go_ret2
    exact ⟨rfl, Below.refl _ _⟩
  by_cases h1 : 31 ≤ te
  · have e : hasK te = false := by simp [hasK]; omega
    rw [txK_no e, e]; clear e ht
    go_enter Tryd.func11, Tryd.ntmps11
    go_wp2
    go_ret2
    exact ⟨rfl, Below.refl _ _⟩
  obtain ⟨n, rfl⟩ := Int.eq_ofNat_of_zero_le (by omega : 0 ≤ te)
  have q1 : (n : Int) < 31 := by omega
  have hl := ht.2 n (by omega)
  have hsome := stK_some n (by omega)
  have hnone := stK_none n (by omega)
  unfold txK
  rw [Int.toNat_natCast]
  cases hk : hasK (n : Int)
  · have q2 : ((mkb (stK n)).toList == []) = true := by rw [mkb_toList, hnone hk]; rfl
    have q3 : (mkb (stK n)).toList = [] := by rw [mkb_toList, hnone hk]
    have q4 : (mkb (stK n)).toList.isEmpty = true := by rw [mkb_toList, hnone hk]; rfl
    generalize mkb (stK n) = X at *
    clear hsome hnone hk ht
    go_enter Tryd.func11, Tryd.ntmps11
    go_wp2
    go_quiet (fail)
    go_wp2
    go_ret2
    exact ⟨by simp, below_drewN (Below.refl _ _) _⟩
  · have q2 : ((mkb (stK n)).toList == []) = false := by rw [mkb_toList]; simpa using hsome hk
    have q3 : ¬ (mkb (stK n)).toList = [] := by rw [mkb_toList]; exact hsome hk
    have q4 : (mkb (stK n)).toList.isEmpty = false := by rw [mkb_toList]; simpa using hsome hk
    have q5 : ¬ mkb (stK n) = ⟨#[]⟩ := fun e => hsome hk (by have := congrArg (fun b => b.data.toList) e; exact this)
    generalize mkb (stK n) = X at *
    clear hsome hnone hk ht
    go_enter Tryd.func11, Tryd.ntmps11
    go_wp2
    go_quiet (fail)
    go_wp2
    go_ret2
    exact ⟨by simp, below_drewN (Below.refl _ _) _⟩
end Go.Proofs.YtjfhcgolgabkkaaDoor
