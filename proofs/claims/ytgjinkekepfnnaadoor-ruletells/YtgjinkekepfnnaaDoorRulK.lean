/- The law RuleTells: its walk. -/
import Derived.Test.YtgjinkekepfnnaaDoorRulD
import Derived.Test.YtgjinkekepfnnaaDoorRulW
import Derived.Test.YtgjinkekepfnnaaDoorRulX
import Derived.Test.YtgjinkekepfnnaaDoorSymF
import Derived.Test.YtgjinkekepfnnaaDoorIntF
namespace Go.Proofs.YtgjinkekepfnnaaDoor
open Go.RowKit
set_option linter.unusedVariables false
set_option maxRecDepth 100000

/-- How a Get ends: variable v, n symbols L, is there a rule: b. -/
def GxE (v : Int) (n : Nat) (L : List Sq) (b : Bool) (w : World) (e : Ending) (w' : World) : Prop := ∃ A c, e = .returned (.tuple #[.agg #[.int .i64 v, .slice A n c], .bool b]) ∧ Below w.heap.size w w' ∧ Sr w' A L
theorem get_both (i : Int) : ∃ v n L b, L.length = n ∧ n ≤ 10 ∧ (∀ w, TabR w → Calls Tryd.prog 10 #[.int .i64 i] w fun e w' => GxE v n L b w e w') ∧ (∀ w, Calls Tryd.prog 11 #[.int .i64 i] w fun e w' => GxE v n L b w e w') := by
  by_cases h : 0 ≤ i ∧ i < 90
  · obtain ⟨a, rfl⟩ := Int.eq_ofNat_of_zero_le h.1
    have ha : a < 90 := by omega
    refine ⟨varR a, _, symR a, true, rfl, by rw [symR_len]; exact tlR_len a ha, fun w ht => ?_, fun w => ?_⟩
    · refine (get_yes ha ht).mono ?_
      rintro e w' ⟨A, c, rfl, hb, hs, -⟩
      exact ⟨A, c, rfl, hb, hs⟩
    · refine (rget_yes ha w).mono ?_
      rintro e w' ⟨A, c, rfl, hb, hs, -⟩
      exact ⟨A, c, rfl, hb, hs⟩
  · refine ⟨0, 0, [], false, rfl, by omega, fun w ht => ?_, fun w => ?_⟩
    · refine (get_no (by omega) w).mono ?_
      rintro e w' ⟨rfl, hb⟩
      exact ⟨none, 0, rfl, hb, Sr.nil _ _⟩
    · refine (rget_no (by omega) w).mono ?_
      rintro e w' ⟨rfl, hb⟩
      exact ⟨none, 0, rfl, hb, Sr.nil _ _⟩
/-- How an Of ends, its answer's length under a name of its own. -/
def OgE (m : Nat) (L : List Int) (w : World) (e : Ending) (w' : World) : Prop := ∃ A c, e = .returned (.slice A m c) ∧ Below w.heap.size w w' ∧ Ri w' A L
set_option maxHeartbeats 4000000 in
theorem tells_law {w : World} (i v : Int) {A : Option Addr} {n c : Nat} {ts : List Sq} (ht : TabR w) (ha : Sr w A ts) (hn : ts.length = n) (hz : n ≤ 9223372036854775807) :
    Calls Tryd.prog 3 #[.int .i64 i, .int .i64 v, .slice A n c] w fun e w' => e = .returned (.bool true) ∧ Below w.heap.size w w' := by
  have HT := Lib.hid ht
  have HN := Lib.hid hn
  have Ha := Lib.hid ha
  clear ht hn ha
  by_cases g1 : 100 < n
  · have x1 : (100 : Int) < (n : Int) := by omega
    clear g1
    go_enter Tryd.func3, Tryd.ntmps3
    go_wp2_with fail
    refine (awake_any _ HT.out).mono ?_
    rintro e w1 ⟨rfl, hb1⟩
    go_wp2
    go_ret
    exact ⟨by simp, hb1⟩
  have x1 : ¬ (100 : Int) < (n : Int) := by omega
  obtain ⟨vv, nn, LL, bb, hnn, hn10, r1, r2⟩ := get_both i
  have r3 := fun {w : World} {X Y : Option Addr} {x y : Nat} (h : Sr w X LL) (h' : Sr w Y LL) => syms_any (c := x) (d := y) (sameS_refl LL) h h' hnn hnn (by omega)
  obtain ⟨O, hO⟩ : ∃ O, ofR v = O := ⟨_, rfl⟩
  obtain ⟨no, hno⟩ : ∃ n, O.length = n := ⟨_, rfl⟩
  have hno2 : no ≤ 90 := by rw [← hno, ← hO]; exact ofN_len v 90
  have r4 : ∀ w, TabR w → Calls Tryd.prog 14 #[.int .i64 v] w fun e w' => OgE no O w e w' := fun w h => (of_any v hO h).mono (by rintro e w' ⟨A, c, rfl, hb, hs, -⟩; exact ⟨A, c, by rw [hno], hb, hs⟩)
  have r5 : ∀ w, Calls Tryd.prog 15 #[.int .i64 v] w fun e w' => OgE no O w e w' := fun w => (rof_any v hO).mono (by rintro e w' ⟨A, c, rfl, hb, hs, -⟩; exact ⟨A, c, by rw [hno], hb, hs⟩)
  have r6 := fun {w : World} {X Y : Option Addr} {x y : Nat} (h : Ri w X O) (h' : Ri w Y O) => ints_any (c := x) (d := y) h h' hno (by omega)
  obtain ⟨la, hla⟩ : ∃ L, plS ts = L := ⟨_, rfl⟩
  obtain ⟨na, hna⟩ : ∃ n, la.length = n := ⟨_, rfl⟩
  have pa := plS_le ts
  rw [hla, hna, HN.out] at pa
  have r7 := fun {w : World} (h : Sr w A ts) => plain_as (c := c) hla hna h HN.out (by omega)
  have r8 := fun {w : World} (h : Sr w A ts) => rplain_any (c := c) hla hna h HN.out (by omega)
  have r9 := fun {w : World} {X Y : Option Addr} {x y : Nat} (h : Sr w X la) (h' : Sr w Y la) => syms_any (c := x) (d := y) (sameS_refl la) h h' hna hna (by omega)
  clear hnn hO hno hla hna
  go_enter Tryd.func3, Tryd.ntmps3
  go_wp2_with fail
  refine (awake_any _ HT.out).mono ?_
  rintro e w1 ⟨rfl, hb1⟩
  have HB1 := Lib.hid hb1
  clear hb1
  go_wp2_with fail
  ((with_reducible refine (r1 _ (HT.out.below HB1.out)).mono ?_))
  rintro e w2 ⟨X, cx, rfl, hb2, hX⟩
  have hbo := bel_alloc (Below.refl _ w2) (.cells #[.int .i64 vv, .slice X nn cx] 25)
  have HX := Lib.hid (hX.below hbo)
  have HP := Lib.hid (B2.new w2 (.int .i64 vv) (.slice X nn cx) 25)
  have HB2 := Lib.hid (bel_trans (bel_trans HB1.out hb2) hbo)
  clear hb2 hX r1 hbo
  go_wp2_with fail
  ((with_reducible refine (r2 _).mono ?_))
  rintro e w3 ⟨Y, cy, rfl, hb3, hY⟩
  have hbo := bel_alloc (Below.refl _ w3) (.cells #[.int .i64 vv, .slice Y nn cy] 25)
  have HY := Lib.hid (hY.below hbo)
  have HX3 := Lib.hid ((HX.out.below hb3).below hbo)
  have HP3 := Lib.hid ((HP.out.below hb3).below hbo)
  have HQ3 := Lib.hid (B2.new w3 (.int .i64 vv) (.slice Y nn cy) 25)
  have HB3 := Lib.hid (bel_trans (bel_trans HB2.out hb3) hbo)
  clear hb3 hY r2 hbo
  obtain ⟨p0, p1, -, -⟩ := HP3.out
  obtain ⟨s0, s1, -, -⟩ := HQ3.out
  have lp := World.block_lt_of_cell? _ _ p0
  have ls := World.block_lt_of_cell? _ _ s0
  go_wp2_with fail
  ((with_reducible refine (r3 HX3.out HY.out).mono ?_))
  rintro e w4 ⟨rfl, hb4⟩
  have HB4 := Lib.hid (bel_trans HB3.out hb4)
  have HP4 := Lib.hid (HP3.out.below hb4)
  have HQ4 := Lib.hid (HQ3.out.below hb4)
  clear hb4 r3 p0 p1 s0 s1 lp ls
  go_wp2_with fail
  ((with_reducible refine (r4 _ (HT.out.below HB4.out)).mono ?_))
  rintro e w5 ⟨U, cu, rfl, hb5, hU⟩
  have HU := Lib.hid hU
  have HB5 := Lib.hid (bel_trans HB4.out hb5)
  have HP5 := Lib.hid (HP4.out.below hb5)
  have HQ5 := Lib.hid (HQ4.out.below hb5)
  clear hb5 r4 hU
  go_wp2_with fail
  ((with_reducible refine (r5 _).mono ?_))
  rintro e w6 ⟨V, cv, rfl, hb6, hV⟩
  have HU6 := Lib.hid (HU.out.below hb6)
  have HV := Lib.hid hV
  have HB6 := Lib.hid (bel_trans HB5.out hb6)
  have HP6 := Lib.hid (HP5.out.below hb6)
  have HQ6 := Lib.hid (HQ5.out.below hb6)
  clear hb6 r5 hV
  go_wp2_with fail
  ((with_reducible refine (r6 HU6.out HV.out).mono ?_))
  rintro e w7 ⟨rfl, hb7⟩
  have HB7 := Lib.hid (bel_trans HB6.out hb7)
  have HP7 := Lib.hid (HP6.out.below hb7)
  have HQ7 := Lib.hid (HQ6.out.below hb7)
  clear hb7 r6
  go_wp2_with fail
  ((with_reducible refine (r7 (Ha.out.below HB7.out)).mono ?_))
  rintro e w8 ⟨R, cr, rfl, hb8, hR, -⟩
  have HR := Lib.hid hR
  have HB8 := Lib.hid (bel_trans HB7.out hb8)
  have HP8 := Lib.hid (HP7.out.below hb8)
  have HQ8 := Lib.hid (HQ7.out.below hb8)
  clear hb8 r7 hR
  go_wp2_with fail
  ((with_reducible refine (r8 (Ha.out.below HB8.out)).mono ?_))
  rintro e w9 ⟨S, cs, rfl, hb9, hS, -⟩
  have HR9 := Lib.hid (HR.out.below hb9)
  have HS := Lib.hid hS
  have HB9 := Lib.hid (bel_trans HB8.out hb9)
  have HP9 := Lib.hid (HP8.out.below hb9)
  have HQ9 := Lib.hid (HQ8.out.below hb9)
  clear hb9 r8 hS
  go_wp2_with fail
  ((with_reducible refine (r9 HR9.out HS.out).mono ?_))
  rintro e w10 ⟨rfl, hb10⟩
  obtain ⟨p0, p1, -, -⟩ := HP9.out.below hb10
  obtain ⟨s0, s1, -, -⟩ := HQ9.out.below hb10
  have lp := World.block_lt_of_cell? _ _ p0
  have ls := World.block_lt_of_cell? _ _ s0
  have HB10 := Lib.hid (bel_trans HB9.out hb10)
  clear hb10 r9
  go_wp2_with fail
  go_ret
  exact ⟨by simp, HB10.out⟩
end Go.Proofs.YtgjinkekepfnnaaDoor
