/- The law PickTells: its walk. -/
import Derived.Test.YtbckecpmmhkkeaaDoorPicD
import Derived.Test.YtbckecpmmhkkeaaDoorPicR
namespace Go.Proofs.YtbckecpmmhkkeaaDoor
open Go.RowKit
set_option linter.unusedVariables false
set_option maxRecDepth 100000

set_option maxHeartbeats 4000000 in
theorem tells_law (k n v i te : Int) {w : World} (ht : TabR w) : Calls Tryd.prog 3 #[.agg #[.int .i64 k, .int .i64 n], .int .i64 v, .int .i64 i, .int .i64 te] w fun e w' => e = .returned (.bool true) ∧ Below w.heap.size w w' := by
  obtain ⟨a, ha⟩ : ∃ x, fitK te ⟨k, n⟩ = x := ⟨_, rfl⟩
  obtain ⟨b, hb⟩ : ∃ x, fstK te v = x := ⟨_, rfl⟩
  obtain ⟨c, hc⟩ : ∃ x, begK te i = x := ⟨_, rfl⟩
  obtain ⟨d, hd⟩ : ∃ x, empR v = x := ⟨_, rfl⟩
  obtain ⟨f, hf⟩ : ∃ x, pickK te v = x := ⟨_, rfl⟩
  have r1 := fun {w} h => pfits_any (t := ⟨k, n⟩) ha (w := w) h
  have r2 := fun {w} h => pfirst_any hb (w := w) h
  have r3 := fun {w} h => pbegins_any hc (w := w) h
  have r4 := fun {w} h => empty_any hd (w := w) h
  have r5 := fun {w} h => ppick_any hf (w := w) h
  have s1 := fun w => rfits_any (t := ⟨k, n⟩) ha w
  have s2 := fun w => rfirst_any hb w
  have s3 := fun w => rbegins_any hc w
  have s4 := fun w => rempty_any hd w
  have s5 := fun w => rpick_any hf w
  have hbo := bel_alloc (Below.refl _ w) (.cells #[.int .i64 k, .int .i64 n] 23)
  obtain ⟨c0, c1⟩ : (w.alloc (.cells #[.int .i64 k, .int .i64 n] 23)).cell? ⟨w.heap.size, 0, none⟩ = some (.int .i64 k) ∧ (w.alloc (.cells #[.int .i64 k, .int .i64 n] 23)).cell? ⟨w.heap.size, 1, none⟩ = some (.int .i64 n) := by constructor <;> simp [go_sem]
  have C0 := Lib.hid c0
  have C1 := Lib.hid c1
  have HT := Lib.hid ht
  have HBo := Lib.hid hbo
  clear ha hb hc hd hf hbo c0 c1 ht
  go_enter Tryd.func3, Tryd.ntmps3
  (try simp only [List.append_eq, List.cons_append, List.nil_append])
  go_wp2_with fail
  ((with_reducible refine (awake_any _ (HT.out.below HBo.out)).mono ?_))
  rintro e w1 ⟨rfl, hb1⟩
  have HB1 := Lib.hid (bel_trans HBo.out hb1)
  have c0 := bel_cell hb1 C0.out
  have c1 := bel_cell hb1 C1.out
  have l0 := World.block_lt_of_cell? _ _ c0
  clear hb1
  go_wp2_with fail
  ((with_reducible refine (s1 _).mono ?_))
  rintro e w2 ⟨rfl, hb2⟩
  have HB2 := Lib.hid (bel_trans HB1.out hb2)
  have D0 := Lib.hid (bel_cell hb2 c0)
  have D1 := Lib.hid (bel_cell hb2 c1)
  clear hb2 c0 c1 l0
  go_wp2_with fail
  ((with_reducible refine (s2 _).mono ?_))
  rintro e w3 ⟨rfl, hb3⟩
  have HB3 := Lib.hid (bel_trans HB2.out hb3)
  have E0 := Lib.hid (bel_cell hb3 D0.out)
  have E1 := Lib.hid (bel_cell hb3 D1.out)
  clear hb3
  go_wp2_with fail
  ((with_reducible refine (s3 _).mono ?_))
  rintro e w4 ⟨rfl, hb4⟩
  have HB4 := Lib.hid (bel_trans HB3.out hb4)
  have c0 := bel_cell hb4 E0.out
  have c1 := bel_cell hb4 E1.out
  have l0 := World.block_lt_of_cell? _ _ c0
  clear hb4
  go_wp2_with fail
  ((with_reducible refine (r1 (HT.out.below HB4.out)).mono ?_))
  rintro e w5 ⟨rfl, hb5⟩
  have HB5 := Lib.hid (bel_trans HB4.out hb5)
  clear hb5 c0 c1 l0
  go_wp2_with fail
  ((with_reducible refine (r2 (HT.out.below HB5.out)).mono ?_))
  rintro e w6 ⟨rfl, hb6⟩
  have HB6 := Lib.hid (bel_trans HB5.out hb6)
  clear hb6
  go_wp2_with fail
  ((with_reducible refine (r3 (HT.out.below HB6.out)).mono ?_))
  rintro e w7 ⟨rfl, hb7⟩
  have HB7 := Lib.hid (bel_trans HB6.out hb7)
  clear hb7
  go_wp2_with fail
  ((with_reducible refine (r4 (HT.out.below HB7.out)).mono ?_))
  rintro e w8 ⟨rfl, hb8⟩
  have HB8 := Lib.hid (bel_trans HB7.out hb8)
  clear hb8
  go_wp2_with fail
  ((with_reducible refine (s4 _).mono ?_))
  rintro e w9 ⟨rfl, hb9⟩
  have HB9 := Lib.hid (bel_trans HB8.out hb9)
  clear hb9
  go_wp2_with fail
  ((with_reducible refine (r5 (HT.out.below HB9.out)).mono ?_))
  rintro e w10 ⟨rfl, hb10⟩
  have HB10 := Lib.hid (bel_trans HB9.out hb10)
  clear hb10
  go_wp2_with fail
  ((with_reducible refine (s5 _).mono ?_))
  rintro e w11 ⟨rfl, hb11⟩
  have HB11 := Lib.hid (bel_trans HB10.out hb11)
  clear hb11
  go_wp2_with fail
  go_ret
  exact ⟨by simp, HB11.out⟩
end Go.Proofs.YtbckecpmmhkkeaaDoor
