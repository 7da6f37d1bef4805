/- The law PickOne: its walk. -/
import Derived.Test.YtbckecpmmhkkeaaDoorPicD
import Derived.Test.YtbckecpmmhkkeaaDoorPicO
namespace Go.Proofs.YtbckecpmmhkkeaaDoor
open Go.RowKit
set_option linter.unusedVariables false
set_option maxRecDepth 100000

theorem fstN_filter {p : Int → Bool} : ∀ (l : List Int), fstN p l = (l.filter p).headD (-1)
  | [] => rfl
  | i :: l => by
    rw [fstN]
    by_cases h : p i = true
    · rw [if_pos h, List.filter_cons_of_pos h]; rfl
    · rw [if_neg h, List.filter_cons_of_neg h]; exact fstN_filter l
theorem any_filter {p : Int → Bool} : ∀ (l : List Int), l.any p = !(l.filter p).isEmpty
  | [] => rfl
  | i :: l => by
    rw [List.any_cons]
    by_cases h : p i = true
    · rw [h, List.filter_cons_of_pos h]; rfl
    · rw [List.filter_cons_of_neg h, ← any_filter l]; simp [h]
/-- How many of the first k are so, and which is the last one. -/
def cnN (p : Int → Bool) (l : List Int) (k : Nat) : Nat := ((l.take k).filter p).length
def laN (p : Int → Bool) (l : List Int) (k : Nat) : Int := ((l.take k).filter p).getLastD (-1)
theorem cnN_succ {p : Int → Bool} {l : List Int} {k : Nat} {x : Int} (h : l[k]? = some x) : cnN p l (k + 1) = cnN p l k + (if p x then 1 else 0) := by
  unfold cnN
  rw [List.take_add_one, h, Option.toList_some, List.filter_append, List.length_append]
  by_cases hp : p x = true <;> simp [hp]
theorem laN_succ {p : Int → Bool} {l : List Int} {k : Nat} {x : Int} (h : l[k]? = some x) : laN p l (k + 1) = if p x then x else laN p l k := by
  unfold laN
  rw [List.take_add_one, h, Option.toList_some, List.filter_append]
  by_cases hp : p x = true <;> simp [hp]
theorem cnN_le (p : Int → Bool) (l : List Int) (k : Nat) : cnN p l k ≤ k := by
  unfold cnN
  refine Nat.le_trans (List.length_filter_le _ _) ?_
  rw [List.length_take]; omega
/-- One rule, or none. -/
theorem one_cases (te v : Int) : (cnN (begK te) (ofR v) (ofR v).length = 0 ∧ fstK te v = false ∧ pickK te v = empR v) ∨ (cnN (begK te) (ofR v) (ofR v).length = 1 ∧ fstK te v = true ∧ pickK te v = laN (begK te) (ofR v) (ofR v).length) := by
  have h1 := one_all te v
  have h2 := begN_ge te v
  have h3 : begN te v = ((ofR v).filter (begK te)).headD (-1) := fstN_filter _
  have h4 : fstK te v = !((ofR v).filter (begK te)).isEmpty := any_filter _
  unfold cnN laN
  rw [List.take_length]
  rw [h4] at h2
  obtain ⟨F, hF⟩ : ∃ F, (ofR v).filter (begK te) = F := ⟨_, rfl⟩
  rw [hF] at h1 h2 h3 h4 ⊢
  match F, h1 with
  | [], _ =>
    refine .inl ⟨rfl, h4, ?_⟩
    rw [pickK, h3]; rfl
  | [x], _ =>
    refine .inr ⟨rfl, h4, ?_⟩
    have h5 : 0 ≤ begN te v := of_decide_eq_true h2
    rw [pickK, if_pos h5, h3]; rfl
set_option maxHeartbeats 4000000 in
theorem one_law (v te : Int) {w : World} (ht : TabR w) : Calls Tryd.prog 4 #[.int .i64 v, .int .i64 te] w fun e w' => e = .returned (.bool true) ∧ Below w.heap.size w w' := by
  have hcs := one_cases te v
  obtain ⟨O, hO⟩ : ∃ O, ofR v = O := ⟨_, rfl⟩
  obtain ⟨m, hm⟩ : ∃ n, O.length = n := ⟨_, rfl⟩
  have hm2 : m ≤ 90 := by rw [← hm, ← hO]; exact ofR_len v
  have r1 := fun {w} h => ofp_any (w := w) v hO hm h
  obtain ⟨p, hp⟩ : ∃ p, pickK te v = p := ⟨_, rfl⟩
  obtain ⟨f, hf⟩ : ∃ f, fstK te v = f := ⟨_, rfl⟩
  obtain ⟨z, hz⟩ : ∃ z, empR v = z := ⟨_, rfl⟩
  rw [hO, hm, hp, hf, hz] at hcs
  have r2 := fun {w} h => ppick_any (w := w) hp h
  have r3 := fun {w} h => pfirst_any (w := w) hf h
  have r4 := fun {w} h => empty_any (w := w) hz h
  have HM := Lib.hid hm
  have HT := Lib.hid ht
  have HC := Lib.hid hcs
  clear hO hm hp hf hz hcs ht
  go_enter Tryd.func4, Tryd.ntmps4
  go_wp2_with fail
  ((with_reducible refine (awake_any _ HT.out).mono ?_))
  rintro e w1 ⟨rfl, hb1⟩
  have HB1 := Lib.hid hb1
  clear hb1
  go_wp2_with fail
  ((with_reducible refine (r1 (HT.out.below HB1.out)).mono ?_))
  rintro e w2 ⟨A, c, rfl, hb2, hs2⟩
  have HB2 := Lib.hid (bel_trans HB1.out hb2)
  have HS2 := Lib.hid hs2
  clear hb2 hs2
  go_wp2_with fail
  go_loopw [7, 8, 9] (fun n a i wr => ∃ k x : Nat, ∃ y : Int, i = .int .i64 k ∧ k ≤ m ∧ n = .int .i64 x ∧ a = .int .i64 y ∧ Hid (cnN (begK te) O k = x ∧ laN (begK te) O k = y) ∧ Below w2.heap.size w2 wr) (fun _ _ i _ => m - (intOf i).toNat)
  case atStart => exact ⟨0, 0, -1, rfl, Nat.zero_le _, rfl, rfl, Lib.hid ⟨rfl, rfl⟩, Below.refl _ _⟩
  case round =>
    obtain ⟨k, x, y, rfl, hk, rfl, rfl, hcl, hB⟩ := hrel
    by_cases hlt : k < m
    · obtain ⟨u, hu⟩ : ∃ u, O[k]? = some u := ⟨_, List.getElem?_eq_getElem (by rw [HM.out]; exact hlt)⟩
      obtain ⟨b, o, rfl, c0⟩ := (HS2.out.below hB) k u hu
      have hxk : x ≤ k := by rw [← hcl.out.1]; exact cnN_le _ _ _
      have q1 : (k : Int) < (m : Int) := by omega
      have q2 : (k : Int) < 100 := by omega
      have hs1 := cnN_succ (p := begK te) hu
      have hs3 := laN_succ (p := begK te) hu
      rw [hcl.out.1] at hs1
      rw [hcl.out.2] at hs3
      obtain ⟨g, hg⟩ : ∃ g, begK te u = g := ⟨_, rfl⟩
      have r5 := fun {w} h => pbegins_any (w := w) hg h
      rw [hg] at hs1 hs3
      have HBr := Lib.hid (bel_trans HB2.out hB)
      have HBB := Lib.hid hB
      have C0 := Lib.hid c0
      have HTr := Lib.hid (HT.out.below HBr.out)
      clear hu hcl hg hB
      cases g
      · rw [if_neg (by simp)] at hs1 hs3
        have HS1 := Lib.hid hs1
        have HS3 := Lib.hid hs3
        clear hs1 hs3
        go_wp2_with fail
        ((with_reducible refine (r5 HTr.out).mono ?_))
        rintro e w3 ⟨rfl, hb3⟩
        have HB3 := Lib.hid (bel_trans HBB.out hb3)
        clear hb3
        go_wp2_with fail
        go_roundw
        case rel => exact ⟨k + 1, x, y, by go_num, by omega, rfl, rfl, Lib.hid ⟨HS1.out, HS3.out⟩, HB3.out⟩
        case measure => simp [intOf]; omega
      · rw [if_pos rfl] at hs1 hs3
        have HS1 := Lib.hid hs1
        have HS3 := Lib.hid hs3
        clear hs1 hs3
        go_wp2_with fail
        ((with_reducible refine (r5 HTr.out).mono ?_))
        rintro e w3 ⟨rfl, hb3⟩
        have HB3 := Lib.hid (bel_trans HBB.out hb3)
        have d0 := bel_cell hb3 C0.out
        clear hb3
        go_wp2_with fail
        go_roundw
        case rel => exact ⟨k + 1, x + 1, u, by go_num, by omega, by go_num, rfl, Lib.hid ⟨HS1.out, HS3.out⟩, HB3.out⟩
        case measure => simp [intOf]; omega
    · obtain rfl : k = m := by omega
      have hc := HC.out
      rw [hcl.out.1, hcl.out.2] at hc
      have HBr := Lib.hid (bel_trans HB2.out hB)
      have HTr := Lib.hid (HT.out.below HBr.out)
      clear hcl hB
      rcases hc with ⟨rfl, rfl, rfl⟩ | ⟨rfl, rfl, rfl⟩
      · go_wp2_with fail
        ((with_reducible refine (r2 HTr.out).mono ?_))
        rintro e w3 ⟨rfl, hb3⟩
        have HB3 := Lib.hid (bel_trans HBr.out hb3)
        clear hb3
        go_wp2_with fail
        ((with_reducible refine (r3 (HT.out.below HB3.out)).mono ?_))
        rintro e w4 ⟨rfl, hb4⟩
        have HB4 := Lib.hid (bel_trans HB3.out hb4)
        clear hb4
        go_wp2_with fail
        ((with_reducible refine (r4 (HT.out.below HB4.out)).mono ?_))
        rintro e w5 ⟨rfl, hb5⟩
        have HB5 := Lib.hid (bel_trans HB4.out hb5)
        clear hb5
        go_wp2_with fail
        go_ret
        exact ⟨by simp, HB5.out⟩
      · go_wp2_with fail
        ((with_reducible refine (r2 HTr.out).mono ?_))
        rintro e w3 ⟨rfl, hb3⟩
        have HB3 := Lib.hid (bel_trans HBr.out hb3)
        clear hb3
        go_wp2_with fail
        ((with_reducible refine (r3 (HT.out.below HB3.out)).mono ?_))
        rintro e w4 ⟨rfl, hb4⟩
        have HB4 := Lib.hid (bel_trans HB3.out hb4)
        clear hb4
        go_wp2_with fail
        go_ret
        exact ⟨by simp, HB4.out⟩
end Go.Proofs.YtbckecpmmhkkeaaDoor
