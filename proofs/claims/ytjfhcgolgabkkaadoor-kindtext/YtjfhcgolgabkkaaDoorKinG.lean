/- The chapter's example (awake); the laws KindIn and KindName: their walks. -/
import Derived.Test.YtjfhcgolgabkkaaDoorKinI
namespace Go.Proofs.YtjfhcgolgabkkaaDoor
open Go.RowKit
set_option linter.unusedVariables false

theorem box4 {w w' : World} {v0 v1 v2 v3 : Value} {t : TypeId} (h : Below (w.alloc (.cells #[v0, v1, v2, v3] t)).heap.size (w.alloc (.cells #[v0, v1, v2, v3] t)) w') :
    w'.cell? ⟨w.heap.size, 0, none⟩ = some v0 ∧ w'.cell? ⟨w.heap.size, 1, none⟩ = some v1 ∧ w'.cell? ⟨w.heap.size, 2, none⟩ = some v2 ∧ w'.cell? ⟨w.heap.size, 3, none⟩ = some v3 :=
  ⟨(h.cell (p := ⟨w.heap.size, 0, none⟩) (by simp)).trans (by simp [go_sem]), (h.cell (p := ⟨w.heap.size, 1, none⟩) (by simp)).trans (by simp [go_sem]),
    (h.cell (p := ⟨w.heap.size, 2, none⟩) (by simp)).trans (by simp [go_sem]), (h.cell (p := ⟨w.heap.size, 3, none⟩) (by simp)).trans (by simp [go_sem])⟩
theorem tr_two (w : World) (k : Int) (v : ByteArray) (a z : Int) (t : TypeId) :
    Tr (w.alloc (.cells #[.int .i64 k, .string v, .int .i64 a, .int .i64 z, .int .i64 k, .string v, .int .i64 a, .int .i64 z] t)) (some ⟨w.heap.size, 0, none⟩) [⟨k, v, a, z⟩, ⟨k, v, a, z⟩] := by
  intro j t ht
  refine ⟨w.heap.size, 0, rfl, ?_⟩
  match j, ht with
  | 0, ht => obtain rfl := Option.some.inj ht; simp [go_sem]
  | 1, ht => obtain rfl := Option.some.inj ht; simp [go_sem]
  | j + 2, ht => simp at ht
def onA : ByteArray := ⟨#[111, 110]⟩
theorem of_on : ((ofK 2 onA.data.toList : Nat) : Int) = 23 := by decide +kernel
theorem text_6 {w : World} (ht : TabK w) : Calls Tryd.prog 11 #[.int .i64 6] w fun e w' => e = .returned (.tuple #[.string ⟨#[46, 46, 46]⟩, .bool true]) ∧ Below w.heap.size w w' := by
  have := ktext_any 6 ht
  rw [show txK 6 = ⟨#[46, 46, 46]⟩ from rfl, show hasK 6 = true by decide] at this
  exact this
/-- In, as a call that leaves what is old alone. -/
theorem in_b {c te : Int} {r : Bool} (hr : inK c te = r) (w : World) : Calls Tryd.prog 19 #[.int .i64 c, .int .i64 te] w fun e w' => e = .returned (.bool r) ∧ Below w.heap.size w w' :=
  (in_any hr w).mono fun _ _ h => ⟨h.1, h.2 ▸ Below.refl _ _⟩

set_option maxHeartbeats 1000000 in
set_option maxRecDepth 100000 in
theorem awake_any (w : World) (ht : TabK w) : Calls Tryd.prog 9 #[] w fun e w' => e = .returned (.bool true) ∧ Below w.heap.size w w' := by
  have r1 := fun (w : World) (h : TabK w) => text_6 h
  have r2 := fun (w : World) (h : TabK w) => kof_any (k := 2) (s := onA) (a := 0) (z := 0) of_on h
  have r3 := fun w => in_any (c := 0) (te := 23) (r := true) (by decide) w
  have r4 := fun w => in_any (c := 1) (te := 23) (r := false) (by decide) w
  unfold onA at r2
  have HT := Lib.hid ht
  clear ht
  go_enter Tryd.func9, Tryd.ntmps9
  go_wp2_with fail
  refine (r1 _ (HT.out.below (bel_alloc (Below.refl _ _) _))).mono ?_
  rintro e w1 ⟨rfl, hb1⟩
  obtain ⟨c0, c1, c2, c3⟩ := box4 hb1
  have hB1 := bel_trans (bel_alloc (Below.refl _ w) _) hb1
  have HT1 := Lib.hid (HT.out.below hB1)
  clear r1 hb1
  go_wp2_with fail
  refine (r2 _ HT1.out).mono ?_
  rintro e w2 ⟨rfl, hb2⟩
  have d0 := bel_cell hb2 c0
  have d1 := bel_cell hb2 c1
  have d2 := bel_cell hb2 c2
  have d3 := bel_cell hb2 c3
  have HT2 := Lib.hid (HT1.out.below hb2)
  have hB2 := bel_trans hB1 hb2
  clear c0 c1 c2 c3 hB1 hb2 r2
  go_wp2_with fail
  (with_reducible refine (r3 _).mono ?_)
  rintro e w' ⟨rfl, rfl⟩
  go_wp2_with fail
  (with_reducible refine (r4 _).mono ?_)
  rintro e w' ⟨rfl, rfl⟩
  go_wp2_with fail
  refine (kall_any (ts := [⟨2, onA, 0, 0⟩, ⟨2, onA, 0, 0⟩]) rfl (HT2.out.below (bel_alloc (Below.refl _ _) _)) (tr_two _ _ _ _ _ _) rfl (by decide)).mono ?_
  rintro e w3 ⟨A, c, rfl, hb3, -, -⟩
  have hB3 := bel_trans (bel_alloc hB2 _) hb3
  clear hb3 hB2 d0 d1 d2 d3
  go_wp2
  go_ret
  exact ⟨by simp, hB3⟩

/-! ### KindIn -/
set_option maxHeartbeats 1000000 in
theorem in_law (te : Int) (w : World) (ht : TabK w) : Calls Tryd.prog 5 #[.int .i64 te] w fun e w' => e = .returned (.bool true) ∧ Below w.heap.size w w' := by
  have r3 := fun w => in_any (c := 3) (te := te) (r := false) (by simp [inK]) w
  have r4 := fun w => in_any (c := -1) (te := te) (r := false) (by simp [inK]) w
  by_cases h1 : te < 18
  · have x1 : ¬ (18 : Int) ≤ te := by omega
    have x2 : ¬ (19 : Int) ≤ te := by omega
    have x3 : (te != 23) = true := by simp; omega
    have r0 := fun w => in_any (c := 0) (te := te) (r := false) (by simp [inK, x1]) w
    have r1 := fun w => in_any (c := 1) (te := te) (r := false) (by simp [inK, x1]) w
    have r2 := fun w => in_any (c := 2) (te := te) (r := false) (by simp [inK, x2]) w
    go_enter Tryd.func5, Tryd.ntmps5
    (try simp only [List.append_eq, List.cons_append, List.nil_append])
    go_wp2_with fail
    (with_reducible refine (awake_any _ ht).mono ?_)
    rintro e w1 ⟨rfl, hb1⟩
    go_wp2_with fail
    (with_reducible refine (r0 _).mono ?_)
    rintro e w' ⟨rfl, rfl⟩
    go_wp2_with fail
    (with_reducible refine (r1 _).mono ?_)
    rintro e w' ⟨rfl, rfl⟩
    go_wp2_with fail
    (with_reducible refine (r2 _).mono ?_)
    rintro e w' ⟨rfl, rfl⟩
    go_wp2_with fail
    (with_reducible refine (r3 _).mono ?_)
    rintro e w' ⟨rfl, rfl⟩
    go_wp2_with fail
    (with_reducible refine (r4 _).mono ?_)
    rintro e w' ⟨rfl, rfl⟩
    go_wp2_with fail
    go_ret
    exact ⟨by first | (simp; done) | (simp; omega), hb1⟩
  by_cases h2 : 30 < te
  · have x1 : (18 : Int) ≤ te := by omega
    have x2 : ¬ te ≤ 30 := by omega
    have x3 : (te != 23) = true := by simp; omega
    have x4 : ¬ te ≤ 21 := by omega
    have r0 := fun w => in_any (c := 0) (te := te) (r := false) (by simp [inK, x2]) w
    have r1 := fun w => in_any (c := 1) (te := te) (r := false) (by simp [inK, x2]) w
    have r2 := fun w => in_any (c := 2) (te := te) (r := false) (by simp [inK, x4]) w
    go_enter Tryd.func5, Tryd.ntmps5
    (try simp only [List.append_eq, List.cons_append, List.nil_append])
    go_wp2_with fail
    (with_reducible refine (awake_any _ ht).mono ?_)
    rintro e w1 ⟨rfl, hb1⟩
    go_wp2_with fail
    (with_reducible refine (r0 _).mono ?_)
    rintro e w' ⟨rfl, rfl⟩
    go_wp2_with fail
    (with_reducible refine (r1 _).mono ?_)
    rintro e w' ⟨rfl, rfl⟩
    go_wp2_with fail
    (with_reducible refine (r2 _).mono ?_)
    rintro e w' ⟨rfl, rfl⟩
    go_wp2_with fail
    (with_reducible refine (r3 _).mono ?_)
    rintro e w' ⟨rfl, rfl⟩
    go_wp2_with fail
    (with_reducible refine (r4 _).mono ?_)
    rintro e w' ⟨rfl, rfl⟩
    go_wp2_with fail
    go_ret
    exact ⟨by first | (simp; done) | (simp; omega), hb1⟩
  have x1 : (18 : Int) ≤ te := by omega
  have x2 : te ≤ 30 := by omega
  have r0 := fun w => in_any (c := 0) (te := te) (r := true) (by simp [inK, x1, x2]) w
  by_cases h3 : te = 23
  · subst h3
    have r1 := fun w => in_any (c := 1) (te := 23) (r := false) (by decide) w
    have r2 := fun w => in_any (c := 2) (te := 23) (r := false) (by decide) w
    go_enter Tryd.func5, Tryd.ntmps5
    (try simp only [List.append_eq, List.cons_append, List.nil_append])
    go_wp2_with fail
    (with_reducible refine (awake_any _ ht).mono ?_)
    rintro e w1 ⟨rfl, hb1⟩
    go_wp2_with fail
    (with_reducible refine (r0 _).mono ?_)
    rintro e w' ⟨rfl, rfl⟩
    go_wp2_with fail
    (with_reducible refine (r1 _).mono ?_)
    rintro e w' ⟨rfl, rfl⟩
    go_wp2_with fail
    (with_reducible refine (r2 _).mono ?_)
    rintro e w' ⟨rfl, rfl⟩
    go_wp2_with fail
    (with_reducible refine (r3 _).mono ?_)
    rintro e w' ⟨rfl, rfl⟩
    go_wp2_with fail
    (with_reducible refine (r4 _).mono ?_)
    rintro e w' ⟨rfl, rfl⟩
    go_wp2_with fail
    go_ret
    exact ⟨by first | (simp; done) | (simp; omega), hb1⟩
  have x3 : (te != 23) = true := by simpa using h3
  have r1 := fun w => in_any (c := 1) (te := te) (r := true) (by simp [inK, x1, x2, h3]) w
  clear h3
  by_cases h4 : 19 ≤ te
  · by_cases h5 : te ≤ 21
    · have r2 := fun w => in_any (c := 2) (te := te) (r := true) (by simp [inK, h4, h5]) w
      go_enter Tryd.func5, Tryd.ntmps5
      (try simp only [List.append_eq, List.cons_append, List.nil_append])
      go_wp2_with fail
      (with_reducible refine (awake_any _ ht).mono ?_)
      rintro e w1 ⟨rfl, hb1⟩
      go_wp2_with fail
      (with_reducible refine (r0 _).mono ?_)
      rintro e w' ⟨rfl, rfl⟩
      go_wp2_with fail
      (with_reducible refine (r1 _).mono ?_)
      rintro e w' ⟨rfl, rfl⟩
      go_wp2_with fail
      (with_reducible refine (r2 _).mono ?_)
      rintro e w' ⟨rfl, rfl⟩
      go_wp2_with fail
      (with_reducible refine (r3 _).mono ?_)
      rintro e w' ⟨rfl, rfl⟩
      go_wp2_with fail
      (with_reducible refine (r4 _).mono ?_)
      rintro e w' ⟨rfl, rfl⟩
      go_wp2_with fail
      go_ret
      exact ⟨by first | (simp; done) | (simp; omega), hb1⟩
    · have r2 := fun w => in_any (c := 2) (te := te) (r := false) (by simp [inK, h5]) w
      go_enter Tryd.func5, Tryd.ntmps5
      (try simp only [List.append_eq, List.cons_append, List.nil_append])
      go_wp2_with fail
      (with_reducible refine (awake_any _ ht).mono ?_)
      rintro e w1 ⟨rfl, hb1⟩
      go_wp2_with fail
      (with_reducible refine (r0 _).mono ?_)
      rintro e w' ⟨rfl, rfl⟩
      go_wp2_with fail
      (with_reducible refine (r1 _).mono ?_)
      rintro e w' ⟨rfl, rfl⟩
      go_wp2_with fail
      (with_reducible refine (r2 _).mono ?_)
      rintro e w' ⟨rfl, rfl⟩
      go_wp2_with fail
      (with_reducible refine (r3 _).mono ?_)
      rintro e w' ⟨rfl, rfl⟩
      go_wp2_with fail
      (with_reducible refine (r4 _).mono ?_)
      rintro e w' ⟨rfl, rfl⟩
      go_wp2_with fail
      go_ret
      exact ⟨by first | (simp; done) | (simp; omega), hb1⟩
  · have r2 := fun w => in_any (c := 2) (te := te) (r := false) (by simp [inK, h4]) w
    go_enter Tryd.func5, Tryd.ntmps5
    (try simp only [List.append_eq, List.cons_append, List.nil_append])
    go_wp2_with fail
    (with_reducible refine (awake_any _ ht).mono ?_)
    rintro e w1 ⟨rfl, hb1⟩
    go_wp2_with fail
    (with_reducible refine (r0 _).mono ?_)
    rintro e w' ⟨rfl, rfl⟩
    go_wp2_with fail
    (with_reducible refine (r1 _).mono ?_)
    rintro e w' ⟨rfl, rfl⟩
    go_wp2_with fail
    (with_reducible refine (r2 _).mono ?_)
    rintro e w' ⟨rfl, rfl⟩
    go_wp2_with fail
    (with_reducible refine (r3 _).mono ?_)
    rintro e w' ⟨rfl, rfl⟩
    go_wp2_with fail
    (with_reducible refine (r4 _).mono ?_)
    rintro e w' ⟨rfl, rfl⟩
    go_wp2_with fail
    go_ret
    exact ⟨by first | (simp; done) | (simp; omega), hb1⟩

/-! ### KindName -/
theorem last_Q : ∀ c, c < 31 → (stK c).getLast? ≠ some 81 := by decide +kernel
theorem nam_Q (l : List UInt8) : namK (l ++ [81]) = 18 := by
  rcases nam_cases (l ++ [81]) with ⟨c, h1, h2, h3, _⟩ | ⟨_, h⟩
  · exact absurd (by rw [← h3]; simp) (last_Q c (by omega))
  · exact h
set_option maxHeartbeats 1000000 in
theorem name_law (s : ByteArray) (w : World) (zs : s.size ≤ 9223372036854775807) (ht : TabK w) : Calls Tryd.prog 6 #[.string s] w fun e w' => e = .returned (.bool true) ∧ Below w.heap.size w w' := by
  by_cases ha : 600 < s.size
  · have ga : (600 : Int) < (s.size : Int) := by omega
    clear ha
    go_enter Tryd.func6, Tryd.ntmps6
    (try simp only [List.append_eq, List.cons_append, List.nil_append])
    go_wp2_with fail
    (with_reducible refine (awake_any _ ht).mono ?_)
    rintro e w1 ⟨rfl, hb1⟩
    go_wp2_with fail
    go_ret
    exact ⟨by first | (simp; done) | (simp; omega), hb1⟩
  have ga : ¬ (600 : Int) < (s.size : Int) := by omega
  have la : s.data.toList.length = s.size := (Lib.size_eq s).symm
  obtain ⟨R, hR, hadd⟩ := sadd' (A := s) (B := ⟨#[81]⟩) (a := s.data.toList) (b := [81]) rfl rfl (by simp; omega)
  have r3 := fun (w : World) (h : TabK w) => kof_any (k := 2) (s := R) (a := 0) (z := 0) (r := 18) (by rw [hR, mkb_data]; show ((namK _ : Nat) : Int) = 18; rw [nam_Q]; rfl) h
  clear hR la
  rcases nam_cases s.data.toList with ⟨c, h1, h2, hs, he⟩ | ⟨hn, he⟩
  · have r1 := fun (w : World) (h : TabK w) => kof_any (k := 2) (s := s) (a := 0) (z := 0) (r := (c : Int)) (by show ((namK _ : Nat) : Int) = _; rw [he]) h
    have r2 : ∀ w, TabK w → Calls Tryd.prog 11 #[.int .i64 (c : Int)] w fun e w' => e = .returned (.tuple #[.string s, .bool true]) ∧ Below w.heap.size w w' := fun w h => by
      have := ktext_any (c : Int) h
      rw [show txK (c : Int) = s by unfold txK; rw [Int.toNat_natCast, ← hs]; rfl, hasK_iff.2 (.inr (by omega))] at this
      exact this
    have r4 := fun w => in_any (c := 0) (te := (c : Int)) (r := true) (by rw [inK_0, nmB]; simp; omega) w
    have x1 : ((c : Int) != 18) = true := by simp; omega
    clear hs he h1 h2 ha
    generalize (c : Int) = x at *
    clear c
    go_enter Tryd.func6, Tryd.ntmps6
    (try simp only [List.append_eq, List.cons_append, List.nil_append])
    go_wp2_with fail
    (with_reducible refine (awake_any _ ht).mono ?_)
    rintro e w1 ⟨rfl, hb1⟩
    go_wp2_with fail
    (with_reducible refine (r1 _ (ht.below hb1)).mono ?_)
    rintro e w2 ⟨rfl, hb2⟩
    go_wp2_with fail
    (with_reducible refine (r2 _ (ht.below (bel_trans hb1 hb2))).mono ?_)
    rintro e w3 ⟨rfl, hb3⟩
    go_wp2_with fail
    (with_reducible refine (r3 _ (ht.below (bel_trans (bel_trans hb1 hb2) hb3))).mono ?_)
    rintro e w4 ⟨rfl, hb4⟩
    go_wp2_with fail
    (with_reducible refine (r4 _).mono ?_)
    rintro e w' ⟨rfl, rfl⟩
    go_wp2_with fail
    go_ret
    exact ⟨by first | (simp; done) | (simp; omega), (bel_trans (bel_trans (bel_trans hb1 hb2) hb3) hb4)⟩
  · have r1 := fun (w : World) (h : TabK w) => kof_any (k := 2) (s := s) (a := 0) (z := 0) (r := 18) (by show ((namK _ : Nat) : Int) = _; rw [he]; rfl) h
    have r2 : ∀ w, TabK w → Calls Tryd.prog 11 #[.int .i64 18] w fun e w' => e = .returned (.tuple #[.string ⟨#[]⟩, .bool false]) ∧ Below w.heap.size w w' := fun w h => by
      have := ktext_any 18 h
      rw [txK_no (te := 18) (by decide), show hasK 18 = false by decide] at this
      exact this
    have r4 := fun w => in_any (c := 0) (te := 18) (r := true) (by decide) w
    clear hn he ha
    go_enter Tryd.func6, Tryd.ntmps6
    (try simp only [List.append_eq, List.cons_append, List.nil_append])
    go_wp2_with fail
    (with_reducible refine (awake_any _ ht).mono ?_)
    rintro e w1 ⟨rfl, hb1⟩
    go_wp2_with fail
    (with_reducible refine (r1 _ (ht.below hb1)).mono ?_)
    rintro e w2 ⟨rfl, hb2⟩
    go_wp2_with fail
    (with_reducible refine (r2 _ (ht.below (bel_trans hb1 hb2))).mono ?_)
    rintro e w3 ⟨rfl, hb3⟩
    go_wp2_with fail
    (with_reducible refine (r3 _ (ht.below (bel_trans (bel_trans hb1 hb2) hb3))).mono ?_)
    rintro e w4 ⟨rfl, hb4⟩
    go_wp2_with fail
    (with_reducible refine (r4 _).mono ?_)
    rintro e w' ⟨rfl, rfl⟩
    go_wp2_with fail
    go_ret
    exact ⟨by first | (simp; done) | (simp; omega), (bel_trans (bel_trans (bel_trans hb1 hb2) hb3) hb4)⟩
end Go.Proofs.YtjfhcgolgabkkaaDoor
