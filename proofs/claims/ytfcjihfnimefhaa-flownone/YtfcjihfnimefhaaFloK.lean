/- Contracts of package flow: may, Flow, Held, All. -/
import Derived.Test.YtfcjihfnimefhaaFloI
import Derived.Test.YtfcjihfnimefhaaFloJ
import Derived.Test.YtfcjihfnimefhaaWidE
namespace Go.Proofs.Ytfcjihfnimefhaa
open Go.RowKit Go.Shelf
set_option linter.unusedVariables false
set_option maxRecDepth 100000

theorem mayF_hard (l : List Bq) : ∀ o i : Int, mayF o i (l ++ [⟨5, noV⟩]) = mayF o i l := by
  induction l with
  | nil =>
    intro o i
    show (okB ⟨5, noV⟩ && decide (0 ≤ o + dO 5) && decide (0 ≤ i + dI 5) && (o + dO 5 == 0 && i + dI 5 == 0)) = (o == 0 && i == 0)
    have e1 : dO 5 = 0 := by decide
    have e2 : dI 5 = 0 := by decide
    have e3 : okB ⟨5, noV⟩ = true := by decide
    rw [e1, e2, e3, Int.add_zero, Int.add_zero, Bool.true_and]
    by_cases h1 : o = 0
    · by_cases h2 : i = 0
      · rw [h1, h2]; rfl
      · rw [beq_eq_false_iff_ne.2 h2, Bool.and_false, Bool.and_false]
    · rw [beq_eq_false_iff_ne.2 h1, Bool.false_and, Bool.and_false]
  | cons b l ih => intro o i; rw [List.cons_append, mayF, mayF, ih]
theorem rm_hard {l : List Bq} (w : Int) (h : l.length ≤ 399) : rmF (l ++ [⟨5, noV⟩]) w = rmF l w := by
  rw [rmF, rmF, mayL, mayL, mayF_hard, List.length_append, List.length_singleton, decide_eq_true (show l.length + 1 ≤ 4000 by omega), decide_eq_true (show l.length ≤ 4000 by omega)]
theorem rm_may {l : List Bq} {w : Int} (h : rmF l w = true) : mayF 0 0 l = true := by
  have := (rm_yes h).2.2
  rw [mayL, Bool.and_eq_true] at this
  exact this.2
/-- May something be told? -/
def yesF (l : List Bq) (w k : Int) : Bool := decide (0 ≤ k) && decide (k ≤ l.length) && rmF l w
theorem yes_is {l : List Bq} {w k : Int} : yesF l w k = true ↔ 0 ≤ k ∧ k ≤ l.length ∧ rmF l w = true := by
  rw [yesF, Bool.and_eq_true, Bool.and_eq_true, decide_eq_true_eq, decide_eq_true_eq, and_assoc]
set_option maxHeartbeats 1000000 in
theorem fmay_any {w : World} {A : Option Addr} {n c : Nat} {l : List Bq} {W k : Int} {r : Bool} (hr : yesF l W k = r) (hA : Br w A l) (hn : l.length = n) (hz : n ≤ 100000) :
    Calls Try.prog 22 #[.slice A n c, .int .i64 W, .int .i64 k] w fun e w' => e = .returned (.bool r) ∧ Below w.heap.size w w' := by
  by_cases h1 : 0 ≤ k
  · by_cases h2 : k ≤ n
    · obtain rfl : rmF l W = r := by rw [← hr, yesF, decide_eq_true h1, decide_eq_true (by omega)]; rfl
      have r1 := fun w h => wroom_any (w := w) (A := A) (n := n) (c := c) (l := l) (W := W) rfl h hn hz
      have HA := Lib.hid hA
      clear hr hA hn
      go_enter Try.func22, Try.ntmps22
      go_wp2_with fail
      ((with_reducible refine (r1 _ HA.out).mono ?_))
      rintro e w1 ⟨rfl, hb1⟩
      have HB1 := Lib.hid hb1
      clear hb1 r1
      go_wp2
      go_ret
      exact ⟨rfl, HB1.out⟩
    · obtain rfl : r = false := by rw [← hr, yesF, decide_eq_false (p := k ≤ l.length) (by omega), Bool.and_false]; rfl
      clear hr hA hn
      go_enter Try.func22, Try.ntmps22
      go_wp2
      go_ret
      exact ⟨rfl, Below.refl _ _⟩
  · obtain rfl : r = false := by rw [← hr, yesF, decide_eq_false h1]; rfl
    clear hr hA hn
    go_enter Try.func22, Try.ntmps22
    go_wp2
    go_ret
    exact ⟨rfl, Below.refl _ _⟩
section
variable {w : World} {A : Option Addr} {n c : Nat} {l : List Bq} {W k : Int}
set_option maxHeartbeats 1000000 in
theorem flow_no (h : yesF l W k = false) (hA : Br w A l) (hn : l.length = n) (hz : n ≤ 100000) :
    Calls Try.prog 10 #[.slice A n c, .int .i64 W, .int .i64 k] w fun e w' => e = .returned (.tuple #[.string ⟨#[]⟩, .int .i64 0, .bool false]) ∧ Below w.heap.size w w' := by
  have r1 := fun w h2 => fmay_any (w := w) (A := A) (n := n) (c := c) h h2 hn hz
  have HA := Lib.hid hA
  clear h hA hn
  go_enter Try.func10, Try.ntmps10
  go_wp2_with fail
  ((with_reducible refine (r1 _ HA.out).mono ?_))
  rintro e w1 ⟨rfl, hb1⟩
  have HB1 := Lib.hid hb1
  clear hb1 r1
  go_wp2
  go_ret3
  exact ⟨rfl, HB1.out⟩
set_option maxHeartbeats 1000000 in
theorem held_no (h : yesF l W k = false) (hA : Br w A l) (hn : l.length = n) (hz : n ≤ 100000) :
    Calls Try.prog 14 #[.slice A n c, .int .i64 W, .int .i64 k] w fun e w' => e = .returned (.int .i64 (-1)) ∧ Below w.heap.size w w' := by
  have r1 := fun w h2 => fmay_any (w := w) (A := A) (n := n) (c := c) h h2 hn hz
  have HA := Lib.hid hA
  clear h hA hn
  go_enter Try.func14, Try.ntmps14
  go_wp2_with fail
  ((with_reducible refine (r1 _ HA.out).mono ?_))
  rintro e w1 ⟨rfl, hb1⟩
  have HB1 := Lib.hid hb1
  clear hb1 r1
  go_wp2
  go_ret
  exact ⟨rfl, HB1.out⟩
end
section
variable {w : World} {A : Option Addr} {n c : Nat} {l : List Bq} {W : Int} {k : Nat}
theorem prn_any (hr : rmF l W = true) (hA : Br w A l) (hn : l.length = n) (h0 : A = none → n = 0 ∧ c = 0) (hz : n ≤ 400) (hv : vS l ≤ 100000000) (hk : k ≤ n) :
    Calls Try.prog 23 #[.slice A k c, .int .i64 W] w fun e w' => e = .returned (.tuple #[.string (mkb (flwF l W k)), .int .i64 ((hldN l W k : Nat) : Int), .int .i64 ((mostN l W k : Nat) : Int)]) ∧ Below w.heap.size w w' := by
  obtain ⟨h1, h2, h3⟩ := rm_yes hr
  obtain ⟨N, rfl⟩ : ∃ N : Nat, W = N := ⟨W.toNat, by omega⟩
  exact fprinted_any hA hn hz (rm_may hr) hv (by omega) hk
set_option maxHeartbeats 1000000 in
theorem flow_yes (hr : rmF l W = true) (hA : Br w A l) (hn : l.length = n) (h0 : A = none → n = 0 ∧ c = 0) (hc : n ≤ c) (hz : n ≤ 400) (hv : vS l ≤ 100000000) (hk : k ≤ n) :
    Calls Try.prog 10 #[.slice A n c, .int .i64 W, .int .i64 (k : Int)] w fun e w' => e = .returned (.tuple #[.string (mkb (flwF l W k)), .int .i64 ((hldN l W k : Nat) : Int), .bool true]) ∧ Below w.heap.size w w' := by
  have r1 := fun w h2 => fmay_any (w := w) (A := A) (n := n) (c := c) (k := k) (yes_is.2 ⟨by omega, by omega, hr⟩) h2 hn (by omega)
  have r2 := fun w h2 => prn_any (w := w) (A := A) (n := n) (c := c) hr h2 hn h0 hz hv hk
  have q1 : (k : Int) ≤ (c : Int) := by omega
  have q2 : (k : Int) ≤ (n : Int) := by omega
  have HA := Lib.hid hA
  clear hr hA hn hv
  cases A with
  | none =>
    obtain ⟨rfl, rfl⟩ := h0 rfl
    obtain rfl : k = 0 := by omega
    have e0 : ((0 : Nat) : Int) = 0 := rfl
    simp only [e0] at r1 ⊢
    clear h0
    go_enter Try.func10, Try.ntmps10
    go_wp2_with fail
    ((with_reducible refine (r1 _ HA.out).mono ?_))
    rintro e w1 ⟨rfl, hb1⟩
    have HB1 := Lib.hid hb1
    clear hb1 r1
    go_wp2_with fail
    ((with_reducible refine (r2 _ (HA.out.below HB1.out)).mono ?_))
    rintro e w2 ⟨rfl, hb2⟩
    have HB2 := Lib.hid (bel_trans HB1.out hb2)
    clear hb2 r2
    go_wp2
    go_ret3
    exact ⟨rfl, HB2.out⟩
  | some ad =>
    clear h0
    go_enter Try.func10, Try.ntmps10
    go_wp2_with fail
    ((with_reducible refine (r1 _ HA.out).mono ?_))
    rintro e w1 ⟨rfl, hb1⟩
    have HB1 := Lib.hid hb1
    clear hb1 r1
    go_wp2_with fail
    ((with_reducible refine (r2 _ (HA.out.below HB1.out)).mono ?_))
    rintro e w2 ⟨rfl, hb2⟩
    have HB2 := Lib.hid (bel_trans HB1.out hb2)
    clear hb2 r2
    go_wp2
    go_ret3
    exact ⟨rfl, HB2.out⟩
set_option maxHeartbeats 1000000 in
theorem held_yes (hr : rmF l W = true) (hA : Br w A l) (hn : l.length = n) (h0 : A = none → n = 0 ∧ c = 0) (hc : n ≤ c) (hz : n ≤ 400) (hv : vS l ≤ 100000000) (hk : k ≤ n) :
    Calls Try.prog 14 #[.slice A n c, .int .i64 W, .int .i64 (k : Int)] w fun e w' => e = .returned (.int .i64 ((mostN l W k : Nat) : Int)) ∧ Below w.heap.size w w' := by
  have r1 := fun w h2 => fmay_any (w := w) (A := A) (n := n) (c := c) (k := k) (yes_is.2 ⟨by omega, by omega, hr⟩) h2 hn (by omega)
  have r2 := fun w h2 => prn_any (w := w) (A := A) (n := n) (c := c) hr h2 hn h0 hz hv hk
  have q1 : (k : Int) ≤ (c : Int) := by omega
  have q2 : (k : Int) ≤ (n : Int) := by omega
  have HA := Lib.hid hA
  clear hr hA hn hv
  cases A with
  | none =>
    obtain ⟨rfl, rfl⟩ := h0 rfl
    obtain rfl : k = 0 := by omega
    have e0 : ((0 : Nat) : Int) = 0 := rfl
    simp only [e0] at r1 ⊢
    clear h0
    go_enter Try.func14, Try.ntmps14
    go_wp2_with fail
    ((with_reducible refine (r1 _ HA.out).mono ?_))
    rintro e w1 ⟨rfl, hb1⟩
    have HB1 := Lib.hid hb1
    clear hb1 r1
    go_wp2_with fail
    ((with_reducible refine (r2 _ (HA.out.below HB1.out)).mono ?_))
    rintro e w2 ⟨rfl, hb2⟩
    have HB2 := Lib.hid (bel_trans HB1.out hb2)
    clear hb2 r2
    go_wp2
    go_ret
    exact ⟨rfl, HB2.out⟩
  | some ad =>
    clear h0
    go_enter Try.func14, Try.ntmps14
    go_wp2_with fail
    ((with_reducible refine (r1 _ HA.out).mono ?_))
    rintro e w1 ⟨rfl, hb1⟩
    have HB1 := Lib.hid hb1
    clear hb1 r1
    go_wp2_with fail
    ((with_reducible refine (r2 _ (HA.out.below HB1.out)).mono ?_))
    rintro e w2 ⟨rfl, hb2⟩
    have HB2 := Lib.hid (bel_trans HB1.out hb2)
    clear hb2 r2
    go_wp2
    go_ret
    exact ⟨rfl, HB2.out⟩
/-- All but the last byte. -/
theorem mkb_init (x : List UInt8) (b : UInt8) : (mkb (x ++ [b])).extract 0 x.length = mkb x := by
  apply ByteArray.ext
  apply Array.ext'
  rw [ByteArray.data_extract, Array.toList_extract, List.extract_eq_take_drop, List.drop_zero, Nat.sub_zero]
  exact List.take_left' rfl
set_option maxHeartbeats 1000000 in
theorem all_no (hr : rmF l W = false) (hA : Br w A l) (hn : l.length = n) (h0 : A = none → n = 0 ∧ c = 0) (hz : n ≤ 399) :
    Calls Try.prog 12 #[.slice A n c, .int .i64 W] w fun e w' => e = .returned (.tuple #[.string ⟨#[]⟩, .bool false]) ∧ Below w.heap.size w w' := by
  have r1 := fun w g0 g1 h1 h2 h3 h4 => concat_any (w := w) (A := A) (n := n) (c := c) (g0 := g0) (g1 := g1) (l := l) h1 hn h0 (by omega) h2 h3 h4
  have hlen : (l ++ [(⟨5, noV⟩ : Bq)]).length = n + 1 := by rw [List.length_append, hn]; rfl
  have r2 := fun {w : World} {A : Option Addr} {c : Nat} (h1 : Br w A (l ++ [⟨5, noV⟩])) (h2 : A = none → n + 1 = 0 ∧ c = 0) (h3 : n + 1 ≤ c) => flow_no (w := w) (A := A) (n := n + 1) (c := c) (k := (n : Int) + 1) (W := W) (by rw [yesF, rm_hard W (by omega), hr, Bool.and_false]) h1 hlen (by omega)
  have HA := Lib.hid hA
  have HL := Lib.hid hlen
  obtain ⟨w2, hw2⟩ : ∃ w2, ((w.alloc (.cells #[.int .i64 5, .string ⟨#[]⟩] 34)).alloc (.cells #[.slice A n c, .slice (some ⟨w.heap.size, 0, none⟩) 1 1] 22)) = w2 := ⟨_, rfl⟩
  have HB2 := Lib.hid (show Below w.heap.size w w2 by rw [← hw2]; exact bel_alloc (bel_alloc (Below.refl _ w) _) _)
  have c0 : w2.cell? ⟨w.heap.size + 1, 0, none⟩ = some (.slice A n c) := by rw [← hw2]; simp [go_sem]
  have c1 : w2.cell? ⟨w.heap.size + 1, 1, none⟩ = some (.slice (some ⟨w.heap.size, 0, none⟩) 1 1) := by rw [← hw2]; simp [go_sem]
  have h5 : Br w2 (some ⟨w.heap.size, 0, none⟩) [⟨5, noV⟩] := by
    refine br_one (t := 34) (fr := (0, 0)) ?_
    rw [← hw2, Lib.alloc_old _ _ _ (by simp)]; exact heap_alloc_new w _
  have R1 := Lib.hid (r1 w2 (w.heap.size + 1) w.heap.size (HA.out.below HB2.out) c0 c1 h5)
  clear c0 c1 h5 r1 hA hn h0 hlen
  go_enter Try.func12, Try.ntmps12
  go_wp2_with fail
  clear hw2
  ((with_reducible refine R1.out.mono ?_))
  rintro e w3 ⟨v3, rfl, h3⟩
  obtain ⟨A3, c3, rfl, k1, k2, k3⟩ := h3.row
  rw [HL.out] at k2 k3 ⊢
  have R2 := Lib.hid (r2 k1 k2 k3)
  have HB3 := Lib.hid (bel_trans HB2.out h3.bel)
  clear r2 k1 k2 k3 h3 R1 HB2
  go_wp2_with fail
  ((with_reducible refine R2.out.mono ?_))
  rintro e w4 ⟨rfl, hb4⟩
  have HB4 := Lib.hid (bel_trans HB3.out hb4)
  clear hb4 R2 HB3
  go_wp2
  go_ret2
  exact ⟨rfl, HB4.out⟩
set_option maxHeartbeats 1000000 in
theorem all_yes (hr : rmF l W = true) (hA : Br w A l) (hn : l.length = n) (h0 : A = none → n = 0 ∧ c = 0) (hz : n ≤ 399) (hv : vS l ≤ 100000000) :
    Calls Try.prog 12 #[.slice A n c, .int .i64 W] w fun e w' => e = .returned (.tuple #[.string (mkb (layF l W)), .bool true]) ∧ Below w.heap.size w w' := by
  have r1 := fun w g0 g1 h1 h2 h3 h4 => concat_any (w := w) (A := A) (n := n) (c := c) (g0 := g0) (g1 := g1) (l := l) h1 hn h0 (by omega) h2 h3 h4
  have hlen : (l ++ [(⟨5, noV⟩ : Bq)]).length = n + 1 := by rw [List.length_append, hn]; rfl
  have hv2 : vS (l ++ [⟨5, noV⟩]) ≤ 100000000 := by rw [vS_app]; exact hv
  obtain ⟨hm1, hm2⟩ := all_math (w := W) (rm_may hr) (by omega : l.length ≤ 399)
  have hout := (pgs_inv W (rm_may hr) (by omega) l.length (Nat.le_refl _)).outk
  have hvl := vS_le l l.length
  have hlay : layF l W = (pgs l W l.length).out := if_pos hr
  rw [hlay]
  obtain ⟨x, hx⟩ : ∃ x, (pgs l W l.length).out = x := ⟨_, rfl⟩
  rw [hx] at hm1 hout ⊢
  rw [hn] at hm1
  have hxl : x.length ≤ 200000000 := by omega
  have r2 := fun {w : World} {A : Option Addr} {c : Nat} (h1 : Br w A (l ++ [⟨5, noV⟩])) (h2 : A = none → n + 1 = 0 ∧ c = 0) (h3 : n + 1 ≤ c) => flow_yes (w := w) (A := A) (n := n + 1) (c := c) (k := n + 1) (W := W) (by rw [rm_hard W (by omega), hr]) h1 hlen h2 h3 (by omega) hv2 (Nat.le_refl _)
  rw [hm1] at r2
  have e1 : ((n + 1 : Nat) : Int) = (n : Int) + 1 := by omega
  simp only [e1] at r2
  have hsz : (mkb (x ++ [10])).size = x.length + 1 := by rw [mkb_size, List.length_append]; rfl
  have hin := mkb_init x 10
  generalize mkb (x ++ [10]) = S at hsz hin r2
  generalize mkb x = T at hin ⊢
  obtain ⟨m, hm⟩ : ∃ m, x.length = m := ⟨_, rfl⟩
  rw [hm] at hsz hin hxl
  clear hx hout hvl hlay hm1 hm2 hv2 hm e1
  have q1 : IntKind.i64.wrap ((m : Int) + 1 - 1) = (m : Int) := by rw [IntWalk.i64_in _ (by omega)]; omega
  have HA := Lib.hid hA
  have HL := Lib.hid hlen
  obtain ⟨w2, hw2⟩ : ∃ w2, ((w.alloc (.cells #[.int .i64 5, .string ⟨#[]⟩] 34)).alloc (.cells #[.slice A n c, .slice (some ⟨w.heap.size, 0, none⟩) 1 1] 22)) = w2 := ⟨_, rfl⟩
  have HB2 := Lib.hid (show Below w.heap.size w w2 by rw [← hw2]; exact bel_alloc (bel_alloc (Below.refl _ w) _) _)
  have c0 : w2.cell? ⟨w.heap.size + 1, 0, none⟩ = some (.slice A n c) := by rw [← hw2]; simp [go_sem]
  have c1 : w2.cell? ⟨w.heap.size + 1, 1, none⟩ = some (.slice (some ⟨w.heap.size, 0, none⟩) 1 1) := by rw [← hw2]; simp [go_sem]
  have h5 : Br w2 (some ⟨w.heap.size, 0, none⟩) [⟨5, noV⟩] := by
    refine br_one (t := 34) (fr := (0, 0)) ?_
    rw [← hw2, Lib.alloc_old _ _ _ (by simp)]; exact heap_alloc_new w _
  have R1 := Lib.hid (r1 w2 (w.heap.size + 1) w.heap.size (HA.out.below HB2.out) c0 c1 h5)
  clear c0 c1 h5 r1 hA hn h0 hlen
  go_enter Try.func12, Try.ntmps12
  go_wp2_with fail
  clear hw2
  ((with_reducible refine R1.out.mono ?_))
  rintro e w3 ⟨v3, rfl, h3⟩
  obtain ⟨A3, c3, rfl, k1, k2, k3⟩ := h3.row
  rw [HL.out] at k2 k3 ⊢
  have R2 := Lib.hid (r2 k1 k2 k3)
  have HB3 := Lib.hid (bel_trans HB2.out h3.bel)
  clear r2 k1 k2 k3 h3 R1 HB2
  go_wp2_with fail
  ((with_reducible refine R2.out.mono ?_))
  rintro e w4 ⟨rfl, hb4⟩
  have HB4 := Lib.hid (bel_trans HB3.out hb4)
  clear hb4 R2 HB3
  go_wp2
  go_ret2
  exact ⟨rfl, HB4.out⟩
end
end Go.Proofs.Ytfcjihfnimefhaa
