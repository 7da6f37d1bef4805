/- Contracts of package wide: Room, Lay, Col; the example. -/
import Derived.Test.YtfcjihfnimefhaaWidD
import Derived.Test.YtfcjihfnimefhaaMayA
namespace Go.Proofs.Ytfcjihfnimefhaa
open Go.RowKit
set_option linter.unusedVariables false
set_option maxRecDepth 100000

/-- Is there room? -/
def rmF (l : List Bq) (w : Int) : Bool := decide (1 ≤ w) && decide (w ≤ 65535) && mayL l
noncomputable def layF (l : List Bq) (w : Int) : List UInt8 := if rmF l w = true then (pgs l w l.length).out else []
noncomputable def colF (l : List Bq) (w k : Int) : Int := if rmF l w = true ∧ 0 ≤ k ∧ k ≤ l.length then (pgs l w k.toNat).col else -1
theorem rm_yes {l : List Bq} {w : Int} (h : rmF l w = true) : 1 ≤ w ∧ w ≤ 65535 ∧ mayL l = true := by
  rw [rmF, Bool.and_eq_true, Bool.and_eq_true, decide_eq_true_eq, decide_eq_true_eq] at h
  exact ⟨h.1.1, h.1.2, h.2⟩
theorem rm_mk {l : List Bq} {w : Int} (h1 : 1 ≤ w) (h2 : w ≤ 65535) (h3 : mayL l = true) : rmF l w = true := by
  rw [rmF, decide_eq_true h1, decide_eq_true h2, h3]; rfl
set_option maxHeartbeats 1000000 in
theorem wroom_any {w : World} {A : Option Addr} {n c : Nat} {l : List Bq} {W : Int} {r : Bool} (hr : rmF l W = r) (hA : Br w A l) (hn : l.length = n) (hz : n ≤ 100000) :
    Calls Try.prog 16 #[.slice A n c, .int .i64 W] w fun e w' => e = .returned (.bool r) ∧ Below w.heap.size w w' := by
  by_cases h1 : 1 ≤ W
  · by_cases h2 : W ≤ 65535
    · have e : mayL l = r := by rw [← hr, rmF, decide_eq_true h1, decide_eq_true h2]; rfl
      have r1 := fun w h => mmay_any (w := w) (A := A) (n := n) (c := c) e h hn hz
      have HA := Lib.hid hA
      clear hr e hA hn
      go_enter Try.func16, Try.ntmps16
      go_wp2_with fail
      ((with_reducible refine (r1 _ HA.out).mono ?_))
      rintro e w1 ⟨rfl, hb1⟩
      have HB1 := Lib.hid hb1
      clear hb1 r1
      go_wp2
      go_ret
      exact ⟨rfl, HB1.out⟩
    · obtain rfl : r = false := by rw [← hr, rmF, decide_eq_false h2]; simp
      clear hr hA hn
      go_enter Try.func16, Try.ntmps16
      go_wp2
      go_ret
      exact ⟨rfl, Below.refl _ _⟩
  · obtain rfl : r = false := by rw [← hr, rmF, decide_eq_false h1]; rfl
    clear hr hA hn
    go_enter Try.func16, Try.ntmps16
    go_wp2
    go_ret
    exact ⟨rfl, Below.refl _ _⟩
set_option maxHeartbeats 1000000 in
theorem mmay_big {w : World} {A : Option Addr} {n c : Nat} (h4 : 4000 < n) :
    Calls Try.prog 28 #[.slice A n c] w fun e w' => e = .returned (.bool false) ∧ Below w.heap.size w w' := by
  have q1 : (4000 : Int) < (n : Int) := by omega
  clear h4
  go_enter Try.func28, Try.ntmps28
  go_wp2
  go_ret
  exact ⟨rfl, Below.refl _ _⟩
set_option maxHeartbeats 1000000 in
/-- Room, however many bits. -/
theorem wroom_all {w : World} {A : Option Addr} {n c : Nat} {l : List Bq} {W : Int} {r : Bool} (hr : rmF l W = r) (hA : Br w A l) (hn : l.length = n) :
    Calls Try.prog 16 #[.slice A n c, .int .i64 W] w fun e w' => e = .returned (.bool r) ∧ Below w.heap.size w w' := by
  by_cases h4 : 4000 < n
  · have hm : mayL l = false := by rw [mayL, decide_eq_false (by omega)]; rfl
    obtain rfl : r = false := by rw [← hr, rmF, hm]; simp
    have r1 := fun w => mmay_big (w := w) (A := A) (n := n) (c := c) h4
    clear hr hA hn hm h4
    by_cases h1 : 1 ≤ W
    · by_cases h2 : W ≤ 65535
      · go_enter Try.func16, Try.ntmps16
        go_wp2_with fail
        ((with_reducible refine (r1 _).mono ?_))
        rintro e w1 ⟨rfl, hb1⟩
        have HB1 := Lib.hid hb1
        clear hb1 r1
        go_wp2
        go_ret
        exact ⟨rfl, HB1.out⟩
      · go_enter Try.func16, Try.ntmps16
        go_wp2
        go_ret
        exact ⟨rfl, Below.refl _ _⟩
    · go_enter Try.func16, Try.ntmps16
      go_wp2
      go_ret
      exact ⟨rfl, Below.refl _ _⟩
  · exact wroom_any hr hA hn (by omega)
set_option maxHeartbeats 1000000 in
theorem wlay_any {w : World} {A : Option Addr} {n c : Nat} {l : List Bq} {W : Int} {r : Bool} {S : ByteArray} (hr : rmF l W = r) (hS : mkb (layF l W) = S) (hA : Br w A l) (hn : l.length = n) (h0 : A = none → n = 0 ∧ c = 0) (hc : n ≤ c) (hz : n ≤ 400) (hv : vS l ≤ 100000000) :
    Calls Try.prog 17 #[.slice A n c, .int .i64 W] w fun e w' => e = .returned (.tuple #[.string S, .bool r]) ∧ Below w.heap.size w w' := by
  have r1 := fun w h => wroom_any (w := w) (A := A) (n := n) (c := c) hr h hn (by omega)
  have HA := Lib.hid hA
  cases r with
  | false =>
    have e : S = ⟨#[]⟩ := by rw [← hS, layF, hr]; rfl
    subst e
    clear hr hS hA hn h0 hv
    go_enter Try.func17, Try.ntmps17
    go_wp2_with fail
    ((with_reducible refine (r1 _ HA.out).mono ?_))
    rintro e w1 ⟨rfl, hb1⟩
    have HB1 := Lib.hid hb1
    clear hb1 r1
    go_wp2
    go_ret2
    exact ⟨rfl, HB1.out⟩
  | true =>
    obtain ⟨h1, h2, h3⟩ := rm_yes hr
    obtain ⟨V, rfl⟩ : ∃ V : Nat, W = V := ⟨W.toNat, by omega⟩
    have r2 := fun w h => printed_any (w := w) (A := A) (n := n) (c := c) (W := V) (k := n) h hn h0 hc hz (mayL_yes h3) hv (by omega) (Nat.le_refl _)
    have e : mkb (pgs l V n).out = S := by rw [← hS, layF, if_pos hr, hn]
    rw [e] at r2
    obtain ⟨C, hC⟩ : ∃ C, (pgs l V n).col = C := ⟨_, rfl⟩
    rw [hC] at r2
    clear hr hS hA hn h0 hv e hC h3
    go_enter Try.func17, Try.ntmps17
    go_wp2_with fail
    ((with_reducible refine (r1 _ HA.out).mono ?_))
    rintro e w1 ⟨rfl, hb1⟩
    have HB1 := Lib.hid hb1
    clear hb1 r1
    go_wp2_with fail
    ((with_reducible refine (r2 _ (HA.out.below HB1.out)).mono ?_))
    rintro e w2 ⟨rfl, hb2⟩
    have HB2 := Lib.hid (bel_trans HB1.out hb2)
    clear hb2 r2
    go_wp2
    go_ret2
    exact ⟨rfl, HB2.out⟩

/-! ### The example -/
theorem cols_byte (c : UInt8) : cols [c] = 1 := by rw [cols_go (by simp), List.drop_eq_nil_of_le (by simp; omega), cols_nil]
def exP : List Bq := [⟨6, noV⟩, ⟨0, ⟨#[40]⟩⟩, ⟨8, noV⟩, ⟨3, noV⟩, ⟨0, ⟨#[97]⟩⟩, ⟨4, noV⟩, ⟨0, ⟨#[98]⟩⟩, ⟨9, noV⟩, ⟨3, noV⟩, ⟨0, ⟨#[41]⟩⟩, ⟨7, noV⟩]
theorem pexMt : Mt exP (0 : Nat) 10 :=
  ⟨⟨_, rfl, rfl⟩, by decide, ⟨_, rfl, rfl⟩, rfl, fun j h1 h2 => by
    match j, h1, h2 with
    | 1, _, _ => decide
    | 2, _, _ => decide
    | 3, _, _ => decide
    | 4, _, _ => decide
    | 5, _, _ => decide
    | 6, _, _ => decide
    | 7, _, _ => decide
    | 8, _, _ => decide
    | 9, _, _ => decide
    | 10, _, _ => decide⟩
theorem cols_cm : cols [44, 32] = 2 := by
  rw [show ([44, 32] : List UInt8) = enc 44 ++ (enc 32 ++ []) by decide, cols_char (by decide), cols_char (by decide), cols_nil]
theorem pexNd : ndF exP 0 10 = 6 := by
  rw [ndF_yes rfl]
  have e1 : colS (bet exP 0 10) = cols [40] + (cols [] + (cols [] + (cols [97] + (cols [44, 32] + (cols [98] + (cols [] + (cols [] + (cols [41] + 0)))))))) := rfl
  have e2 : beF (exP.drop (10 + 1)) = 0 := rfl
  rw [e1, e2, cols_byte, cols_byte, cols_byte, cols_byte, cols_nil, cols_cm]
  rfl
theorem exN : nec exP 0 = 6 := by rw [(nec_spec exP 0).is pexMt, pexNd]
theorem exM : mtc exP 0 = 10 := (mtc_spec exP 0).is pexMt
theorem putF_byte (p : Pg) (c : UInt8) : putF p ⟨#[c]⟩ = ⟨p.out ++ (List.replicate p.due.toNat 32 ++ [c]), p.ind, p.col + 1, 0, p.fl⟩ := by
  unfold putF
  rw [if_neg (show ¬ (⟨#[c]⟩ : ByteArray).size = 0 from Nat.one_ne_zero)]
  show (⟨_, _, p.col + (cols [c] : Nat), _, _⟩ : Pg) = _
  rw [cols_byte]; rfl
theorem putF_cm (p : Pg) : putF p cmK = ⟨p.out ++ (List.replicate p.due.toNat 32 ++ [44, 32]), p.ind, p.col + 2, 0, p.fl⟩ := by
  unfold putF
  rw [if_neg (show ¬ cmK.size = 0 by decide)]
  show (⟨_, _, p.col + (cols [44, 32] : Nat), _, _⟩ : Pg) = _
  rw [cols_cm]; rfl
theorem putF_no (p : Pg) : putF p noV = p := by unfold putF; exact if_pos rfl
theorem ex6_0 : pgs exP 6 0 = ⟨[], 0, 0, 0, -1⟩ := rfl
theorem ex6_1 : pgs exP 6 1 = ⟨[], 0, 0, 0, 10⟩ := by
  rw [pgs_next (k := 0) (b := ⟨6, noV⟩) rfl, ex6_0]; exact (bitF_open rfl rfl (by rw [exN]; decide) (by rw [exN]; decide)).trans (by rw [exM])
theorem ex6_2 : pgs exP 6 2 = ⟨[40], 0, 1, 0, 10⟩ := by
  rw [pgs_next (k := 1) (b := ⟨0, ⟨#[40]⟩⟩) rfl, ex6_1]; exact ((bitF_put (by decide) (by decide) (by decide) (by decide) (by decide)).trans (putF_byte _ 40)).trans rfl
theorem ex6_3 : pgs exP 6 3 = ⟨[40], 2, 1, 0, 10⟩ := by
  rw [pgs_next (k := 2) (b := ⟨8, noV⟩) rfl, ex6_2]; exact (bitF_in rfl).trans rfl
theorem ex6_4 : pgs exP 6 4 = ⟨[40], 2, 1, 0, 10⟩ := by
  rw [pgs_next (k := 3) (b := ⟨3, noV⟩) rfl, ex6_3]; exact (bitF_put (by decide) (by decide) (by decide) (by decide) (by decide)).trans (putF_no _)
theorem ex6_5 : pgs exP 6 5 = ⟨[40, 97], 2, 2, 0, 10⟩ := by
  rw [pgs_next (k := 4) (b := ⟨0, ⟨#[97]⟩⟩) rfl, ex6_4]; exact ((bitF_put (by decide) (by decide) (by decide) (by decide) (by decide)).trans (putF_byte _ 97)).trans rfl
theorem ex6_6 : pgs exP 6 6 = ⟨[40, 97, 44, 32], 2, 4, 0, 10⟩ := by
  rw [pgs_next (k := 5) (b := ⟨4, noV⟩) rfl, ex6_5]; exact ((bitF_put (by decide) (by decide) (by decide) (by decide) (by decide)).trans (putF_cm _)).trans rfl
theorem ex6_7 : pgs exP 6 7 = ⟨[40, 97, 44, 32, 98], 2, 5, 0, 10⟩ := by
  rw [pgs_next (k := 6) (b := ⟨0, ⟨#[98]⟩⟩) rfl, ex6_6]; exact ((bitF_put (by decide) (by decide) (by decide) (by decide) (by decide)).trans (putF_byte _ 98)).trans rfl
theorem ex6_8 : pgs exP 6 8 = ⟨[40, 97, 44, 32, 98], 0, 5, 0, 10⟩ := by
  rw [pgs_next (k := 7) (b := ⟨9, noV⟩) rfl, ex6_7]; exact (bitF_out rfl).trans rfl
theorem ex6_9 : pgs exP 6 9 = ⟨[40, 97, 44, 32, 98], 0, 5, 0, 10⟩ := by
  rw [pgs_next (k := 8) (b := ⟨3, noV⟩) rfl, ex6_8]; exact (bitF_put (by decide) (by decide) (by decide) (by decide) (by decide)).trans (putF_no _)
theorem ex6_10 : pgs exP 6 10 = ⟨[40, 97, 44, 32, 98, 41], 0, 6, 0, 10⟩ := by
  rw [pgs_next (k := 9) (b := ⟨0, ⟨#[41]⟩⟩) rfl, ex6_9]; exact ((bitF_put (by decide) (by decide) (by decide) (by decide) (by decide)).trans (putF_byte _ 41)).trans rfl
theorem ex6_11 : pgs exP 6 11 = ⟨[40, 97, 44, 32, 98, 41], 0, 6, 0, -1⟩ := by
  rw [pgs_next (k := 10) (b := ⟨7, noV⟩) rfl, ex6_10]; exact bitF_close rfl rfl
theorem ex5_0 : pgs exP 5 0 = ⟨[], 0, 0, 0, -1⟩ := rfl
theorem ex5_1 : pgs exP 5 1 = ⟨[], 0, 0, 0, -1⟩ := by
  rw [pgs_next (k := 0) (b := ⟨6, noV⟩) rfl, ex5_0]; exact bitF_open_no rfl (by rw [exN]; decide)
theorem ex5_2 : pgs exP 5 2 = ⟨[40], 0, 1, 0, -1⟩ := by
  rw [pgs_next (k := 1) (b := ⟨0, ⟨#[40]⟩⟩) rfl, ex5_1]; exact ((bitF_put (by decide) (by decide) (by decide) (by decide) (by decide)).trans (putF_byte _ 40)).trans rfl
theorem ex5_3 : pgs exP 5 3 = ⟨[40], 2, 1, 0, -1⟩ := by
  rw [pgs_next (k := 2) (b := ⟨8, noV⟩) rfl, ex5_2]; exact (bitF_in rfl).trans rfl
theorem ex5_4 : pgs exP 5 4 = ⟨[40, 10], 2, 2, 2, -1⟩ := by
  rw [pgs_next (k := 3) (b := ⟨3, noV⟩) rfl, ex5_3]; exact (bitF_line rfl (.inl rfl)).trans rfl
theorem ex5_5 : pgs exP 5 5 = ⟨[40, 10, 32, 32, 97], 2, 3, 0, -1⟩ := by
  rw [pgs_next (k := 4) (b := ⟨0, ⟨#[97]⟩⟩) rfl, ex5_4]; exact ((bitF_put (by decide) (by decide) (by decide) (by decide) (by decide)).trans (putF_byte _ 97)).trans rfl
theorem ex5_6 : pgs exP 5 6 = ⟨[40, 10, 32, 32, 97, 10], 2, 2, 2, -1⟩ := by
  rw [pgs_next (k := 5) (b := ⟨4, noV⟩) rfl, ex5_5]; exact (bitF_line rfl (.inl rfl)).trans rfl
theorem ex5_7 : pgs exP 5 7 = ⟨[40, 10, 32, 32, 97, 10, 32, 32, 98], 2, 3, 0, -1⟩ := by
  rw [pgs_next (k := 6) (b := ⟨0, ⟨#[98]⟩⟩) rfl, ex5_6]; exact ((bitF_put (by decide) (by decide) (by decide) (by decide) (by decide)).trans (putF_byte _ 98)).trans rfl
theorem ex5_8 : pgs exP 5 8 = ⟨[40, 10, 32, 32, 97, 10, 32, 32, 98], 0, 3, 0, -1⟩ := by
  rw [pgs_next (k := 7) (b := ⟨9, noV⟩) rfl, ex5_7]; exact (bitF_out rfl).trans rfl
theorem ex5_9 : pgs exP 5 9 = ⟨[40, 10, 32, 32, 97, 10, 32, 32, 98, 10], 0, 0, 0, -1⟩ := by
  rw [pgs_next (k := 8) (b := ⟨3, noV⟩) rfl, ex5_8]; exact (bitF_line rfl (.inl rfl)).trans rfl
theorem ex5_10 : pgs exP 5 10 = ⟨[40, 10, 32, 32, 97, 10, 32, 32, 98, 10, 41], 0, 1, 0, -1⟩ := by
  rw [pgs_next (k := 9) (b := ⟨0, ⟨#[41]⟩⟩) rfl, ex5_9]; exact ((bitF_put (by decide) (by decide) (by decide) (by decide) (by decide)).trans (putF_byte _ 41)).trans rfl
theorem ex5_11 : pgs exP 5 11 = ⟨[40, 10, 32, 32, 97, 10, 32, 32, 98, 10, 41], 0, 1, 0, -1⟩ := by
  rw [pgs_next (k := 10) (b := ⟨7, noV⟩) rfl, ex5_10]; exact bitF_close_no rfl (by decide)
theorem exL6 : layF exP 6 = [40, 97, 44, 32, 98, 41] := by
  rw [layF, if_pos (rm_mk (by decide) (by decide) (by decide))]
  show (pgs exP 6 11).out = _
  rw [ex6_11]
theorem exL5 : layF exP 5 = [40, 10, 32, 32, 97, 10, 32, 32, 98, 10, 41] := by
  rw [layF, if_pos (rm_mk (by decide) (by decide) (by decide))]
  show (pgs exP 5 11).out = _
  rw [ex5_11]
theorem exC6 : colF exP 6 11 = 6 := by
  rw [colF, if_pos ⟨rm_mk (by decide) (by decide) (by decide), by decide, by decide⟩]
  show (pgs exP 6 11).col = _
  rw [ex6_11]
theorem exC5 : colF exP 5 4 = 2 := by
  rw [colF, if_pos ⟨rm_mk (by decide) (by decide) (by decide), by decide, by decide⟩]
  show (pgs exP 5 4).col = _
  rw [ex5_4]
set_option maxHeartbeats 1000000 in
theorem pair_any (w : World) : Calls Try.prog 21 #[] w fun e w' => ∃ g, e = .returned (.slice (some ⟨g, 0, none⟩) 11 11) ∧ Br w' (some ⟨g, 0, none⟩) exP ∧ Below w.heap.size w w' := by
  have HK : ∀ EC : Array Value, EC.toList = clb exP → Br (w.alloc (.cells EC 34)) (some ⟨w.heap.size, 0, none⟩) exP := fun EC h => br_blk (heap_alloc_new w _) h
  have HH := Lib.hid HK
  clear HK
  go_enter Try.func21, Try.ntmps21
  go_wp2
  go_ret
  exact ⟨_, rfl, HH.out _ rfl, bel_alloc (Below.refl _ w) _⟩
end Go.Proofs.Ytfcjihfnimefhaa
