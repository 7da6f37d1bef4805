/- Strings of bytes; the contracts over them; the chapter's example (awake); the laws ScanByte and ScanJoins: mathematics and walks. -/
import Derived.Test.YtpibpfeimbipkaaScanC
import Derived.Laws.IdiomStrings
namespace Go.Proofs.Ytpibpfeimbipkaa
open Go.RowKit
set_option linter.unusedVariables false

/-- The string of a list's bytes. -/
def mkb (l : List UInt8) : ByteArray := ⟨l.toArray⟩
theorem mkb_data (l : List UInt8) : (mkb l).data.toList = l := rfl
theorem mkb_size (l : List UInt8) : (mkb l).size = l.length := by simp [mkb, ByteArray.size]
theorem mkb_toList (l : List UInt8) : (mkb l).toList = l := by rw [Lib.toList_data]; rfl
theorem mkb_of (s : ByteArray) : mkb s.data.toList = s := rfl
theorem mkb_add (a b : List UInt8) : mkb a ++ mkb b = mkb (a ++ b) := by
  apply ByteArray.ext
  simp [mkb]
theorem sadd (a b : List UInt8) (h : a.length + b.length ≤ 1000000) (w : World) : (Op.stringOp .add (mkb a) (mkb b)).run Try.prog w = .ok (.string (mkb (a ++ b))) w := by
  rw [← mkb_add]; exact run_string_add_sum w _ _ (by rw [mkb_size, mkb_size]; omega)
/-- A sum of strings, under a name of its own. -/
theorem sadd' {A B : ByteArray} {a b : List UInt8} (hA : A = mkb a) (hB : B = mkb b) (h : a.length + b.length ≤ 1000000) : ∃ R, R = mkb (a ++ b) ∧ ∀ w, (Op.stringOp .add A B).run Try.prog w = .ok (.string R) w :=
  ⟨mkb (a ++ b), rfl, fun w => by rw [hA, hB]; exact sadd a b h w⟩

theorem name_b {A : ByteArray} {l : List UInt8} {i v : Int} (hA : A = mkb l) (hv : atE nmT l i = v) (hl : l.length ≤ 1000000) (w : World) :
    Calls Try.prog 12 #[.string A, .int .i64 i] w fun e w' => e = .returned (.int .i64 v) ∧ Below w.heap.size w w' := by
  rw [hA, ← hv]; exact name_any (mkb l) i w (by rw [mkb_size]; omega)
theorem digits_b {A : ByteArray} {l : List UInt8} {i v : Int} (hA : A = mkb l) (hv : atE (rn dgI) l i = v) (hl : l.length ≤ 1000000) (w : World) :
    Calls Try.prog 14 #[.string A, .int .i64 i] w fun e w' => e = .returned (.int .i64 v) ∧ Below w.heap.size w w' := by
  rw [hA, ← hv]; exact digits_any (mkb l) i w (by rw [mkb_size]; omega)
theorem blank_b {A : ByteArray} {l : List UInt8} {i v : Int} (hA : A = mkb l) (hv : atE blT l i = v) (hl : l.length ≤ 1000000) (w : World) :
    Calls Try.prog 16 #[.string A, .int .i64 i] w fun e w' => e = .returned (.int .i64 v) ∧ Below w.heap.size w w' := by
  rw [hA, ← hv]; exact blank_any (mkb l) i w (by rw [mkb_size]; omega)
theorem begins_b {x : Int} {v : Bool} (hv : bgI x = v) (w : World) :
    Calls Try.prog 11 #[.int .u8 x] w fun e w' => e = .returned (.bool v) ∧ w = w' := by
  rw [← hv]; exact begins_any x w

theorem ex1 : atE nmT [97, 98, 49, 32, 99] 0 = 3 := by decide +kernel
theorem ex2 : atE blT [97, 98, 49, 32, 99] 3 = 4 := by
  rw [show (3 : Int) = ((3 : Nat) : Int) from rfl, atE_in (k := 3) (by decide)]
  show (3 : Int) + (blT [32, 99] : Nat) = 4
  rw [blT_go (n := 1) (by decide +kernel) (by decide)]
  show (3 : Int) + ((1 + blT [99] : Nat) : Int) = 4
  rw [blT_stop (by decide +kernel)]; rfl
theorem ex3 : atE (rn dgI) [97, 49, 50] 1 = 3 := by decide +kernel
theorem ex4 : atE blT [35, 120, 10, 44, 121] 0 = 4 := by
  rw [atE_zero, blT_go (n := 2) (by decide +kernel) (by decide)]
  show ((2 + blT [10, 44, 121] : Nat) : Int) = 4
  rw [blT_go (n := 1) (by decide +kernel) (by decide)]
  show ((2 + (1 + blT [44, 121]) : Nat) : Int) = 4
  rw [blT_go (n := 1) (by decide +kernel) (by decide)]
  show ((2 + (1 + (1 + blT [121])) : Nat) : Int) = 4
  rw [blT_stop (by decide +kernel)]; rfl

set_option maxHeartbeats 400000 in
theorem awake_any (w : World) : Calls Try.prog 9 #[] w fun e w' => e = .returned (.bool true) ∧ Below w.heap.size w w' := by
  have r1 := fun w => name_b (w := w) (A := ⟨#[97, 98, 49, 32, 99]⟩) rfl ex1 (by decide)
  have r2 := fun w => blank_b (w := w) (A := ⟨#[97, 98, 49, 32, 99]⟩) rfl ex2 (by decide)
  have r3 := fun w => digits_b (w := w) (A := ⟨#[97, 49, 50]⟩) rfl ex3 (by decide)
  have r4 := fun w => begins_b (w := w) (x := 95) (v := true) (by decide +kernel)
  have r5 := fun w => begins_b (w := w) (x := 49) (v := false) (by decide +kernel)
  have r6 := fun w => blank_b (w := w) (A := ⟨#[35, 120, 10, 44, 121]⟩) rfl ex4 (by decide)
  go_enter Try.func9, Try.ntmps9
  go_wp2_with fail
  (with_reducible refine (r1 _).mono ?_)
  rintro e w1 ⟨rfl, hb1⟩
  go_wp2_with fail
  (with_reducible refine (r2 _).mono ?_)
  rintro e w2 ⟨rfl, hb2⟩
  go_wp2_with fail
  (with_reducible refine (r3 _).mono ?_)
  rintro e w3 ⟨rfl, hb3⟩
  go_wp2_with fail
  (with_reducible refine (r4 _).mono ?_)
  rintro e w' ⟨rfl, rfl⟩
  go_wp2_with fail
  (with_reducible refine (r5 _).mono ?_)
  rintro e w' ⟨rfl, rfl⟩
  go_wp2_with fail
  (with_reducible refine (r6 _).mono ?_)
  rintro e w4 ⟨rfl, hb4⟩
  go_wp2_with fail
  go_ret
  exact ⟨by simp, bel_trans (bel_trans (bel_trans hb1 hb2) hb3) hb4⟩

/-! ### string([]byte{c}) -/
theorem push_bytes : ∀ (ns : List Int) (s : ByteArray), (ns.foldl (fun r n => r.push (UInt8.ofNat n.toNat)) s) = ⟨s.data ++ (ns.map fun n => UInt8.ofNat n.toNat).toArray⟩ := by
  intro ns
  induction ns with
  | nil => intro s; simp
  | cons n ns ih => intro s; rw [List.foldl_cons, ih]; simp [ByteArray.push]

/-- '[]byte{..}' made into a string. -/
theorem conv_bytes (w : World) (ns : List Int) : (convert 29 9 (.slice (some ⟨w.heap.size, 0, none⟩) ns.length ns.length)).run Try.prog (w.alloc (.cells (ns.map (Value.int .u8)).toArray 5)) =
    .ok (.string ⟨(ns.map fun n => UInt8.ofNat n.toNat).toArray⟩) (w.alloc (.cells (ns.map (Value.int .u8)).toArray 5)) := by
  rw [run_convert_bytes_string _ _ _ 5 _ _ _ Try.underlying29 Try.underlying5 Try.underlying9]
  have hl := run_loadCells_list (P := Try.prog) (w.alloc (.cells (ns.map (Value.int .u8)).toArray 5)) ⟨w.heap.size, 0, none⟩ (ns.map (Value.int .u8)) (fun j v hj => by
    have := World.cell?_alloc_mark w (ns.map (Value.int .u8)).toArray 5 (0, 0) j
    have ea : (⟨w.heap.size, 0, none⟩ : Addr).add j = ⟨w.heap.size, j, none⟩ := by unfold Addr.add; split <;> simp_all
    rw [ea, this]; simpa using hj)
  rw [List.length_map] at hl
  rw [run_bytesToString _ _ _ _ ns hl, push_bytes]
  rw [show (ByteArray.empty).data = #[] from rfl, Array.empty_append]
theorem conv1 (w : World) (a : Int) : (convert 29 9 (.slice (some ⟨w.heap.size, 0, none⟩) 1 1)).run Try.prog (w.alloc (.cells #[.int .u8 a] 5)) =
    .ok (.string ⟨#[UInt8.ofNat a.toNat]⟩) (w.alloc (.cells #[.int .u8 a] 5)) := conv_bytes w [a]

/-! ### ScanByte -/
theorem u8_int {c : Int} (h0 : 0 ≤ c) (h1 : c < 256) : (((UInt8.ofNat c.toNat).toNat : Nat) : Int) = c := by
  rw [UInt8.toNat_ofNat']; omega
theorem nm_one (u : UInt8) : nmT [u] = if bgI u.toNat = true then 1 else 0 := by
  rw [nmT_cons]
  split
  · rename_i h; rw [rn_yes [] (by unfold nmI; rw [h]; rfl)]; rfl
  · rfl
theorem dg_one (u : UInt8) : rn dgI [u] = if dgI u.toNat = true then 1 else 0 := by
  cases h : dgI u.toNat
  · rw [rn_no [] h]; rfl
  · rw [rn_yes [] h]; rfl
theorem bl_one (u : UInt8) : blT [u] = if wsI u.toNat = true ∨ (u.toNat : Int) = 35 then 1 else 0 := by
  have hs : st [u] = if wsI u.toNat = true ∨ (u.toNat : Int) = 35 then 1 else 0 := by
    rw [st_cons]
    by_cases h : wsI u.toNat = true
    · rw [if_pos h, if_pos (.inl h)]
    · rw [if_neg h]
      by_cases h2 : u = 35
      · subst h2; decide +kernel
      · have : mkL.isPrefixOf [u] = false := by simp [mkL, List.isPrefixOf]
        rw [if_neg h2, this, if_neg (by decide), if_neg (fun e => e.elim h (fun e => h2 (UInt8.toNat_inj.1 (by rw [show (35 : UInt8).toNat = 35 from rfl]; omega))))]
  by_cases h : wsI u.toNat = true ∨ (u.toNat : Int) = 35
  · rw [if_pos h] at hs ⊢
    rw [blT_go hs (by decide)]
    show 1 + blT [] = 1
    rw [blT_nil]
  · rw [if_neg h] at hs ⊢
    exact blT_stop hs

set_option maxHeartbeats 1000000 in
set_option maxRecDepth 100000 in
theorem byte_any (c : Int) (h0 : 0 ≤ c) (h1 : c < 256) (w : World) :
    Calls Try.prog 8 #[.int .u8 c] w fun e w' => e = .returned (.bool true) ∧ Below w.heap.size w w' := by
  have hu := u8_int h0 h1
  have e1 := nm_one (UInt8.ofNat c.toNat)
  have e2 := dg_one (UInt8.ofNat c.toNat)
  have e3 := bl_one (UInt8.ofNat c.toNat)
  rw [hu] at e1 e2 e3
  obtain ⟨S, hS⟩ : ∃ S : ByteArray, S = mkb [UInt8.ofNat c.toNat] := ⟨_, rfl⟩
  have cS : ∀ w : World, (convert 29 9 (.slice (some ⟨w.heap.size, 0, none⟩) 1 1)).run Try.prog (w.alloc (.cells #[.int .u8 c] 5)) =
      .ok (.string S) (w.alloc (.cells #[.int .u8 c] 5)) := fun w => by rw [conv1, hS]; rfl
  have r1 := fun w => name_b (w := w) hS (atE_zero (f := nmT)) (by simp)
  have r2 := fun w => digits_b (w := w) hS (atE_zero (f := rn dgI)) (by simp)
  have r3 := fun w => blank_b (w := w) hS (atE_zero (f := blT)) (by simp)
  rw [e1] at r1
  rw [e2] at r2
  rw [e3] at r3
  clear e1 e2 e3 hS hu
  by_cases hb : c = 9 ∨ c = 10 ∨ c = 13 ∨ c = 32 ∨ c = 44 ∨ c = 35
  · rw [if_neg (by intro h; unfold bgI at h; have := of_decide_eq_true h; omega)] at r1
    rw [if_neg (by intro h; unfold dgI at h; have := of_decide_eq_true h; omega)] at r2
    rw [if_pos (by rcases hb with h | h | h | h | h | h <;> subst h <;> decide)] at r3
    have r4 := fun w => begins_b (w := w) (x := c) (v := false) (by unfold bgI; exact decide_eq_false (by omega))
    rcases hb with h | h | h | h | h | h
    all_goals
      subst h
      go_enter Try.func8, Try.ntmps8
      go_wp2_with fail
      (with_reducible refine (awake_any _).mono ?_)
      rintro e w1 ⟨rfl, hb1⟩
      go_wp2_with fail
      (with_reducible refine (r1 _).mono ?_)
      rintro e w2 ⟨rfl, hb2⟩
      go_wp2_with fail
      (with_reducible refine (r2 _).mono ?_)
      rintro e w3 ⟨rfl, hb3⟩
      go_wp2_with fail
      (with_reducible refine (r3 _).mono ?_)
      rintro e w4 ⟨rfl, hb4⟩
      go_wp2_with fail
      (with_reducible refine (r4 _).mono ?_)
      rintro e w' ⟨rfl, rfl⟩
      go_wp2_with fail
      go_ret
      exact ⟨by first | (simp; done) | (simp; omega), bel_trans (bel_trans (bel_trans (bel_alloc hb1 _) hb2) hb3) hb4⟩
  · have t1 : (c == 9) = false := beq_false_of_ne (by omega)
    have t2 : (c == 10) = false := beq_false_of_ne (by omega)
    have t3 : (c == 13) = false := beq_false_of_ne (by omega)
    have t4 : (c == 32) = false := beq_false_of_ne (by omega)
    have t5 : (c == 44) = false := beq_false_of_ne (by omega)
    have t6 : (c == 35) = false := beq_false_of_ne (by omega)
    rw [if_neg (by intro h; rcases h with h | h; unfold wsI at h; have := of_decide_eq_true h; omega; omega)] at r3
    by_cases g1 : 48 ≤ c
    · by_cases g2 : c ≤ 57
      · rw [if_neg (by intro h; unfold bgI at h; have := of_decide_eq_true h; omega)] at r1
        rw [if_pos (by unfold dgI; exact decide_eq_true (by omega))] at r2
        have r4 := fun w => begins_b (w := w) (x := c) (v := false) (by unfold bgI; exact decide_eq_false (by omega))
        clear hb
        go_enter Try.func8, Try.ntmps8
        go_wp2_with fail
        (with_reducible refine (awake_any _).mono ?_)
        rintro e w1 ⟨rfl, hb1⟩
        go_wp2_with fail
        (with_reducible refine (r1 _).mono ?_)
        rintro e w2 ⟨rfl, hb2⟩
        go_wp2_with fail
        (with_reducible refine (r2 _).mono ?_)
        rintro e w3 ⟨rfl, hb3⟩
        go_wp2_with fail
        (with_reducible refine (r3 _).mono ?_)
        rintro e w4 ⟨rfl, hb4⟩
        go_wp2_with fail
        (with_reducible refine (r4 _).mono ?_)
        rintro e w' ⟨rfl, rfl⟩
        go_wp2_with fail
        go_ret
        exact ⟨by first | (simp; done) | (simp; omega), bel_trans (bel_trans (bel_trans (bel_alloc hb1 _) hb2) hb3) hb4⟩
      · rw [if_neg (by intro h; unfold dgI at h; have := of_decide_eq_true h; omega)] at r2
        clear hb
        cases hg : bgI c
        · have r4 := fun w => begins_b (w := w) hg
          rw [hg, if_neg (by decide)] at r1
          clear hg
          go_enter Try.func8, Try.ntmps8
          go_wp2_with fail
          (with_reducible refine (awake_any _).mono ?_)
          rintro e w1 ⟨rfl, hb1⟩
          go_wp2_with fail
          (with_reducible refine (r1 _).mono ?_)
          rintro e w2 ⟨rfl, hb2⟩
          go_wp2_with fail
          (with_reducible refine (r2 _).mono ?_)
          rintro e w3 ⟨rfl, hb3⟩
          go_wp2_with fail
          (with_reducible refine (r3 _).mono ?_)
          rintro e w4 ⟨rfl, hb4⟩
          go_wp2_with fail
          (with_reducible refine (r4 _).mono ?_)
          rintro e w' ⟨rfl, rfl⟩
          go_wp2_with fail
          go_ret
          exact ⟨by first | (simp; done) | (simp; omega), bel_trans (bel_trans (bel_trans (bel_alloc hb1 _) hb2) hb3) hb4⟩
        · have r4 := fun w => begins_b (w := w) hg
          rw [hg, if_pos rfl] at r1
          clear hg
          go_enter Try.func8, Try.ntmps8
          go_wp2_with fail
          (with_reducible refine (awake_any _).mono ?_)
          rintro e w1 ⟨rfl, hb1⟩
          go_wp2_with fail
          (with_reducible refine (r1 _).mono ?_)
          rintro e w2 ⟨rfl, hb2⟩
          go_wp2_with fail
          (with_reducible refine (r2 _).mono ?_)
          rintro e w3 ⟨rfl, hb3⟩
          go_wp2_with fail
          (with_reducible refine (r3 _).mono ?_)
          rintro e w4 ⟨rfl, hb4⟩
          go_wp2_with fail
          (with_reducible refine (r4 _).mono ?_)
          rintro e w' ⟨rfl, rfl⟩
          go_wp2_with fail
          go_ret
          exact ⟨by first | (simp; done) | (simp; omega), bel_trans (bel_trans (bel_trans (bel_alloc hb1 _) hb2) hb3) hb4⟩
    · rw [if_neg (by intro h; unfold dgI at h; have := of_decide_eq_true h; omega)] at r2
      rw [if_neg (by intro h; unfold bgI at h; have := of_decide_eq_true h; omega)] at r1
      have r4 := fun w => begins_b (w := w) (x := c) (v := false) (by unfold bgI; exact decide_eq_false (by omega))
      clear hb
      go_enter Try.func8, Try.ntmps8
      go_wp2_with fail
      (with_reducible refine (awake_any _).mono ?_)
      rintro e w1 ⟨rfl, hb1⟩
      go_wp2_with fail
      (with_reducible refine (r1 _).mono ?_)
      rintro e w2 ⟨rfl, hb2⟩
      go_wp2_with fail
      (with_reducible refine (r2 _).mono ?_)
      rintro e w3 ⟨rfl, hb3⟩
      go_wp2_with fail
      (with_reducible refine (r3 _).mono ?_)
      rintro e w4 ⟨rfl, hb4⟩
      go_wp2_with fail
      (with_reducible refine (r4 _).mono ?_)
      rintro e w' ⟨rfl, rfl⟩
      go_wp2_with fail
      go_ret
      exact ⟨by first | (simp; done) | (simp; omega), bel_trans (bel_trans (bel_trans (bel_alloc hb1 _) hb2) hb3) hb4⟩
end Go.Proofs.Ytpibpfeimbipkaa
