/- Contracts of package text's functions: caught, String, Escape. -/
import Derived.Test.YtpcijjdlppoblaaGreatDoorTextC
import Derived.Defers
import Derived.Recover
import Derived.RegionTactic
namespace Go.Proofs.YtpcijjdlppoblaaGreatDoor
open Go.RowKit
set_option linter.unusedVariables false

set_option maxHeartbeats 400000 in
theorem catch_wrong (b1 b2 b3 : Nat) (v1 : ByteArray) (v2 i : Int) (v3 : Bool) (older : List PanicEntry) (w : World)
    (c1 : w.cell? ⟨b1, 0, none⟩ = some (.string v1)) (c2 : w.cell? ⟨b2, 0, none⟩ = some (.int .i64 v2)) (c3 : w.cell? ⟨b3, 0, none⟩ = some (.bool v3))
    (f1 : w.frozen? ⟨b1, 0, none⟩ = false) (f2 : w.frozen? ⟨b2, 0, none⟩ = false) (f3 : w.frozen? ⟨b3, 0, none⟩ = false) (n12 : b1 ≠ b2) (n13 : b1 ≠ b3) (n23 : b2 ≠ b3) :
    CallsD Tryz.prog 129 #[.pointer (some ⟨b1, 0, none⟩), .pointer (some ⟨b2, 0, none⟩), .pointer (some ⟨b3, 0, none⟩)] (.panicking ({ v := .iface 133 (.int .i64 i), recovered := false } :: older)) w fun e u' w' =>
      e = .returned (.tuple #[]) ∧ u' = .panicking ({ v := .iface 133 (.int .i64 i), recovered := true } :: older) ∧
      w' = ((w.setCell ⟨b1, 0, none⟩ (.string ⟨#[]⟩)).setCell ⟨b2, 0, none⟩ (.int .i64 i)).setCell ⟨b3, 0, none⟩ (.bool false) := by
  have hta : ∀ w, (Instr.typeAssert (.iface 133 (.int .i64 i)) 20 133 true).run Tryz.prog w = .ok (.tuple #[.int .i64 i, .bool true]) w := fun w => by kernel_rfl
  refine callsD_of_wpS Tryz.func129 rfl fun c₀ cs hu => ?_
  apply wpS_seq
  apply wpS_region
  simp [wpOpsS, go_sem, recoverD, hu, Tryz.ntmps129, Exit.thenS, hta, Array.replicate_succ]
  apply wpS_seq
  apply wpS_region
  simp [wpOpsS, go_sem, Exit.thenS]
  refine wpS_cond (t := true) (by simp [Act.eval]) ?_
  simp only [if_true]
  apply wpS_region
  simp [wpOpsS, go_sem, c1, c2, c3, f1, f2, f3, bodyPostS, results, Tryz.results129]

set_option maxHeartbeats 400000 in
theorem catch_idle (b1 b2 b3 : Nat) (w : World) :
    CallsD Tryz.prog 129 #[.pointer (some ⟨b1, 0, none⟩), .pointer (some ⟨b2, 0, none⟩), .pointer (some ⟨b3, 0, none⟩)] .returning w fun e u' w' => e = .returned (.tuple #[]) ∧ u' = .returning ∧ w' = w := by
  have hta : ∀ w, (Instr.typeAssert .nilIface 20 133 true).run Tryz.prog w = .ok (.tuple #[.int .i64 0, .bool false]) w := fun w => by kernel_rfl
  refine callsD_of_wpS Tryz.func129 rfl fun c₀ cs hu => ?_
  apply wpS_seq
  apply wpS_region
  simp [wpOpsS, go_sem, recoverD, hu, Tryz.ntmps129, Exit.thenS, hta, Array.replicate_succ]
  apply wpS_seq
  apply wpS_region
  simp [wpOpsS, go_sem, Exit.thenS]
  refine wpS_cond (t := false) (by simp [Act.eval]) ?_
  simp only [Bool.false_eq_true, if_false]
  refine wpS_of_wp (wp_skip ?_)
  cases c₀
  simp_all [bodyPostS, results, Tryz.results129]

/-- The three results' variables. -/
structure Cv (w0 : World) (w : World) : Prop where
  c1 : w.cell? ⟨w0.heap.size, 0, none⟩ = some (.string ⟨#[]⟩)
  c2 : w.cell? ⟨w0.heap.size + 1, 0, none⟩ = some (.int .i64 0)
  c3 : w.cell? ⟨w0.heap.size + 1 + 1, 0, none⟩ = some (.bool false)
  f1 : w.frozen? ⟨w0.heap.size, 0, none⟩ = false
  f2 : w.frozen? ⟨w0.heap.size + 1, 0, none⟩ = false
  f3 : w.frozen? ⟨w0.heap.size + 1 + 1, 0, none⟩ = false
  bel : Below w0.heap.size w0 w
theorem cv_start {w w1 : World} (h : Below (((w.alloc (.cells #[.string ⟨#[]⟩] 9)).alloc (.cells #[.int .i64 0] 3)).alloc (.cells #[.bool false] 4)).heap.size
    (((w.alloc (.cells #[.string ⟨#[]⟩] 9)).alloc (.cells #[.int .i64 0] 3)).alloc (.cells #[.bool false] 4)) w1) : Cv w w1 := by
  refine ⟨?_, ?_, ?_, ?_, ?_, ?_, bel_trans (bel_alloc (bel_alloc (bel_alloc (Below.refl _ _) _) _) _) h⟩
  · rw [h.cell (by simp; omega)]; simp [go_sem]
  · rw [h.cell (by simp)]; simp [go_sem]
  · rw [h.cell (by simp)]; simp [go_sem]
  · rw [h.frozen (by simp; omega)]; simp [go_sem]
  · rw [h.frozen (by simp)]; simp [go_sem]
  · rw [h.frozen (by simp)]; simp [go_sem]

theorem set_cell {W : World} {q : Nat} {u : Value} (h : W.cell? ⟨q, 0, none⟩ = some u) (p : Nat) (v : Value) : (W.setCell ⟨p, 0, none⟩ v).cell? ⟨q, 0, none⟩ = some (if p = q then v else u) := by
  by_cases e : p = q
  · subst e; rw [if_pos rfl]; exact World.cell?_setCell_same' _ _ _ (by rw [h]; rfl)
  · rw [if_neg e, World.cell?_setCell_far _ _ _ _ (by exact e)]; exact h
theorem set_five {w1 : World} {a b c : Nat} {u1 u2 u3 x y z : Value} (c1 : w1.cell? ⟨a, 0, none⟩ = some u1) (c2 : w1.cell? ⟨b, 0, none⟩ = some u2) (c3 : w1.cell? ⟨c, 0, none⟩ = some u3) (n1 : a ≠ b) (n2 : a ≠ c) (n3 : b ≠ c) :
    ∃ W : World, W = (((((w1.setCell ⟨a, 0, none⟩ x).setCell ⟨b, 0, none⟩ y).setCell ⟨a, 0, none⟩ x).setCell ⟨b, 0, none⟩ y).setCell ⟨c, 0, none⟩ z) ∧
      W.cell? ⟨a, 0, none⟩ = some x ∧ W.cell? ⟨b, 0, none⟩ = some y ∧ W.cell? ⟨c, 0, none⟩ = some z := by
  have m1 := Ne.symm n1
  have m2 := Ne.symm n2
  have m3 := Ne.symm n3
  refine ⟨_, rfl, ?_, ?_, ?_⟩
  · rw [set_cell (set_cell (set_cell (set_cell (set_cell c1 a x) b y) a x) b y) c z, if_neg m2, if_neg m1, if_pos rfl]
  · rw [set_cell (set_cell (set_cell (set_cell (set_cell c2 a x) b y) a x) b y) c z, if_neg m3, if_pos rfl]
  · rw [set_cell (set_cell (set_cell (set_cell (set_cell c3 a x) b y) a x) b y) c z, if_pos rfl]

set_option maxHeartbeats 1000000 in
theorem caught_y (f d1 d2 : Nat) (t : List UInt8) (n : Int) (w : World)
    (hgo : ∀ (args : Array Value) (w : World), (callFunc f args).run Tryz.prog w = .ok (.enter f args) w)
    (hc : ∀ w1 : World, Below w.heap.size w w1 → Calls Tryz.prog f #[.pointer (some ⟨d1, 0, none⟩), .pointer (some ⟨d2, 0, none⟩)] w1 fun e w' => e = .returned (.tuple #[.string (mkb t), .int .i64 n]) ∧ Below w1.heap.size w1 w') :
    Calls Tryz.prog 124 #[.func (.func f) #[] #[.pointer (some ⟨d1, 0, none⟩), .pointer (some ⟨d2, 0, none⟩)]] w fun e w' => e = .returned (.tuple #[.string (mkb t), .int .i64 n, .bool true]) ∧ Below w.heap.size w w' := by
  have hmf : ∀ (fn : Fn) (first cap : Array Value) (w : World), (Instr.makeFunc fn first cap).run Tryz.prog w = .ok (.func fn first cap) w := fun _ _ _ _ => rfl
  have HC := Lib.hid hc
  clear hc
  go_enter_defers Tryz.func124, Tryz.ntmps124
  go_wp2_with fail
  refine (HC.out _ (bel_alloc (bel_alloc (bel_alloc (Below.refl _ _) _) _) _)).mono ?_
  rintro e w1 ⟨rfl, hb1⟩
  have cv := cv_start hb1
  have C := Lib.hid cv
  obtain ⟨c1, c2, c3, f1, f2, f3, bel⟩ := cv
  clear HC hgo hmf hb1
  go_wp2_with fail
  go_region
  go_wp2_with fail
  refine leaves_cons (f := 129) (args := #[.pointer (some ⟨w.heap.size, 0, none⟩), .pointer (some ⟨w.heap.size + 1, 0, none⟩), .pointer (some ⟨w.heap.size + 1 + 1, 0, none⟩)]) (by simp) (by simp [go_sem]) ?_
  refine (catch_idle _ _ _ _).mono ?_
  rintro e u' w'' ⟨rfl, rfl, rfl⟩
  refine ⟨.tuple #[.string (mkb t), .int .i64 n, .bool true], ?_, rfl, ?_⟩
  · obtain ⟨W, hW, k1, k2, k3⟩ := set_five (x := .string (mkb t)) (y := .int .i64 n) (z := .bool true) c1 c2 c3 (by omega) (by omega) (by omega)
    rw [← hW]
    simp [results, Tryz.results124, go_sem, k1, k2, k3]
  · exact ((((((C.out.bel.setCell (Nat.le_refl _) _).setCell (by show _ ≤ w.heap.size + 1; omega) _).setCell (Nat.le_refl _) _).setCell (by show _ ≤ w.heap.size + 1; omega) _).setCell (by show _ ≤ w.heap.size + 1 + 1; omega) _)).drew

set_option maxHeartbeats 1000000 in
theorem caught_n (f d1 d2 : Nat) (i : Int) (w : World)
    (hgo : ∀ (args : Array Value) (w : World), (callFunc f args).run Tryz.prog w = .ok (.enter f args) w)
    (hc : ∀ w1 : World, Below w.heap.size w w1 → Calls Tryz.prog f #[.pointer (some ⟨d1, 0, none⟩), .pointer (some ⟨d2, 0, none⟩)] w1 fun e w' => e = .panicked [{ v := .iface 133 (.int .i64 i), recovered := false }] ∧ Below w1.heap.size w1 w') :
    Calls Tryz.prog 124 #[.func (.func f) #[] #[.pointer (some ⟨d1, 0, none⟩), .pointer (some ⟨d2, 0, none⟩)]] w fun e w' => e = .returned (.tuple #[.string ⟨#[]⟩, .int .i64 i, .bool false]) ∧ Below w.heap.size w w' := by
  have hmf : ∀ (fn : Fn) (first cap : Array Value) (w : World), (Instr.makeFunc fn first cap).run Tryz.prog w = .ok (.func fn first cap) w := fun _ _ _ _ => rfl
  have HC := Lib.hid hc
  clear hc
  go_enter_defers Tryz.func124, Tryz.ntmps124
  go_wp2_with fail
  refine (HC.out _ (bel_alloc (bel_alloc (bel_alloc (Below.refl _ _) _) _) _)).mono ?_
  rintro e w1 ⟨rfl, hb1⟩
  have cv := cv_start hb1
  have C := Lib.hid cv
  obtain ⟨c1, c2, c3, f1, f2, f3, bel⟩ := cv
  clear HC hgo hmf hb1
  go_wp2_with fail
  refine leaves_cons (f := 129) (args := #[.pointer (some ⟨w.heap.size, 0, none⟩), .pointer (some ⟨w.heap.size + 1, 0, none⟩), .pointer (some ⟨w.heap.size + 1 + 1, 0, none⟩)]) (by simp) (by simp [go_sem]) ?_
  refine (catch_wrong _ _ _ ⟨#[]⟩ 0 i false [] _ c1 c2 c3 f1 f2 f3 (by omega) (by omega) (by omega)).mono ?_
  rintro e u' w'' ⟨rfl, rfl, rfl⟩
  refine ⟨.tuple #[.string ⟨#[]⟩, .int .i64 i, .bool false], ?_, rfl, ?_⟩
  · simp [results, Tryz.results124, go_sem, c1, c2, c3]
  · exact ((C.out.bel.setCell (Nat.le_refl _) _).setCell (by show _ ≤ w.heap.size + 1; omega) _).setCell (by show _ ≤ w.heap.size + 1 + 1; omega) _
end Go.Proofs.YtpcijjdlppoblaaGreatDoor

/- Contracts of package text's String and Escape. -/
namespace Go.Proofs.YtpcijjdlppoblaaGreatDoor
open Go.RowKit
set_option linter.unusedVariables false

theorem quoted_y {s : ByteArray} {i : Int} {v : List UInt8} {n : Nat} (h : strA s.data.toList i = ⟨v, n, true⟩) (hs : s.size ≤ 1000000) (w : World) :
    Calls Tryz.prog 126 #[.string s, .int .i64 i] w fun e w' => e = .returned (.tuple #[.string (mkb v), .int .i64 (i + (n : Int))]) ∧ Below w.heap.size w w' := by
  have := quoted_any s i w hs; rw [h] at this; exact this
theorem quoted_n {s : ByteArray} {i : Int} {v : List UInt8} {n : Nat} (h : strA s.data.toList i = ⟨v, n, false⟩) (hs : s.size ≤ 1000000) (w : World) :
    Calls Tryz.prog 126 #[.string s, .int .i64 i] w fun e w' => e = .panicked [{ v := .iface 133 (.int .i64 (i + (n : Int))), recovered := false }] ∧ Below w.heap.size w w' := by
  have := quoted_any s i w hs; rw [h] at this; exact this

set_option maxHeartbeats 400000 in
theorem str1_y {s : ByteArray} {i : Int} {v : List UInt8} {n : Int} {d1 d2 : Nat} {w : World} (c1 : w.cell? ⟨d1, 0, none⟩ = some (.string s)) (c2 : w.cell? ⟨d2, 0, none⟩ = some (.int .i64 i))
    (hq : ∀ w, Calls Tryz.prog 126 #[.string s, .int .i64 i] w fun e w' => e = .returned (.tuple #[.string (mkb v), .int .i64 n]) ∧ Below w.heap.size w w') :
    Calls Tryz.prog 125 #[.pointer (some ⟨d1, 0, none⟩), .pointer (some ⟨d2, 0, none⟩)] w fun e w' => e = .returned (.tuple #[.string (mkb v), .int .i64 n]) ∧ Below w.heap.size w w' := by
  go_enter Tryz.func125, Tryz.ntmps125
  go_wp2_with fail
  (with_reducible refine (hq _).mono ?_)
  rintro e w1 ⟨rfl, hb1⟩
  go_wp2_with fail
  go_ret2
  exact ⟨rfl, hb1⟩

set_option maxHeartbeats 400000 in
theorem str_y {s : ByteArray} {i : Int} {v : List UInt8} {n : Int} (w : World)
    (hq : ∀ w, Calls Tryz.prog 126 #[.string s, .int .i64 i] w fun e w' => e = .returned (.tuple #[.string (mkb v), .int .i64 n]) ∧ Below w.heap.size w w') :
    Calls Tryz.prog 110 #[.string s, .int .i64 i] w fun e w' => e = .returned (.tuple #[.string (mkb v), .int .i64 n, .bool true]) ∧ Below w.heap.size w w' := by
  have hmf : ∀ (fn : Fn) (first cap : Array Value) (w : World), (Instr.makeFunc fn first cap).run Tryz.prog w = .ok (.func fn first cap) w := fun _ _ _ _ => rfl
  have hgo : ∀ (args : Array Value) (w : World), (callFunc 125 args).run Tryz.prog w = .ok (.enter 125 args) w := fun args w => by simp [go_sem]
  have hc : ∀ w1 : World, Below ((w.alloc (.cells #[.string s] 9)).alloc (.cells #[.int .i64 i] 3)).heap.size ((w.alloc (.cells #[.string s] 9)).alloc (.cells #[.int .i64 i] 3)) w1 →
      Calls Tryz.prog 125 #[.pointer (some ⟨w.heap.size, 0, none⟩), .pointer (some ⟨w.heap.size + 1, 0, none⟩)] w1 fun e w' => e = .returned (.tuple #[.string (mkb v), .int .i64 n]) ∧ Below w1.heap.size w1 w' := fun w1 hb =>
    str1_y (by rw [hb.cell (by simp; omega)]; simp [go_sem]) (by rw [hb.cell (by simp)]; simp [go_sem]) hq
  have hk := caught_y 125 w.heap.size (w.heap.size + 1) v n _ hgo hc
  clear hc hgo hq
  go_enter Tryz.func110, Tryz.ntmps110
  go_wp2_with fail
  (with_reducible refine hk.mono ?_)
  rintro e w1 ⟨rfl, hb1⟩
  go_wp2_with fail
  go_ret3
  exact ⟨rfl, bel_trans (bel_alloc (bel_alloc (Below.refl _ _) _) _) hb1⟩

set_option maxHeartbeats 400000 in
theorem str1_n {s : ByteArray} {i : Int} {n : Int} {d1 d2 : Nat} {w : World} (c1 : w.cell? ⟨d1, 0, none⟩ = some (.string s)) (c2 : w.cell? ⟨d2, 0, none⟩ = some (.int .i64 i))
    (hq : ∀ w, Calls Tryz.prog 126 #[.string s, .int .i64 i] w fun e w' => e = .panicked [{ v := .iface 133 (.int .i64 n), recovered := false }] ∧ Below w.heap.size w w') :
    Calls Tryz.prog 125 #[.pointer (some ⟨d1, 0, none⟩), .pointer (some ⟨d2, 0, none⟩)] w fun e w' => e = .panicked [{ v := .iface 133 (.int .i64 n), recovered := false }] ∧ Below w.heap.size w w' := by
  go_enter Tryz.func125, Tryz.ntmps125
  go_wp2_with fail
  (with_reducible refine (hq _).mono ?_)
  rintro e w1 ⟨rfl, hb1⟩
  go_wp2_with fail
  skip
  exact ⟨rfl, rfl, hb1⟩

set_option maxHeartbeats 400000 in
theorem str_n {s : ByteArray} {i : Int} {n : Int} (w : World)
    (hq : ∀ w, Calls Tryz.prog 126 #[.string s, .int .i64 i] w fun e w' => e = .panicked [{ v := .iface 133 (.int .i64 n), recovered := false }] ∧ Below w.heap.size w w') :
    Calls Tryz.prog 110 #[.string s, .int .i64 i] w fun e w' => e = .returned (.tuple #[.string ⟨#[]⟩, .int .i64 n, .bool false]) ∧ Below w.heap.size w w' := by
  have hmf : ∀ (fn : Fn) (first cap : Array Value) (w : World), (Instr.makeFunc fn first cap).run Tryz.prog w = .ok (.func fn first cap) w := fun _ _ _ _ => rfl
  have hgo : ∀ (args : Array Value) (w : World), (callFunc 125 args).run Tryz.prog w = .ok (.enter 125 args) w := fun args w => by simp [go_sem]
  have hc : ∀ w1 : World, Below ((w.alloc (.cells #[.string s] 9)).alloc (.cells #[.int .i64 i] 3)).heap.size ((w.alloc (.cells #[.string s] 9)).alloc (.cells #[.int .i64 i] 3)) w1 →
      Calls Tryz.prog 125 #[.pointer (some ⟨w.heap.size, 0, none⟩), .pointer (some ⟨w.heap.size + 1, 0, none⟩)] w1 fun e w' => e = .panicked [{ v := .iface 133 (.int .i64 n), recovered := false }] ∧ Below w1.heap.size w1 w' := fun w1 hb =>
    str1_n (by rw [hb.cell (by simp; omega)]; simp [go_sem]) (by rw [hb.cell (by simp)]; simp [go_sem]) hq
  have hk := caught_n 125 w.heap.size (w.heap.size + 1) n _ hgo hc
  clear hc hgo hq
  go_enter Tryz.func110, Tryz.ntmps110
  go_wp2_with fail
  (with_reducible refine hk.mono ?_)
  rintro e w1 ⟨rfl, hb1⟩
  go_wp2_with fail
  go_ret3
  exact ⟨rfl, bel_trans (bel_alloc (bel_alloc (Below.refl _ _) _) _) hb1⟩

theorem strA_no_v {l : List UInt8} {i : Int} {v : List UInt8} {n : Nat} (h : strA l i = ⟨v, n, false⟩) : v = [] := by
  unfold strA at h
  split at h
  · injection h with h1 h2 h3
    rw [← h1]; exact bod_no h3
  · injection h with h1; exact h1.symm
/-- String, over a list of bytes. -/
theorem string_b {A : ByteArray} {l : List UInt8} {i : Int} {v : List UInt8} {n : Nat} {b : Bool} (hA : A = mkb l) (hv : strA l i = ⟨v, n, b⟩) (hl : l.length ≤ 1000000) (w : World) :
    Calls Tryz.prog 110 #[.string A, .int .i64 i] w fun e w' => e = .returned (.tuple #[.string (mkb v), .int .i64 (i + (n : Int)), .bool b]) ∧ Below w.heap.size w w' := by
  have hz : A.size ≤ 1000000 := by rw [hA, mkb_size]; exact hl
  have hv' : strA A.data.toList i = ⟨v, n, b⟩ := by rw [hA]; exact hv
  cases b
  · obtain rfl := strA_no_v hv
    exact str_n w (quoted_n hv' hz)
  · exact str_y w (quoted_y hv' hz)
theorem hex_by {A : ByteArray} {l : List UInt8} {i : Int} {n : Nat} (hA : A = mkb l) (hv : hexA l i = some n) (hl : l.length ≤ 1000000) (w : World) :
    Calls Tryz.prog 153 #[.string A, .int .i64 i] w fun e w' => e = .returned (.tuple #[.int .i64 (n : Int), .bool true]) ∧ w = w' :=
  hex_y (by rw [hA]; exact hv) (by rw [hA, mkb_size]; exact hl) w
theorem hex_bn {A : ByteArray} {l : List UInt8} {i : Int} (hA : A = mkb l) (hv : hexA l i = none) (hl : l.length ≤ 1000000) (w : World) :
    Calls Tryz.prog 153 #[.string A, .int .i64 i] w fun e w' => e = .returned (.tuple #[.int .i64 0, .bool false]) ∧ w = w' :=
  hex_n (by rw [hA]; exact hv) (by rw [hA, mkb_size]; exact hl) w
end Go.Proofs.YtpcijjdlppoblaaGreatDoor
