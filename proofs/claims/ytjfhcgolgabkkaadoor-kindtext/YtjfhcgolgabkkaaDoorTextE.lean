/- Contracts of package text's String and Escape. -/
import Derived.Test.YtjfhcgolgabkkaaDoorTextD
namespace Go.Proofs.YtjfhcgolgabkkaaDoor
open Go.RowKit
set_option linter.unusedVariables false

theorem quoted_y {s : ByteArray} {i : Int} {v : List UInt8} {n : Nat} (h : strA s.data.toList i = ⟨v, n, true⟩) (hs : s.size ≤ 1000000) (w : World) :
    Calls Tryd.prog 62 #[.string s, .int .i64 i] w fun e w' => e = .returned (.tuple #[.string (mkb v), .int .i64 (i + (n : Int))]) ∧ Below w.heap.size w w' := by
  have := quoted_any s i w hs; rw [h] at this; exact this
theorem quoted_n {s : ByteArray} {i : Int} {v : List UInt8} {n : Nat} (h : strA s.data.toList i = ⟨v, n, false⟩) (hs : s.size ≤ 1000000) (w : World) :
    Calls Tryd.prog 62 #[.string s, .int .i64 i] w fun e w' => e = .panicked [{ v := .iface 80 (.int .i64 (i + (n : Int))), recovered := false }] ∧ Below w.heap.size w w' := by
  have := quoted_any s i w hs; rw [h] at this; exact this

set_option maxHeartbeats 400000 in
theorem str1_y {s : ByteArray} {i : Int} {v : List UInt8} {n : Int} {d1 d2 : Nat} {w : World} (c1 : w.cell? ⟨d1, 0, none⟩ = some (.string s)) (c2 : w.cell? ⟨d2, 0, none⟩ = some (.int .i64 i))
    (hq : ∀ w, Calls Tryd.prog 62 #[.string s, .int .i64 i] w fun e w' => e = .returned (.tuple #[.string (mkb v), .int .i64 n]) ∧ Below w.heap.size w w') :
    Calls Tryd.prog 61 #[.pointer (some ⟨d1, 0, none⟩), .pointer (some ⟨d2, 0, none⟩)] w fun e w' => e = .returned (.tuple #[.string (mkb v), .int .i64 n]) ∧ Below w.heap.size w w' := by
  go_enter Tryd.func61, Tryd.ntmps61
  go_wp2_with fail
  (with_reducible refine (hq _).mono ?_)
  rintro e w1 ⟨rfl, hb1⟩
  go_wp2_with fail
  go_ret2
  exact ⟨rfl, hb1⟩

set_option maxHeartbeats 400000 in
theorem str_y {s : ByteArray} {i : Int} {v : List UInt8} {n : Int} (w : World)
    (hq : ∀ w, Calls Tryd.prog 62 #[.string s, .int .i64 i] w fun e w' => e = .returned (.tuple #[.string (mkb v), .int .i64 n]) ∧ Below w.heap.size w w') :
    Calls Tryd.prog 50 #[.string s, .int .i64 i] w fun e w' => e = .returned (.tuple #[.string (mkb v), .int .i64 n, .bool true]) ∧ Below w.heap.size w w' := by
  have hmf : ∀ (fn : Fn) (first cap : Array Value) (w : World), (Instr.makeFunc fn first cap).run Tryd.prog w = .ok (.func fn first cap) w := fun _ _ _ _ => rfl
  have hgo : ∀ (args : Array Value) (w : World), (callFunc 61 args).run Tryd.prog w = .ok (.enter 61 args) w := fun args w => by simp [go_sem]
  have hc : ∀ w1 : World, Below ((w.alloc (.cells #[.string s] 9)).alloc (.cells #[.int .i64 i] 3)).heap.size ((w.alloc (.cells #[.string s] 9)).alloc (.cells #[.int .i64 i] 3)) w1 →
      Calls Tryd.prog 61 #[.pointer (some ⟨w.heap.size, 0, none⟩), .pointer (some ⟨w.heap.size + 1, 0, none⟩)] w1 fun e w' => e = .returned (.tuple #[.string (mkb v), .int .i64 n]) ∧ Below w1.heap.size w1 w' := fun w1 hb =>
    str1_y (by rw [hb.cell (by simp; omega)]; simp [go_sem]) (by rw [hb.cell (by simp)]; simp [go_sem]) hq
  have hk := caught_y 61 w.heap.size (w.heap.size + 1) v n _ hgo hc
  clear hc hgo hq
  go_enter Tryd.func50, Tryd.ntmps50
  go_wp2_with fail
  (with_reducible refine hk.mono ?_)
  rintro e w1 ⟨rfl, hb1⟩
  go_wp2_with fail
  go_ret3
  exact ⟨rfl, bel_trans (bel_alloc (bel_alloc (Below.refl _ _) _) _) hb1⟩

set_option maxHeartbeats 400000 in
theorem str1_n {s : ByteArray} {i : Int} {n : Int} {d1 d2 : Nat} {w : World} (c1 : w.cell? ⟨d1, 0, none⟩ = some (.string s)) (c2 : w.cell? ⟨d2, 0, none⟩ = some (.int .i64 i))
    (hq : ∀ w, Calls Tryd.prog 62 #[.string s, .int .i64 i] w fun e w' => e = .panicked [{ v := .iface 80 (.int .i64 n), recovered := false }] ∧ Below w.heap.size w w') :
    Calls Tryd.prog 61 #[.pointer (some ⟨d1, 0, none⟩), .pointer (some ⟨d2, 0, none⟩)] w fun e w' => e = .panicked [{ v := .iface 80 (.int .i64 n), recovered := false }] ∧ Below w.heap.size w w' := by
  go_enter Tryd.func61, Tryd.ntmps61
  go_wp2_with fail
  (with_reducible refine (hq _).mono ?_)
  rintro e w1 ⟨rfl, hb1⟩
  go_wp2_with fail
  skip
  exact ⟨rfl, rfl, hb1⟩

set_option maxHeartbeats 400000 in
theorem str_n {s : ByteArray} {i : Int} {n : Int} (w : World)
    (hq : ∀ w, Calls Tryd.prog 62 #[.string s, .int .i64 i] w fun e w' => e = .panicked [{ v := .iface 80 (.int .i64 n), recovered := false }] ∧ Below w.heap.size w w') :
    Calls Tryd.prog 50 #[.string s, .int .i64 i] w fun e w' => e = .returned (.tuple #[.string ⟨#[]⟩, .int .i64 n, .bool false]) ∧ Below w.heap.size w w' := by
  have hmf : ∀ (fn : Fn) (first cap : Array Value) (w : World), (Instr.makeFunc fn first cap).run Tryd.prog w = .ok (.func fn first cap) w := fun _ _ _ _ => rfl
  have hgo : ∀ (args : Array Value) (w : World), (callFunc 61 args).run Tryd.prog w = .ok (.enter 61 args) w := fun args w => by simp [go_sem]
  have hc : ∀ w1 : World, Below ((w.alloc (.cells #[.string s] 9)).alloc (.cells #[.int .i64 i] 3)).heap.size ((w.alloc (.cells #[.string s] 9)).alloc (.cells #[.int .i64 i] 3)) w1 →
      Calls Tryd.prog 61 #[.pointer (some ⟨w.heap.size, 0, none⟩), .pointer (some ⟨w.heap.size + 1, 0, none⟩)] w1 fun e w' => e = .panicked [{ v := .iface 80 (.int .i64 n), recovered := false }] ∧ Below w1.heap.size w1 w' := fun w1 hb =>
    str1_n (by rw [hb.cell (by simp; omega)]; simp [go_sem]) (by rw [hb.cell (by simp)]; simp [go_sem]) hq
  have hk := caught_n 61 w.heap.size (w.heap.size + 1) n _ hgo hc
  clear hc hgo hq
  go_enter Tryd.func50, Tryd.ntmps50
  go_wp2_with fail
  (with_reducible refine hk.mono ?_)
  rintro e w1 ⟨rfl, hb1⟩
  go_wp2_with fail
  go_ret3
  exact ⟨rfl, bel_trans (bel_alloc (bel_alloc (Below.refl _ _) _) _) hb1⟩

theorem strA_no_v {l : List UInt8} {i : Int} {v : List UInt8} {n : Nat} (h : strA l i = ⟨v, n, false⟩) : v = [] := by
  unfold strA at h
  split at h
  · injection h with h1 h2 h3
    rw [← h1]; exact bod_no h3
  · injection h with h1; exact h1.symm
/-- String, over a list of bytes. -/
theorem string_b {A : ByteArray} {l : List UInt8} {i : Int} {v : List UInt8} {n : Nat} {b : Bool} (hA : A = mkb l) (hv : strA l i = ⟨v, n, b⟩) (hl : l.length ≤ 1000000) (w : World) :
    Calls Tryd.prog 50 #[.string A, .int .i64 i] w fun e w' => e = .returned (.tuple #[.string (mkb v), .int .i64 (i + (n : Int)), .bool b]) ∧ Below w.heap.size w w' := by
  have hz : A.size ≤ 1000000 := by rw [hA, mkb_size]; exact hl
  have hv' : strA A.data.toList i = ⟨v, n, b⟩ := by rw [hA]; exact hv
  cases b
  · obtain rfl := strA_no_v hv
    exact str_n w (quoted_n hv' hz)
  · exact str_y w (quoted_y hv' hz)
theorem hex_by {A : ByteArray} {l : List UInt8} {i : Int} {n : Nat} (hA : A = mkb l) (hv : hexA l i = some n) (hl : l.length ≤ 1000000) (w : World) :
    Calls Tryd.prog 90 #[.string A, .int .i64 i] w fun e w' => e = .returned (.tuple #[.int .i64 (n : Int), .bool true]) ∧ w = w' :=
  hex_y (by rw [hA]; exact hv) (by rw [hA, mkb_size]; exact hl) w
theorem hex_bn {A : ByteArray} {l : List UInt8} {i : Int} (hA : A = mkb l) (hv : hexA l i = none) (hl : l.length ≤ 1000000) (w : World) :
    Calls Tryd.prog 90 #[.string A, .int .i64 i] w fun e w' => e = .returned (.tuple #[.int .i64 0, .bool false]) ∧ w = w' :=
  hex_n (by rw [hA]; exact hv) (by rw [hA, mkb_size]; exact hl) w
end Go.Proofs.YtjfhcgolgabkkaaDoor
