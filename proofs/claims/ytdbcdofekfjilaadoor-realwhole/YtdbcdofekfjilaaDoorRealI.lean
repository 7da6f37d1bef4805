/- Strings made of bytes; digits that are all 0. -/
import Derived.Test.YtdbcdofekfjilaaDoorRealH
import Derived.Laws.IdiomStrings
namespace Go.Proofs.YtdbcdofekfjilaaDoor
open Go.RowKit

theorem push_bytes : ∀ (ns : List Int) (s : ByteArray), (ns.foldl (fun r n => r.push (UInt8.ofNat n.toNat)) s) = ⟨s.data ++ (ns.map fun n => UInt8.ofNat n.toNat).toArray⟩ := by
  intro ns
  induction ns with
  | nil => intro s; simp
  | cons n ns ih => intro s; rw [List.foldl_cons, ih]; simp [ByteArray.push]

/-- '[]byte{..}' made into a string. -/
theorem conv_bytes (w : World) (ns : List Int) : (convert 30 9 (.slice (some ⟨w.heap.size, 0, none⟩) ns.length ns.length)).run Tryd.prog (w.alloc (.cells (ns.map (Value.int .u8)).toArray 5)) =
    .ok (.string ⟨(ns.map fun n => UInt8.ofNat n.toNat).toArray⟩) (w.alloc (.cells (ns.map (Value.int .u8)).toArray 5)) := by
  rw [run_convert_bytes_string _ _ _ 5 _ _ _ Tryd.underlying30 Tryd.underlying5 Tryd.underlying9]
  have hl := run_loadCells_list (P := Tryd.prog) (w.alloc (.cells (ns.map (Value.int .u8)).toArray 5)) ⟨w.heap.size, 0, none⟩ (ns.map (Value.int .u8)) (fun j v hj => by
    have := World.cell?_alloc_mark w (ns.map (Value.int .u8)).toArray 5 (0, 0) j
    have ea : (⟨w.heap.size, 0, none⟩ : Addr).add j = ⟨w.heap.size, j, none⟩ := by unfold Addr.add; split <;> simp_all
    rw [ea, this]; simpa using hj)
  rw [List.length_map] at hl
  rw [run_bytesToString _ _ _ _ ns hl, push_bytes]
  rw [show (ByteArray.empty).data = #[] from rfl, Array.empty_append]

theorem conv1 (w : World) (a : Int) : (convert 30 9 (.slice (some ⟨w.heap.size, 0, none⟩) 1 1)).run Tryd.prog (w.alloc (.cells #[.int .u8 a] 5)) =
    .ok (.string ⟨#[UInt8.ofNat a.toNat]⟩) (w.alloc (.cells #[.int .u8 a] 5)) := conv_bytes w [a]
theorem conv2 (w : World) (a b : Int) : (convert 30 9 (.slice (some ⟨w.heap.size, 0, none⟩) 2 2)).run Tryd.prog (w.alloc (.cells #[.int .u8 a, .int .u8 b] 5)) =
    .ok (.string ⟨#[UInt8.ofNat a.toNat, UInt8.ofNat b.toNat]⟩) (w.alloc (.cells #[.int .u8 a, .int .u8 b] 5)) := conv_bytes w [a, b]
theorem conv3 (w : World) (a b c : Int) : (convert 30 9 (.slice (some ⟨w.heap.size, 0, none⟩) 3 3)).run Tryd.prog (w.alloc (.cells #[.int .u8 a, .int .u8 b, .int .u8 c] 5)) =
    .ok (.string ⟨#[UInt8.ofNat a.toNat, UInt8.ofNat b.toNat, UInt8.ofNat c.toNat]⟩) (w.alloc (.cells #[.int .u8 a, .int .u8 b, .int .u8 c] 5)) := conv_bytes w [a, b, c]
theorem conv4 (w : World) (a b c d : Int) : (convert 30 9 (.slice (some ⟨w.heap.size, 0, none⟩) 4 4)).run Tryd.prog (w.alloc (.cells #[.int .u8 a, .int .u8 b, .int .u8 c, .int .u8 d] 5)) =
    .ok (.string ⟨#[UInt8.ofNat a.toNat, UInt8.ofNat b.toNat, UInt8.ofNat c.toNat, UInt8.ofNat d.toNat]⟩) (w.alloc (.cells #[.int .u8 a, .int .u8 b, .int .u8 c, .int .u8 d] 5)) := conv_bytes w [a, b, c, d]


theorem conv1b (w : World) (o : Obj) (a : Int) : (convert 30 9 (.slice (some ⟨w.heap.size + 1, 0, none⟩) 1 1)).run Tryd.prog ((w.alloc o).alloc (.cells #[.int .u8 a] 5)) =
    .ok (.string ⟨#[UInt8.ofNat a.toNat]⟩) ((w.alloc o).alloc (.cells #[.int .u8 a] 5)) := by
  have h := conv_bytes (w.alloc o) [a]
  have e : (w.alloc o).heap.size = w.heap.size + 1 := by simp
  rw [e] at h
  exact h

theorem sadd (a b : List UInt8) (h : a.length + b.length ≤ 1000000) (w : World) : (Op.stringOp .add (mkb a) (mkb b)).run Tryd.prog w = .ok (.string (mkb (a ++ b))) w := by
  rw [← mkb_add]; exact run_string_add_sum w _ _ (by rw [mkb_size, mkb_size]; omega)

/-- A sum of strings, under a name of its own. -/
theorem sadd' {A B : ByteArray} {a b : List UInt8} (hA : A = mkb a) (hB : B = mkb b) (h : a.length + b.length ≤ 1000000) : ∃ R, R = mkb (a ++ b) ∧ ∀ w, (Op.stringOp .add A B).run Tryd.prog w = .ok (.string R) w :=
  ⟨mkb (a ++ b), rfl, fun w => by rw [hA, hB]; exact sadd a b h w⟩
theorem real_b {A : ByteArray} {l : List UInt8} {v : Nat} (hA : A = mkb l) (hv : rv l = v) (hl : l.length ≤ 100000) (w : World) :
    Calls Tryd.prog 11 #[.string A] w fun e w' => e = .returned (.float .f64 v) ∧ Below w.heap.size w w' := by
  rw [hA, ← hv]; exact real_any l w hl

theorem z_tells {L : List UInt8} {d : List UInt8} {x : Int} (hp : plainD L = some (d, x)) (hz : tz d = []) (hm : ∀ u, L ≠ 45 :: u) (m : Bool) : rv ((if m then [45] else []) ++ L) = sgw m 0 := by
  have h : num ((if m then [45] else []) ++ L) = some (m, d, x) := by rw [num_signed m L hm, hp]; rfl
  have e : valB (tz d) x = 0 := by rw [hz, valB_nil]
  rw [rv_of h (by rw [e]; decide) (by rw [e]; decide), e]

theorem zadd (n m : Nat) : List.replicate n (48 : UInt8) ++ List.replicate m 48 = List.replicate (n + m) 48 := List.replicate_append_replicate
theorem rep_ne {n : Nat} (h : 1 ≤ n) : List.replicate n (48 : UInt8) ≠ [] := by
  intro e; have := congrArg List.length e; simp at this; omega
theorem z1 {n : Nat} (h : 1 ≤ n) (s : Bool) : rv ((if s then [45] else []) ++ List.replicate n 48) = sgw s 0 := by
  have hp := plainD_B (zeros_all n) (rep_ne h) (ep := []) (.inl rfl)
  rw [List.append_nil, expoD_nil] at hp
  have hm := not_minus (r := []) (zeros_all n) (rep_ne h)
  rw [List.append_nil] at hm
  exact z_tells hp (tz_zeros n) hm s
theorem z2 {n m : Nat} (h : 1 ≤ n) (hm : 1 ≤ m) (s : Bool) : rv ((if s then [45] else []) ++ (List.replicate n 48 ++ [46] ++ List.replicate m 48)) = sgw s 0 := by
  have hp := plainD_C (zeros_all n) (rep_ne h) (zeros_all m) (rep_ne hm) (ep := []) (.inl rfl)
  rw [List.append_nil, expoD_nil] at hp
  have e : List.replicate n (48 : UInt8) ++ [46] ++ List.replicate m 48 = List.replicate n 48 ++ 46 :: List.replicate m 48 := by simp
  rw [e]
  exact z_tells hp (by rw [zadd]; exact tz_zeros _) (not_minus (zeros_all n) (rep_ne h)) s
theorem z3 {n : Nat} {es : List UInt8} (h : 1 ≤ n) (hd : es.all isD = true) (hne : es ≠ []) (s : Bool) : rv ((if s then [45] else []) ++ (List.replicate n 48 ++ [101] ++ es)) = sgw s 0 := by
  have hp := plainD_B (zeros_all n) (rep_ne h) (ep := 101 :: es) (.inr ⟨101, es, rfl, .inl rfl⟩)
  rw [expoD_e (.inl rfl) hd hne] at hp
  have e : List.replicate n (48 : UInt8) ++ [101] ++ es = List.replicate n 48 ++ 101 :: es := by simp
  rw [e]
  exact z_tells hp (tz_zeros n) (not_minus (zeros_all n) (rep_ne h)) s
theorem z4 {n m : Nat} {es : List UInt8} (h : 1 ≤ n) (hm : 1 ≤ m) (hd : es.all isD = true) (hne : es ≠ []) (s : Bool) : rv ((if s then [45] else []) ++ (List.replicate n 48 ++ [46] ++ List.replicate m 48 ++ [101] ++ es)) = sgw s 0 := by
  have hp := plainD_C (zeros_all n) (rep_ne h) (zeros_all m) (rep_ne hm) (ep := 101 :: es) (.inr ⟨101, es, rfl, .inl rfl⟩)
  rw [expoD_e (.inl rfl) hd hne] at hp
  have e : List.replicate n (48 : UInt8) ++ [46] ++ List.replicate m 48 ++ [101] ++ es = List.replicate n 48 ++ 46 :: (List.replicate m 48 ++ 101 :: es) := by simp
  rw [e]
  exact z_tells hp (by rw [zadd]; exact tz_zeros _) (not_minus (zeros_all n) (rep_ne h)) s

theorem zs20 (k : Nat) (h : k ≤ 20) : (⟨#[48, 48, 48, 48, 48, 48, 48, 48, 48, 48, 48, 48, 48, 48, 48, 48, 48, 48, 48, 48]⟩ : ByteArray).extract 0 k = mkb (List.replicate k 48) := by
  have e : (⟨#[48, 48, 48, 48, 48, 48, 48, 48, 48, 48, 48, 48, 48, 48, 48, 48, 48, 48, 48, 48]⟩ : ByteArray) = mkb (List.replicate 20 48) := rfl
  rw [e, mkb_extract, List.drop_zero, List.take_replicate]
  congr 2
  omega


end Go.Proofs.YtdbcdofekfjilaaDoor
