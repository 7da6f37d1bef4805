/- Small laws of worlds; string([]byte{..}); the document's own answers for layer 2 (copperplateref02): is, Put, guess, Next. For seats that hold Next alone. -/
import Derived.Test.YtjfhcgolgabkkaaDoorUtfA
import Derived.IntWalk
import Derived.Laws.IdiomStrings
namespace Go.Proofs.YtjfhcgolgabkkaaDoor.Fo
open Go.RowKit

theorem bel_trans {a b c : World} (h : Below a.heap.size a b) (k : Below b.heap.size b c) : Below a.heap.size a c := h.trans (k.mono h.size)
theorem bel_alloc {a b : World} (h : Below a.heap.size a b) (o : Obj) : Below a.heap.size a (b.alloc o) := h.alloc h.size o
theorem putA_list (r : Int) : (putA r).toList = putL r := by simp [putA, ByteArray.toList_eq]
theorem putA_no {r : Int} (h : srcB r = false) : putA r = ⟨#[]⟩ := by simp [putA, putL_no h]
theorem nxtN_at (s : ByteArray) (k : Nat) (hk : k ≤ s.size) : nxtN s k = ((nxt (s.data.toList.drop k)).2 : Int) := by
  unfold nxtN
  by_cases h : k < s.size
  · simp [h]
  · have e : s.data.toList.drop k = [] := by apply List.drop_eq_nil_of_le; rw [← Lib.size_eq]; omega
    rw [e, nxt_nil, if_neg (by omega)]; rfl

theorem push_bytes : ∀ (ns : List Int) (s : ByteArray), (ns.foldl (fun r n => r.push (UInt8.ofNat n.toNat)) s) = ⟨s.data ++ (ns.map fun n => UInt8.ofNat n.toNat).toArray⟩ := by
  intro ns
  induction ns with
  | nil => intro s; simp
  | cons n ns ih => intro s; rw [List.foldl_cons, ih]; simp [ByteArray.push]

/-- '[]byte{..}' made into a string. -/
theorem conv_bytes (w : World) (ns : List Int) : (convert 83 9 (.slice (some ⟨w.heap.size, 0, none⟩) ns.length ns.length)).run Tryd.prog (w.alloc (.cells (ns.map (Value.int .u8)).toArray 5)) =
    .ok (.string ⟨(ns.map fun n => UInt8.ofNat n.toNat).toArray⟩) (w.alloc (.cells (ns.map (Value.int .u8)).toArray 5)) := by
  rw [run_convert_bytes_string _ _ _ 5 _ _ _ Tryd.underlying83 Tryd.underlying5 Tryd.underlying9]
  have hl := run_loadCells_list (P := Tryd.prog) (w.alloc (.cells (ns.map (Value.int .u8)).toArray 5)) ⟨w.heap.size, 0, none⟩ (ns.map (Value.int .u8)) (fun j v hj => by
    have := World.cell?_alloc_mark w (ns.map (Value.int .u8)).toArray 5 (0, 0) j
    have ea : (⟨w.heap.size, 0, none⟩ : Addr).add j = ⟨w.heap.size, j, none⟩ := by unfold Addr.add; split <;> simp_all
    rw [ea, this]; simpa using hj)
  rw [List.length_map] at hl
  rw [run_bytesToString _ _ _ _ ns hl, push_bytes]
  rw [show (ByteArray.empty).data = #[] from rfl, Array.empty_append]

theorem conv1 (w : World) (a : Int) : (convert 83 9 (.slice (some ⟨w.heap.size, 0, none⟩) 1 1)).run Tryd.prog (w.alloc (.cells #[.int .u8 a] 5)) =
    .ok (.string ⟨#[UInt8.ofNat a.toNat]⟩) (w.alloc (.cells #[.int .u8 a] 5)) := conv_bytes w [a]
theorem conv2 (w : World) (a b : Int) : (convert 83 9 (.slice (some ⟨w.heap.size, 0, none⟩) 2 2)).run Tryd.prog (w.alloc (.cells #[.int .u8 a, .int .u8 b] 5)) =
    .ok (.string ⟨#[UInt8.ofNat a.toNat, UInt8.ofNat b.toNat]⟩) (w.alloc (.cells #[.int .u8 a, .int .u8 b] 5)) := conv_bytes w [a, b]
theorem conv3 (w : World) (a b c : Int) : (convert 83 9 (.slice (some ⟨w.heap.size, 0, none⟩) 3 3)).run Tryd.prog (w.alloc (.cells #[.int .u8 a, .int .u8 b, .int .u8 c] 5)) =
    .ok (.string ⟨#[UInt8.ofNat a.toNat, UInt8.ofNat b.toNat, UInt8.ofNat c.toNat]⟩) (w.alloc (.cells #[.int .u8 a, .int .u8 b, .int .u8 c] 5)) := conv_bytes w [a, b, c]
theorem conv4 (w : World) (a b c d : Int) : (convert 83 9 (.slice (some ⟨w.heap.size, 0, none⟩) 4 4)).run Tryd.prog (w.alloc (.cells #[.int .u8 a, .int .u8 b, .int .u8 c, .int .u8 d] 5)) =
    .ok (.string ⟨#[UInt8.ofNat a.toNat, UInt8.ofNat b.toNat, UInt8.ofNat c.toNat, UInt8.ofNat d.toNat]⟩) (w.alloc (.cells #[.int .u8 a, .int .u8 b, .int .u8 c, .int .u8 d] 5)) := conv_bytes w [a, b, c, d]
attribute [local go_sem] conv1 conv2 conv3 conv4

theorem nxtN_bd (s : ByteArray) (k : Nat) (hk : k ≤ s.size) : ∃ m : Nat, nxtN s k = m ∧ (nxt (s.data.toList.drop k)).2 = m ∧ k + m ≤ s.size := by
  have hle := (nxt_le (s.data.toList.drop k)).1
  rw [List.length_drop, ← Lib.size_eq] at hle
  exact ⟨_, nxtN_at s k hk, rfl, by omega⟩

end Go.Proofs.YtjfhcgolgabkkaaDoor.Fo
