/- The law UtfOne: its mathematics and its walk. -/
import Derived.Test.YtjfhcgolgabkkaaDoorUtfG
import Derived.Laws.IdiomStrings
namespace Go.Proofs.YtjfhcgolgabkkaaDoor
open Go.RowKit

theorem push_bytes : ∀ (ns : List Int) (s : ByteArray), (ns.foldl (fun r n => r.push (UInt8.ofNat n.toNat)) s) = ⟨s.data ++ (ns.map fun n => UInt8.ofNat n.toNat).toArray⟩ := by
  intro ns
  induction ns with
  | nil => intro s; simp
  | cons n ns ih => intro s; rw [List.foldl_cons, ih]; simp [ByteArray.push]

/-- '[]byte{..}' made into a string. -/
theorem conv_bytes (w : World) (ns : List Int) : (convert 83 9 (.slice (some ⟨w.heap.size, 0, none⟩) ns.length ns.length)).run Tryd.prog (w.alloc (.cells (ns.map (Value.int .u8)).toArray 5)) =
    .ok (.string ⟨(ns.map fun n => UInt8.ofNat n.toNat).toArray⟩) (w.alloc (.cells (ns.map (Value.int .u8)).toArray 5)) := by
  rw [run_convert_bytes_string _ _ _ 5 _ _ _ Tryd.underlying83 Tryd.underlying5 Tryd.underlying9]
  have hl := run_loadCells_list (P := Tryd.prog) (w.alloc (.cells (ns.map (Value.int .u8)).toArray 5)) ⟨w.heap.size, 0, none⟩ (ns.map (Value.int .u8)) (fun j v hj => by
    have := World.cell?_alloc_mark w (ns.map (Value.int .u8)).toArray 5 (0, 0) j
    have ea : (⟨w.heap.size, 0, none⟩ : Addr).add j = ⟨w.heap.size, j, none⟩ := by unfold Addr.add; split <;> simp_all
    rw [ea, this]; simpa using hj)
  rw [List.length_map] at hl
  rw [run_bytesToString _ _ _ _ ns hl, push_bytes]
  rw [show (ByteArray.empty).data = #[] from rfl, Array.empty_append]

theorem conv1 (w : World) (a : Int) : (convert 83 9 (.slice (some ⟨w.heap.size, 0, none⟩) 1 1)).run Tryd.prog (w.alloc (.cells #[.int .u8 a] 5)) =
    .ok (.string ⟨#[UInt8.ofNat a.toNat]⟩) (w.alloc (.cells #[.int .u8 a] 5)) := conv_bytes w [a]
theorem conv2 (w : World) (a b : Int) : (convert 83 9 (.slice (some ⟨w.heap.size, 0, none⟩) 2 2)).run Tryd.prog (w.alloc (.cells #[.int .u8 a, .int .u8 b] 5)) =
    .ok (.string ⟨#[UInt8.ofNat a.toNat, UInt8.ofNat b.toNat]⟩) (w.alloc (.cells #[.int .u8 a, .int .u8 b] 5)) := conv_bytes w [a, b]
theorem conv3 (w : World) (a b c : Int) : (convert 83 9 (.slice (some ⟨w.heap.size, 0, none⟩) 3 3)).run Tryd.prog (w.alloc (.cells #[.int .u8 a, .int .u8 b, .int .u8 c] 5)) =
    .ok (.string ⟨#[UInt8.ofNat a.toNat, UInt8.ofNat b.toNat, UInt8.ofNat c.toNat]⟩) (w.alloc (.cells #[.int .u8 a, .int .u8 b, .int .u8 c] 5)) := conv_bytes w [a, b, c]
theorem conv4 (w : World) (a b c d : Int) : (convert 83 9 (.slice (some ⟨w.heap.size, 0, none⟩) 4 4)).run Tryd.prog (w.alloc (.cells #[.int .u8 a, .int .u8 b, .int .u8 c, .int .u8 d] 5)) =
    .ok (.string ⟨#[UInt8.ofNat a.toNat, UInt8.ofNat b.toNat, UInt8.ofNat c.toNat, UInt8.ofNat d.toNat]⟩) (w.alloc (.cells #[.int .u8 a, .int .u8 b, .int .u8 c, .int .u8 d] 5)) := conv_bytes w [a, b, c, d]
attribute [local go_sem] conv1 conv2 conv3 conv4

theorem is_head {c : UInt8} {t : List UInt8} {d : Nat} (h : Is (c :: t) d) :
    (d < 128 ∧ c.toNat = d ∧ (enc d).length = 1) ∨ (128 ≤ d ∧ 194 ≤ c.toNat ∧ c.toNat ≤ 244 ∧ 2 ≤ (enc d).length ∧ (enc d).length ≤ 4) := by
  obtain ⟨hs, u, hu⟩ := h
  rw [srcB_iff] at hs
  have tt : ∀ n : Nat, n < 256 → (UInt8.ofNat n).toNat = n := fun n h => toNat_ofNat h
  have hp := enc_pos d
  rw [enc_len]
  by_cases h1 : d < 128
  · left
    rw [enc1 h1] at hu
    obtain ⟨rfl, -⟩ := List.cons.inj hu
    exact ⟨h1, tt _ (by omega), by rw [if_pos h1]⟩
  · right
    by_cases h2 : d < 2048
    · rw [enc2 (by omega) h2] at hu
      obtain ⟨rfl, -⟩ := List.cons.inj hu
      rw [tt _ (by omega), if_neg h1, if_pos h2]; omega
    · by_cases h3 : d < 65536
      · rw [enc3 (by omega) h3] at hu
        obtain ⟨rfl, -⟩ := List.cons.inj hu
        rw [tt _ (by omega), if_neg h1, if_neg h2, if_pos h3]; omega
      · rw [enc4 (by omega)] at hu
        obtain ⟨rfl, -⟩ := List.cons.inj hu
        rw [tt _ (by omega), if_neg h1, if_neg h2, if_neg h3]; omega

theorem one_next (x : Int) (h0 : 0 ≤ x) (h1 : x < 256) (s : ByteArray) :
    (srcB x = true ∧ x < 128 ∧ nxtC (⟨#[UInt8.ofNat x.toNat]⟩ ++ s) 0 = x ∧ nxtN (⟨#[UInt8.ofNat x.toNat]⟩ ++ s) 0 = 1) ∨
    (¬ (srcB x = true ∧ x < 128) ∧ nxtC (⟨#[UInt8.ofNat x.toNat]⟩ ++ s) 0 = 0 ∧ nxtN (⟨#[UInt8.ofNat x.toNat]⟩ ++ s) 0 = 0) ∨
    (194 ≤ x ∧ x ≤ 244 ∧ 128 ≤ nxtC (⟨#[UInt8.ofNat x.toNat]⟩ ++ s) 0 ∧ 2 ≤ nxtN (⟨#[UInt8.ofNat x.toNat]⟩ ++ s) 0 ∧ nxtN (⟨#[UInt8.ofNat x.toNat]⟩ ++ s) 0 ≤ 4) := by
  have hl : ((⟨#[UInt8.ofNat x.toNat]⟩ : ByteArray) ++ s).data.toList = UInt8.ofNat x.toNat :: s.data.toList := by rw [toList_app]; rfl
  have hz : (0 : Int) ≤ 0 ∧ (0 : Int) < ((⟨#[UInt8.ofNat x.toNat]⟩ : ByteArray) ++ s).size := by rw [Lib.size_eq, hl]; simp
  have hx : (UInt8.ofNat x.toNat).toNat = x.toNat := toNat_ofNat (by omega)
  unfold nxtC nxtN
  rw [if_pos hz, if_pos hz, hl]
  rw [show (0 : Int).toNat = 0 from rfl, List.drop_zero]
  rcases nxt_cases (UInt8.ofNat x.toNat :: s.data.toList) with ⟨d, hd, e⟩ | ⟨hn, e⟩
  · rw [e]
    rcases is_head hd with ⟨a, b, c⟩ | ⟨a, b, c, f, g⟩
    · left
      have hxd : x = (d : Int) := by omega
      exact ⟨by rw [hxd]; exact hd.1, by omega, hxd.symm, by dsimp only; omega⟩
    · right; right
      dsimp only; omega
  · right; left
    rw [e]
    refine ⟨fun ⟨hs, h128⟩ => ?_, rfl, rfl⟩
    obtain ⟨n, sn⟩ := src_nat hs
    refine hn x.toNat ⟨sn, ?_⟩
    rw [enc1 (by omega)]
    exact ⟨s.data.toList, rfl⟩

theorem plain_iff (x : Int) : (srcB x = true ∧ x < 128) ↔ (x = 9 ∨ x = 10 ∨ x = 13 ∨ (32 ≤ x ∧ x < 128)) := by
  rw [srcB_iff]; omega

end Go.Proofs.YtjfhcgolgabkkaaDoor
