/- The law UtfBack: its mathematics and its walk. -/
import Derived.Test.YtpcijjdlppoblaaGreatDoorUtfD
import Derived.IntWalk
import Derived.Laws.IdiomStrings
namespace Go.Proofs.YtpcijjdlppoblaaGreatDoor
open Go.RowKit

theorem toList_app (a b : ByteArray) : (a ++ b).data.toList = a.data.toList ++ b.data.toList := by simp

theorem back_put {r : Int} (h : srcB r = true) (a b : ByteArray) : nxtC (a ++ putA r ++ b) a.size = r ∧ nxtN (a ++ putA r ++ b) a.size = (putA r).size := by
  obtain ⟨e, s⟩ := src_nat h
  have hp := enc_pos r.toNat
  have hd : (a ++ putA r ++ b).data.toList.drop ((a.size : Nat) : Int).toNat = enc r.toNat ++ b.data.toList := by
    rw [toList_app, toList_app, Int.toNat_natCast, List.append_assoc, Lib.size_eq, List.drop_left]
    rw [show (putA r).data.toList = enc r.toNat by simp [putA, putL_yes h]]
  have hz : (0 : Int) ≤ a.size ∧ (a.size : Int) < (a ++ putA r ++ b).size := by
    rw [Lib.size_eq (a ++ putA r ++ b), toList_app, toList_app]
    simp only [List.length_append, ← Lib.size_eq, putA_size, putL_yes h]; omega
  have hn := nxt_is (is_enc s b.data.toList)
  refine ⟨?_, ?_⟩
  · unfold nxtC; rw [if_pos hz, hd, hn]; exact e
  · unfold nxtN; rw [if_pos hz, hd, hn, putA_size, putL_yes h]

/-- What Next answers: nothing, or a character that is put as it stands. -/
theorem next_cases (b : ByteArray) (i : Int) : (nxtC b i = 0 ∧ nxtN b i = 0) ∨
    (∃ k : Nat, i = k ∧ 1 ≤ nxtN b i ∧ nxtN b i ≤ 4 ∧ nxtN b i ≤ b.size - i ∧ (k : Int) < b.size ∧ putA (nxtC b i) = b.extract k (k + (nxtN b i).toNat)) := by
  by_cases h : 0 ≤ i ∧ i < b.size
  · obtain ⟨k, rfl⟩ := Int.eq_ofNat_of_zero_le h.1
    have eC : nxtC b k = (nxt (b.data.toList.drop k)).1 := by unfold nxtC; rw [if_pos h]; rfl
    have eN : nxtN b k = (nxt (b.data.toList.drop k)).2 := by unfold nxtN; rw [if_pos h]; rfl
    rw [eC, eN]
    rcases nxt_cases (b.data.toList.drop k) with ⟨c, hc, e⟩ | ⟨_, e⟩
    · right
      have hp := enc_pos c
      have hl := hc.len
      simp only [List.length_drop, ← Lib.size_eq] at hl
      rw [e]
      refine ⟨k, rfl, by dsimp only; omega, by dsimp only; omega, by dsimp only; omega, by omega, ?_⟩
      rw [Lib.extract_eq, Nat.add_sub_cancel_left]
      dsimp only
      rw [Int.toNat_natCast, putA, putL_yes hc.1, Int.toNat_natCast]
      obtain ⟨t, ht⟩ := hc.2
      rw [← ht, List.take_left]
    · left; rw [e]; exact ⟨rfl, rfl⟩
  · left; unfold nxtC nxtN; rw [if_neg h, if_neg h]; exact ⟨rfl, rfl⟩

theorem put_any' (r : Int) (w : World) : Calls Tryz.prog 76 #[.int .i64 r] w fun e w' => e = .returned (.string (putA r)) ∧ w' = w := (put_any r w).mono fun _ _ h => ⟨h.1, h.2.symm⟩

end Go.Proofs.YtpcijjdlppoblaaGreatDoor

/- The law UtfParts: its mathematics and its walk. -/
namespace Go.Proofs.YtpcijjdlppoblaaGreatDoor
open Go.RowKit

theorem bad_of (s : ByteArray) (v : Int) (hs : s.size ≤ 1000000000) (h : badI s.data.toList = v) (w : World) :
    Calls Tryz.prog 37 #[.string s] w fun e w' => e = .returned (.int .i64 v) ∧ Below w.heap.size w w' := by rw [← h]; exact bad_any s hs w

theorem badI_all {l : List UInt8} (h : thru l = l.length) : badI l = -1 := by rw [badI, if_pos h]
theorem badI_at {l : List UInt8} (h : thru l ≠ l.length) : badI l = thru l := by rw [badI, if_neg h]
theorem mayB_all {l : List UInt8} (h : thru l = l.length) : mayB l = true := by rw [mayB, badI_all h]; rfl
theorem mayB_at {l : List UInt8} (h : thru l ≠ l.length) : mayB l = false := by rw [mayB, badI_at h]; simp

/-- Where the sum of both stops, if the first stops ahead of its end. -/
theorem thru_stay {l : List UInt8} (t : List UInt8) (h : thru l + 3 < l.length) : thru (l ++ t) = thru l := by
  rw [thru_more]
  have h0 := thru_end l
  have := nxt_stay h0 (by simp; omega) t
  rw [thru_stop this]; rfl

end Go.Proofs.YtpcijjdlppoblaaGreatDoor

/- The law UtfOne: its mathematics and its walk. -/
namespace Go.Proofs.YtpcijjdlppoblaaGreatDoor
open Go.RowKit

theorem push_bytes : ∀ (ns : List Int) (s : ByteArray), (ns.foldl (fun r n => r.push (UInt8.ofNat n.toNat)) s) = ⟨s.data ++ (ns.map fun n => UInt8.ofNat n.toNat).toArray⟩ := by
  intro ns
  induction ns with
  | nil => intro s; simp
  | cons n ns ih => intro s; rw [List.foldl_cons, ih]; simp [ByteArray.push]

/-- '[]byte{..}' made into a string. -/
theorem conv_bytes (w : World) (ns : List Int) : (convert 82 9 (.slice (some ⟨w.heap.size, 0, none⟩) ns.length ns.length)).run Tryz.prog (w.alloc (.cells (ns.map (Value.int .u8)).toArray 5)) =
    .ok (.string ⟨(ns.map fun n => UInt8.ofNat n.toNat).toArray⟩) (w.alloc (.cells (ns.map (Value.int .u8)).toArray 5)) := by
  rw [run_convert_bytes_string _ _ _ 5 _ _ _ Tryz.underlying82 Tryz.underlying5 Tryz.underlying9]
  have hl := run_loadCells_list (P := Tryz.prog) (w.alloc (.cells (ns.map (Value.int .u8)).toArray 5)) ⟨w.heap.size, 0, none⟩ (ns.map (Value.int .u8)) (fun j v hj => by
    have := World.cell?_alloc_mark w (ns.map (Value.int .u8)).toArray 5 (0, 0) j
    have ea : (⟨w.heap.size, 0, none⟩ : Addr).add j = ⟨w.heap.size, j, none⟩ := by unfold Addr.add; split <;> simp_all
    rw [ea, this]; simpa using hj)
  rw [List.length_map] at hl
  rw [run_bytesToString _ _ _ _ ns hl, push_bytes]
  rw [show (ByteArray.empty).data = #[] from rfl, Array.empty_append]

theorem conv1 (w : World) (a : Int) : (convert 82 9 (.slice (some ⟨w.heap.size, 0, none⟩) 1 1)).run Tryz.prog (w.alloc (.cells #[.int .u8 a] 5)) =
    .ok (.string ⟨#[UInt8.ofNat a.toNat]⟩) (w.alloc (.cells #[.int .u8 a] 5)) := conv_bytes w [a]
theorem conv2 (w : World) (a b : Int) : (convert 82 9 (.slice (some ⟨w.heap.size, 0, none⟩) 2 2)).run Tryz.prog (w.alloc (.cells #[.int .u8 a, .int .u8 b] 5)) =
    .ok (.string ⟨#[UInt8.ofNat a.toNat, UInt8.ofNat b.toNat]⟩) (w.alloc (.cells #[.int .u8 a, .int .u8 b] 5)) := conv_bytes w [a, b]
theorem conv3 (w : World) (a b c : Int) : (convert 82 9 (.slice (some ⟨w.heap.size, 0, none⟩) 3 3)).run Tryz.prog (w.alloc (.cells #[.int .u8 a, .int .u8 b, .int .u8 c] 5)) =
    .ok (.string ⟨#[UInt8.ofNat a.toNat, UInt8.ofNat b.toNat, UInt8.ofNat c.toNat]⟩) (w.alloc (.cells #[.int .u8 a, .int .u8 b, .int .u8 c] 5)) := conv_bytes w [a, b, c]
theorem conv4 (w : World) (a b c d : Int) : (convert 82 9 (.slice (some ⟨w.heap.size, 0, none⟩) 4 4)).run Tryz.prog (w.alloc (.cells #[.int .u8 a, .int .u8 b, .int .u8 c, .int .u8 d] 5)) =
    .ok (.string ⟨#[UInt8.ofNat a.toNat, UInt8.ofNat b.toNat, UInt8.ofNat c.toNat, UInt8.ofNat d.toNat]⟩) (w.alloc (.cells #[.int .u8 a, .int .u8 b, .int .u8 c, .int .u8 d] 5)) := conv_bytes w [a, b, c, d]
attribute [local go_sem] conv1 conv2 conv3 conv4

theorem is_head {c : UInt8} {t : List UInt8} {d : Nat} (h : Is (c :: t) d) :
    (d < 128 ∧ c.toNat = d ∧ (enc d).length = 1) ∨ (128 ≤ d ∧ 194 ≤ c.toNat ∧ c.toNat ≤ 244 ∧ 2 ≤ (enc d).length ∧ (enc d).length ≤ 4) := by
  obtain ⟨hs, u, hu⟩ := h
  rw [srcB_iff] at hs
  have tt : ∀ n : Nat, n < 256 → (UInt8.ofNat n).toNat = n := fun n h => toNat_ofNat h
  have hp := enc_pos d
  rw [enc_len]
  by_cases h1 : d < 128
  · left
    rw [enc1 h1] at hu
    obtain ⟨rfl, -⟩ := List.cons.inj hu
    exact ⟨h1, tt _ (by omega), by rw [if_pos h1]⟩
  · right
    by_cases h2 : d < 2048
    · rw [enc2 (by omega) h2] at hu
      obtain ⟨rfl, -⟩ := List.cons.inj hu
      rw [tt _ (by omega), if_neg h1, if_pos h2]; omega
    · by_cases h3 : d < 65536
      · rw [enc3 (by omega) h3] at hu
        obtain ⟨rfl, -⟩ := List.cons.inj hu
        rw [tt _ (by omega), if_neg h1, if_neg h2, if_pos h3]; omega
      · rw [enc4 (by omega)] at hu
        obtain ⟨rfl, -⟩ := List.cons.inj hu
        rw [tt _ (by omega), if_neg h1, if_neg h2, if_neg h3]; omega

theorem one_next (x : Int) (h0 : 0 ≤ x) (h1 : x < 256) (s : ByteArray) :
    (srcB x = true ∧ x < 128 ∧ nxtC (⟨#[UInt8.ofNat x.toNat]⟩ ++ s) 0 = x ∧ nxtN (⟨#[UInt8.ofNat x.toNat]⟩ ++ s) 0 = 1) ∨
    (¬ (srcB x = true ∧ x < 128) ∧ nxtC (⟨#[UInt8.ofNat x.toNat]⟩ ++ s) 0 = 0 ∧ nxtN (⟨#[UInt8.ofNat x.toNat]⟩ ++ s) 0 = 0) ∨
    (194 ≤ x ∧ x ≤ 244 ∧ 128 ≤ nxtC (⟨#[UInt8.ofNat x.toNat]⟩ ++ s) 0 ∧ 2 ≤ nxtN (⟨#[UInt8.ofNat x.toNat]⟩ ++ s) 0 ∧ nxtN (⟨#[UInt8.ofNat x.toNat]⟩ ++ s) 0 ≤ 4) := by
  have hl : ((⟨#[UInt8.ofNat x.toNat]⟩ : ByteArray) ++ s).data.toList = UInt8.ofNat x.toNat :: s.data.toList := by rw [toList_app]; rfl
  have hz : (0 : Int) ≤ 0 ∧ (0 : Int) < ((⟨#[UInt8.ofNat x.toNat]⟩ : ByteArray) ++ s).size := by rw [Lib.size_eq, hl]; simp
  have hx : (UInt8.ofNat x.toNat).toNat = x.toNat := toNat_ofNat (by omega)
  unfold nxtC nxtN
  rw [if_pos hz, if_pos hz, hl]
  rw [show (0 : Int).toNat = 0 from rfl, List.drop_zero]
  rcases nxt_cases (UInt8.ofNat x.toNat :: s.data.toList) with ⟨d, hd, e⟩ | ⟨hn, e⟩
  · rw [e]
    rcases is_head hd with ⟨a, b, c⟩ | ⟨a, b, c, f, g⟩
    · left
      have hxd : x = (d : Int) := by omega
      exact ⟨by rw [hxd]; exact hd.1, by omega, hxd.symm, by dsimp only; omega⟩
    · right; right
      dsimp only; omega
  · right; left
    rw [e]
    refine ⟨fun ⟨hs, h128⟩ => ?_, rfl, rfl⟩
    obtain ⟨n, sn⟩ := src_nat hs
    refine hn x.toNat ⟨sn, ?_⟩
    rw [enc1 (by omega)]
    exact ⟨s.data.toList, rfl⟩

theorem plain_iff (x : Int) : (srcB x = true ∧ x < 128) ↔ (x = 9 ∨ x = 10 ∨ x = 13 ∨ (32 ≤ x ∧ x < 128)) := by
  rw [srcB_iff]; omega

end Go.Proofs.YtpcijjdlppoblaaGreatDoor
