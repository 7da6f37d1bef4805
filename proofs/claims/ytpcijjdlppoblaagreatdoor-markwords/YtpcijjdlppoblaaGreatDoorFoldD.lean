/- Small laws of worlds; string([]byte{..}); the document's own answers for layer 2 (copperplateref02): is, Put, guess, Next. For seats that hold Next alone. -/
import Derived.Test.YtpcijjdlppoblaaGreatDoorUtfD
import Derived.IntWalk
import Derived.Laws.IdiomStrings
import Derived.Lib.Join
import Derived.Test.YtpcijjdlppoblaaGreatDoorTokR
import Derived.WalkMore
import Derived.Lib.AppendStr
import Derived.OneCell
import Derived.OwnWalk
import Derived.Deep.LoopGhost
import Derived.Laws.Rows
import Derived.RangeFuncBox
import Derived.RangeFuncFrom
import Derived.RangeFuncNested
import Derived.RangeFuncBound
import Derived.RangeFuncCalls
import Derived.RangeFuncLeaves
import Derived.Shelf.Abstract
import Derived.Shelf.RegionOpen
import Derived.OwnWalkIn
import Derived.TacticsInMore
import Derived.LoopNIn
import Derived.LoopIn
import Derived.Maps.AppendAt
import Derived.StillTailTactics
namespace Go.Proofs.YtpcijjdlppoblaaGreatDoor.Fo
open Go.RowKit

theorem bel_trans {a b c : World} (h : Below a.heap.size a b) (k : Below b.heap.size b c) : Below a.heap.size a c := h.trans (k.mono h.size)
theorem bel_alloc {a b : World} (h : Below a.heap.size a b) (o : Obj) : Below a.heap.size a (b.alloc o) := h.alloc h.size o
theorem putA_list (r : Int) : (putA r).toList = putL r := by simp [putA, ByteArray.toList_eq]
theorem putA_no {r : Int} (h : srcB r = false) : putA r = ⟨#[]⟩ := by simp [putA, putL_no h]
theorem nxtN_at (s : ByteArray) (k : Nat) (hk : k ≤ s.size) : nxtN s k = ((nxt (s.data.toList.drop k)).2 : Int) := by
  unfold nxtN
  by_cases h : k < s.size
  · simp [h]
  · have e : s.data.toList.drop k = [] := by apply List.drop_eq_nil_of_le; rw [← Lib.size_eq]; omega
    rw [e, nxt_nil, if_neg (by omega)]; rfl

theorem push_bytes : ∀ (ns : List Int) (s : ByteArray), (ns.foldl (fun r n => r.push (UInt8.ofNat n.toNat)) s) = ⟨s.data ++ (ns.map fun n => UInt8.ofNat n.toNat).toArray⟩ := by
  intro ns
  induction ns with
  | nil => intro s; simp
  | cons n ns ih => intro s; rw [List.foldl_cons, ih]; simp [ByteArray.push]

/-- '[]byte{..}' made into a string. -/
theorem conv_bytes (w : World) (ns : List Int) : (convert 82 9 (.slice (some ⟨w.heap.size, 0, none⟩) ns.length ns.length)).run Tryz.prog (w.alloc (.cells (ns.map (Value.int .u8)).toArray 5)) =
    .ok (.string ⟨(ns.map fun n => UInt8.ofNat n.toNat).toArray⟩) (w.alloc (.cells (ns.map (Value.int .u8)).toArray 5)) := by
  rw [run_convert_bytes_string _ _ _ 5 _ _ _ Tryz.underlying82 Tryz.underlying5 Tryz.underlying9]
  have hl := run_loadCells_list (P := Tryz.prog) (w.alloc (.cells (ns.map (Value.int .u8)).toArray 5)) ⟨w.heap.size, 0, none⟩ (ns.map (Value.int .u8)) (fun j v hj => by
    have := World.cell?_alloc_mark w (ns.map (Value.int .u8)).toArray 5 (0, 0) j
    have ea : (⟨w.heap.size, 0, none⟩ : Addr).add j = ⟨w.heap.size, j, none⟩ := by unfold Addr.add; split <;> simp_all
    rw [ea, this]; simpa using hj)
  rw [List.length_map] at hl
  rw [run_bytesToString _ _ _ _ ns hl, push_bytes]
  rw [show (ByteArray.empty).data = #[] from rfl, Array.empty_append]

theorem conv1 (w : World) (a : Int) : (convert 82 9 (.slice (some ⟨w.heap.size, 0, none⟩) 1 1)).run Tryz.prog (w.alloc (.cells #[.int .u8 a] 5)) =
    .ok (.string ⟨#[UInt8.ofNat a.toNat]⟩) (w.alloc (.cells #[.int .u8 a] 5)) := conv_bytes w [a]
theorem conv2 (w : World) (a b : Int) : (convert 82 9 (.slice (some ⟨w.heap.size, 0, none⟩) 2 2)).run Tryz.prog (w.alloc (.cells #[.int .u8 a, .int .u8 b] 5)) =
    .ok (.string ⟨#[UInt8.ofNat a.toNat, UInt8.ofNat b.toNat]⟩) (w.alloc (.cells #[.int .u8 a, .int .u8 b] 5)) := conv_bytes w [a, b]
theorem conv3 (w : World) (a b c : Int) : (convert 82 9 (.slice (some ⟨w.heap.size, 0, none⟩) 3 3)).run Tryz.prog (w.alloc (.cells #[.int .u8 a, .int .u8 b, .int .u8 c] 5)) =
    .ok (.string ⟨#[UInt8.ofNat a.toNat, UInt8.ofNat b.toNat, UInt8.ofNat c.toNat]⟩) (w.alloc (.cells #[.int .u8 a, .int .u8 b, .int .u8 c] 5)) := conv_bytes w [a, b, c]
theorem conv4 (w : World) (a b c d : Int) : (convert 82 9 (.slice (some ⟨w.heap.size, 0, none⟩) 4 4)).run Tryz.prog (w.alloc (.cells #[.int .u8 a, .int .u8 b, .int .u8 c, .int .u8 d] 5)) =
    .ok (.string ⟨#[UInt8.ofNat a.toNat, UInt8.ofNat b.toNat, UInt8.ofNat c.toNat, UInt8.ofNat d.toNat]⟩) (w.alloc (.cells #[.int .u8 a, .int .u8 b, .int .u8 c, .int .u8 d] 5)) := conv_bytes w [a, b, c, d]
attribute [local go_sem] conv1 conv2 conv3 conv4

set_option maxHeartbeats 1000000 in
theorem rsrc_any (r : Int) (w : World) :
    Calls Tryz.prog 115 #[.int .i64 r] w fun e w' => e = .returned (.bool (srcB r)) ∧ w = w' := by
  by_cases h9 : r = 9
  · subst h9
    go_enter Tryz.func115, Tryz.ntmps115
    go_wp2
    go_ret
    exact ⟨rfl, rfl⟩
  by_cases h10 : r = 10
  · subst h10
    go_enter Tryz.func115, Tryz.ntmps115
    go_wp2
    go_ret
    exact ⟨rfl, rfl⟩
  by_cases h13 : r = 13
  · subst h13
    go_enter Tryz.func115, Tryz.ntmps115
    go_wp2
    go_ret
    exact ⟨rfl, rfl⟩
  have e9 : (r == 9) = false := by simp [h9]
  have e10 : (r == 10) = false := by simp [h10]
  have e13 : (r == 13) = false := by simp [h13]
  by_cases h1 : 32 ≤ r <;> by_cases h2 : r ≤ 1114111 <;> by_cases h3 : r < 55296 <;> by_cases h4 : 57343 < r
  all_goals
    go_enter Tryz.func115, Tryz.ntmps115
    go_wp2
    go_ret
    refine ⟨?_, rfl⟩
    have hh : srcB r = (decide (32 ≤ r) && decide (r ≤ 1114111) && (decide (r < 55296) || decide (57343 < r))) := by
      simp only [srcB, h9, h10, h13, false_or]
      rw [Bool.eq_iff_iff]; simp; omega
    rw [hh]; simp [h1, h2, h3, h4]

set_option maxHeartbeats 1000000 in
theorem rput_any (r : Int) (w : World) :
    Calls Tryz.prog 101 #[.int .i64 r] w fun e w' => e = .returned (.string (putA r)) ∧ Below w.heap.size w w' := by
  cases h : srcB r
  · have e1 : putA r = ⟨#[]⟩ := putA_no h
    rw [e1]; clear e1
    go_enter Tryz.func101, Tryz.ntmps101
    go_wp2_with (go_at_call 115; refine (rsrc_any _ _).mono ?_; rintro e w' ⟨rfl, rfl⟩)
    go_ret
    exact ⟨rfl, Below.refl _ _⟩
  · have hr := (srcB_iff r).1 h
    have h0 : 0 ≤ r := by omega
    have h1 : r ≤ 1114111 := by omega
    have e1 : putA r = ⟨(enc r.toNat).toArray⟩ := by rw [putA, putL_yes h]
    have E := Lib.hid e1
    clear hr e1
    by_cases c1 : r < 128
    · skip
      go_enter Tryz.func101, Tryz.ntmps101
      go_wp2_with (go_at_call 115; refine (rsrc_any _ _).mono ?_; rintro e w' ⟨rfl, rfl⟩)
      go_ret
      refine ⟨?_, (Below.refl _ _).alloc (Nat.le_refl _) _⟩
      rw [E.out, enc1 (by omega)]
      rfl
    · by_cases c2 : r < 2048
      · skip
        go_enter Tryz.func101, Tryz.ntmps101
        go_wp2_with (go_at_call 115; refine (rsrc_any _ _).mono ?_; rintro e w' ⟨rfl, rfl⟩)
        go_ret
        refine ⟨?_, (Below.refl _ _).alloc (Nat.le_refl _) _⟩
        rw [E.out, enc2 (by omega) (by omega), show 192 + r.toNat / 64 = (192 + r / 64).toNat by omega, show 128 + r.toNat % 64 = (128 + r % 64).toNat by omega]
        rfl
      · by_cases c3 : r < 65536
        · skip
          go_enter Tryz.func101, Tryz.ntmps101
          go_wp2_with (go_at_call 115; refine (rsrc_any _ _).mono ?_; rintro e w' ⟨rfl, rfl⟩)
          go_ret
          refine ⟨?_, (Below.refl _ _).alloc (Nat.le_refl _) _⟩
          rw [E.out, enc3 (by omega) (by omega), show 224 + r.toNat / 4096 = (224 + r / 4096).toNat by omega, show 128 + r.toNat / 64 % 64 = (128 + r / 64 % 64).toNat by omega, show 128 + r.toNat % 64 = (128 + r % 64).toNat by omega]
          rfl
        · skip
          go_enter Tryz.func101, Tryz.ntmps101
          go_wp2_with (go_at_call 115; refine (rsrc_any _ _).mono ?_; rintro e w' ⟨rfl, rfl⟩)
          go_ret
          refine ⟨?_, (Below.refl _ _).alloc (Nat.le_refl _) _⟩
          rw [E.out, enc4 (by omega), show 240 + r.toNat / 262144 = (240 + r / 262144).toNat by omega, show 128 + r.toNat / 4096 % 64 = (128 + r / 4096 % 64).toNat by omega, show 128 + r.toNat / 64 % 64 = (128 + r / 64 % 64).toNat by omega, show 128 + r.toNat % 64 = (128 + r % 64).toNat by omega]
          rfl

/-- The byte of l at place k, as a number. -/
def byt (l : List UInt8) (k : Nat) : Nat := (l.getD k 0).toNat
theorem byt_lt (l : List UInt8) (k : Nat) : byt l k < 256 := UInt8.toNat_lt _
theorem byt_at (s : ByteArray) (k : Nat) (h : k < s.size) : ((s[k]'h).toNat : Int) = byt s.data.toList k := by
  have h' : k < s.data.toList.length := by rw [← Lib.size_eq]; exact h
  unfold byt
  simp only [List.getD_eq_getElem?_getD, List.getElem?_eq_getElem h', Option.getD_some]
  rfl

/-- The character that n bytes seem to be. -/
def gs (l : List UInt8) : Nat → Nat
  | 1 => byt l 0
  | 2 => 64 * (byt l 0 % 32) + byt l 1 % 64
  | 3 => 64 * (64 * (byt l 0 % 16) + byt l 1 % 64) + byt l 2 % 64
  | 4 => 64 * (64 * (64 * (byt l 0 % 8) + byt l 1 % 64) + byt l 2 % 64) + byt l 3 % 64
  | _ => 0

set_option maxHeartbeats 1000000 in
theorem guess_any (s : ByteArray) (n : Nat) (h1 : 1 ≤ n) (h4 : n ≤ 4) (hn : n ≤ s.size) (w : World) :
    Calls Tryz.prog 100 #[.string s, .int .i64 n] w fun e w' => e = .returned (.int .i64 (gs s.data.toList n)) ∧ w = w' := by
  have b0 := byt_at s 0 (by omega)
  have l0 := byt_lt s.data.toList 0
  have l1 := byt_lt s.data.toList 1
  have l2 := byt_lt s.data.toList 2
  have l3 := byt_lt s.data.toList 3
  match n, h1, h4, hn with
  | 1, _, _, _ =>
    go_enter Tryz.func100, Tryz.ntmps100
    go_wp2
    go_ret
    exact ⟨rfl, rfl⟩
  | 2, _, _, hn =>
    have b1 := byt_at s 1 (by omega)
    have hg : ((gs s.data.toList 2 : Nat) : Int) = 64 * ((byt s.data.toList 0 : Int) % 32) + (byt s.data.toList 1 : Int) % 64 := by simp only [gs]; omega
    have HG := Lib.hid hg
    clear hg
    generalize byt s.data.toList 0 = x0 at *
    generalize byt s.data.toList 1 = x1 at *
    have hn' : 1 < s.size := by omega
    go_enter Tryz.func100, Tryz.ntmps100
    go_wp2
    refine wp_loop_rounds 2 ?_
    rw [rounds_succ]
    go_wp2
    rw [rounds_succ]
    go_wp2
    go_ret
    refine ⟨?_, rfl⟩
    rw [HG.out]
    rfl
  | 3, _, _, hn =>
    have b1 := byt_at s 1 (by omega)
    have b2 := byt_at s 2 (by omega)
    have hg : ((gs s.data.toList 3 : Nat) : Int) = 64 * (64 * ((byt s.data.toList 0 : Int) % 16) + (byt s.data.toList 1 : Int) % 64) + (byt s.data.toList 2 : Int) % 64 := by simp only [gs]; omega
    have HG := Lib.hid hg
    clear hg
    generalize byt s.data.toList 0 = x0 at *
    generalize byt s.data.toList 1 = x1 at *
    generalize byt s.data.toList 2 = x2 at *
    have hn' : 2 < s.size := by omega
    go_enter Tryz.func100, Tryz.ntmps100
    go_wp2
    refine wp_loop_rounds 3 ?_
    rw [rounds_succ]
    go_wp2
    rw [rounds_succ]
    go_wp2
    rw [rounds_succ]
    go_wp2
    go_ret
    refine ⟨?_, rfl⟩
    rw [HG.out]
    rfl
  | 4, _, _, hn =>
    have b1 := byt_at s 1 (by omega)
    have b2 := byt_at s 2 (by omega)
    have b3 := byt_at s 3 (by omega)
    have hg : ((gs s.data.toList 4 : Nat) : Int) = 64 * (64 * (64 * ((byt s.data.toList 0 : Int) % 8) + (byt s.data.toList 1 : Int) % 64) + (byt s.data.toList 2 : Int) % 64) + (byt s.data.toList 3 : Int) % 64 := by simp only [gs]; omega
    have HG := Lib.hid hg
    clear hg
    generalize byt s.data.toList 0 = x0 at *
    generalize byt s.data.toList 1 = x1 at *
    generalize byt s.data.toList 2 = x2 at *
    generalize byt s.data.toList 3 = x3 at *
    have hn' : 3 < s.size := by omega
    go_enter Tryz.func100, Tryz.ntmps100
    go_wp2
    refine wp_loop_rounds 4 ?_
    rw [rounds_succ]
    go_wp2
    rw [rounds_succ]
    go_wp2
    rw [rounds_succ]
    go_wp2
    rw [rounds_succ]
    go_wp2
    go_ret
    refine ⟨?_, rfl⟩
    rw [HG.out]
    rfl

/-- None of the first m - 1 numbers of bytes is a character's. -/
def NoneTo (l : List UInt8) (m : Nat) : Prop := ∀ j, 1 ≤ j → j < m → j ≤ l.length → putL (gs l j : Nat) ≠ l.take j

theorem byt_cons (a : UInt8) (l : List UInt8) : byt (a :: l) 0 = a.toNat := rfl
theorem byt_succ (a : UInt8) (l : List UInt8) (k : Nat) : byt (a :: l) (k + 1) = byt l k := rfl

/-- The bytes of a character seem to be it. -/
theorem gs_enc (c : Nat) (h : srcB c = true) (t : List UInt8) : gs (enc c ++ t) (enc c).length = c := by
  rw [srcB_iff] at h
  have tt : ∀ n : Nat, n < 256 → (UInt8.ofNat n).toNat = n := fun n h => toNat_ofNat h
  by_cases h1 : c < 128
  · rw [enc1 h1]
    show byt (UInt8.ofNat c :: t) 0 = c
    rw [byt_cons, tt _ (by omega)]
  · by_cases h2 : c < 2048
    · rw [enc2 (by omega) h2]
      show 64 * ((UInt8.ofNat (192 + c / 64)).toNat % 32) + (UInt8.ofNat (128 + c % 64)).toNat % 64 = c
      rw [tt _ (by omega), tt _ (by omega)]; omega
    · by_cases h3 : c < 65536
      · rw [enc3 (by omega) h3]
        show 64 * (64 * ((UInt8.ofNat (224 + c / 4096)).toNat % 16) + (UInt8.ofNat (128 + c / 64 % 64)).toNat % 64) + (UInt8.ofNat (128 + c % 64)).toNat % 64 = c
        rw [tt _ (by omega), tt _ (by omega), tt _ (by omega)]; omega
      · rw [enc4 (by omega)]
        show 64 * (64 * (64 * ((UInt8.ofNat (240 + c / 262144)).toNat % 8) + (UInt8.ofNat (128 + c / 4096 % 64)).toNat % 64) + (UInt8.ofNat (128 + c / 64 % 64)).toNat % 64) + (UInt8.ofNat (128 + c % 64)).toNat % 64 = c
        rw [tt _ (by omega), tt _ (by omega), tt _ (by omega), tt _ (by omega)]; omega

theorem found_is {l : List UInt8} {k g : Nat} (h1 : 1 ≤ k) (hk : k ≤ l.length) (h : putL (g : Nat) = l.take k) : nxt l = (g, k) := by
  have hs : srcB (g : Nat) = true := by
    by_cases hs : srcB (g : Nat) = true
    · exact hs
    · have : (l.take k).length = 0 := by rw [← h]; simp [putL, hs]
      rw [List.length_take] at this; omega
  rw [putL_yes hs, Int.toNat_natCast] at h
  have hl : (enc g).length = k := by rw [h]; simp; omega
  rw [nxt_is ⟨hs, by rw [h]; exact List.take_prefix _ _⟩, hl]
theorem noneTo_none {l : List UInt8} {m : Nat} (hm : 4 < m ∨ l.length < m) (h : NoneTo l m) : nxt l = (0, 0) := by
  refine nxt_none fun c hc => ?_
  have hp := enc_pos c
  have hl := hc.len
  refine h (enc c).length hp.1 (by omega) hl ?_
  obtain ⟨t, ht⟩ := hc.2
  rw [← ht, gs_enc c hc.1, List.take_left, putL_yes hc.1, Int.toNat_natCast]
theorem NoneTo.succ {l : List UInt8} {m : Nat} (h : NoneTo l m) (k : putL (gs l m : Nat) ≠ l.take m) : NoneTo l (m + 1) := by
  intro j j1 j2 j3
  by_cases e : j = m
  · subst e; exact k
  · exact h j j1 (by omega) j3
theorem NoneTo.one (l : List UInt8) : NoneTo l 1 := fun j j1 j2 _ => by omega

set_option maxHeartbeats 2000000 in
theorem rnext_any (s : ByteArray) (hs : s.size ≤ 1000000000) (i : Int) (w : World) :
    Calls Tryz.prog 77 #[.string s, .int .i64 i] w fun e w' => e = .returned (.tuple #[.int .i64 (nxtC s i), .int .i64 (nxtN s i)]) ∧ Below w.heap.size w w' := by
  by_cases h0 : 0 ≤ i
  · by_cases h1 : i < s.size
    · obtain ⟨k, rfl⟩ := Int.eq_ofNat_of_zero_le h0
      have hk : k < s.size := by omega
      obtain ⟨t, ht⟩ : ∃ t, s.extract k s.size = t := ⟨_, rfl⟩
      have hts : t.size = s.size - k := by rw [← ht]; simp
      have hl : t.data.toList = s.data.toList.drop k := by rw [← ht, Lib.extract_data]; apply List.take_of_length_le; simp
      have e1 : nxtC s k = (nxt t.data.toList).1 := by rw [hl]; unfold nxtC; rw [if_pos ⟨by omega, h1⟩]; rfl
      have e2 : nxtN s k = (nxt t.data.toList).2 := by rw [hl]; unfold nxtN; rw [if_pos ⟨by omega, h1⟩]; rfl
      have hlen : t.data.toList.length = s.size - k := by rw [← Lib.size_eq, hts]
      have htk : ∀ m : Nat, (s.extract k (k + m)).toList = t.data.toList.take m := by
        intro m; rw [Lib.extract_toList, hl, Nat.add_sub_cancel_left]
      have HTK := Lib.hid htk
      have HT := Lib.hid hts
      have HL := Lib.hid hlen
      rw [e1, e2]
      clear e1 e2 hl hts hlen htk
      have u1 : decide ((k : Int) < 0) = false := by simp
      have u2 : decide (s.size ≤ k) = false := by simp; omega
      go_enter Tryz.func77, Tryz.ntmps77
      go_wp2
      go_loopw [6] (fun n wr => ∃ m : Nat, 1 ≤ m ∧ m ≤ 5 ∧ n = .int .i64 m ∧ NoneTo t.data.toList m ∧ Below w.heap.size w wr) (fun n _ => 5 - (intOf n).toNat)
      case atStart => exact ⟨1, by omega, by omega, rfl, NoneTo.one _, Below.refl _ _⟩
      case round =>
        obtain ⟨m, m1, m5, rfl, hnone, hB⟩ := hrel
        by_cases hm : m ≤ 4
        · by_cases hm2 : m ≤ s.size - k
          · have hm3 : m ≤ t.size := by rw [HT.out]; exact hm2
            have hg : gs t.data.toList m ≤ 100000000 := by
              have := byt_lt t.data.toList 0; have := byt_lt t.data.toList 1; have := byt_lt t.data.toList 2; have := byt_lt t.data.toList 3
              match m, m1, hm with
              | 1, _, _ => simp only [gs]; omega
              | 2, _, _ => simp only [gs]; omega
              | 3, _, _ => simp only [gs]; omega
              | 4, _, _ => simp only [gs]; omega
            have s1 : (m : Int) ≤ (s.size : Int) - k := by omega
            go_wp2_with fail
            refine (guess_any t m m1 hm hm3 _).mono ?_; rintro e w' ⟨rfl, rfl⟩
            have hw1 : IntKind.i64.wrap ((k : Int) + m) = k + m := IntWalk.i64_in _ (by omega)
            have s2 : (0 : Int) ≤ k := by omega
            have s3 : (k : Int) ≤ k + m := by omega
            have s4 : (k : Int) + m ≤ s.size := by omega
            have s5 : ((k : Int) + m).toNat = k + m := by omega
            by_cases hq : putL (gs t.data.toList m : Nat) = t.data.toList.take m
            · have q1 : ((putA (gs t.data.toList m : Nat)).toList == (s.extract k (k + m)).toList) = true := by
                rw [HTK.out, putA_list, hq]; simp
              have hfin := found_is m1 (by rw [HL.out]; exact hm2) hq
              have HF := Lib.hid hfin
              clear hfin hq hnone
              go_wp2_with fail
              go_region_held3 (fun _ => True) (trivial) ((go_at_call 101; refine (rput_any _ _).mono ?_; rintro e w3 ⟨rfl, hq⟩))
              go_wp2
              go_ret2
              refine ⟨?_, ?_⟩
              · rw [HF.out]; rfl
              · exact bel_trans hB.drew hq
            · have q1 : ((putA (gs t.data.toList m : Nat)).toList == (s.extract k (k + m)).toList) = false := by
                rw [HTK.out, putA_list]; simpa using hq
              have hfin := hnone.succ hq
              clear hq hnone
              go_wp2_with fail
              go_region_held3 (fun _ => True) (trivial) ((go_at_call 101; refine (rput_any _ _).mono ?_; rintro e w3 ⟨rfl, hq⟩))
              go_wp2
              go_roundw
              case rel => exact ⟨m + 1, by omega, by omega, by go_num, hfin, bel_trans hB.drew hq⟩
              case measure => simp [intOf]; omega
          · have s1 : (s.size : Int) - k < m := by omega
            have hfin := noneTo_none (.inr (by rw [HL.out]; omega)) hnone
            have HF := Lib.hid hfin
            clear hfin hnone
            go_wp2
            go_ret2
            exact ⟨by rw [HF.out]; rfl, hB⟩
        · have s1 : (4 : Int) < m := by omega
          have hfin := noneTo_none (.inl (by omega)) hnone
          have HF := Lib.hid hfin
          clear hfin hnone
          go_wp2
          go_ret2
          exact ⟨by rw [HF.out]; rfl, hB⟩
    · have e1 : nxtC s i = 0 := by simp [nxtC, h1]
      have e2 : nxtN s i = 0 := by simp [nxtN, h1]
      rw [e1, e2]; clear e1 e2
      have h1' : (s.size : Int) ≤ i := by omega
      go_enter Tryz.func77, Tryz.ntmps77
      go_wp2
      go_ret2
      exact ⟨rfl, Below.refl _ _⟩
  · have e1 : nxtC s i = 0 := by simp [nxtC, h0]
    have e2 : nxtN s i = 0 := by simp [nxtN, h0]
    rw [e1, e2]; clear e1 e2
    have h1' : i < 0 := by omega
    go_enter Tryz.func77, Tryz.ntmps77
    go_wp2
    go_ret2
    exact ⟨rfl, Below.refl _ _⟩

theorem nxtN_bd (s : ByteArray) (k : Nat) (hk : k ≤ s.size) : ∃ m : Nat, nxtN s k = m ∧ (nxt (s.data.toList.drop k)).2 = m ∧ k + m ≤ s.size := by
  have hle := (nxt_le (s.data.toList.drop k)).1
  rw [List.length_drop, ← Lib.size_eq] at hle
  exact ⟨_, nxtN_at s k hk, rfl, by omega⟩

end Go.Proofs.YtpcijjdlppoblaaGreatDoor.Fo

/- Plain mathematics of layer 7: raw texts, lines, indents, folding. No program. -/
namespace Go.Proofs.YtpcijjdlppoblaaGreatDoor.Fo
set_option linter.unusedVariables false

/-! ### Raw texts -/
/-- Does p stand at place i of l? -/
def stB (l : List UInt8) (i : Int) (p : List UInt8) : Bool := decide (0 ≤ i ∧ i ≤ l.length) && p.isPrefixOf (l.drop i.toNat)
theorem stB_at {l : List UInt8} {k : Nat} (h : k ≤ l.length) (p : List UInt8) : stB l k p = p.isPrefixOf (l.drop k) := by
  unfold stB; rw [decide_eq_true (by omega), Bool.true_and]; rfl
theorem stB_out {l : List UInt8} {i : Int} (h : i < 0 ∨ (l.length : Int) < i) (p : List UInt8) : stB l i p = false := by
  unfold stB; rw [decide_eq_false (by omega), Bool.false_and]
theorem pre_take {p l : List UInt8} : p.isPrefixOf l = true ↔ l.take p.length = p := by
  rw [List.isPrefixOf_iff_prefix, List.prefix_iff_eq_take]; exact eq_comm
theorem pre_len {p l : List UInt8} (h : p.isPrefixOf l = true) : p.length ≤ l.length := (List.isPrefixOf_iff_prefix.1 h).length_le
theorem pre_cut {p l x : List UInt8} {n : Nat} (hp : p.length ≤ n) (hn : n ≤ l.length) : p.isPrefixOf (l.take n ++ x) = p.isPrefixOf l := by
  rw [Bool.eq_iff_iff, pre_take, pre_take, List.take_append_of_le_length (by rw [List.length_take]; omega), List.take_take, Nat.min_eq_left hp]
theorem stB_in {l : List UInt8} {i : Int} {p : List UInt8} (h : stB l i p = true) : 0 ≤ i ∧ i + p.length ≤ l.length := by
  unfold stB at h
  rw [Bool.and_eq_true, decide_eq_true_iff] at h
  have := pre_len h.2
  simp at this; omega

def q3 : List UInt8 := [34, 34, 34]
def b3 : List UInt8 := [92, 34, 34, 34]
theorem q3_len : q3.length = 3 := rfl
theorem b3_len : b3.length = 4 := rfl

/-- What stands next, that is no three quotes. -/
def pcR (l : List UInt8) : Option (List UInt8 × Nat) :=
  if b3.isPrefixOf l = true then some (q3, 4) else if (nxt l).2 = 0 then none else some (l.take (nxt l).2, (nxt l).2)
theorem pcR_b {l : List UInt8} (h : b3.isPrefixOf l = true) : pcR l = some (q3, 4) := by unfold pcR; rw [if_pos h]
theorem pcR_n {l : List UInt8} (h : b3.isPrefixOf l = false) (h0 : (nxt l).2 = 0) : pcR l = none := by unfold pcR; rw [if_neg (by simp [h]), if_pos h0]
theorem pcR_c {l : List UInt8} (h : b3.isPrefixOf l = false) (h0 : (nxt l).2 ≠ 0) : pcR l = some (l.take (nxt l).2, (nxt l).2) := by unfold pcR; rw [if_neg (by simp [h]), if_neg h0]
theorem pcR_bd {l t : List UInt8} {k : Nat} (h : pcR l = some (t, k)) : 1 ≤ k ∧ k ≤ l.length ∧ t.length ≤ k := by
  unfold pcR at h
  split at h
  · rename_i hb; cases h; have := pre_len hb; rw [b3_len] at this; exact ⟨by omega, this, by simp [q3]⟩
  · split at h
    · cases h
    · rename_i h0; cases h; have := nxt_le l; exact ⟨by omega, this.1, by simp; omega⟩

/-- A raw text, how many bytes it takes, and whether there is one. -/
structure Rw where
  v : List UInt8
  n : Nat
  b : Bool

/-- t and k bytes ahead of r. -/
def cmb (t : List UInt8) (k : Nat) (r : Rw) : Rw := ⟨if r.b = true then t ++ r.v else [], k + r.n, r.b⟩
theorem cmb_cmb (t u : List UInt8) (k m : Nat) (r : Rw) : cmb t k (cmb u m r) = cmb (t ++ u) (k + m) r := by
  unfold cmb; cases r.b <;> simp [Nat.add_assoc]

def rwF : Nat → List UInt8 → Rw
  | 0, _ => ⟨[], 0, false⟩
  | f + 1, l =>
    if q3.isPrefixOf l = true then ⟨[], 3, true⟩
    else match pcR l with
      | none => ⟨[], 0, false⟩
      | some (t, k) => cmb t k (rwF f (l.drop k))
/-- What is told behind the first three quotes. -/
def rwB (l : List UInt8) : Rw := rwF (l.length + 1) l
theorem rwF_more {f g : Nat} {l : List UInt8} (hf : l.length < f) (hg : l.length < g) : rwF f l = rwF g l := by
  induction f generalizing g l with
  | zero => omega
  | succ f ih =>
    cases g with
    | zero => omega
    | succ g =>
      unfold rwF
      split
      · rfl
      · cases hp : pcR l with
        | none => rfl
        | some q =>
          obtain ⟨t, k⟩ := q
          have := pcR_bd hp
          simp only
          rw [ih (g := g) (l := l.drop k) (by simp; omega) (by simp; omega)]
theorem rwB_q {l : List UInt8} (h : q3.isPrefixOf l = true) : rwB l = ⟨[], 3, true⟩ := by unfold rwB rwF; rw [if_pos h]
theorem rwB_n {l : List UInt8} (h : q3.isPrefixOf l = false) (hp : pcR l = none) : rwB l = ⟨[], 0, false⟩ := by unfold rwB rwF; rw [if_neg (by simp [h]), hp]
theorem rwB_s {l t : List UInt8} {k : Nat} (h : q3.isPrefixOf l = false) (hp : pcR l = some (t, k)) : rwB l = cmb t k (rwB (l.drop k)) := by
  have hb := pcR_bd hp
  have e : rwF l.length (l.drop k) = rwB (l.drop k) := rwF_more (by simp; omega) (by simp)
  conv => lhs; unfold rwB rwF
  rw [if_neg (by simp [h]), hp]
  simp only [e]

theorem rwB_bd (l : List UInt8) : (rwB l).n ≤ l.length ∧ ((rwB l).b = true → 3 ≤ (rwB l).n) ∧ (rwB l).v.length ≤ (rwB l).n ∧ ((rwB l).b = false → (rwB l).v = []) := by
  induction hn : l.length using Nat.strongRecOn generalizing l with
  | _ m ih =>
    subst hn
    cases h : q3.isPrefixOf l
    · cases hp : pcR l with
      | none => rw [rwB_n h hp]; simp
      | some r =>
        obtain ⟨t, k⟩ := r
        have hb := pcR_bd hp
        have := ih (l.drop k).length (by simp; omega) _ rfl
        rw [rwB_s h hp]
        obtain ⟨i1, i2, i3, i4⟩ := this
        simp at i1
        refine ⟨by simp only [cmb]; omega, fun hb' => ?_, ?_, fun hb' => ?_⟩
        · have := i2 hb'; simp only [cmb]; omega
        · simp only [cmb]; split <;> simp <;> omega
        · simp only [cmb] at hb' ⊢; rw [if_neg (by simp [hb'])]
    · rw [rwB_q h]; have := pre_len h; rw [q3_len] at this; simpa using this

/-- What ends is told so, whatever stands behind. -/
theorem rwB_stay {l : List UInt8} (hb : (rwB l).b = true) (x : List UInt8) : rwB (l.take (rwB l).n ++ x) = rwB l := by
  induction hn : l.length using Nat.strongRecOn generalizing l with
  | _ m ih =>
    subst hn
    have hbd := rwB_bd l
    cases h : q3.isPrefixOf l
    · cases hp : pcR l with
      | none => rw [rwB_n h hp] at hb; cases hb
      | some r =>
        obtain ⟨t, k⟩ := r
        have hk := pcR_bd hp
        have e := rwB_s h hp
        have hb2 : (rwB (l.drop k)).b = true := by rw [e] at hb; exact hb
        have hr := ih (l.drop k).length (by simp; omega) hb2 rfl
        have hd := rwB_bd (l.drop k)
        have h3 := hd.2.1 hb2
        have hn2 : (rwB l).n = k + (rwB (l.drop k)).n := by rw [e]; rfl
        have hle := hbd.1
        have hc1 : q3.isPrefixOf (l.take (rwB l).n ++ x) = false := by rw [pre_cut (by rw [q3_len]; omega) hle]; exact h
        have hc2 : b3.isPrefixOf (l.take (rwB l).n ++ x) = b3.isPrefixOf l := pre_cut (by rw [b3_len]; omega) hle
        have hdr : (l.take (rwB l).n ++ x).drop k = (l.drop k).take (rwB (l.drop k)).n ++ x := by
          rw [List.drop_append_of_le_length (by rw [List.length_take]; omega), List.drop_take, hn2, Nat.add_sub_cancel_left]
        have hp2 : pcR (l.take (rwB l).n ++ x) = some (t, k) := by
          cases hb3 : b3.isPrefixOf l
          · have h0 : (nxt l).2 ≠ 0 := by intro h0; rw [pcR_n hb3 h0] at hp; cases hp
            rw [pcR_c hb3 h0] at hp
            injection hp with hp; injection hp with ht hk2
            have hx : nxt (l.take (rwB l).n ++ x) = nxt l := by
              rcases nxt_cases l with ⟨c, hc, e1⟩ | ⟨_, e1⟩
              · rw [e1]
                rw [e1] at hk2
                refine nxt_is ⟨hc.1, ?_⟩
                refine List.IsPrefix.trans ?_ (List.prefix_append _ _)
                rw [List.prefix_take_iff]
                exact ⟨hc.2, by simp only at hk2; omega⟩
              · rw [e1] at h0; exact absurd rfl h0
            rw [pcR_c (by rw [hc2]; exact hb3) (by rw [hx]; exact h0), hx]
            congr 2
            rw [hk2, List.take_append_of_le_length (by rw [List.length_take]; omega), List.take_take, Nat.min_eq_left (by omega), ← ht, hk2]
          · rw [pcR_b (by rw [hc2]; exact hb3), ← hp, pcR_b hb3]
        rw [rwB_s hc1 hp2, hdr, hr, ← e]
    · have h3 := pre_len h
      rw [rwB_q h]
      rw [q3_len] at h3
      exact rwB_q (by rw [pre_cut (Nat.le_refl 3) h3]; exact h)
theorem rwB_end {l : List UInt8} (hb : (rwB l).b = true) : (l.take (rwB l).n).drop ((rwB l).n - 3) = q3 := by
  induction hn : l.length using Nat.strongRecOn generalizing l with
  | _ m ih =>
    subst hn
    cases h : q3.isPrefixOf l
    · cases hp : pcR l with
      | none => rw [rwB_n h hp] at hb; cases hb
      | some r =>
        obtain ⟨t, k⟩ := r
        have hk := pcR_bd hp
        have e := rwB_s h hp
        have hb2 : (rwB (l.drop k)).b = true := by rw [e] at hb; exact hb
        have hr := ih (l.drop k).length (by simp; omega) hb2 rfl
        have h3 := (rwB_bd (l.drop k)).2.1 hb2
        rw [e]
        show (l.take (k + (rwB (l.drop k)).n)).drop (k + (rwB (l.drop k)).n - 3) = q3
        rw [← hr, List.drop_take, List.drop_take, List.drop_drop]
        congr 1
        · omega
        · congr 1; omega
    · rw [rwB_q h]; exact pre_take.1 h

/-- What Raw answers: the place is i and n. -/
def rawA (l : List UInt8) (i : Int) : Rw := if stB l i q3 = true then ⟨(rwB (l.drop (i.toNat + 3))).v, 3 + (rwB (l.drop (i.toNat + 3))).n, (rwB (l.drop (i.toNat + 3))).b⟩ else ⟨[], 0, false⟩
theorem rawA_no {l : List UInt8} {i : Int} (h : stB l i q3 = false) : rawA l i = ⟨[], 0, false⟩ := by unfold rawA; rw [if_neg (by simp [h])]
theorem rawA_at {l : List UInt8} {k : Nat} (h : stB l k q3 = true) : rawA l k = ⟨(rwB (l.drop (k + 3))).v, 3 + (rwB (l.drop (k + 3))).n, (rwB (l.drop (k + 3))).b⟩ := by unfold rawA; rw [if_pos h]; rfl
theorem rawA_n (l : List UInt8) (i : Int) : (rawA l i).n ≤ l.length ∧ ((rawA l i).b = true → 0 ≤ i ∧ 6 ≤ (rawA l i).n ∧ stB l i q3 = true) ∧ (0 < (rawA l i).n → 0 ≤ i ∧ i + (rawA l i).n ≤ l.length) ∧ ((rawA l i).b = false → (rawA l i).v = []) ∧ (rawA l i).v.length ≤ l.length := by
  cases h : stB l i q3
  · rw [rawA_no h]; simp
  · have hi := stB_in h
    rw [q3_len] at hi
    obtain ⟨k, rfl⟩ := Int.eq_ofNat_of_zero_le hi.1
    rw [rawA_at h]
    have hb := rwB_bd (l.drop (k + 3))
    simp at hb
    refine ⟨by dsimp only; omega, fun h2 => ⟨by omega, ?_, rfl⟩, fun _ => ⟨by omega, by dsimp only; omega⟩, fun h2 => hb.2.2.2 h2, by dsimp only; omega⟩
    have := hb.2.1 h2; dsimp only; omega
/-- A raw text alone, and whatever stands behind. -/
theorem rawA_stay {l : List UInt8} {k : Nat} (hb : (rawA l k).b = true) (x : List UInt8) : rawA ((l.drop k).take (rawA l k).n ++ x) 0 = rawA l k := by
  have h := ((rawA_n l k).2.1 hb).2.2
  have hi := stB_in h
  rw [q3_len] at hi
  rw [rawA_at h] at hb ⊢
  have hd := rwB_bd (l.drop (k + 3))
  simp only [List.length_drop] at hd
  have hq : q3.isPrefixOf (l.drop k) = true := by rw [← stB_at (by omega)]; exact h
  have hs : stB ((l.drop k).take (3 + (rwB (l.drop (k + 3))).n) ++ x) (0 : Nat) q3 = true := by
    rw [stB_at (by omega), List.drop_zero, pre_cut (by rw [q3_len]; omega) (by simp; omega)]; exact hq
  have hdr : ((l.drop k).take (3 + (rwB (l.drop (k + 3))).n) ++ x).drop (0 + 3) = (l.drop (k + 3)).take (rwB (l.drop (k + 3))).n ++ x := by
    rw [Nat.zero_add, List.drop_append_of_le_length (by rw [List.length_take, List.length_drop]; omega), List.drop_take, List.drop_drop, Nat.add_sub_cancel_left]
  have := rawA_at hs
  rw [hdr, rwB_stay hb] at this
  exact this
theorem rawA_ends {l : List UInt8} {k : Nat} (hb : (rawA l k).b = true) : ((l.drop k).take (rawA l k).n).take 3 = q3 ∧ ((l.drop k).take (rawA l k).n).drop ((rawA l k).n - 3) = q3 := by
  have h := ((rawA_n l k).2.1 hb).2.2
  have hi := stB_in h
  rw [q3_len] at hi
  rw [rawA_at h] at hb ⊢
  have h3 := (rwB_bd (l.drop (k + 3))).2.1 hb
  have hq : q3.isPrefixOf (l.drop k) = true := by rw [← stB_at (by omega)]; exact h
  refine ⟨?_, ?_⟩
  · rw [List.take_take, Nat.min_eq_left (by dsimp only; omega)]; exact pre_take.1 hq
  · have := rwB_end hb
    rw [← this, List.drop_take, List.drop_take, List.drop_drop, List.drop_drop]
    dsimp only
    congr 1
    · omega
    · congr 1; omega
end Go.Proofs.YtpcijjdlppoblaaGreatDoor.Fo

/- Plain mathematics of layer 7: lines, indents, folding. No program. -/
namespace Go.Proofs.YtpcijjdlppoblaaGreatDoor.Fo
set_option linter.unusedVariables false

/-! ### Lines -/
/-- A byte ahead of the first line. -/
def addF (c : UInt8) : List (List UInt8) → List (List UInt8)
  | [] => [[c]]
  | h :: r => (c :: h) :: r
/-- The lines of l; p: a byte 13 stands ahead of it. -/
def lnA : Bool → List UInt8 → List (List UInt8)
  | _, [] => [[]]
  | p, c :: t => if c = 10 then (if p = true then lnA false t else [] :: lnA false t) else if c = 13 then [] :: lnA true t else addF c (lnA false t)
def lns (l : List UInt8) : List (List UInt8) := lnA false l
def skp : List UInt8 → List UInt8
  | [] => []
  | c :: t => if c = 10 then t else c :: t
def noE (l : List UInt8) : Prop := ∀ b ∈ l, b ≠ 10 ∧ b ≠ 13

theorem lnA_10 (t : List UInt8) : lnA false (10 :: t) = [] :: lnA false t := rfl
theorem lnA_s10 (t : List UInt8) : lnA true (10 :: t) = lnA false t := rfl
theorem lnA_13 (p : Bool) (t : List UInt8) : lnA p (13 :: t) = [] :: lnA true t := by cases p <;> rfl
theorem lnA_c {c : UInt8} (h1 : c ≠ 10) (h2 : c ≠ 13) (p : Bool) (t : List UInt8) : lnA p (c :: t) = addF c (lnA false t) := by
  conv => lhs; unfold lnA
  rw [if_neg h1, if_neg h2]
theorem skp_c {c : UInt8} (h : c ≠ 10) (t : List UInt8) : skp (c :: t) = c :: t := by simp [skp, h]
theorem lnA_true (t : List UInt8) : lnA true t = lns (skp t) := by
  cases t with
  | nil => rfl
  | cons c t =>
    by_cases h : c = 10
    · subst h; simp [skp, lnA_s10, lns]
    · rw [skp_c h]
      by_cases h2 : c = 13
      · subst h2; rw [lns, lnA_13, lnA_13]
      · rw [lns, lnA_c h h2, lnA_c h h2]
theorem addF_ne (c : UInt8) (ls : List (List UInt8)) : addF c ls ≠ [] := by cases ls <;> simp [addF]
theorem lnA_ne (p : Bool) (l : List UInt8) : lnA p l ≠ [] := by
  induction l generalizing p with
  | nil => simp [lnA]
  | cons c t ih =>
    unfold lnA
    split
    · split
      · exact ih _
      · simp
    · split
      · simp
      · exact addF_ne _ _
theorem lns_ne (l : List UInt8) : lns l ≠ [] := lnA_ne _ _
theorem lns_pos (l : List UInt8) : 1 ≤ (lns l).length := List.length_pos_iff.2 (lns_ne l)
theorem addF_app {c : UInt8} {a b : List (List UInt8)} (h : a ≠ []) : addF c (a ++ b) = addF c a ++ b := by
  cases a with
  | nil => exact absurd rfl h
  | cons x y => rfl
/-- Bytes ahead of the first line. -/
def addL (s : List UInt8) : List (List UInt8) → List (List UInt8)
  | [] => [s]
  | h :: r => (s ++ h) :: r
theorem lns_seg {s : List UInt8} (h : noE s) (t : List UInt8) : lns (s ++ t) = addL s (lns t) := by
  induction s with
  | nil => cases e : lns t with
    | nil => exact absurd e (lns_ne t)
    | cons a b => simp [addL, e]
  | cons c s ih =>
    have hc := h c (by simp)
    have := ih (fun b hb => h b (by simp [hb]))
    rw [List.cons_append, lns, lnA_c hc.1 hc.2]
    unfold lns at this
    rw [this]
    show addF c (addL s (lns t)) = _
    cases e : lns t with
    | nil => exact absurd e (lns_ne t)
    | cons a b => rfl
theorem lns_10 {s : List UInt8} (h : noE s) (t : List UInt8) : lns (s ++ 10 :: t) = s :: lns t := by
  rw [lns_seg h, lns, lnA_10]; simp [addL, lns]
theorem lns_13 {s : List UInt8} (h : noE s) (t : List UInt8) : lns (s ++ 13 :: t) = s :: lns (skp t) := by
  rw [lns_seg h, lns, lnA_13, lnA_true]; simp [addL]
theorem lns_one {s : List UInt8} (h : noE s) : lns s = [s] := by
  have := lns_seg h []
  rw [List.append_nil] at this
  rw [this]; simp [lns, lnA, addL]
theorem lnA_noE (p : Bool) (l : List UInt8) : ∀ x ∈ lnA p l, noE x := by
  induction l generalizing p with
  | nil => intro x hx; simp [lnA] at hx; subst hx; intro b hb; simp at hb
  | cons c t ih =>
    unfold lnA
    split
    · split
      · exact ih _
      · intro x hx
        rcases List.mem_cons.1 hx with rfl | hx
        · intro b hb; simp at hb
        · exact ih _ x hx
    · split
      · intro x hx
        rcases List.mem_cons.1 hx with rfl | hx
        · intro b hb; simp at hb
        · exact ih _ x hx
      · rename_i h1 h2
        intro x hx
        have hr := ih false
        cases e : lnA false t with
        | nil => exact absurd e (lnA_ne _ _)
        | cons a r =>
          rw [e] at hx hr
          rcases List.mem_cons.1 hx with rfl | hx
          · intro b hb
            rcases List.mem_cons.1 hb with rfl | hb
            · exact ⟨h1, h2⟩
            · exact hr a (by simp) b hb
          · exact hr x (by simp [hx])
theorem lns_noE (l : List UInt8) : ∀ x ∈ lns l, noE x := lnA_noE _ _
theorem addF_len (c : UInt8) {ls : List (List UInt8)} (h : ls ≠ []) : (addF c ls).length = ls.length := by
  cases ls with
  | nil => exact absurd rfl h
  | cons a b => rfl
theorem lns_len1 {l : List UInt8} (h : (lns l).length = 1) : noE l := by
  induction l with
  | nil => intro b hb; simp at hb
  | cons c t ih =>
    by_cases h1 : c = 10
    · subst h1; rw [lns, lnA_10] at h
      simp at h; exact absurd h (lnA_ne _ _)
    · by_cases h2 : c = 13
      · subst h2; rw [lns, lnA_13] at h
        simp at h; exact absurd h (lnA_ne _ _)
      · rw [lns, lnA_c h1 h2, addF_len _ (lnA_ne _ _)] at h
        intro b hb
        rcases List.mem_cons.1 hb with rfl | hb
        · exact ⟨h1, h2⟩
        · exact ih h b hb

/-- Is the last byte 13? p: if there is none. -/
def fl : Bool → List UInt8 → Bool
  | p, [] => p
  | p, c :: t => fl (c == 13) t
theorem fl_last {a : List UInt8} (h : a.getLast? ≠ some 13) : fl false a = false := by
  have : ∀ (a : List UInt8) (p : Bool), (a = [] → p = false) → a.getLast? ≠ some 13 → fl p a = false := by
    intro a
    induction a with
    | nil => intro p hp _; exact hp rfl
    | cons c t ih =>
      intro p hp hl
      unfold fl
      refine ih _ (fun ht => ?_) ?_
      · subst ht; simp at hl; simpa using hl
      · cases t with
        | nil => simp
        | cons d t => simpa [List.getLast?_cons_cons] using hl
  exact this a false (fun _ => rfl) h
theorem lnA_app10 {a : List UInt8} {p : Bool} (h : fl p a = false) (b : List UInt8) : lnA p (a ++ 10 :: b) = lnA p a ++ lns b := by
  induction a generalizing p with
  | nil => obtain rfl : p = false := h; rfl
  | cons c t ih =>
    unfold fl at h
    by_cases h1 : c = 10
    · subst h1
      have := ih (p := false) h
      cases p
      · rw [List.cons_append, lnA_10, lnA_10, this]; rfl
      · rw [List.cons_append, lnA_s10, lnA_s10, this]
    · by_cases h2 : c = 13
      · subst h2
        rw [List.cons_append, lnA_13, lnA_13, ih (p := true) h]; rfl
      · have hc : (c == 13) = false := by simpa using h2
        rw [hc] at h
        rw [List.cons_append, lnA_c h1 h2, lnA_c h1 h2, ih h, addF_app (lnA_ne _ _)]
theorem lnA_app13 (a : List UInt8) (p : Bool) (b : List UInt8) : lnA p (a ++ 13 :: b) = lnA p a ++ lns (skp b) := by
  induction a generalizing p with
  | nil => rw [List.nil_append, lnA_13, lnA_true]; rfl
  | cons c t ih =>
    by_cases h1 : c = 10
    · subst h1
      cases p
      · rw [List.cons_append, lnA_10, lnA_10, ih]; rfl
      · rw [List.cons_append, lnA_s10, lnA_s10, ih]
    · by_cases h2 : c = 13
      · subst h2
        rw [List.cons_append, lnA_13, lnA_13, ih]; rfl
      · rw [List.cons_append, lnA_c h1 h2, lnA_c h1 h2, ih, addF_app (lnA_ne _ _)]
theorem skp_no {b : List UInt8} (h : b.head? ≠ some 10) : skp b = b := by
  cases b with
  | nil => rfl
  | cons c t => exact skp_c (by simpa using h) t
theorem lns_app10 {a : List UInt8} (h : a.getLast? ≠ some 13) (b : List UInt8) : lns (a ++ 10 :: b) = lns a ++ lns b := lnA_app10 (fl_last h) b
theorem lns_app13 (a : List UInt8) {b : List UInt8} (h : b.head? ≠ some 10) : lns (a ++ 13 :: b) = lns a ++ lns b := by
  have := lnA_app13 a false b
  rwa [skp_no h] at this
theorem lns_app1310 (a b : List UInt8) : lns (a ++ 13 :: 10 :: b) = lns a ++ lns b := lnA_app13 a false (10 :: b)

/-- Lines with bytes 10 between have just these lines. -/
theorem lns_join {xs : List (List UInt8)} (h : ∀ x ∈ xs, noE x) (h0 : xs ≠ []) : lns (Lib.join xs [10]) = xs := by
  induction xs with
  | nil => exact absurd rfl h0
  | cons x r ih =>
    cases r with
    | nil => rw [Lib.join_one]; exact lns_one (h x (by simp))
    | cons y r =>
      have e : Lib.join (x :: y :: r) [10] = x ++ 10 :: Lib.join (y :: r) [10] := by
        rw [Lib.join_cons, Lib.join_cons]; simp [Lib.joinTail]
      rw [e, lns_10 (h x (by simp)), ih (fun z hz => h z (by simp [hz])) (by simp)]

/-! ### Indents -/
def blB (c : UInt8) : Bool := c == 9 || c == 32
def mg (l : List UInt8) : Nat := (l.takeWhile blB).length
def blk (l : List UInt8) : Bool := l.all blB
theorem mg_le (l : List UInt8) : mg l ≤ l.length := by
  unfold mg; exact (List.takeWhile_sublist _).length_le
theorem mg_nil : mg [] = 0 := rfl
theorem mg_y {c : UInt8} (h : blB c = true) (t : List UInt8) : mg (c :: t) = mg t + 1 := by unfold mg; rw [List.takeWhile_cons, if_pos h]; rfl
theorem mg_n {c : UInt8} (h : blB c = false) (t : List UInt8) : mg (c :: t) = 0 := by unfold mg; rw [List.takeWhile_cons, if_neg (by simp [h])]; rfl
theorem blk_cons (c : UInt8) (t : List UInt8) : blk (c :: t) = (blB c && blk t) := by simp [blk]
theorem blk_mg (l : List UInt8) : blk l = true ↔ mg l = l.length := by
  induction l with
  | nil => simp [blk, mg]
  | cons c t ih =>
    cases h : blB c
    · rw [mg_n h, blk_cons, h]; simp
    · rw [mg_y h, blk_cons, h, Bool.true_and, ih]; simp
theorem blk_no {l : List UInt8} (h : blk l = false) : mg l < l.length := by
  have := mg_le l
  have h2 : mg l ≠ l.length := fun e => by rw [(blk_mg l).2 e] at h; cases h
  omega
theorem blk_ne {l : List UInt8} (h : blk l = false) : l ≠ [] := by rintro rfl; cases h
theorem blk_drop {l : List UInt8} (h : blk l = true) (n : Nat) : blk (l.drop n) = true := by
  unfold blk at h ⊢
  rw [List.all_eq_true] at h ⊢
  exact fun x hx => h x (List.mem_of_mem_drop hx)
theorem mg_drop {l : List UInt8} {n : Nat} (h : n ≤ mg l) : mg (l.drop n) = mg l - n ∧ blk (l.drop n) = blk l := by
  induction n generalizing l with
  | zero => simp
  | succ n ih =>
    cases l with
    | nil => rw [mg_nil] at h; omega
    | cons c t =>
      cases hc : blB c
      · rw [mg_n hc] at h; omega
      · rw [mg_y hc] at h ⊢
        have := ih (l := t) (by omega)
        rw [List.drop_succ_cons, blk_cons, hc, Bool.true_and, this.1]
        exact ⟨by omega, this.2⟩
/-- What stands at the end of an indent. -/
theorem mg_at {l : List UInt8} {k : Nat} (h : ∀ j, j < k → ∃ c, l[j]? = some c ∧ blB c = true) (hk : k = l.length ∨ ∃ c, l[k]? = some c ∧ blB c = false) : mg l = k := by
  induction k generalizing l with
  | zero =>
    cases l with
    | nil => rfl
    | cons c t =>
      rcases hk with hk | ⟨d, hd, hb⟩
      · simp at hk
      · simp at hd; subst hd; exact mg_n hb t
  | succ k ih =>
    cases l with
    | nil => obtain ⟨c, hc, _⟩ := h 0 (by omega); simp at hc
    | cons c t =>
      obtain ⟨d, hd, hb⟩ := h 0 (by omega)
      simp at hd; subst hd
      rw [mg_y hb, ih (l := t)]
      · intro j hj; have := h (j + 1) (by omega); simpa using this
      · rcases hk with hk | ⟨d, hd, hb2⟩
        · left; simpa using hk
        · right; exact ⟨d, by simpa using hd, hb2⟩

def indS (a : Int) (x : List UInt8) : Int := if blk x = true then a else if a < 0 ∨ (mg x : Int) < a then mg x else a
def indT (t : List (List UInt8)) : Int := t.foldl indS (-1)
/-- The least indent of the lines but the first one. -/
def ind (ls : List (List UInt8)) : Int := indT ls.tail
theorem indS_b {x : List UInt8} (h : blk x = true) (a : Int) : indS a x = a := by unfold indS; rw [if_pos h]
theorem indS_y {x : List UInt8} (h : blk x = false) {a : Int} (k : a < 0 ∨ (mg x : Int) < a) : indS a x = mg x := by unfold indS; rw [if_neg (by simp [h]), if_pos k]
theorem indS_n {x : List UInt8} {a : Int} (k : ¬ (a < 0 ∨ (mg x : Int) < a)) : indS a x = a := by
  unfold indS; rw [if_neg k]; split <;> rfl
theorem indF_is (t : List (List UInt8)) (a : Int) (ha : -1 ≤ a) : (t.foldl indS a = a ∧ ∀ y ∈ t, blk y = false → 0 ≤ a ∧ a ≤ mg y) ∨
    (∃ x ∈ t, blk x = false ∧ t.foldl indS a = mg x ∧ (a < 0 ∨ (mg x : Int) < a) ∧ ∀ y ∈ t, blk y = false → mg x ≤ mg y) := by
  induction t generalizing a with
  | nil => left; simp
  | cons x t ih =>
    rw [List.foldl_cons]
    cases hb : blk x
    · by_cases hk : a < 0 ∨ (mg x : Int) < a
      · rw [indS_y hb hk]
        rcases ih (mg x) (by omega) with ⟨e, h⟩ | ⟨z, hz, h1, h2, h3, h4⟩
        · right
          refine ⟨x, by simp, hb, e, hk, fun y hy hyb => ?_⟩
          rcases List.mem_cons.1 hy with rfl | hy
          · exact Nat.le_refl _
          · have := (h y hy hyb).2; omega
        · right
          refine ⟨z, by simp [hz], h1, h2, by omega, fun y hy hyb => ?_⟩
          rcases List.mem_cons.1 hy with rfl | hy
          · omega
          · exact h4 y hy hyb
      · rw [indS_n hk]
        rcases ih a ha with ⟨e, h⟩ | ⟨z, hz, h1, h2, h3, h4⟩
        · left
          refine ⟨e, fun y hy hyb => ?_⟩
          rcases List.mem_cons.1 hy with rfl | hy
          · omega
          · exact h y hy hyb
        · right
          refine ⟨z, by simp [hz], h1, h2, h3, fun y hy hyb => ?_⟩
          rcases List.mem_cons.1 hy with rfl | hy
          · omega
          · exact h4 y hy hyb
    · rw [indS_b hb]
      rcases ih a ha with ⟨e, h⟩ | ⟨z, hz, h1, h2, h3, h4⟩
      · left
        refine ⟨e, fun y hy hyb => ?_⟩
        rcases List.mem_cons.1 hy with rfl | hy
        · rw [hb] at hyb; cases hyb
        · exact h y hy hyb
      · right
        refine ⟨z, by simp [hz], h1, h2, h3, fun y hy hyb => ?_⟩
        rcases List.mem_cons.1 hy with rfl | hy
        · rw [hb] at hyb; cases hyb
        · exact h4 y hy hyb
theorem indT_is (t : List (List UInt8)) : (indT t = -1 ∧ ∀ y ∈ t, blk y = true) ∨ (∃ x ∈ t, blk x = false ∧ indT t = mg x ∧ ∀ y ∈ t, blk y = false → mg x ≤ mg y) := by
  rcases indF_is t (-1) (by omega) with ⟨e, h⟩ | ⟨x, hx, h1, h2, _, h3⟩
  · left
    refine ⟨e, fun y hy => ?_⟩
    cases hb : blk y
    · have := (h y hy hb).1; omega
    · rfl
  · exact .inr ⟨x, hx, h1, h2, h3⟩
theorem indF_bd (t : List (List UInt8)) (a : Int) (ha : -1 ≤ a) : -1 ≤ t.foldl indS a := by
  rcases indF_is t a ha with ⟨e, _⟩ | ⟨x, _, _, e, _⟩ <;> omega
theorem ind_bd (ls : List (List UInt8)) : -1 ≤ ind ls := indF_bd _ _ (by omega)

/-! ### Folding -/
def cutL (n : Int) : List (List UInt8) → List (List UInt8)
  | [] => []
  | h :: t => h :: t.map (·.drop n.toNat)
def rtr (ls : List (List UInt8)) : List (List UInt8) := (ls.reverse.dropWhile blk).reverse
def trm (ls : List (List UInt8)) : List (List UInt8) := rtr (ls.dropWhile blk)
/-- The lines of what is folded. -/
def fls (l : List UInt8) : List (List UInt8) := trm (cutL (ind (lns l)) (lns l))
/-- What is folded. -/
def fld (l : List UInt8) : List UInt8 := Lib.join (fls l) [10]

theorem cut_len (n : Int) (ls : List (List UInt8)) : (cutL n ls).length = ls.length := by cases ls <;> simp [cutL]
theorem cut_no {n : Int} (h : n ≤ 0) (ls : List (List UInt8)) : cutL n ls = ls := by
  cases ls with
  | nil => rfl
  | cons x t => have : n.toNat = 0 := by omega
                simp [cutL, this]
theorem rtr_y {ls : List (List UInt8)} {x : List UInt8} (h : blk x = true) : rtr (ls ++ [x]) = rtr ls := by simp [rtr, h]
theorem rtr_n {ls : List (List UInt8)} {x : List UInt8} (h : blk x = false) : rtr (ls ++ [x]) = ls ++ [x] := by simp [rtr, h]
theorem rtr_nil : rtr [] = [] := rfl
theorem trm_y {ls : List (List UInt8)} {x : List UInt8} (h : blk x = true) : trm (x :: ls) = trm ls := by simp [trm, h]
theorem dw_drop (ls : List (List UInt8)) {k : Nat} (h : ∀ j, j < k → ∃ x, ls[j]? = some x ∧ blk x = true) (hk : k = ls.length ∨ ∃ x, ls[k]? = some x ∧ blk x = false) : ls.dropWhile blk = ls.drop k := by
  induction k generalizing ls with
  | zero =>
    cases ls with
    | nil => rfl
    | cons c t =>
      rcases hk with hk | ⟨d, hd, hb⟩
      · simp at hk
      · simp at hd; subst hd; simp [hb]
  | succ k ih =>
    cases ls with
    | nil => obtain ⟨c, hc, _⟩ := h 0 (by omega); simp at hc
    | cons c t =>
      obtain ⟨d, hd, hb⟩ := h 0 (by omega)
      simp at hd; subst hd
      rw [List.dropWhile_cons, if_pos hb, List.drop_succ_cons]
      refine ih t (fun j hj => ?_) ?_
      · have := h (j + 1) (by omega); simpa using this
      · rcases hk with hk | ⟨d, hd, hb2⟩
        · left; simpa using hk
        · right; exact ⟨d, by simpa using hd, hb2⟩
theorem rtr_sub (ls : List (List UInt8)) : (rtr ls).Sublist ls := by
  unfold rtr
  have := (List.dropWhile_sublist (p := blk) (l := ls.reverse)).reverse
  rwa [List.reverse_reverse] at this
theorem trm_sub (ls : List (List UInt8)) : (trm ls).Sublist ls := (rtr_sub _).trans (List.dropWhile_sublist _)
theorem rtr_mem {ls : List (List UInt8)} {x : List UInt8} (hx : x ∈ ls) (h : blk x = false) : x ∈ rtr ls := by
  unfold rtr
  rw [List.mem_reverse]
  have hx2 : x ∈ ls.reverse := by simpa using hx
  have : ∀ l : List (List UInt8), x ∈ l → x ∈ l.dropWhile blk := by
    intro l hl
    induction l with
    | nil => exact hl
    | cons y l ih =>
      rw [List.dropWhile_cons]
      cases hy : blk y
      · simpa using hl
      · rcases List.mem_cons.1 hl with rfl | hl
        · rw [hy] at h; cases h
        · simpa using ih hl
  exact this _ hx2
theorem dw_mem {ls : List (List UInt8)} {x : List UInt8} (hx : x ∈ ls) (h : blk x = false) : x ∈ ls.dropWhile blk := by
  induction ls with
  | nil => exact hx
  | cons y l ih =>
    rw [List.dropWhile_cons]
    cases hy : blk y
    · simpa using hx
    · rcases List.mem_cons.1 hx with rfl | hx
      · rw [hy] at h; cases h
      · simpa using ih hx
theorem trm_mem {ls : List (List UInt8)} {x : List UInt8} (hx : x ∈ ls) (h : blk x = false) : x ∈ trm ls := rtr_mem (dw_mem hx h) h
theorem rtr_last (ls : List (List UInt8)) : ∀ x, (rtr ls).getLast? = some x → blk x = false := by
  intro x hx
  unfold rtr at hx
  rw [List.getLast?_reverse] at hx
  have := List.head?_dropWhile_not blk ls.reverse
  rw [hx] at this
  simpa using this
theorem rtr_head {ls : List (List UInt8)} {x : List UInt8} {t : List (List UInt8)} (h : ls = x :: t) (hb : blk x = false) : ∃ t', rtr ls = x :: t' := by
  subst h
  obtain ⟨p, hp⟩ : ∃ p, p ++ (x :: t).reverse.dropWhile blk = (x :: t).reverse := ⟨_, List.takeWhile_append_dropWhile⟩
  have hm := rtr_mem (List.mem_cons_self (a := x) (l := t)) hb
  have e : rtr (x :: t) ++ p.reverse = x :: t := by
    unfold rtr
    rw [← List.reverse_append, hp, List.reverse_reverse]
  cases h2 : rtr (x :: t) with
  | nil => rw [h2] at hm; simp at hm
  | cons y t' => rw [h2] at e; injection e with e1 _; subst e1; exact ⟨t', rfl⟩
/-- What is left begins and ends by no blank line. -/
theorem trm_ends (ls : List (List UInt8)) : trm ls = [] ∨ ((∃ x, (trm ls).head? = some x ∧ blk x = false) ∧ ∃ y, (trm ls).getLast? = some y ∧ blk y = false) := by
  cases h : trm ls with
  | nil => exact .inl rfl
  | cons x t =>
    right
    refine ⟨?_, ?_⟩
    · cases h2 : ls.dropWhile blk with
      | nil => unfold trm at h; rw [h2] at h; cases h
      | cons y r =>
        have hy : blk y = false := by
          have := List.head?_dropWhile_not blk ls
          rw [h2] at this; simpa using this
        obtain ⟨t', e⟩ := rtr_head h2 hy
        unfold trm at h
        rw [h] at e
        injection e with e1 _
        exact ⟨x, rfl, by rw [e1]; exact hy⟩
    · obtain ⟨z, hz⟩ : ∃ z, (x :: t).getLast? = some z := ⟨_, List.getLast?_cons⟩
      refine ⟨z, hz, rtr_last (ls.dropWhile blk) z ?_⟩
      unfold trm at h; rw [h]; exact hz
theorem rtr_id {ls : List (List UInt8)} {x : List UInt8} (h : ls.getLast? = some x) (hb : blk x = false) : rtr ls = ls := by
  obtain ⟨t, rfl⟩ := List.getLast?_eq_some_iff.1 h
  exact rtr_n hb
theorem trm_id {ls : List (List UInt8)} {x y : List UInt8} (h : ls.head? = some x) (hb : blk x = false) (h2 : ls.getLast? = some y) (hb2 : blk y = false) : trm ls = ls := by
  cases ls with
  | nil => simp at h
  | cons a t =>
    simp at h; subst h
    unfold trm
    rw [List.dropWhile_cons, if_neg (by simp [hb])]
    exact rtr_id h2 hb2

theorem mem_cut {n : Int} {ls : List (List UInt8)} (h : ∀ x ∈ ls, noE x) : ∀ x ∈ cutL n ls, noE x := by
  cases ls with
  | nil => exact h
  | cons a t =>
    intro x hx
    rcases List.mem_cons.1 hx with rfl | hx
    · exact h x (by simp)
    · obtain ⟨y, hy, rfl⟩ := List.mem_map.1 hx
      exact fun b hb => h y (by simp [hy]) b (List.mem_of_mem_drop hb)
theorem fls_noE (l : List UInt8) : ∀ x ∈ fls l, noE x := fun x hx => mem_cut (lns_noE l) x ((trm_sub _).mem hx)
theorem fls_join {l : List UInt8} (h : fls l ≠ []) : lns (fld l) = fls l := lns_join (fls_noE l) h
theorem fld_nil {l : List UInt8} (h : fls l = []) : fld l = [] := by unfold fld; rw [h]; rfl
theorem fld_ne {l : List UInt8} (h : fls l ≠ []) : fld l ≠ [] := by
  rcases trm_ends (cutL (ind (lns l)) (lns l)) with h0 | ⟨⟨x, hx, hb⟩, _⟩
  · exact absurd h0 h
  · intro e
    have := fls_join h
    rw [e] at this
    change (fls l).head? = some x at hx
    rw [← this] at hx
    simp [lns, lnA] at hx
    subst hx; cases hb

/-- How many bytes lines take, with an end each. -/
def wgt (ls : List (List UInt8)) : Nat := Lib.lens ls + ls.length
theorem wgt_cons (x : List UInt8) (t : List (List UInt8)) : wgt (x :: t) = x.length + 1 + wgt t := by simp [wgt, Lib.lens]; omega
theorem wgt_nil : wgt [] = 0 := rfl
theorem wgt_sub {a b : List (List UInt8)} (h : a.Sublist b) : wgt a ≤ wgt b := by
  induction h with
  | slnil => exact Nat.le_refl _
  | cons x _ ih => rw [wgt_cons]; omega
  | cons_cons x _ ih => rw [wgt_cons, wgt_cons]; omega
theorem lnA_wgt (p : Bool) (l : List UInt8) : wgt (lnA p l) ≤ l.length + 1 := by
  induction l generalizing p with
  | nil => simp [lnA, wgt, Lib.lens]
  | cons c t ih =>
    unfold lnA
    have h1 := ih false
    have h2 := ih true
    split
    · split
      · simp; omega
      · rw [wgt_cons]; simp; omega
    · split
      · rw [wgt_cons]; simp; omega
      · cases e : lnA false t with
        | nil => exact absurd e (lnA_ne _ _)
        | cons a r => rw [e, wgt_cons] at h1; simp only [addF]; rw [wgt_cons]; simp; omega
theorem cut_wgt (n : Int) (ls : List (List UInt8)) : wgt (cutL n ls) ≤ wgt ls := by
  cases ls with
  | nil => exact Nat.le_refl _
  | cons a t =>
    simp only [cutL]; rw [wgt_cons, wgt_cons]
    have : ∀ t : List (List UInt8), wgt (t.map (·.drop n.toNat)) ≤ wgt t := by
      intro t
      induction t with
      | nil => simp
      | cons x t ih => rw [List.map_cons, wgt_cons, wgt_cons]; simp; omega
    have := this t; omega
theorem join_wgt (ls : List (List UInt8)) : (Lib.join ls [10]).length + 1 ≤ wgt ls + 1 ∧ (ls ≠ [] → (Lib.join ls [10]).length + 1 = wgt ls) := by
  cases ls with
  | nil => simp [Lib.join_nil]
  | cons a t =>
    have e : (Lib.join (a :: t) [10]).length + 1 = wgt (a :: t) := by
      rw [Lib.join_cons, List.length_append, Lib.joinTail_length, wgt_cons]; simp [wgt]; omega
    exact ⟨by omega, fun _ => e⟩
theorem fld_len (l : List UInt8) : (fld l).length ≤ l.length := by
  by_cases h : fls l = []
  · rw [fld_nil h]; simp
  · have h1 := (join_wgt (fls l)).2 h
    have h2 := wgt_sub (trm_sub (cutL (ind (lns l)) (lns l)))
    have h3 := cut_wgt (ind (lns l)) (lns l)
    have h4 := lnA_wgt false l
    change wgt (fls l) ≤ _ at h2
    change wgt (lns l) ≤ _ at h4
    unfold fld; omega
theorem lns_count (l : List UInt8) : (lns l).length ≤ l.length + 1 := by
  have := lnA_wgt false l
  change wgt (lns l) ≤ _ at this
  unfold wgt at this; omega
theorem join_13 {ls : List (List UInt8)} (h : ∀ x ∈ ls, noE x) : ∀ b ∈ Lib.join ls [10], b ≠ 13 := by
  cases ls with
  | nil => intro b hb; simp [Lib.join_nil] at hb
  | cons a t =>
    intro b hb
    rw [Lib.join_cons, List.mem_append] at hb
    rcases hb with hb | hb
    · exact (h a (by simp) b hb).2
    · unfold Lib.joinTail at hb
      rw [List.mem_flatten] at hb
      obtain ⟨y, hy, hby⟩ := hb
      obtain ⟨z, hz, rfl⟩ := List.mem_map.1 hy
      rcases List.mem_append.1 hby with hb | hb
      · simp at hb; subst hb; decide
      · exact (h z (by simp [hz]) b hb).2
theorem fld_13 (l : List UInt8) : ∀ b ∈ fld l, b ≠ 13 := join_13 (fls_noE l)
end Go.Proofs.YtpcijjdlppoblaaGreatDoor.Fo

/- Contracts of package fold's functions: stands, next, Raw. -/
namespace Go.Proofs.YtpcijjdlppoblaaGreatDoor.Fo
open Go.RowKit
set_option linter.unusedVariables false

theorem ext_drop (s : ByteArray) (k : Nat) : s.extract k s.size = mkb (s.data.toList.drop k) := by
  rw [← mkb_of (s.extract k s.size), Lib.extract_data, List.take_of_length_le (by simp)]
theorem ext_mkb (s : ByteArray) (k n : Nat) : s.extract k (k + n) = mkb ((s.data.toList.drop k).take n) := by
  rw [← mkb_of (s.extract k (k + n)), Lib.extract_data, Nat.add_sub_cancel_left]
theorem ext_mkb' (s : ByteArray) (k m : Nat) : s.extract k m = mkb ((s.data.toList.drop k).take (m - k)) := by
  rw [← mkb_of (s.extract k m), Lib.extract_data]

set_option maxHeartbeats 400000 in
theorem stands_any (s : ByteArray) (i : Int) (p : ByteArray) (w : World) :
    Calls Tryz.prog 134 #[.string s, .int .i64 i, .string p] w fun e w' => e = .returned (.bool (stB s.data.toList i p.data.toList)) ∧ w = w' := by
  have hsz : s.data.toList.length = s.size := (Lib.size_eq s).symm
  by_cases h0 : 0 ≤ i
  · obtain ⟨k, rfl⟩ := Int.eq_ofNat_of_zero_le h0
    by_cases h1 : k ≤ s.size
    · rw [stB_at (by omega)]
      have HX := Lib.hid (show (s.data.toList.drop k).take (s.size - k) = s.data.toList.drop k from List.take_of_length_le (by rw [List.length_drop]; omega))
      clear hsz
      have d0 : decide ((0 : Int) ≤ (k : Int)) = true := by simp
      have d1 : decide ((k : Int) ≤ (s.size : Int)) = true := by simp [h1]
      go_enter Tryz.func134, Tryz.ntmps134
      go_wp2_with fail
      (with_reducible refine (hp_any _ _ _).mono ?_)
      rintro e w' ⟨rfl, rfl⟩
      go_wp2
      go_ret
      refine ⟨?_, rfl⟩
      rw [HX.out]; rfl
    · rw [stB_out (.inr (by omega))]
      clear hsz
      have d0 : decide ((0 : Int) ≤ (k : Int)) = true := by simp
      have d1 : decide ((k : Int) ≤ (s.size : Int)) = false := by simp; omega
      go_enter Tryz.func134, Tryz.ntmps134
      go_wp2
      go_ret
      exact ⟨rfl, rfl⟩
  · rw [stB_out (.inl (by omega))]
    clear hsz
    have d0 : decide ((0 : Int) ≤ i) = false := by simp; omega
    go_enter Tryz.func134, Tryz.ntmps134
    go_wp2
    go_ret
    exact ⟨rfl, rfl⟩
theorem stands_b {s : ByteArray} {i : Int} {p : ByteArray} {b : Bool} (h : stB s.data.toList i p.data.toList = b) (w : World) :
    Calls Tryz.prog 134 #[.string s, .int .i64 i, .string p] w fun e w' => e = .returned (.bool b) ∧ w = w' := by rw [← h]; exact stands_any s i p w
theorem stands_q {s : ByteArray} {i : Int} {b : Bool} (h : stB s.data.toList i q3 = b) (w : World) :
    Calls Tryz.prog 134 #[.string s, .int .i64 i, .string ⟨#[34, 34, 34]⟩] w fun e w' => e = .returned (.bool b) ∧ w = w' := stands_b (p := ⟨#[34, 34, 34]⟩) h w
theorem stands_bq {s : ByteArray} {i : Int} {b : Bool} (h : stB s.data.toList i b3 = b) (w : World) :
    Calls Tryz.prog 134 #[.string s, .int .i64 i, .string ⟨#[92, 34, 34, 34]⟩] w fun e w' => e = .returned (.bool b) ∧ w = w' := stands_b (p := ⟨#[92, 34, 34, 34]⟩) h w

set_option maxHeartbeats 400000 in
theorem fnext_b {s : ByteArray} {k : Nat} (hk : k ≤ s.size) (h : b3.isPrefixOf (s.data.toList.drop k) = true) (w : World) :
    Calls Tryz.prog 135 #[.string s, .int .i64 k] w fun e w' => e = .returned (.tuple #[.string (mkb q3), .int .i64 4]) ∧ Below w.heap.size w w' := by
  have r1 := stands_bq (s := s) (i := k) (b := true) (by rw [stB_at (by rw [← Lib.size_eq]; exact hk)]; exact h)
  clear h
  go_enter Tryz.func135, Tryz.ntmps135
  go_wp2_with fail
  (with_reducible refine (r1 _).mono ?_)
  rintro e w' ⟨rfl, rfl⟩
  go_wp2
  go_ret2
  exact ⟨rfl, Below.refl _ _⟩
set_option maxHeartbeats 400000 in
theorem fnext_c {s : ByteArray} {k : Nat} (hs : s.size ≤ 1000000000) (hk : k ≤ s.size) (h : b3.isPrefixOf (s.data.toList.drop k) = false) (w : World) :
    Calls Tryz.prog 135 #[.string s, .int .i64 k] w fun e w' => e = .returned (.tuple #[.string (mkb ((s.data.toList.drop k).take (nxt (s.data.toList.drop k)).2)), .int .i64 ((nxt (s.data.toList.drop k)).2 : Nat)]) ∧ Below w.heap.size w w' := by
  have r1 := stands_bq (s := s) (i := k) (b := false) (by rw [stB_at (by rw [← Lib.size_eq]; exact hk)]; exact h)
  obtain ⟨m, hm, hm2, hm3⟩ := nxtN_bd s k hk
  rw [hm2]
  have r2 : ∀ w : World, Calls Tryz.prog 75 #[.string s, .int .i64 k] w fun e w' => e = .returned (.tuple #[.int .i64 (nxtC s k), .int .i64 (m : Int)]) ∧ Grew w w' := by
    intro w; rw [← hm]; exact next_any s k w
  have HE := Lib.hid (ext_mkb s k m)
  obtain ⟨c, hc⟩ : ∃ c, nxtC s k = c := ⟨_, rfl⟩
  rw [hc] at r2
  clear h hm hm2 hc
  go_enter Tryz.func135, Tryz.ntmps135
  go_wp2_with fail
  (with_reducible refine (r1 _).mono ?_)
  rintro e w' ⟨rfl, rfl⟩
  go_wp2_with fail
  (with_reducible refine (r2 _).mono ?_)
  rintro e w1 ⟨rfl, hg⟩
  have hb := hg.below
  clear hg
  go_wp2
  go_ret2
  refine ⟨?_, hb⟩
  rw [← HE.out]
  rfl
theorem fnext_n {s : ByteArray} {k : Nat} (hs : s.size ≤ 1000000000) (hk : k ≤ s.size) (h : pcR (s.data.toList.drop k) = none) (w : World) :
    Calls Tryz.prog 135 #[.string s, .int .i64 k] w fun e w' => e = .returned (.tuple #[.string (mkb []), .int .i64 0]) ∧ Below w.heap.size w w' := by
  cases hb : b3.isPrefixOf (s.data.toList.drop k)
  · by_cases h0 : (nxt (s.data.toList.drop k)).2 = 0
    · have := fnext_c hs hk hb w
      rw [h0] at this; exact this
    · rw [pcR_c hb h0] at h; cases h
  · rw [pcR_b hb] at h; cases h
theorem fnext_s {s : ByteArray} {k n : Nat} {t : List UInt8} (hs : s.size ≤ 1000000000) (hk : k ≤ s.size) (h : pcR (s.data.toList.drop k) = some (t, n)) (w : World) :
    Calls Tryz.prog 135 #[.string s, .int .i64 k] w fun e w' => e = .returned (.tuple #[.string (mkb t), .int .i64 (n : Nat)]) ∧ Below w.heap.size w w' := by
  cases hb : b3.isPrefixOf (s.data.toList.drop k)
  · by_cases h0 : (nxt (s.data.toList.drop k)).2 = 0
    · rw [pcR_n hb h0] at h; cases h
    · rw [pcR_c hb h0] at h; cases h; exact fnext_c hs hk hb w
  · rw [pcR_b hb] at h; cases h; exact fnext_b hk hb w

/-! ### Rows of bytes -/
def bc (l : List UInt8) : List Value := l.map fun b => Value.int .u8 b.toNat
theorem bc_app (a : List UInt8) (p : ByteArray) : bc a ++ Lib.strCells p = bc (a ++ p.data.toList) := by simp [bc, Lib.strCells]
theorem bc_len (a : List UInt8) : (bc a).length = a.length := by simp [bc]
theorem infoB : (Tryz.prog.info? 5).map (fun i => (i.zero, i.size, i.bytes)) = some (some (.int .u8 0), 1, 1) := by kernel_rfl
theorem conv_own {w : World} {base : Nat} {v : Value} {acc : List UInt8} (h : w.ownsRow base 5 1 v acc.length (bc acc)) :
    (convert 82 9 v).run Tryz.prog w = .ok (.string (mkb acc)) w := by
  rcases h.2 with ⟨rfl, h0⟩ | ⟨g, cap, cur, rfl, r⟩
  · rw [run_convert_bytes_string _ _ _ 5 _ _ _ Tryz.underlying82 Tryz.underlying5 Tryz.underlying9]
    obtain rfl : acc = [] := List.eq_nil_of_length_eq_zero h0
    simp [Conv.bytesToString, mkb]
    rfl
  · rw [run_convert_bytes_string _ _ _ 5 _ _ _ Tryz.underlying82 Tryz.underlying5 Tryz.underlying9]
    have hb : bc acc = (acc.map fun b => (b.toNat : Int)).map (Value.int .u8) := by simp [bc]
    have hl := run_loadCells_list (P := Tryz.prog) w ⟨g, 0, none⟩ (bc acc) (fun j v hj => h.cells (g := g) rfl j v hj)
    rw [bc_len, hb] at hl
    rw [run_bytesToString _ _ _ _ _ hl, push_bytes]
    rw [show (ByteArray.empty).data = #[] from rfl, Array.empty_append, List.map_map]
    have e : acc.map ((fun n : Int => UInt8.ofNat n.toNat) ∘ fun b : UInt8 => (b.toNat : Int)) = acc := by
      conv => rhs; rw [← List.map_id acc]
      apply List.map_congr_left; intro b _; simp
    rw [e]; rfl

/-- How Raw ends. -/
def rawE (r : Rw) (i : Int) : Ending := .returned (.tuple #[.string (mkb r.v), .int .i64 (i + (r.n : Int)), .bool r.b])
/-- j has been come to, acc is told. -/
def Rel (l : List UInt8) (k : Nat) (acc : List UInt8) (j : Nat) : Prop := k + 3 ≤ j ∧ acc.length ≤ j ∧ rwB (l.drop (k + 3)) = cmb acc (j - (k + 3)) (rwB (l.drop j))
theorem cmb_nil (r : Rw) (h : r.b = false → r.v = []) : cmb [] 0 r = r := by
  cases r with | mk v n b =>
  cases b
  · have := h rfl; simp at this; subst this; simp [cmb]
  · simp [cmb]
theorem Rel.start (l : List UInt8) (k : Nat) : Rel l k [] (k + 3) := ⟨Nat.le_refl _, by simp, by rw [Nat.sub_self, cmb_nil _ (rwB_bd _).2.2.2]⟩
theorem Rel.next {l : List UInt8} {k : Nat} {acc t : List UInt8} {j n : Nat} (h : Rel l k acc j) (hq : q3.isPrefixOf (l.drop j) = false) (hp : pcR (l.drop j) = some (t, n)) : Rel l k (acc ++ t) (j + n) := by
  obtain ⟨h1, h2, h3⟩ := h
  have hb := pcR_bd hp
  refine ⟨by omega, by simp; omega, ?_⟩
  rw [h3, rwB_s hq hp, cmb_cmb, List.drop_drop]
  congr 1; omega
theorem Rel.yes {l : List UInt8} {k : Nat} {acc : List UInt8} {j : Nat} (h : Rel l k acc j) (h0 : stB l k q3 = true) (hq : q3.isPrefixOf (l.drop j) = true) : rawA l k = ⟨acc, j + 3 - k, true⟩ := by
  obtain ⟨h1, h2, h3⟩ := h
  rw [rawA_at h0, h3, rwB_q hq]
  simp [cmb]; omega
theorem Rel.no {l : List UInt8} {k : Nat} {acc : List UInt8} {j : Nat} (h : Rel l k acc j) (h0 : stB l k q3 = true) (hq : q3.isPrefixOf (l.drop j) = false) (hp : pcR (l.drop j) = none) : rawA l k = ⟨[], j - k, false⟩ := by
  obtain ⟨h1, h2, h3⟩ := h
  rw [rawA_at h0, h3, rwB_n hq hp]
  simp [cmb]; omega
theorem own_slice {w : World} {base : Nat} {e : TypeId} {size n : Nat} {v : Value} {xs : List Value} (h : w.ownsRow base e size v n xs) : ∃ A m c, v = .slice A m c := by
  rcases h.2 with ⟨rfl, _⟩ | ⟨g', cap, cur, rfl, _⟩
  · exact ⟨_, _, _, rfl⟩
  · exact ⟨_, _, _, rfl⟩
theorem own_below {w w' : World} {base : Nat} {e : TypeId} {size n : Nat} {v : Value} {xs : List Value} (h : w.ownsRow base e size v n xs) (b : Below w.heap.size w w') : w'.ownsRow base e size v n xs :=
  h.kept (row := none) ⟨b.os, b.tape, b.output, b.size, fun k hk _ => b.block k hk⟩ (by cases hv : v.ownBlock <;> simp)

set_option maxHeartbeats 1000000 in
theorem raw_any (s : ByteArray) (i : Int) (w : World) (hs : s.size ≤ 100000000) :
    Calls Tryz.prog 127 #[.string s, .int .i64 i] w fun e w' => e = rawE (rawA s.data.toList i) i ∧ Below w.heap.size w w' := by
  have hsz : s.data.toList.length = s.size := (Lib.size_eq s).symm
  cases h1 : stB s.data.toList i q3
  · rw [rawA_no h1]
    have r1 := stands_q h1
    clear h1 hsz
    go_enter Tryz.func127, Tryz.ntmps127
    go_wp2_with fail
    (with_reducible refine (r1 _).mono ?_)
    rintro e w' ⟨rfl, rfl⟩
    go_wp2
    go_ret3
    exact ⟨by simp [rawE, mkb], Below.refl _ _⟩
  have hin := stB_in h1
  rw [q3_len] at hin
  obtain ⟨k, rfl⟩ := Int.eq_ofNat_of_zero_le hin.1
  have r1 := stands_q h1
  have hk : k + 3 ≤ s.size := by omega
  have HH := Lib.hid h1
  have HZ := Lib.hid hsz
  obtain ⟨i0, hi, hz0, hz1, hz2⟩ := info_parts infoB
  have HI := Lib.hid hi
  have HI0 := Lib.hid hz0
  have HI1 := Lib.hid hz1
  have HI2 := Lib.hid hz2
  clear h1 hin hsz hi hz0 hz1 hz2
  go_enter Tryz.func127, Tryz.ntmps127
  go_wp2_with fail
  (with_reducible refine (r1 _).mono ?_)
  rintro e w' ⟨rfl, rfl⟩
  clear r1
  go_wp2_with fail
  go_loopw [7, 8] (fun t a wr => ∃ (j : Nat) (acc : List UInt8), j ≤ s.size ∧ a = .int .i64 j ∧ Rel s.data.toList k acc j ∧ wr.ownsRow w.heap.size 5 1 t acc.length (bc acc) ∧ Below w.heap.size w wr) (fun _ a _ => s.size - (intOf a).toNat)
  case atStart => exact ⟨k + 3, [], hk, by simp, Rel.start _ _, World.ownsRow_nil _ _ _ _, Below.refl _ _⟩
  case round =>
    obtain ⟨j, acc, hj, rfl, hrl, hown, hB⟩ := hrel
    have hal : acc.length ≤ j := hrl.2.1
    have hjk : k + 3 ≤ j := hrl.1
    have HL := Lib.hid hrl
    have HO := Lib.hid hown
    clear hrl
    cases h34 : q3.isPrefixOf (s.data.toList.drop j)
    · have r1 := stands_q (s := s) (i := j) (b := false) (by rw [stB_at (by rw [HZ.out]; exact hj)]; exact h34)
      cases hp : pcR (s.data.toList.drop j) with
      | none =>
        have r2 := fnext_n (by omega) hj hp
        have HW := Lib.hid (HL.out.no HH.out h34 hp)
        clear h34 hp hown
        go_wp2_with fail
        (with_reducible refine (r1 _).mono ?_)
        rintro e w' ⟨rfl, rfl⟩
        go_wp2_with fail
        (with_reducible refine (r2 _).mono ?_)
        rintro e w1 ⟨rfl, hb1⟩
        go_wp2
        go_ret3
        refine ⟨?_, bel_trans hB hb1⟩
        rw [HW.out]; unfold rawE
        rw [show (k : Int) + ((j - k : Nat) : Int) = (j : Int) by omega]
        rfl
      | some q =>
        obtain ⟨t, n⟩ := q
        have r2 := fnext_s (by omega) hj hp
        have hbd := pcR_bd hp
        rw [List.length_drop, HZ.out] at hbd
        have HX := Lib.hid (HL.out.next h34 hp)
        have b1 := hbd.1
        have b2 := hbd.2.1
        have b3' := hbd.2.2
        have hz : (mkb t).size = t.length := mkb_size t
        have HT := Lib.hid hz
        have n0 : ((n : Int) == 0) = false := by simp; omega
        clear h34 hp hbd hown hz
        go_wp2_with fail
        (with_reducible refine (r1 _).mono ?_)
        rintro e w' ⟨rfl, rfl⟩
        go_wp2_with fail
        (with_reducible refine (r2 _).mono ?_)
        rintro e w1 ⟨rfl, hb1⟩
        have hB1 := bel_trans hB hb1
        have hown1 := own_below HO.out hb1
        have hsz1 := hB1.size
        go_wp2_with (at_builtin; refine Lib.wpList_append_own_string _ rfl _ _ 82 9 rfl w.heap.size 5 i0 Tryz.underlying82 Tryz.underlying9 HI.out HI0.out HI1.out HI2.out _ _ _ rfl hown1 (mkb t) rfl (by unfold maxLen; rw [HT.out]; omega) (by rw [HT.out]; omega) hsz1 ?_)
        intro v' w2 ho hg _
        have hB2 : Below w.heap.size w w2 := hB1.grown hg hB1.size (fun k hk => (hown1.lt k hk).1)
        rw [bc_app, HT.out, mkb_data] at ho
        have HO2 := Lib.hid ho
        clear ho hown1
        go_wp2
        go_roundw
        case rel => exact ⟨j + n, acc ++ t, by omega, by go_num, HX.out, by rw [List.length_append]; exact HO2.out, hB2⟩
        case measure => simp [intOf]; omega
    · have r1 := stands_q (s := s) (i := j) (b := true) (by rw [stB_at (by rw [HZ.out]; exact hj)]; exact h34)
      have HW := Lib.hid (HL.out.yes HH.out h34)
      have hcv := conv_own hown
      clear h34 hown
      go_wp2_with fail
      (with_reducible refine (r1 _).mono ?_)
      rintro e w' ⟨rfl, rfl⟩
      go_wp2
      go_ret3
      refine ⟨?_, hB⟩
      rw [HW.out]; unfold rawE
      rw [show (k : Int) + ((j + 3 - k : Nat) : Int) = (j : Int) + 3 by omega]
      rfl
end Go.Proofs.YtpcijjdlppoblaaGreatDoor.Fo

/- Contracts of package fold's functions: the lines' iterator, Lines. -/
namespace Go.Proofs.YtpcijjdlppoblaaGreatDoor.Fo
open Go.RowKit Go.Shelf
attribute [local go_sem] Oper.semAt_some
set_option linter.unusedVariables false

/-- Lines from place f on, a having been come to. -/
def At (l : List UInt8) (pre : List (List UInt8)) (f a : Nat) : Prop := pre ++ lns (l.drop f) = lns l ∧ f ≤ a ∧ a ≤ l.length ∧ noE ((l.drop f).take (a - f))
theorem At.start (l : List UInt8) : At l [] 0 0 := ⟨by simp, Nat.le_refl _, Nat.zero_le _, by intro b hb; simp at hb⟩
theorem seg_cut {l : List UInt8} {f a : Nat} {c : UInt8} (h : f ≤ a) (hc : l[a]? = some c) : l.drop f = (l.drop f).take (a - f) ++ c :: l.drop (a + 1) := by
  obtain ⟨h3, h4⟩ := List.getElem?_eq_some_iff.1 hc
  conv => lhs; rw [← List.take_append_drop (a - f) (l.drop f)]
  rw [List.drop_drop, show f + (a - f) = a by omega, List.drop_eq_getElem_cons h3, h4]
theorem At.skip {l : List UInt8} {pre : List (List UInt8)} {f a : Nat} {c : UInt8} (h : At l pre f a) (hc : l[a]? = some c) (h1 : c ≠ 10) (h2 : c ≠ 13) : At l pre f (a + 1) := by
  obtain ⟨e, g1, g2, g3⟩ := h
  obtain ⟨h3, h4⟩ := List.getElem?_eq_some_iff.1 hc
  refine ⟨e, by omega, by omega, ?_⟩
  rw [show a + 1 - f = (a - f) + 1 by omega, List.take_add_one, List.getElem?_drop, show f + (a - f) = a by omega, hc]
  intro b hb
  rcases List.mem_append.1 hb with hb | hb
  · exact g3 b hb
  · simp at hb; subst hb; exact ⟨h1, h2⟩
theorem noE_nil : noE [] := by intro b hb; simp at hb
theorem At.ten {l : List UInt8} {pre : List (List UInt8)} {f a : Nat} (h : At l pre f a) (hc : l[a]? = some 10) : At l (pre ++ [(l.drop f).take (a - f)]) (a + 1) (a + 1) ∧ pre.length < (lns l).length := by
  obtain ⟨e, g1, g2, g3⟩ := h
  obtain ⟨h3, h4⟩ := List.getElem?_eq_some_iff.1 hc
  rw [seg_cut g1 hc, lns_10 g3] at e
  exact ⟨⟨by rw [← e]; simp, Nat.le_refl _, by omega, by rw [Nat.sub_self]; exact noE_nil⟩, by rw [← e]; simp⟩
theorem At.one {l : List UInt8} {pre : List (List UInt8)} {f a : Nat} (h : At l pre f a) (hc : l[a]? = some 13) (hd : l[a + 1]? ≠ some 10) : At l (pre ++ [(l.drop f).take (a - f)]) (a + 1) (a + 1) ∧ pre.length < (lns l).length := by
  obtain ⟨e, g1, g2, g3⟩ := h
  obtain ⟨h3, h4⟩ := List.getElem?_eq_some_iff.1 hc
  rw [seg_cut g1 hc, lns_13 g3, skp_no (by rw [List.head?_drop]; exact hd)] at e
  exact ⟨⟨by rw [← e]; simp, Nat.le_refl _, by omega, by rw [Nat.sub_self]; exact noE_nil⟩, by rw [← e]; simp⟩
theorem At.two {l : List UInt8} {pre : List (List UInt8)} {f a : Nat} (h : At l pre f a) (hc : l[a]? = some 13) (hd : l[a + 1]? = some 10) : At l (pre ++ [(l.drop f).take (a - f)]) (a + 2) (a + 2) ∧ pre.length < (lns l).length := by
  obtain ⟨e, g1, g2, g3⟩ := h
  obtain ⟨h3, h4⟩ := List.getElem?_eq_some_iff.1 hc
  obtain ⟨h5, h6⟩ := List.getElem?_eq_some_iff.1 hd
  have hs : skp (l.drop (a + 1)) = l.drop (a + 2) := by
    rw [List.drop_eq_getElem_cons h5, h6]; simp [skp]
  rw [seg_cut g1 hc, lns_13 g3, hs] at e
  exact ⟨⟨by rw [← e]; simp, Nat.le_refl _, by omega, by rw [Nat.sub_self]; exact noE_nil⟩, by rw [← e]; simp⟩
theorem At.end_ {l : List UInt8} {pre : List (List UInt8)} {f : Nat} (h : At l pre f l.length) : pre ++ [l.drop f] = lns l ∧ pre.length < (lns l).length := by
  obtain ⟨e, g1, g2, g3⟩ := h
  rw [List.take_of_length_le (by simp)] at g3
  rw [lns_one g3] at e
  exact ⟨e, by rw [← e]; simp⟩

theorem cell_new_l (W : World) (v : Value) (t : TypeId) : (W.alloc (.cells #[v] t)).cell? ⟨W.heap.size, 0, none⟩ = some v ∧ (W.alloc (.cells #[v] t)).frozen? ⟨W.heap.size, 0, none⟩ = false := by
  simp [go_sem]
/-- What a round of the caller keeps: all below n₀, and the box Bn. -/
def KpS (n₀ Bn : Nat) (W W' : World) : Prop := Below n₀ W W' ∧ ∀ v, W.cell? ⟨Bn, 0, none⟩ = some v → W'.cell? ⟨Bn, 0, none⟩ = some v
theorem kpS_t {n₀ Bn : Nat} {A B C : World} (h : KpS n₀ Bn A B) (k : KpS n₀ Bn B C) : KpS n₀ Bn A C := ⟨h.1.trans k.1, fun v hv => k.2 v (h.2 v hv)⟩
theorem kpS_b {n₀ Bn : Nat} {w : World} (hn : n₀ ≤ w.heap.size) (W : World) (l : Nat) (o o' : Obj) (hl : w.heap.size ≤ l) (h : W.heap[l]? = some o) (hc : o.isCells = false) (hw : o.isWalk = false) : KpS n₀ Bn W (W.putObj l o') :=
  ⟨belowK_b hn W l o o' hl h hc hw, fun v hv => cell_kept hv (grownBy_putObj' W l o') (fun r e => by cases e; exact ⟨o, h, hc⟩)⟩

theorem at_byte {s : ByteArray} {a : Nat} (h : a < s.size) : ∃ c : UInt8, s.data.toList[a]? = some c ∧ s[a] = c := by
  refine ⟨s[a], ?_, rfl⟩
  rw [List.getElem?_eq_getElem (by rw [← Lib.size_eq]; exact h)]; rfl
theorem crlf {l : List UInt8} {a : Nat} (h : l[a]? = some 13) : stB l a [13, 10] = decide (l[a + 1]? = some 10) := by
  obtain ⟨h3, h4⟩ := List.getElem?_eq_some_iff.1 h
  rw [stB_at (by omega), List.drop_eq_getElem_cons h3, h4]
  cases e : l.drop (a + 1) with
  | nil =>
    have : l[a + 1]? = none := by rw [← List.head?_drop, e]; rfl
    rw [this]; rfl
  | cons d t =>
    have : l[a + 1]? = some d := by rw [← List.head?_drop, e]; rfl
    rw [this, Bool.eq_iff_iff]
    show ((13 : UInt8) == 13 && ((10 : UInt8) == d && true)) = true ↔ _
    simp only [beq_self_eq_true, Bool.true_and, Bool.and_true, beq_iff_eq, decide_eq_true_eq, Option.some.injEq]
    exact eq_comm
theorem crlf_no {l : List UInt8} {a : Nat} (h : l[a]? = some 10) : stB l a [13, 10] = false := by
  obtain ⟨h3, h4⟩ := List.getElem?_eq_some_iff.1 h
  rw [stB_at (by omega), List.drop_eq_getElem_cons h3, h4]
  rfl
theorem stands_r {s : ByteArray} {i : Int} {b : Bool} (h : stB s.data.toList i [13, 10] = b) (w : World) :
    Calls Tryz.prog 134 #[.string s, .int .i64 i, .string ⟨#[13, 10]⟩] w fun e w' => e = .returned (.bool b) ∧ w = w' := stands_b (p := ⟨#[13, 10]⟩) h w

set_option maxRecDepth 100000 in
set_option maxHeartbeats 2000000 in
theorem lines1_in (n : Nat) (hn : 1 ≤ n) (l Bn n₀ : Nat) (s : ByteArray) (hs : s.size ≤ 1000000000) (J Jx : List (List UInt8) → World → Prop) (W : World)
    (hY : ∀ pre x W1, J pre W1 → pre.length < (lns s.data.toList).length → YieldAt Fence.wide (n - 1) Tryz.prog l #[.string (mkb x)] W1 fun e W' =>
      (e = .returned (.bool true) ∧ J (pre ++ [x]) W' ∧ KpS n₀ Bn W1 W') ∨ (e = .returned (.bool false) ∧ Jx (pre ++ [x]) W'))
    (hBn : W.cell? ⟨Bn, 0, none⟩ = some (.string s)) (h0 : J [] W) :
    CallsIn Fence.wide n Tryz.prog 150 #[.func (.yield l) #[] #[], .pointer (some ⟨Bn, 0, none⟩)] W fun e W' => (∃ v, e = .returned v) ∧
      ((∃ ys, ys = lns s.data.toList ∧ J ys W') ∨ (∃ pre, True ∧ Jx pre W')) := by
  have HZ := Lib.hid (Lib.size_eq s).symm
  refine callsIn_of_wp Tryz.func150 rfl trivial ?_ rfl
  simp only [Tryz.ntmps150, List.size_toArray, List.length_cons, List.length_nil, Nat.reduceAdd, Nat.reduceSub, Array.replicate_succ, Array.replicate_zero, List.push_toArray, List.append_toArray, List.nil_append, List.cons_append]
  gi_wp2
  gi_loopw [3, 4] (fun f i wr => ∃ (k a : Nat) (pre : List (List UInt8)), f = .int .i64 k ∧ i = .int .i64 a ∧ At s.data.toList pre k a ∧ J pre wr ∧ wr.cell? ⟨Bn, 0, none⟩ = some (.string s))
    (fun _ i _ => s.size - (intOf i).toNat)
  case atStart => exact ⟨0, 0, [], rfl, rfl, At.start _, h0, hBn⟩
  case round =>
    obtain ⟨k, a, pre, rfl, rfl, hat, hJs, hc⟩ := hrel
    have hka : k ≤ a := hat.2.1
    have has : a ≤ s.size := by have := hat.2.2.1; rw [HZ.out] at this; exact this
    have HA := Lib.hid hat
    clear hat
    by_cases hlt : a < s.size
    · obtain ⟨c, hc1, hc2⟩ := at_byte hlt
      by_cases h10 : c = 10
      · subst h10
        have hst := HA.out.ten hc1
        have hsb : (((s[a]'hlt).toNat : Int) != 10) = false := by rw [hc2]; rfl
        have r1 := stands_r (crlf_no hc1)
        have HS := Lib.hid hst.1
        have HE := Lib.hid (ext_mkb' s k a)
        obtain ⟨fn, tmps, assign, body, hy, hR⟩ := hY pre ((s.data.toList.drop k).take (a - k)) wr hJs hst.2
        rw [← HE.out] at hy
        clear hc1 hc2 hst
        gi_wp2
        refine hR.mono ?_
        rintro e W3 (⟨rfl, hJ3, hk3⟩ | ⟨rfl, hJx3⟩)
        · have hc3 := hk3.2 _ hc
          gi_wp2_with fail
          refine ⟨trivial, ?_⟩
          refine (callsIn_wide.2 (r1 _)).mono ?_
          rintro e w' ⟨rfl, rfl⟩
          gi_wp2
          go_roundw
          case rel => exact ⟨a + 1, a + 1, _, by go_num, by go_num, HS.out, hJ3, hc3⟩
          case measure => simp [intOf]; omega
        · gi_wp2
          refine bodyPost_ret (results_none rfl _ _ _) rfl ?_
          exact ⟨⟨_, rfl⟩, .inr ⟨_, trivial, hJx3⟩⟩
      by_cases h13 : c = 13
      · subst h13
        have hsb : (((s[a]'hlt).toNat : Int) != 10) = true := by rw [hc2]; rfl
        have hsb2 : (((s[a]'hlt).toNat : Int) != 13) = false := by rw [hc2]; rfl
        by_cases hd : s.data.toList[a + 1]? = some 10
        · have hst := HA.out.two hc1 hd
          have r1 := stands_r ((crlf hc1).trans (decide_eq_true hd))
          clear hd
          have HS := Lib.hid hst.1
          have HE := Lib.hid (ext_mkb' s k a)
          obtain ⟨fn, tmps, assign, body, hy, hR⟩ := hY pre ((s.data.toList.drop k).take (a - k)) wr hJs hst.2
          rw [← HE.out] at hy
          clear hc1 hc2 hst
          gi_wp2
          refine hR.mono ?_
          rintro e W3 (⟨rfl, hJ3, hk3⟩ | ⟨rfl, hJx3⟩)
          · have hc3 := hk3.2 _ hc
            gi_wp2_with fail
            refine ⟨trivial, ?_⟩
            refine (callsIn_wide.2 (r1 _)).mono ?_
            rintro e w' ⟨rfl, rfl⟩
            gi_wp2
            go_roundw
            case rel => exact ⟨a + 2, a + 2, _, by go_num, by go_num, HS.out, hJ3, hc3⟩
            case measure => simp [intOf]; omega
          · gi_wp2
            refine bodyPost_ret (results_none rfl _ _ _) rfl ?_
            exact ⟨⟨_, rfl⟩, .inr ⟨_, trivial, hJx3⟩⟩
        · have hst := HA.out.one hc1 hd
          have r1 := stands_r ((crlf hc1).trans (decide_eq_false hd))
          clear hd
          have HS := Lib.hid hst.1
          have HE := Lib.hid (ext_mkb' s k a)
          obtain ⟨fn, tmps, assign, body, hy, hR⟩ := hY pre ((s.data.toList.drop k).take (a - k)) wr hJs hst.2
          rw [← HE.out] at hy
          clear hc1 hc2 hst
          gi_wp2
          refine hR.mono ?_
          rintro e W3 (⟨rfl, hJ3, hk3⟩ | ⟨rfl, hJx3⟩)
          · have hc3 := hk3.2 _ hc
            gi_wp2_with fail
            refine ⟨trivial, ?_⟩
            refine (callsIn_wide.2 (r1 _)).mono ?_
            rintro e w' ⟨rfl, rfl⟩
            gi_wp2
            go_roundw
            case rel => exact ⟨a + 1, a + 1, _, by go_num, by go_num, HS.out, hJ3, hc3⟩
            case measure => simp [intOf]; omega
          · gi_wp2
            refine bodyPost_ret (results_none rfl _ _ _) rfl ?_
            exact ⟨⟨_, rfl⟩, .inr ⟨_, trivial, hJx3⟩⟩
      · have hst := HA.out.skip hc1 h10 h13
        have hsb : (((s[a]'hlt).toNat : Int) != 10) = true := by
          rw [hc2]; simp only [bne_iff_ne, ne_eq]; intro h; exact h10 (UInt8.toNat_inj.1 (by exact_mod_cast h))
        have hsb2 : (((s[a]'hlt).toNat : Int) != 13) = true := by
          rw [hc2]; simp only [bne_iff_ne, ne_eq]; intro h; exact h13 (UInt8.toNat_inj.1 (by exact_mod_cast h))
        have HS := Lib.hid hst
        clear hc1 hc2 hst h10 h13
        gi_wp2
        go_roundw
        case rel => exact ⟨k, a + 1, _, rfl, by go_num, HS.out, hJs, hc⟩
        case measure => simp [intOf]; omega
    · obtain rfl : a = s.size := by omega
      have hst := (show At s.data.toList pre k s.data.toList.length by rw [HZ.out]; exact HA.out).end_
      have HS := Lib.hid hst.1
      have HE := Lib.hid (ext_drop s k)
      obtain ⟨fn, tmps, assign, body, hy, hR⟩ := hY pre (s.data.toList.drop k) wr hJs hst.2
      rw [← HE.out] at hy
      clear hst
      gi_wp2
      refine hR.mono ?_
      rintro e W3 (⟨rfl, hJ3, hk3⟩ | ⟨rfl, hJx3⟩)
      · gi_wp2
        go_end0
        exact ⟨⟨_, rfl⟩, .inl ⟨_, HS.out, hJ3⟩⟩
      · gi_wp2
        go_end0
        exact ⟨⟨_, rfl⟩, .inr ⟨_, trivial, hJx3⟩⟩

theorem lines_stops (n : Nat) (hn : 1 ≤ n) (Bn n₀ : Nat) (s : ByteArray) (hs : s.size ≤ 1000000000) (w : World) (hlt : Bn < w.heap.size) (hBn : w.cell? ⟨Bn, 0, none⟩ = some (.string s)) :
    SeqStopsK Fence.wide n Tryz.prog 150 #[.pointer (some ⟨Bn, 0, none⟩)] (fun x : List UInt8 => #[.string (mkb x)]) (KpS n₀ Bn) (fun ys => ys = lns s.data.toList) (fun _ => True) (lns s.data.toList).length w :=
  fun l J Jx W hb hJ _ hY h0 => lines1_in n hn l Bn n₀ s hs J Jx W hY ((hb.cell (p := ⟨Bn, 0, none⟩) hlt).trans hBn) h0

set_option maxHeartbeats 400000 in
theorem lines0_any (s : ByteArray) (w : World) :
    Calls Tryz.prog 141 #[.string s] w fun e w' => e = .returned (.func (.func 150) #[] #[.pointer (some ⟨w.heap.size, 0, none⟩)]) ∧ w' = w.alloc (.cells #[.string s] 9) := by
  go_enter Tryz.func141, Tryz.ntmps141
  go_wp2
  go_ret
  exact ⟨rfl, rfl⟩
end Go.Proofs.YtpcijjdlppoblaaGreatDoor.Fo

/- Contracts of package fold's functions: Lines, indent, what is blank, Indent. -/
namespace Go.Proofs.YtpcijjdlppoblaaGreatDoor.Fo
open Go.RowKit Go.Shelf
set_option linter.unusedVariables false

/-- A text as a value. -/
def sv (x : List UInt8) : Value := .string (mkb x)
theorem infoS : (Tryz.prog.info? 9).map (fun i => (i.zero, i.size, i.bytes)) = some (some (.string ⟨#[]⟩), 1, 16) := by kernel_rfl
theorem own_base {W : World} {base base' : Nat} {e : TypeId} {size : Nat} {v : Value} {k : Nat} {xs : List Value} (h : W.ownsRow base e size v k xs) (hb : base' ≤ base) : W.ownsRow base' e size v k xs := by
  refine ⟨h.1, ?_⟩
  rcases h.2 with h0 | ⟨g, cap, cur, hv, h1, h2⟩
  · exact .inl h0
  · exact .inr ⟨g, cap, cur, hv, Nat.le_trans hb h1, h2⟩

section
attribute [local go_sem] Oper.semAt_some
set_option maxRecDepth 100000 in
set_option maxHeartbeats 2000000 in
theorem lines_any (s : ByteArray) (hs : s.size ≤ 100000000) (w : World) :
    Calls Tryz.prog 136 #[.string s] w fun e w' => ∃ v, e = .returned v ∧ w'.ownsRow w.heap.size 9 1 v (lns s.data.toList).length ((lns s.data.toList).map sv) ∧ Below w.heap.size w w' := by
  obtain ⟨i0, hi, hz0, hz1, hz2⟩ := info_parts infoS
  have hct := lns_count s.data.toList
  rw [← Lib.size_eq] at hct
  refine (callsIn_wide (n := 4)).1 ?_
  refine callsIn_of_wp_marks Tryz.func136 rfl trivial ?_ rfl
  simp only [Tryz.ntmps136, List.size_toArray, List.length_cons, List.length_nil, Nat.reduceAdd, Nat.reduceSub, Array.replicate_succ, Array.replicate_zero, List.push_toArray, List.append_toArray, List.nil_append, List.cons_append]
  gi_wp2_with fail
  refine ⟨trivial, ?_⟩
  refine (callsIn_wide.2 (lines0_any _ _)).mono ?_
  rintro e w' ⟨rfl, rfl⟩
  gi_wp2_with fail
  have bO := Boxed.new w 35 (.slice none 0 0)
  have bN := Boxed.new (w.alloc (.cells #[.slice none 0 0] 35)) 9 (.string s)
  rw [World.size_alloc] at bN
  have hB0 : Below w.heap.size w ((w.alloc (.cells #[.slice none 0 0] 35)).alloc (.cells #[.string s] 9)) := ((Below.refl _ w).alloc (Nat.le_refl _) _).alloc (by simp) _
  refine wpIn_rangeFunc_ownG rfl (by omega) (gf := 150) (lb := #[.pointer (some ⟨w.heap.size + 1, 0, none⟩)]) rfl trivial (enters_of Tryz.func150 (by kernel_rfl) rfl)
    (lines_stops _ (by omega) (w.heap.size + 1) w.heap.size s (by omega) _ (by simp) bN.cell) kpS_t (kpS_b (by simp; omega)) (Below.refl _ _) (fun _ => rfl)
    (fun pre W => (∃ v, Boxed W w.heap.size 35 v ∧ W.ownsRow (w.heap.size + 2) 9 1 v pre.length (pre.map sv) ∧ True) ∧ Below w.heap.size w W ∧ w.heap.size + 2 ≤ W.heap.size)
    (fun _ _ _ => False)
    (OwnFrom.and (Own.from (holdsRow_own (w.heap.size + 2) w.heap.size 35 9 1 (fun pre : List (List UInt8) => pre.length) (fun pre => pre.map sv) (fun _ _ => True)) _) (OwnFrom.and (ownFrom_below (Nat.le_refl _) (by simp; omega)) (fun s A B row hs hg hr => Nat.le_trans hs hg.size)))
    (fun _ _ _ _ _ hs _ _ => hs)
    ⟨⟨_, bO.alloc _, World.ownsRow_nil _ _ _ _, trivial⟩, hB0, by simp⟩
    (fun x => { tmps := #[.string s, undef, .slice none 0 0, .pointer (some ⟨w.heap.size, 0, none⟩), .string (mkb x), .string s, .func (.func 150) #[] #[.pointer (some ⟨w.heap.size + 1, 0, none⟩)], .string (mkb x), undef, undef, undef, undef, undef], defers := [] }) ?assign ?body ?done ?stop
  case assign =>
    intro l x W K hK
    gi_wp2
    exact hK
  case body =>
    rintro l pre x W ⟨⟨v, hv, hrow, -⟩, hB, hsz⟩ hlt
    have hc := hv.cell
    gi_wp2_with (gi_at_builtin; refine wpListIn_append_own _ rfl _ _ 35 rfl (w.heap.size + 2) 9 i0 (.string ⟨#[]⟩) 1 16 Tryz.underlying35 hi hz0 hz1 hz2 rfl (by decide) _ _ _ rfl (hrow.alloc _) ⟨W.heap.size, 0, none⟩ 1 1 [.string (mkb x)] rfl rfl (cell_one_new _ _ _) (by simp [Value.oneCell']) (by unfold maxLen; omega) (by omega) (by simp; omega) ?_; intro v' w1 hown' hgrow _; obtain ⟨g', cap', rfl⟩ := ownsRow_succ hown'; obtain ⟨hv1, hv2, hr2, hk2, hb2⟩ := hv.appended (by decide) (own_base hrow (base' := w.heap.size) (by omega)) hB.size (Nat.le_refl _) (own_base hown' (base' := w.heap.size) (by omega)) hgrow; have hc1 := hv1.cell; have hf1 := hv1.frozen)
    refine ⟨hk2.from _, ⟨hb2, fun u hu => ?_⟩, ⟨_, hv2, ?_, trivial⟩, hB.trans hb2, Nat.le_trans hsz hk2.size⟩
    · rw [World.cell?_setCell_far _ _ _ _ (by show w.heap.size ≠ w.heap.size + 1; omega)]
      have h1 : (W.alloc (.cells #[.string (mkb x)] 9)).cell? ⟨w.heap.size + 1, 0, none⟩ = some u := by rw [World.cell?_alloc_lt _ _ _ (by show w.heap.size + 1 < W.heap.size; omega)]; exact hu
      refine (World.cell?_of_block (hgrow.block (w.heap.size + 1) (by simp; omega) (fun e => ?_))).trans h1
      have := ((hrow.alloc (.cells #[.string (mkb x)] 9)).lt _ e.symm).1
      omega
    · have := hown'.kept (grownBy_setCell' w1 w.heap.size (.slice (some ⟨g', 0, none⟩) (pre.length + 1) cap')) (.inr (hv1.not_row (by decide) hown').symm)
      simpa [sv] using this
  case done =>
    rintro D ys W hD rfl ⟨⟨v, hv, hrow, -⟩, hB, hsz⟩ hK
    have hc := hv.cell
    gi_wp2
    refine ⟨by simp, .inl ⟨_, _, rfl, run_takeDeferred hK, ?_⟩⟩
    exact ⟨_, results_tmp rfl _ _ _, v, rfl, own_base (ownsRow_putObj hrow _ hK rfl) (by omega), hB.trans (belowK_b (w := w) (Nat.le_refl _) W D _ _ (by simp at hD; omega) hK rfl rfl)⟩
  case stop =>
    rintro D c pre W _ _ h _
    exact h.elim
end

/-- The first k bytes are blanks. -/
def Bl (l : List UInt8) (k : Nat) : Prop := ∀ j, j < k → ∃ c, l[j]? = some c ∧ blB c = true
theorem Bl.start (l : List UInt8) : Bl l 0 := fun j hj => by omega
theorem Bl.next {l : List UInt8} {k : Nat} {c : UInt8} (h : Bl l k) (hc : l[k]? = some c) (hb : blB c = true) : Bl l (k + 1) := by
  intro j hj
  by_cases e : j = k
  · subst e; exact ⟨c, hc, hb⟩
  · exact h j (by omega)
theorem Bl.ends {l : List UInt8} {k : Nat} (h : Bl l k) (hk : k = l.length ∨ ∃ c, l[k]? = some c ∧ blB c = false) : mg l = k := mg_at h hk

set_option maxHeartbeats 1000000 in
theorem indent_any (s : ByteArray) (w : World) (hs : s.size ≤ 9223372036854775807) :
    Calls Tryz.prog 142 #[.string s] w fun e w' => e = .returned (.int .i64 (mg s.data.toList : Nat)) ∧ w = w' := by
  have HZ := Lib.hid (Lib.size_eq s).symm
  go_enter Tryz.func142, Tryz.ntmps142
  go_wp2
  go_loop [3] (fun n => ∃ k : Nat, k ≤ s.size ∧ n = .int .i64 k ∧ Bl s.data.toList k) (fun n => s.size - (intOf n).toNat)
  case atStart => exact ⟨0, Nat.zero_le _, rfl, Bl.start _⟩
  case round =>
    obtain ⟨k, hk, rfl, hbl⟩ := hrel
    have HB := Lib.hid hbl
    clear hbl
    by_cases hlt : k < s.size
    · obtain ⟨c, hc1, hc2⟩ := at_byte hlt
      have d0 : decide ((k : Int) < (s.size : Int)) = true := by simp [hlt]
      by_cases h9 : c = 9
      · have HN := Lib.hid (HB.out.next hc1 (by rw [h9]; rfl))
        have b1 : (((s[k]'hlt).toNat : Int) == 9) = true := by rw [hc2, h9]; rfl
        clear hc1 hc2 h9
        go_wp2
        go_round
        case rel => exact ⟨k + 1, by omega, by go_num, HN.out⟩
        case measure => simp [intOf]; omega
      by_cases h32 : c = 32
      · have HN := Lib.hid (HB.out.next hc1 (by rw [h32]; rfl))
        have b1 : (((s[k]'hlt).toNat : Int) == 9) = false := by rw [hc2, h32]; rfl
        have b2 : (((s[k]'hlt).toNat : Int) == 32) = true := by rw [hc2, h32]; rfl
        clear hc1 hc2 h9 h32
        go_wp2
        go_round
        case rel => exact ⟨k + 1, by omega, by go_num, HN.out⟩
        case measure => simp [intOf]; omega
      · have HN := Lib.hid (HB.out.ends (.inr ⟨c, hc1, by simp [blB, h9, h32]⟩))
        have b1 : (((s[k]'hlt).toNat : Int) == 9) = false := by
          rw [hc2]; simp only [beq_eq_false_iff_ne, ne_eq]; intro h; exact h9 (UInt8.toNat_inj.1 (by exact_mod_cast h))
        have b2 : (((s[k]'hlt).toNat : Int) == 32) = false := by
          rw [hc2]; simp only [beq_eq_false_iff_ne, ne_eq]; intro h; exact h32 (UInt8.toNat_inj.1 (by exact_mod_cast h))
        clear hc1 hc2 h9 h32
        go_wp2
        go_ret
        refine ⟨?_, rfl⟩
        rw [HN.out]; rfl
    · have d0 : decide ((k : Int) < (s.size : Int)) = false := by simp; omega
      have HN := Lib.hid (HB.out.ends (.inl (by rw [HZ.out]; omega)))
      go_wp2
      go_ret
      refine ⟨?_, rfl⟩
      rw [HN.out]; rfl
end Go.Proofs.YtpcijjdlppoblaaGreatDoor.Fo

/- Contracts of package fold's functions: what is blank, Indent. -/
namespace Go.Proofs.YtpcijjdlppoblaaGreatDoor.Fo
open Go.RowKit
set_option linter.unusedVariables false

/-- The slice at A holds the texts ls, below block B. -/
def Rs (w : World) (B : Nat) (A : Option Addr) (ls : List (List UInt8)) : Prop := ∀ j x, ls[j]? = some x → ∃ ad : Addr, A = some ad ∧ ad.block < B ∧ w.cell? (ad.add j) = some (.string (mkb x))
theorem addB (ad : Addr) (j : Nat) : (ad.add j).block = ad.block := by unfold Addr.add; split <;> rfl
theorem Rs.keep {w w' : World} {B : Nat} {A : Option Addr} {ls : List (List UInt8)} (h : Rs w B A ls) (hk : ∀ p : Addr, p.block < B → w'.cell? p = w.cell? p) : Rs w' B A ls := by
  intro j x hx
  obtain ⟨ad, e, hb, hc⟩ := h j x hx
  exact ⟨ad, e, hb, (hk _ (by rw [addB]; exact hb)).trans hc⟩
theorem Rs.below {w w' : World} {B : Nat} {A : Option Addr} {ls : List (List UInt8)} (h : Rs w B A ls) (hb : Below B w w') : Rs w' B A ls := h.keep fun _ hp => hb.cell hp
theorem Rs.wide {w : World} {B B' : Nat} {A : Option Addr} {ls : List (List UInt8)} (h : Rs w B A ls) (hb : B ≤ B') : Rs w B' A ls := by
  intro j x hx
  obtain ⟨ad, e, hb', hc⟩ := h j x hx
  exact ⟨ad, e, by omega, hc⟩
theorem Rs.of_own {w : World} {base n c : Nat} {A : Option Addr} {ls : List (List UInt8)} (h : w.ownsRow base 9 1 (.slice A n c) n (ls.map sv)) : Rs w w.heap.size A ls := by
  intro j x hx
  have hn : 0 < n := by
    have h1 := h.1
    have := (List.getElem?_eq_some_iff.1 hx).1
    simp at h1; omega
  rcases h.2 with ⟨_, h0⟩ | ⟨g, cap, cur, hv, _, hg, _⟩
  · omega
  · have hA : A = some ⟨g, 0, none⟩ := by injection hv
    subst hA
    exact ⟨_, rfl, (Array.getElem?_eq_some_iff.1 hg).1, h.cells (g := g) rfl j (sv x) (by simp [hx])⟩

theorem indent_q (s : ByteArray) (w : World) (hs : s.size ≤ 9223372036854775807) :
    Calls Tryz.prog 142 #[.string s] w fun e w' => e = .returned (.int .i64 (mg s.data.toList : Nat)) ∧ w' = w := (indent_any s w hs).mono fun _ _ h => ⟨h.1, h.2.symm⟩
theorem blk_beq (x : List UInt8) : (((mg x : Nat) : Int) == ((x.length : Nat) : Int)) = blk x := by
  cases h : blk x
  · have := blk_no h; simp; omega
  · rw [(blk_mg x).1 h]; simp

set_option maxHeartbeats 400000 in
theorem blankIn_any (v : Value) (A : Option Addr) (n c : Nat) (hv : v = .slice A n c) (w : World) :
    Calls Tryz.prog 138 #[v] w fun e w' => e = .returned (.func (.func 143) #[] #[.pointer (some ⟨w.heap.size, 0, none⟩)]) ∧ w' = w.alloc (.cells #[v] 35) := by
  subst hv
  go_enter Tryz.func138, Tryz.ntmps138
  go_wp2
  go_ret
  exact ⟨rfl, rfl⟩

set_option maxHeartbeats 400000 in
theorem blank_any {w : World} {bx B n c k : Nat} {A : Option Addr} {ls : List (List UInt8)} {x : List UInt8} (hb : w.cell? ⟨bx, 0, none⟩ = some (.slice A n c)) (hr : Rs w B A ls) (hx : ls[k]? = some x) (hn : ls.length = n) (hl : x.length ≤ 1000000000) (hn2 : n ≤ 1000000000) :
    Calls Tryz.prog 143 #[.int .i64 k, .pointer (some ⟨bx, 0, none⟩)] w fun e w' => e = .returned (.bool (blk x)) ∧ ∃ m, w' = w.drewN m := by
  obtain ⟨ad, rfl, hab, hc⟩ := hr k x hx
  have hk : k < n := by rw [← hn]; exact (List.getElem?_eq_some_iff.1 hx).1
  have HX := Lib.hid (blk_beq x)
  have hz : (mkb x).size = x.length := mkb_size x
  have r1 : ∀ w : World, Calls Tryz.prog 142 #[.string (mkb x)] w fun e w' => e = .returned (.int .i64 (mg x : Nat)) ∧ w' = w := fun w => indent_q (mkb x) w (by rw [hz]; omega)
  clear hr hx hn hab
  go_enter Tryz.func143, Tryz.ntmps143
  go_wp2_with fail
  go_quiet ((go_at_call 142; exact Calls.quiet_of_same (r1 _)))
  go_wp2
  go_ret
  refine ⟨?_, _, rfl⟩
  rw [← HX.out]; rfl

/-- The least indent of the first k lines but the first one. -/
def indP (ls : List (List UInt8)) (k : Nat) : Int := ((ls.take k).drop 1).foldl indS (-1)
theorem indP_one (ls : List (List UInt8)) : indP ls 1 = -1 := by
  cases ls <;> simp [indP]
theorem indP_next {ls : List (List UInt8)} {k : Nat} {x : List UInt8} (hk : 1 ≤ k) (hx : ls[k]? = some x) : indP ls (k + 1) = indS (indP ls k) x := by
  unfold indP
  have hl := (List.getElem?_eq_some_iff.1 hx).1
  rw [List.take_add_one, hx, List.drop_append_of_le_length (by rw [List.length_take]; omega)]
  simp
theorem indP_end {ls : List (List UInt8)} {k : Nat} (h : ls.length ≤ k) : indP ls k = ind ls := by
  unfold indP ind indT
  rw [List.take_of_length_le h]; simp
theorem indP_bd (ls : List (List UInt8)) (k : Nat) : -1 ≤ indP ls k := indF_bd _ _ (by omega)
theorem indP_up {ls : List (List UInt8)} (h : ∀ x ∈ ls, x.length ≤ 1000000000) (k : Nat) : indP ls k ≤ 1000000000 := by
  rcases indF_is ((ls.take k).drop 1) (-1) (by omega) with ⟨e, _⟩ | ⟨x, hx, _, e, _⟩
  · unfold indP; omega
  · have := h x (List.mem_of_mem_take (List.mem_of_mem_drop hx))
    have := mg_le x
    unfold indP; omega
theorem get_of {ls : List (List UInt8)} {k : Nat} (h : k < ls.length) : ∃ x, ls[k]? = some x ∧ x ∈ ls := ⟨ls[k], List.getElem?_eq_getElem h, List.getElem_mem h⟩

set_option maxHeartbeats 1000000 in
theorem findent_any {w : World} {n c : Nat} {A : Option Addr} {ls : List (List UInt8)} (hr : Rs w w.heap.size A ls) (hn : ls.length = n) (hl : ∀ x ∈ ls, x.length ≤ 1000000000) (hn2 : n ≤ 1000000000) :
    Calls Tryz.prog 137 #[.slice A n c] w fun e w' => e = .returned (.int .i64 (ind ls)) ∧ Below w.heap.size w w' := by
  have HR := Lib.hid hr
  have HN := Lib.hid hn
  have HL := Lib.hid hl
  clear hr hn hl
  go_enter Tryz.func137, Tryz.ntmps137
  go_wp2_with fail
  refine (blankIn_any _ A n c rfl _).mono ?_
  rintro e w' ⟨rfl, rfl⟩
  have hc0 := (cell_new_l w (.slice A n c) 35).1
  go_wp2_with fail
  go_loopw [4, 5] (fun a i wr => ∃ k : Nat, 1 ≤ k ∧ k ≤ n + 1 ∧ i = .int .i64 k ∧ a = .int .i64 (indP ls k) ∧ wr.cell? ⟨w.heap.size, 0, none⟩ = some (.slice A n c) ∧ Below w.heap.size w wr) (fun _ i _ => n + 1 - (intOf i).toNat)
  case atStart => exact ⟨1, by omega, by omega, rfl, by rw [indP_one], hc0, bel_alloc (Below.refl _ _) _⟩
  case round =>
    obtain ⟨k, hk1, hk2, rfl, rfl, hc, hB⟩ := hrel
    clear hc0
    by_cases hlt : k < n
    · obtain ⟨x, hx, hxm⟩ := get_of (ls := ls) (k := k) (by rw [HN.out]; exact hlt)
      have hxl := HL.out x hxm
      have hR := HR.out.below hB
      have r1 := fun w' (h : w' = wr) => blank_any (w := wr) (k := k) hc hR hx HN.out hxl hn2
      have hnext := indP_next hk1 hx
      obtain ⟨ad, hA, hab, had⟩ := hR k x hx
      subst hA
      have hmz : (mkb x).size = x.length := mkb_size x
      have r2 : ∀ w : World, Calls Tryz.prog 142 #[.string (mkb x)] w fun e w' => e = .returned (.int .i64 (mg x : Nat)) ∧ w = w' := fun w => indent_any (mkb x) w (by rw [hmz]; omega)
      have hbd := indP_bd ls k
      have hup := indP_up HL.out k
      have hml := mg_le x
      have HNX := Lib.hid hnext
      generalize indP ls k = p at *
      clear hnext hmz hR hx
      cases hb : blk x
      · rw [hb] at r1
        by_cases hp : p < 0
        · have d1 : decide (p < 0) = true := by simp [hp]
          have HS := Lib.hid (indS_y hb (a := p) (.inl hp))
          clear hb
          go_wp2_with fail
          (with_reducible refine (r1 _ rfl).mono ?_)
          rintro e w1 ⟨rfl, m, rfl⟩
          clear r1
          go_wp2_with fail
          (with_reducible refine (r2 _).mono ?_)
          rintro e w' ⟨rfl, rfl⟩
          go_wp2
          go_roundw
          case rel => exact ⟨k + 1, by omega, by omega, by go_num, by rw [HNX.out, HS.out], hc, below_drewN hB _⟩
          case measure => simp [intOf]; omega
        by_cases hq : (mg x : Int) < p
        · have d1 : decide (p < 0) = false := by simp; omega
          have d2 : decide ((mg x : Int) < p) = true := by simp [hq]
          have HS := Lib.hid (indS_y hb (a := p) (.inr hq))
          clear hb
          go_wp2_with fail
          (with_reducible refine (r1 _ rfl).mono ?_)
          rintro e w1 ⟨rfl, m, rfl⟩
          clear r1
          go_wp2_with fail
          (with_reducible refine (r2 _).mono ?_)
          rintro e w' ⟨rfl, rfl⟩
          go_wp2
          go_roundw
          case rel => exact ⟨k + 1, by omega, by omega, by go_num, by rw [HNX.out, HS.out], hc, below_drewN hB _⟩
          case measure => simp [intOf]; omega
        · have d1 : decide (p < 0) = false := by simp; omega
          have d2 : decide ((mg x : Int) < p) = false := by simp; omega
          have HS := Lib.hid (indS_n (x := x) (a := p) (by omega))
          clear hb
          go_wp2_with fail
          (with_reducible refine (r1 _ rfl).mono ?_)
          rintro e w1 ⟨rfl, m, rfl⟩
          clear r1
          go_wp2_with fail
          (with_reducible refine (r2 _).mono ?_)
          rintro e w' ⟨rfl, rfl⟩
          go_wp2
          go_roundw
          case rel => exact ⟨k + 1, by omega, by omega, by go_num, by rw [HNX.out, HS.out], hc, below_drewN hB _⟩
          case measure => simp [intOf]; omega
      · rw [hb] at r1
        have HS := Lib.hid (indS_b hb p)
        clear hb
        go_wp2_with fail
        (with_reducible refine (r1 _ rfl).mono ?_)
        rintro e w1 ⟨rfl, m, rfl⟩
        clear r1
        go_wp2
        go_roundw
        case rel => exact ⟨k + 1, by omega, by omega, by go_num, by rw [HNX.out, HS.out], hc, below_drewN hB _⟩
        case measure => simp [intOf]; omega
    · have HE := Lib.hid (indP_end (ls := ls) (k := k) (by rw [HN.out]; omega))
      go_wp2
      go_ret
      refine ⟨?_, hB⟩
      rw [← HE.out]; rfl
end Go.Proofs.YtpcijjdlppoblaaGreatDoor.Fo
