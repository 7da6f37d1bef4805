/- Small laws of worlds; string([]byte{..}); the document's own answers for layer 2 (copperplateref02): is, Put, guess, Next. For seats that hold Next alone. -/
import Derived.Test.YtfcjihfnimefhaaUtfA
import Derived.Test.YtfcjihfnimefhaaBel
import Derived.IntWalk
import Derived.Laws.IdiomStrings
namespace Go.Proofs.Ytfcjihfnimefhaa
open Go.RowKit

theorem putA_list (r : Int) : (putA r).toList = putL r := by simp [putA, ByteArray.toList_eq]
theorem putA_no {r : Int} (h : srcB r = false) : putA r = ⟨#[]⟩ := by simp [putA, putL_no h]
theorem nxtN_at (s : ByteArray) (k : Nat) (hk : k ≤ s.size) : nxtN s k = ((nxt (s.data.toList.drop k)).2 : Int) := by
  unfold nxtN
  by_cases h : k < s.size
  · simp [h]
  · have e : s.data.toList.drop k = [] := by apply List.drop_eq_nil_of_le; rw [← Lib.size_eq]; omega
    rw [e, nxt_nil, if_neg (by omega)]; rfl

theorem push_bytes : ∀ (ns : List Int) (s : ByteArray), (ns.foldl (fun r n => r.push (UInt8.ofNat n.toNat)) s) = ⟨s.data ++ (ns.map fun n => UInt8.ofNat n.toNat).toArray⟩ := by
  intro ns
  induction ns with
  | nil => intro s; simp
  | cons n ns ih => intro s; rw [List.foldl_cons, ih]; simp [ByteArray.push]

/-- '[]byte{..}' made into a string. -/
theorem conv_bytes (w : World) (ns : List Int) : (convert 57 9 (.slice (some ⟨w.heap.size, 0, none⟩) ns.length ns.length)).run Try.prog (w.alloc (.cells (ns.map (Value.int .u8)).toArray 5)) =
    .ok (.string ⟨(ns.map fun n => UInt8.ofNat n.toNat).toArray⟩) (w.alloc (.cells (ns.map (Value.int .u8)).toArray 5)) := by
  rw [run_convert_bytes_string _ _ _ 5 _ _ _ Try.underlying57 Try.underlying5 Try.underlying9]
  have hl := run_loadCells_list (P := Try.prog) (w.alloc (.cells (ns.map (Value.int .u8)).toArray 5)) ⟨w.heap.size, 0, none⟩ (ns.map (Value.int .u8)) (fun j v hj => by
    have := World.cell?_alloc_mark w (ns.map (Value.int .u8)).toArray 5 (0, 0) j
    have ea : (⟨w.heap.size, 0, none⟩ : Addr).add j = ⟨w.heap.size, j, none⟩ := by unfold Addr.add; split <;> simp_all
    rw [ea, this]; simpa using hj)
  rw [List.length_map] at hl
  rw [run_bytesToString _ _ _ _ ns hl, push_bytes]
  rw [show (ByteArray.empty).data = #[] from rfl, Array.empty_append]

theorem conv1 (w : World) (a : Int) : (convert 57 9 (.slice (some ⟨w.heap.size, 0, none⟩) 1 1)).run Try.prog (w.alloc (.cells #[.int .u8 a] 5)) =
    .ok (.string ⟨#[UInt8.ofNat a.toNat]⟩) (w.alloc (.cells #[.int .u8 a] 5)) := conv_bytes w [a]
theorem conv2 (w : World) (a b : Int) : (convert 57 9 (.slice (some ⟨w.heap.size, 0, none⟩) 2 2)).run Try.prog (w.alloc (.cells #[.int .u8 a, .int .u8 b] 5)) =
    .ok (.string ⟨#[UInt8.ofNat a.toNat, UInt8.ofNat b.toNat]⟩) (w.alloc (.cells #[.int .u8 a, .int .u8 b] 5)) := conv_bytes w [a, b]
theorem conv3 (w : World) (a b c : Int) : (convert 57 9 (.slice (some ⟨w.heap.size, 0, none⟩) 3 3)).run Try.prog (w.alloc (.cells #[.int .u8 a, .int .u8 b, .int .u8 c] 5)) =
    .ok (.string ⟨#[UInt8.ofNat a.toNat, UInt8.ofNat b.toNat, UInt8.ofNat c.toNat]⟩) (w.alloc (.cells #[.int .u8 a, .int .u8 b, .int .u8 c] 5)) := conv_bytes w [a, b, c]
theorem conv4 (w : World) (a b c d : Int) : (convert 57 9 (.slice (some ⟨w.heap.size, 0, none⟩) 4 4)).run Try.prog (w.alloc (.cells #[.int .u8 a, .int .u8 b, .int .u8 c, .int .u8 d] 5)) =
    .ok (.string ⟨#[UInt8.ofNat a.toNat, UInt8.ofNat b.toNat, UInt8.ofNat c.toNat, UInt8.ofNat d.toNat]⟩) (w.alloc (.cells #[.int .u8 a, .int .u8 b, .int .u8 c, .int .u8 d] 5)) := conv_bytes w [a, b, c, d]
attribute [local go_sem] conv1 conv2 conv3 conv4

set_option maxHeartbeats 1000000 in
theorem rsrc_any (r : Int) (w : World) :
    Calls Try.prog 89 #[.int .i64 r] w fun e w' => e = .returned (.bool (srcB r)) ∧ w = w' := by
  by_cases h9 : r = 9
  · subst h9
    go_enter Try.func89, Try.ntmps89
    go_wp2
    go_ret
    exact ⟨rfl, rfl⟩
  by_cases h10 : r = 10
  · subst h10
    go_enter Try.func89, Try.ntmps89
    go_wp2
    go_ret
    exact ⟨rfl, rfl⟩
  by_cases h13 : r = 13
  · subst h13
    go_enter Try.func89, Try.ntmps89
    go_wp2
    go_ret
    exact ⟨rfl, rfl⟩
  have e9 : (r == 9) = false := by simp [h9]
  have e10 : (r == 10) = false := by simp [h10]
  have e13 : (r == 13) = false := by simp [h13]
  by_cases h1 : 32 ≤ r <;> by_cases h2 : r ≤ 1114111 <;> by_cases h3 : r < 55296 <;> by_cases h4 : 57343 < r
  all_goals
    go_enter Try.func89, Try.ntmps89
    go_wp2
    go_ret
    refine ⟨?_, rfl⟩
    have hh : srcB r = (decide (32 ≤ r) && decide (r ≤ 1114111) && (decide (r < 55296) || decide (57343 < r))) := by
      simp only [srcB, h9, h10, h13, false_or]
      rw [Bool.eq_iff_iff]; simp; omega
    rw [hh]; simp [h1, h2, h3, h4]

set_option maxHeartbeats 1000000 in
theorem rput_any (r : Int) (w : World) :
    Calls Try.prog 78 #[.int .i64 r] w fun e w' => e = .returned (.string (putA r)) ∧ Below w.heap.size w w' := by
  cases h : srcB r
  · have e1 : putA r = ⟨#[]⟩ := putA_no h
    rw [e1]; clear e1
    go_enter Try.func78, Try.ntmps78
    go_wp2_with (go_at_call 89; refine (rsrc_any _ _).mono ?_; rintro e w' ⟨rfl, rfl⟩)
    go_ret
    exact ⟨rfl, Below.refl _ _⟩
  · have hr := (srcB_iff r).1 h
    have h0 : 0 ≤ r := by omega
    have h1 : r ≤ 1114111 := by omega
    have e1 : putA r = ⟨(enc r.toNat).toArray⟩ := by rw [putA, putL_yes h]
    have E := Lib.hid e1
    clear hr e1
    by_cases c1 : r < 128
    · skip
      go_enter Try.func78, Try.ntmps78
      go_wp2_with (go_at_call 89; refine (rsrc_any _ _).mono ?_; rintro e w' ⟨rfl, rfl⟩)
      go_ret
      refine ⟨?_, (Below.refl _ _).alloc (Nat.le_refl _) _⟩
      rw [E.out, enc1 (by omega)]
      rfl
    · by_cases c2 : r < 2048
      · skip
        go_enter Try.func78, Try.ntmps78
        go_wp2_with (go_at_call 89; refine (rsrc_any _ _).mono ?_; rintro e w' ⟨rfl, rfl⟩)
        go_ret
        refine ⟨?_, (Below.refl _ _).alloc (Nat.le_refl _) _⟩
        rw [E.out, enc2 (by omega) (by omega), show 192 + r.toNat / 64 = (192 + r / 64).toNat by omega, show 128 + r.toNat % 64 = (128 + r % 64).toNat by omega]
        rfl
      · by_cases c3 : r < 65536
        · skip
          go_enter Try.func78, Try.ntmps78
          go_wp2_with (go_at_call 89; refine (rsrc_any _ _).mono ?_; rintro e w' ⟨rfl, rfl⟩)
          go_ret
          refine ⟨?_, (Below.refl _ _).alloc (Nat.le_refl _) _⟩
          rw [E.out, enc3 (by omega) (by omega), show 224 + r.toNat / 4096 = (224 + r / 4096).toNat by omega, show 128 + r.toNat / 64 % 64 = (128 + r / 64 % 64).toNat by omega, show 128 + r.toNat % 64 = (128 + r % 64).toNat by omega]
          rfl
        · skip
          go_enter Try.func78, Try.ntmps78
          go_wp2_with (go_at_call 89; refine (rsrc_any _ _).mono ?_; rintro e w' ⟨rfl, rfl⟩)
          go_ret
          refine ⟨?_, (Below.refl _ _).alloc (Nat.le_refl _) _⟩
          rw [E.out, enc4 (by omega), show 240 + r.toNat / 262144 = (240 + r / 262144).toNat by omega, show 128 + r.toNat / 4096 % 64 = (128 + r / 4096 % 64).toNat by omega, show 128 + r.toNat / 64 % 64 = (128 + r / 64 % 64).toNat by omega, show 128 + r.toNat % 64 = (128 + r % 64).toNat by omega]
          rfl

/-- The byte of l at place k, as a number. -/
def byt (l : List UInt8) (k : Nat) : Nat := (l.getD k 0).toNat
theorem byt_lt (l : List UInt8) (k : Nat) : byt l k < 256 := UInt8.toNat_lt _
theorem byt_at (s : ByteArray) (k : Nat) (h : k < s.size) : ((s[k]'h).toNat : Int) = byt s.data.toList k := by
  have h' : k < s.data.toList.length := by rw [← Lib.size_eq]; exact h
  unfold byt
  simp only [List.getD_eq_getElem?_getD, List.getElem?_eq_getElem h', Option.getD_some]
  rfl

/-- The character that n bytes seem to be. -/
def gs (l : List UInt8) : Nat → Nat
  | 1 => byt l 0
  | 2 => 64 * (byt l 0 % 32) + byt l 1 % 64
  | 3 => 64 * (64 * (byt l 0 % 16) + byt l 1 % 64) + byt l 2 % 64
  | 4 => 64 * (64 * (64 * (byt l 0 % 8) + byt l 1 % 64) + byt l 2 % 64) + byt l 3 % 64
  | _ => 0

set_option maxHeartbeats 1000000 in
theorem guess_any (s : ByteArray) (n : Nat) (h1 : 1 ≤ n) (h4 : n ≤ 4) (hn : n ≤ s.size) (w : World) :
    Calls Try.prog 77 #[.string s, .int .i64 n] w fun e w' => e = .returned (.int .i64 (gs s.data.toList n)) ∧ w = w' := by
  have b0 := byt_at s 0 (by omega)
  have l0 := byt_lt s.data.toList 0
  have l1 := byt_lt s.data.toList 1
  have l2 := byt_lt s.data.toList 2
  have l3 := byt_lt s.data.toList 3
  match n, h1, h4, hn with
  | 1, _, _, _ =>
    go_enter Try.func77, Try.ntmps77
    go_wp2
    go_ret
    exact ⟨rfl, rfl⟩
  | 2, _, _, hn =>
    have b1 := byt_at s 1 (by omega)
    have hg : ((gs s.data.toList 2 : Nat) : Int) = 64 * ((byt s.data.toList 0 : Int) % 32) + (byt s.data.toList 1 : Int) % 64 := by simp only [gs]; omega
    have HG := Lib.hid hg
    clear hg
    generalize byt s.data.toList 0 = x0 at *
    generalize byt s.data.toList 1 = x1 at *
    have hn' : 1 < s.size := by omega
    go_enter Try.func77, Try.ntmps77
    go_wp2
    refine wp_loop_rounds 2 ?_
    rw [rounds_succ]
    go_wp2
    rw [rounds_succ]
    go_wp2
    go_ret
    refine ⟨?_, rfl⟩
    rw [HG.out]
    rfl
  | 3, _, _, hn =>
    have b1 := byt_at s 1 (by omega)
    have b2 := byt_at s 2 (by omega)
    have hg : ((gs s.data.toList 3 : Nat) : Int) = 64 * (64 * ((byt s.data.toList 0 : Int) % 16) + (byt s.data.toList 1 : Int) % 64) + (byt s.data.toList 2 : Int) % 64 := by simp only [gs]; omega
    have HG := Lib.hid hg
    clear hg
    generalize byt s.data.toList 0 = x0 at *
    generalize byt s.data.toList 1 = x1 at *
    generalize byt s.data.toList 2 = x2 at *
    have hn' : 2 < s.size := by omega
    go_enter Try.func77, Try.ntmps77
    go_wp2
    refine wp_loop_rounds 3 ?_
    rw [rounds_succ]
    go_wp2
    rw [rounds_succ]
    go_wp2
    rw [rounds_succ]
    go_wp2
    go_ret
    refine ⟨?_, rfl⟩
    rw [HG.out]
    rfl
  | 4, _, _, hn =>
    have b1 := byt_at s 1 (by omega)
    have b2 := byt_at s 2 (by omega)
    have b3 := byt_at s 3 (by omega)
    have hg : ((gs s.data.toList 4 : Nat) : Int) = 64 * (64 * (64 * ((byt s.data.toList 0 : Int) % 8) + (byt s.data.toList 1 : Int) % 64) + (byt s.data.toList 2 : Int) % 64) + (byt s.data.toList 3 : Int) % 64 := by simp only [gs]; omega
    have HG := Lib.hid hg
    clear hg
    generalize byt s.data.toList 0 = x0 at *
    generalize byt s.data.toList 1 = x1 at *
    generalize byt s.data.toList 2 = x2 at *
    generalize byt s.data.toList 3 = x3 at *
    have hn' : 3 < s.size := by omega
    go_enter Try.func77, Try.ntmps77
    go_wp2
    refine wp_loop_rounds 4 ?_
    rw [rounds_succ]
    go_wp2
    rw [rounds_succ]
    go_wp2
    rw [rounds_succ]
    go_wp2
    rw [rounds_succ]
    go_wp2
    go_ret
    refine ⟨?_, rfl⟩
    rw [HG.out]
    rfl

/-- None of the first m - 1 numbers of bytes is a character's. -/
def NoneTo (l : List UInt8) (m : Nat) : Prop := ∀ j, 1 ≤ j → j < m → j ≤ l.length → putL (gs l j : Nat) ≠ l.take j

theorem byt_cons (a : UInt8) (l : List UInt8) : byt (a :: l) 0 = a.toNat := rfl
theorem byt_succ (a : UInt8) (l : List UInt8) (k : Nat) : byt (a :: l) (k + 1) = byt l k := rfl

/-- The bytes of a character seem to be it. -/
theorem gs_enc (c : Nat) (h : srcB c = true) (t : List UInt8) : gs (enc c ++ t) (enc c).length = c := by
  rw [srcB_iff] at h
  have tt : ∀ n : Nat, n < 256 → (UInt8.ofNat n).toNat = n := fun n h => toNat_ofNat h
  by_cases h1 : c < 128
  · rw [enc1 h1]
    show byt (UInt8.ofNat c :: t) 0 = c
    rw [byt_cons, tt _ (by omega)]
  · by_cases h2 : c < 2048
    · rw [enc2 (by omega) h2]
      show 64 * ((UInt8.ofNat (192 + c / 64)).toNat % 32) + (UInt8.ofNat (128 + c % 64)).toNat % 64 = c
      rw [tt _ (by omega), tt _ (by omega)]; omega
    · by_cases h3 : c < 65536
      · rw [enc3 (by omega) h3]
        show 64 * (64 * ((UInt8.ofNat (224 + c / 4096)).toNat % 16) + (UInt8.ofNat (128 + c / 64 % 64)).toNat % 64) + (UInt8.ofNat (128 + c % 64)).toNat % 64 = c
        rw [tt _ (by omega), tt _ (by omega), tt _ (by omega)]; omega
      · rw [enc4 (by omega)]
        show 64 * (64 * (64 * ((UInt8.ofNat (240 + c / 262144)).toNat % 8) + (UInt8.ofNat (128 + c / 4096 % 64)).toNat % 64) + (UInt8.ofNat (128 + c / 64 % 64)).toNat % 64) + (UInt8.ofNat (128 + c % 64)).toNat % 64 = c
        rw [tt _ (by omega), tt _ (by omega), tt _ (by omega), tt _ (by omega)]; omega

theorem found_is {l : List UInt8} {k g : Nat} (h1 : 1 ≤ k) (hk : k ≤ l.length) (h : putL (g : Nat) = l.take k) : nxt l = (g, k) := by
  have hs : srcB (g : Nat) = true := by
    by_cases hs : srcB (g : Nat) = true
    · exact hs
    · have : (l.take k).length = 0 := by rw [← h]; simp [putL, hs]
      rw [List.length_take] at this; omega
  rw [putL_yes hs, Int.toNat_natCast] at h
  have hl : (enc g).length = k := by rw [h]; simp; omega
  rw [nxt_is ⟨hs, by rw [h]; exact List.take_prefix _ _⟩, hl]
theorem noneTo_none {l : List UInt8} {m : Nat} (hm : 4 < m ∨ l.length < m) (h : NoneTo l m) : nxt l = (0, 0) := by
  refine nxt_none fun c hc => ?_
  have hp := enc_pos c
  have hl := hc.len
  refine h (enc c).length hp.1 (by omega) hl ?_
  obtain ⟨t, ht⟩ := hc.2
  rw [← ht, gs_enc c hc.1, List.take_left, putL_yes hc.1, Int.toNat_natCast]
theorem NoneTo.succ {l : List UInt8} {m : Nat} (h : NoneTo l m) (k : putL (gs l m : Nat) ≠ l.take m) : NoneTo l (m + 1) := by
  intro j j1 j2 j3
  by_cases e : j = m
  · subst e; exact k
  · exact h j j1 (by omega) j3
theorem NoneTo.one (l : List UInt8) : NoneTo l 1 := fun j j1 j2 _ => by omega

set_option maxHeartbeats 2000000 in
theorem rnext_big (s : ByteArray) (hs : s.size ≤ 9223372036854775807) (i : Int) (w : World) :
    Calls Try.prog 63 #[.string s, .int .i64 i] w fun e w' => e = .returned (.tuple #[.int .i64 (nxtC s i), .int .i64 (nxtN s i)]) ∧ Below w.heap.size w w' := by
  by_cases h0 : 0 ≤ i
  · by_cases h1 : i < s.size
    · obtain ⟨k, rfl⟩ := Int.eq_ofNat_of_zero_le h0
      have hk : k < s.size := by omega
      obtain ⟨t, ht⟩ : ∃ t, s.extract k s.size = t := ⟨_, rfl⟩
      have hts : t.size = s.size - k := by rw [← ht]; simp
      have hl : t.data.toList = s.data.toList.drop k := by rw [← ht, Lib.extract_data]; apply List.take_of_length_le; simp
      have e1 : nxtC s k = (nxt t.data.toList).1 := by rw [hl]; unfold nxtC; rw [if_pos ⟨by omega, h1⟩]; rfl
      have e2 : nxtN s k = (nxt t.data.toList).2 := by rw [hl]; unfold nxtN; rw [if_pos ⟨by omega, h1⟩]; rfl
      have hlen : t.data.toList.length = s.size - k := by rw [← Lib.size_eq, hts]
      have htk : ∀ m : Nat, (s.extract k (k + m)).toList = t.data.toList.take m := by
        intro m; rw [Lib.extract_toList, hl, Nat.add_sub_cancel_left]
      have HTK := Lib.hid htk
      have HT := Lib.hid hts
      have HL := Lib.hid hlen
      rw [e1, e2]
      clear e1 e2 hl hts hlen htk
      have u1 : decide ((k : Int) < 0) = false := by simp
      have u2 : decide (s.size ≤ k) = false := by simp; omega
      go_enter Try.func63, Try.ntmps63
      go_wp2
      go_loopw [6] (fun n wr => ∃ m : Nat, 1 ≤ m ∧ m ≤ 5 ∧ n = .int .i64 m ∧ NoneTo t.data.toList m ∧ Below w.heap.size w wr) (fun n _ => 5 - (intOf n).toNat)
      case atStart => exact ⟨1, by omega, by omega, rfl, NoneTo.one _, Below.refl _ _⟩
      case round =>
        obtain ⟨m, m1, m5, rfl, hnone, hB⟩ := hrel
        by_cases hm : m ≤ 4
        · by_cases hm2 : m ≤ s.size - k
          · have hm3 : m ≤ t.size := by rw [HT.out]; exact hm2
            have hg : gs t.data.toList m ≤ 100000000 := by
              have := byt_lt t.data.toList 0; have := byt_lt t.data.toList 1; have := byt_lt t.data.toList 2; have := byt_lt t.data.toList 3
              match m, m1, hm with
              | 1, _, _ => simp only [gs]; omega
              | 2, _, _ => simp only [gs]; omega
              | 3, _, _ => simp only [gs]; omega
              | 4, _, _ => simp only [gs]; omega
            have s1 : (m : Int) ≤ (s.size : Int) - k := by omega
            go_wp2_with fail
            refine (guess_any t m m1 hm hm3 _).mono ?_; rintro e w' ⟨rfl, rfl⟩
            have hw1 : IntKind.i64.wrap ((k : Int) + m) = k + m := IntWalk.i64_in _ (by omega)
            have s2 : (0 : Int) ≤ k := by omega
            have s3 : (k : Int) ≤ k + m := by omega
            have s4 : (k : Int) + m ≤ s.size := by omega
            have s5 : ((k : Int) + m).toNat = k + m := by omega
            by_cases hq : putL (gs t.data.toList m : Nat) = t.data.toList.take m
            · have q1 : ((putA (gs t.data.toList m : Nat)).toList == (s.extract k (k + m)).toList) = true := by
                rw [HTK.out, putA_list, hq]; simp
              have hfin := found_is m1 (by rw [HL.out]; exact hm2) hq
              have HF := Lib.hid hfin
              clear hfin hq hnone
              go_wp2_with fail
              go_region_held3 (fun _ => True) (trivial) ((go_at_call 78; refine (rput_any _ _).mono ?_; rintro e w3 ⟨rfl, hq⟩))
              go_wp2
              go_ret2
              refine ⟨?_, ?_⟩
              · rw [HF.out]; rfl
              · exact bel_trans hB.drew hq
            · have q1 : ((putA (gs t.data.toList m : Nat)).toList == (s.extract k (k + m)).toList) = false := by
                rw [HTK.out, putA_list]; simpa using hq
              have hfin := hnone.succ hq
              clear hq hnone
              go_wp2_with fail
              go_region_held3 (fun _ => True) (trivial) ((go_at_call 78; refine (rput_any _ _).mono ?_; rintro e w3 ⟨rfl, hq⟩))
              go_wp2
              go_roundw
              case rel => exact ⟨m + 1, by omega, by omega, by go_num, hfin, bel_trans hB.drew hq⟩
              case measure => simp [intOf]; omega
          · have s1 : (s.size : Int) - k < m := by omega
            have hfin := noneTo_none (.inr (by rw [HL.out]; omega)) hnone
            have HF := Lib.hid hfin
            clear hfin hnone
            go_wp2
            go_ret2
            exact ⟨by rw [HF.out]; rfl, hB⟩
        · have s1 : (4 : Int) < m := by omega
          have hfin := noneTo_none (.inl (by omega)) hnone
          have HF := Lib.hid hfin
          clear hfin hnone
          go_wp2
          go_ret2
          exact ⟨by rw [HF.out]; rfl, hB⟩
    · have e1 : nxtC s i = 0 := by simp [nxtC, h1]
      have e2 : nxtN s i = 0 := by simp [nxtN, h1]
      rw [e1, e2]; clear e1 e2
      have h1' : (s.size : Int) ≤ i := by omega
      go_enter Try.func63, Try.ntmps63
      go_wp2
      go_ret2
      exact ⟨rfl, Below.refl _ _⟩
  · have e1 : nxtC s i = 0 := by simp [nxtC, h0]
    have e2 : nxtN s i = 0 := by simp [nxtN, h0]
    rw [e1, e2]; clear e1 e2
    have h1' : i < 0 := by omega
    go_enter Try.func63, Try.ntmps63
    go_wp2
    go_ret2
    exact ⟨rfl, Below.refl _ _⟩

theorem rnext_any (s : ByteArray) (hs : s.size ≤ 1000000000) (i : Int) (w : World) :
    Calls Try.prog 63 #[.string s, .int .i64 i] w fun e w' => e = .returned (.tuple #[.int .i64 (nxtC s i), .int .i64 (nxtN s i)]) ∧ Below w.heap.size w w' := rnext_big s (by omega) i w
theorem nxtN_bd (s : ByteArray) (k : Nat) (hk : k ≤ s.size) : ∃ m : Nat, nxtN s k = m ∧ (nxt (s.data.toList.drop k)).2 = m ∧ k + m ≤ s.size := by
  have hle := (nxt_le (s.data.toList.drop k)).1
  rw [List.length_drop, ← Lib.size_eq] at hle
  exact ⟨_, nxtN_at s k hk, rfl, by omega⟩

end Go.Proofs.Ytfcjihfnimefhaa
