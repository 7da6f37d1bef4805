/- The law TextChars: its mathematics and its walk. -/
import Derived.Test.YtfkokhagbdeahaaTextF
namespace Go.Proofs.Ytfkokhagbdeahaa
open Go.RowKit
set_option linter.unusedVariables false

/-- Characters, and bytes below 32. -/
inductive Ch : List UInt8 → Prop
  | nil : Ch []
  | chr {c : Nat} {v : List UInt8} : srcB c = true → Ch v → Ch (enc c ++ v)
  | low {b : UInt8} {v : List UInt8} : b.toNat < 32 → Ch v → Ch (b :: v)
theorem Ch.append {a b : List UInt8} (h : Ch a) (k : Ch b) : Ch (a ++ b) := by
  induction h with
  | nil => exact k
  | chr hs _ ih => rw [List.append_assoc]; exact .chr hs ih
  | low hb _ ih => exact .low hb ih
theorem ch_one {c : Nat} (h : srcB c = true) : Ch (enc c) := by have := Ch.chr h .nil; rwa [List.append_nil] at this
theorem ch_byte {b : UInt8} (h : b.toNat < 128) (hs : srcB b.toNat = true) : Ch [b] := by
  have := ch_one hs
  rw [enc1 h] at this
  simpa using this
theorem ch_sh {c b : UInt8} (h : shB c = some b) : Ch [b] := by
  unfold shB at h
  split at h
  · rename_i h9
    cases h
    rcases h9 with rfl | rfl | rfl
    · exact ch_byte (by decide) (by decide)
    · exact ch_byte (by decide) (by decide)
    · exact ch_byte (by decide) (by decide)
  · split at h
    · cases h; exact .low (by decide) .nil
    · split at h
      · cases h; exact .low (by decide) .nil
      · split at h
        · cases h; exact .low (by decide) .nil
        · split at h
          · cases h; exact .low (by decide) .nil
          · split at h
            · cases h; exact .low (by decide) .nil
            · cases h
theorem ch_pce {l t : List UInt8} {k : Nat} (h : pce l = some (t, k)) : Ch t := by
  by_cases h92 : l.head? = some 92
  · rw [pce_esc h92] at h
    match l, h, h92 with
    | a :: c :: r, h, hh =>
      obtain rfl : a = 92 := by simpa using hh
      by_cases hc : c = 117
      · subst hc
        rw [esc_uni] at h
        rcases uni_some h with ⟨n, hn, h1, h2, rfl, -⟩ | ⟨n, m, hn, h2, hm, h3, ht, -⟩
        · obtain ⟨q, _, hx⟩ := cod_some hn
          have hb := hx4_lt hx
          unfold putC
          split
          · rename_i h9; exact .low (by rw [toNat_ofNat (by omega)]; exact h9) .nil
          · rename_i h9; exact ch_one (put_src hb h1 h2 (by omega))
        · rw [ht]; exact ch_one (two_bd h2 h3).2.2
      · rw [esc_sh hc, Option.bind_eq_some_iff] at h
        obtain ⟨b, hb, h⟩ := h
        cases h
        exact ch_sh hb
  · unfold pce at h
    rw [if_neg h92] at h
    split at h
    · cases h
    · rename_i hn
      rcases nxt_cases l with ⟨c, hc, e⟩ | ⟨_, e⟩
      · rw [e] at h
        cases h
        obtain ⟨hs, r, hr⟩ := hc
        show Ch (l.take (enc c).length)
        rw [← hr, List.take_left]; exact ch_one hs
      · rw [e] at hn; exact absurd (.inl rfl) hn
theorem Bd.ch {p v : List UInt8} (h : Bd p v) : Ch v := by
  induction h with
  | nil => exact .nil
  | @cons p t q v hp _ ih =>
    have := hp.is []
    exact (ch_pce this).append ih
theorem str_ch {l : List UInt8} {i : Int} {v : List UInt8} {n : Nat} {b : Bool} (h : strA l i = ⟨v, n, b⟩) : Ch v := by
  cases b
  · rw [strA_no_v h]; exact .nil
  · obtain ⟨k, p, x, _, _, hb, _⟩ := strA_cut h
    exact hb.ch
theorem str_len {l : List UInt8} {i : Int} {v : List UInt8} {n : Nat} {b : Bool} (h : strA l i = ⟨v, n, b⟩) : v.length ≤ l.length := by
  cases b
  · rw [strA_no_v h]; simp
  · obtain ⟨k, p, x, _, hd, hb, _⟩ := strA_cut h
    have := hb.le
    have h2 := congrArg List.length hd
    simp only [List.length_drop, List.length_cons, List.length_append] at h2
    omega
/-- What is next in characters, and bytes below 32. -/
theorem ch_next {l : List UInt8} (h : Ch l) (hne : l ≠ []) : ∃ c n, nxt l = (c, n) ∧ ((1 ≤ n ∧ n ≤ l.length ∧ Ch (l.drop n)) ∨ (n = 0 ∧ (∃ b t, l = b :: t ∧ b.toNat < 32 ∧ Ch t))) := by
  cases h with
  | nil => exact absurd rfl hne
  | @chr c v hs hv =>
    have hp := enc_pos c
    refine ⟨c, (enc c).length, nxt_is (is_enc hs v), .inl ⟨hp.1, by simp, by rw [List.drop_left]; exact hv⟩⟩
  | @low b v hb hv =>
    by_cases hs : srcB b.toNat = true
    · have hn := nxt_is (is_enc hs v)
      rw [enc1 (by omega)] at hn
      have hn2 : nxt (b :: v) = (b.toNat, 1) := by simpa using hn
      exact ⟨_, _, hn2, .inl ⟨by omega, by simp, hv⟩⟩
    · refine ⟨0, 0, nxt_none fun d hd => ?_, .inr ⟨rfl, b, v, rfl, hb, hv⟩⟩
      rcases is_head hd with ⟨a1, a2, _⟩ | ⟨_, a2, _⟩
      · rw [a2] at hs; exact hs hd.1
      · omega

set_option maxHeartbeats 1000000 in
set_option maxRecDepth 100000 in
theorem chars_law (s : ByteArray) (w : World) (zs : s.size ≤ 9223372036854775807) :
    Calls Try.prog 7 #[.string s] w fun e w' => e = .returned (.bool true) ∧ Below w.heap.size w w' := by
  by_cases hs : 600 < s.size
  · have gs : (600 : Int) < (s.size : Int) := by omega
    clear hs
    go_enter Try.func7, Try.ntmps7
    (try simp only [List.append_eq, List.cons_append, List.nil_append])
    go_wp2_with fail
    (with_reducible refine (awake_any _).mono ?_)
    rintro e w1 ⟨rfl, hb1⟩
    go_wp2_with fail
    go_ret
    exact ⟨by first | (simp; done) | (simp; omega), hb1⟩
  have gs : ¬ (600 : Int) < (s.size : Int) := by omega
  have ls : s.data.toList.length = s.size := (Lib.size_eq s).symm
  obtain ⟨⟨v, n, o⟩, hN⟩ : ∃ r, strA s.data.toList 0 = r := ⟨_, rfl⟩
  have r1 := fun w => string_c (w := w) (e := (n : Int)) (mkb_of s).symm hN (by omega) (by omega)
  have hc := str_ch hN
  have hl := str_len hN
  obtain ⟨V, hV⟩ : ∃ V, V = mkb v := ⟨_, rfl⟩
  have hv : v = V.data.toList := by rw [hV]; rfl
  have hz : V.size ≤ 600 := by rw [hV, mkb_size]; omega
  rw [← hV] at r1
  rw [hv] at hc
  have HC := Lib.hid hc
  clear hN ls hV hv hl hc
  go_enter Try.func7, Try.ntmps7
  (try simp only [List.append_eq, List.cons_append, List.nil_append])
  go_wp2_with fail
  (with_reducible refine (awake_any _).mono ?_)
  rintro e w1 ⟨rfl, hb1⟩
  go_wp2_with fail
  (with_reducible refine (r1 _).mono ?_)
  rintro e w2 ⟨rfl, hb2⟩
  go_wp2_with fail
  go_loopg [7, 8, 9] V.size (fun g s7 s8 s9 wr => ∃ k : Nat, g = V.size - k ∧ k ≤ V.size ∧ s7 = .int .i64 k ∧ Ch (V.data.toList.drop k) ∧ Below w.heap.size w wr)
  case atStart => exact ⟨0, rfl, Nat.zero_le _, rfl, HC.out, bel_trans hb1 hb2⟩
  case round =>
    obtain ⟨k, hg, hk, rfl, hch, hbel⟩ := hrel
    have HG := Lib.hid hg
    have HB := Lib.hid hbel
    clear hg hbel HC
    have hsz : V.data.toList.length = V.size := (Lib.size_eq V).symm
    by_cases hlt : k < V.size
    · have hne : V.data.toList.drop k ≠ [] := by
        intro e; have := congrArg List.length e; rw [List.length_drop, hsz, List.length_nil] at this; omega
      obtain ⟨c, m, hn, ⟨m1, m2, m3⟩ | ⟨m0, b, t, ht, hb32, hcht⟩⟩ := ch_next hch hne
      · have r2 := fun w => next_b (w := w) hk hn
        rw [List.length_drop, hsz] at m2
        rw [List.drop_drop] at m3
        have M3 := Lib.hid m3
        have t0 : ((m : Int) == 0) = false := beq_false_of_ne (by omega)
        have t1 : ¬ (m : Int) < 0 := by omega
        clear hch hsz hne hn m3
        go_wp2_with fail
        (with_reducible refine (r2 _).mono ?_)
        rintro e w3 ⟨rfl, hb3⟩
        go_wp2_with fail
        go_roundg (V.size - (k + m))
        case measure => rw [HG.out]; omega
        case rel => exact ⟨k + m, rfl, by omega, by go_num, M3.out, bel_trans HB.out hb3⟩
      · subst m0
        have r2 := fun w => next_b (w := w) hk hn
        have hb0 : V[k] = b := by
          have e : V.data.toList.drop k = V[k] :: V.data.toList.drop (k + 1) := by rw [List.drop_eq_getElem_cons (by omega)]; rfl
          rw [e] at ht; injection ht
        have ht2 : t = V.data.toList.drop (k + 1) := by
          have e : V.data.toList.drop k = V[k] :: V.data.toList.drop (k + 1) := by rw [List.drop_eq_getElem_cons (by omega)]; rfl
          rw [e] at ht; injection ht with _ h9; exact h9.symm
        rw [ht2] at hcht
        have M3 := Lib.hid hcht
        have g32 : ¬ (32 : Int) ≤ ((V[k]).toNat : Int) := by rw [hb0]; omega
        clear hch hsz hne hn hcht ht ht2 hb0
        go_wp2_with fail
        (with_reducible refine (r2 _).mono ?_)
        rintro e w3 ⟨rfl, hb3⟩
        go_wp2_with fail
        go_roundg (V.size - (k + 1))
        case measure => rw [HG.out]; omega
        case rel => exact ⟨k + 1, rfl, by omega, by go_num, M3.out, bel_trans HB.out hb3⟩
    · have hk2 : k = V.size := by omega
      have t0 : ((k : Int) == (V.size : Int)) = true := by simp; omega
      have g0 : ¬ (k : Int) < (V.size : Int) := by omega
      clear hk2 hsz hch
      go_wp2_with fail
      go_ret
      exact ⟨by first | (simp; done) | (simp; omega), HB.out⟩
end Go.Proofs.Ytfkokhagbdeahaa
