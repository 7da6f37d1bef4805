/- The law QuoteText: its walk. -/
import Derived.Test.YtfaacngfccceeaaDoorQuoH
import Derived.Test.YtfaacngfccceeaaDoorTextN
namespace Go.Proofs.YtfaacngfccceeaaDoor
open Go.RowKit
set_option linter.unusedVariables false

theorem str_ch {l : List UInt8} {v : List UInt8} {n : Nat} {b : Bool} (h : strA l 0 = ⟨v, n, b⟩) : Ch v ∧ v.length ≤ l.length := by
  cases b
  · rw [strA_no_v h]; exact ⟨.nil, by simp⟩
  · unfold strA at h
    split at h
    · injection h with h1 h2 h3
      obtain ⟨p, u, x, hx, hb, ⟨y, rfl, e⟩ | ⟨_, _, e⟩⟩ := bod_cut (l.drop ((0 : Int).toNat + 1))
      · rw [e] at h1
        simp only at h1
        subst h1
        refine ⟨hb.ch, ?_⟩
        have hle := hb.le
        have := congrArg List.length hx
        rw [List.length_drop, List.length_append] at this
        omega
      · rw [e] at h3; cases h3
    · injection h with _ _ h3; cases h3
theorem Ch.qt {v : List UInt8} (h : Ch v) : ∃ cs, Qt cs v := by
  induction h with
  | nil => exact ⟨[], .nil⟩
  | @chr c v hs _ ih => obtain ⟨cs, hc⟩ := ih; exact ⟨c :: cs, .cons (.inr hs) hc⟩
  | @low b v hb _ ih =>
    obtain ⟨cs, hc⟩ := ih
    have := Qt.cons (c := b.toNat) (.inl hb) hc
    rw [enc1 (by omega)] at this
    exact ⟨b.toNat :: cs, by simpa using this⟩

set_option maxHeartbeats 1000000 in
set_option maxRecDepth 100000 in
theorem text_any (s : ByteArray) (w : World) (zs : s.size ≤ 9223372036854775807) (ht : Tab w) :
    Calls Tryd.prog 6 #[.string s] w fun e w' => e = .returned (.bool true) ∧ Below w.heap.size w w' := by
  by_cases ha : 600 < s.size
  · have ga : (600 : Int) < (s.size : Int) := by omega
    clear ha
    go_enter Tryd.func6, Tryd.ntmps6
    (try simp only [List.append_eq, List.cons_append, List.nil_append])
    go_wp2_with fail
    (with_reducible refine (awake_any _ ht).mono ?_)
    rintro e w1 ⟨rfl, hb1⟩
    go_wp2_with fail
    go_ret
    exact ⟨by first | (simp; done) | (simp; omega), hb1⟩
  have ga : ¬ (600 : Int) < (s.size : Int) := by omega
  have la : s.data.toList.length = s.size := (Lib.size_eq s).symm
  obtain ⟨⟨v, n, o⟩, hN⟩ : ∃ r, strA s.data.toList 0 = r := ⟨_, rfl⟩
  have hc := str_ch hN
  obtain ⟨cs, q⟩ := hc.1.qt
  have hq := qtA_iff.2 q
  have z := q.len
  obtain ⟨V, hV⟩ : ∃ V, V = mkb v := ⟨_, rfl⟩
  have r1 := fun w => string_at (w := w) (V := V) (e := (n : Int)) (mkb_of s).symm hN hV rfl (by omega)
  obtain ⟨R, hR, r2⟩ := quote_y (A := V) hV hq (by omega)
  have kq : (quo cs).length = R.size := by rw [hR, mkb_size]
  have hs := str_quo q []
  rw [List.append_nil] at hs
  have r3 := fun w => string_at (w := w) (V := V) (e := (R.size : Int)) hR hs hV (by rw [kq]) (by rw [quo_len]; omega)
  have t1 : (V.toList == V.toList) = true := by simp
  clear hN hc q hq z hV hR kq hs la ha
  cases o
  · skip
    go_enter Tryd.func6, Tryd.ntmps6
    (try simp only [List.append_eq, List.cons_append, List.nil_append])
    go_wp2_with fail
    (with_reducible refine (awake_any _ ht).mono ?_)
    rintro e w1 ⟨rfl, hb1⟩
    go_wp2_with fail
    (with_reducible refine (r1 _).mono ?_)
    rintro e w2 ⟨rfl, hb2⟩
    go_wp2_with fail
    (with_reducible refine (r2 _ (ht.below (bel_trans hb1 hb2))).mono ?_)
    rintro e w3 ⟨rfl, hb3⟩
    go_wp2_with fail
    (with_reducible refine (r3 _).mono ?_)
    rintro e w4 ⟨rfl, hb4⟩
    go_wp2_with fail
    go_ret
    exact ⟨by first | (simp; done) | (simp; omega), (bel_trans (bel_trans (bel_trans hb1 hb2) hb3) hb4)⟩
  · skip
    go_enter Tryd.func6, Tryd.ntmps6
    (try simp only [List.append_eq, List.cons_append, List.nil_append])
    go_wp2_with fail
    (with_reducible refine (awake_any _ ht).mono ?_)
    rintro e w1 ⟨rfl, hb1⟩
    go_wp2_with fail
    (with_reducible refine (r1 _).mono ?_)
    rintro e w2 ⟨rfl, hb2⟩
    go_wp2_with fail
    (with_reducible refine (r2 _ (ht.below (bel_trans hb1 hb2))).mono ?_)
    rintro e w3 ⟨rfl, hb3⟩
    go_wp2_with fail
    (with_reducible refine (r3 _).mono ?_)
    rintro e w4 ⟨rfl, hb4⟩
    go_wp2_with fail
    go_ret
    exact ⟨by first | (simp; done) | (simp; omega), (bel_trans (bel_trans (bel_trans hb1 hb2) hb3) hb4)⟩
end Go.Proofs.YtfaacngfccceeaaDoor
