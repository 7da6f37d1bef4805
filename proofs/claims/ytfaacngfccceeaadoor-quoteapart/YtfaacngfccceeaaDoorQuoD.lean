/- Contracts of package quote over lists of bytes; awake; the law QuoteByte. -/
import Derived.Test.YtfaacngfccceeaaDoorQuoC
import Derived.Test.YtfaacngfccceeaaDoorUtfH
namespace Go.Proofs.YtfaacngfccceeaaDoor
open Go.RowKit
set_option linter.unusedVariables false

theorem quote_y {A : ByteArray} {l : List UInt8} {cs : List Nat} (hA : A = mkb l) (h : qtA l = some cs) (hl : l.length ≤ 1000000) :
    ∃ R, R = mkb (quo cs) ∧ ∀ w, Tab w → Calls Tryd.prog 10 #[.string A] w fun e w' => e = .returned (.tuple #[.string R, .bool true]) ∧ Below w.heap.size w w' :=
  ⟨_, rfl, fun w ht => by subst hA; exact qyes_any _ w (by rw [mkb_size]; exact hl) cs h ht⟩
theorem quote_n {A : ByteArray} {l : List UInt8} (hA : A = mkb l) (h : qtA l = none) (w : World) :
    Calls Tryd.prog 10 #[.string A] w fun e w' => e = .returned (.tuple #[.string ⟨#[]⟩, .bool false]) ∧ Below w.heap.size w w' := by
  subst hA; exact qno_any _ w h
theorem qmay_y {A : ByteArray} {l : List UInt8} {cs : List Nat} (hA : A = mkb l) (h : qtA l = some cs) (w : World) :
    Calls Tryd.prog 13 #[.string A] w fun e w' => e = .returned (.bool true) ∧ Below w.heap.size w w' := by
  have := qmay_any A w
  rw [hA, mkb_data, h] at this
  rw [hA]; exact this
theorem qmay_n {A : ByteArray} {l : List UInt8} (hA : A = mkb l) (h : qtA l = none) (w : World) :
    Calls Tryd.prog 13 #[.string A] w fun e w' => e = .returned (.bool false) ∧ Below w.heap.size w w' := by
  have := qmay_any A w
  rw [hA, mkb_data, h] at this
  rw [hA]; exact this
theorem qlong_y {A : ByteArray} {l : List UInt8} {cs : List Nat} {n : Int} (hA : A = mkb l) (h : qtA l = some cs) (hn : n = (((quo cs).length : Nat) : Int)) (hl : l.length ≤ 1000000) (w : World) (ht : Tab w) :
    Calls Tryd.prog 14 #[.string A] w fun e w' => e = .returned (.int .i64 n) ∧ Below w.heap.size w w' := by
  have := qlong_any A w (by rw [hA, mkb_size]; exact hl) ht
  rw [hA, mkb_data, h] at this
  rw [hA, hn]; exact this
theorem qlong_n {A : ByteArray} {l : List UInt8} (hA : A = mkb l) (h : qtA l = none) (hl : l.length ≤ 1000000) (w : World) (ht : Tab w) :
    Calls Tryd.prog 14 #[.string A] w fun e w' => e = .returned (.int .i64 0) ∧ Below w.heap.size w w' := by
  have := qlong_any A w (by rw [hA, mkb_size]; exact hl) ht
  rw [hA, mkb_data, h] at this
  rw [hA]; exact this

theorem awake_any (w : World) (ht : Tab w) : Calls Tryd.prog 9 #[] w fun e w' => e = .returned (.bool true) ∧ Below w.heap.size w w' := by
  obtain ⟨R, hR, r1⟩ := quote_y (A := ⟨#[97, 10, 34]⟩) (l := [97, 10, 34]) (cs := [97, 10, 34]) rfl (by decide +kernel) (by decide)
  have r2 := qmay_y (A := ⟨#[1]⟩) (l := [1]) (cs := [1]) rfl (by decide +kernel)
  have r3 := qmay_n (A := ⟨#[255]⟩) (l := [255]) rfl (by decide +kernel)
  have r4 := qlong_y (A := ⟨#[97]⟩) (l := [97]) (cs := [97]) (n := 3) rfl (by decide +kernel) (by decide +kernel) (by decide)
  have e1 : R = ⟨#[34, 97, 92, 110, 92, 34, 34]⟩ := by rw [hR]; decide +kernel
  subst e1
  clear hR
  go_enter Tryd.func9, Tryd.ntmps9
  (try simp only [List.append_eq, List.cons_append, List.nil_append])
  go_wp2_with fail
  (with_reducible refine (r1 _ ht).mono ?_)
  rintro e w1 ⟨rfl, hb1⟩
  go_wp2_with fail
  (with_reducible refine (r2 _).mono ?_)
  rintro e w2 ⟨rfl, hb2⟩
  go_wp2_with fail
  (with_reducible refine (r3 _).mono ?_)
  rintro e w3 ⟨rfl, hb3⟩
  go_wp2_with fail
  (with_reducible refine (r4 _ (ht.below (bel_trans (bel_trans hb1 hb2) hb3))).mono ?_)
  rintro e w4 ⟨rfl, hb4⟩
  go_wp2_with fail
  go_ret
  exact ⟨by first | (simp; done) | (simp; omega), (bel_trans (bel_trans (bel_trans hb1 hb2) hb3) hb4)⟩

/-! ### QuoteByte -/
theorem qt_byte {b : UInt8} (h : b.toNat < 128) : qtA [b] = some [b.toNat] := by
  have hs : okC b.toNat := by
    by_cases h1 : b.toNat < 32
    · exact .inl h1
    · exact .inr (by rw [srcB_iff]; omega)
  have := qtA_go hs []
  rw [enc1 h] at this
  simpa [qtA_nil] using this
theorem qt_high {b : UInt8} (h : 128 ≤ b.toNat) : qtA [b] = none := by
  refine qtA_none (by simp) ?_
  rcases qc_cases [b] with ⟨c, t, hc, e, hq⟩ | ⟨e, _⟩
  · have hlen := congrArg List.length e
    rw [List.length_append] at hlen
    by_cases h1 : c < 128
    · rw [enc1 h1] at e
      have := (List.cons.inj e).1
      rw [this, toNat_ofNat (by omega)] at h; omega
    · have := enc_len c
      rw [if_neg h1] at this
      have : 2 ≤ (enc c).length := by rw [this]; repeat' split
                                      all_goals omega
      simp at hlen; omega
  · rw [e]
theorem qp_two : ∀ n, n < 128 → (n = 34 ∨ n = 92 ∨ n = 8 ∨ n = 9 ∨ n = 10 ∨ n = 12 ∨ n = 13) → (quo [n]).length = 4 := by decide +kernel
theorem qp_six : ∀ n, n < 32 → ¬ (n = 34 ∨ n = 92 ∨ n = 8 ∨ n = 9 ∨ n = 10 ∨ n = 12 ∨ n = 13) → (quo [n]).length = 8 := by decide +kernel
theorem qp_one : ∀ n, n < 128 → 32 ≤ n → ¬ (n = 34 ∨ n = 92 ∨ n = 8 ∨ n = 9 ∨ n = 10 ∨ n = 12 ∨ n = 13) → (quo [n]).length = 3 := by decide +kernel

set_option maxHeartbeats 1000000 in
theorem byte_any (c : Int) (w : World) (h0 : 0 ≤ c) (h1 : c < 256) (ht : Tab w) :
    Calls Tryd.prog 8 #[.int .u8 c] w fun e w' => e = .returned (.bool true) ∧ Below w.heap.size w w' := by
  obtain ⟨n, rfl⟩ := Int.eq_ofNat_of_zero_le h0
  have hn : n < 256 := by omega
  obtain ⟨R, hR, hcv⟩ : ∃ R, R = mkb [UInt8.ofNat n] ∧ ∀ w : World, (convert 30 9 (.slice (some ⟨w.heap.size, 0, none⟩) 1 1)).run Tryd.prog (w.alloc (.cells #[.int .u8 (n : Int)] 5)) = .ok (.string R) (w.alloc (.cells #[.int .u8 (n : Int)] 5)) :=
    ⟨_, rfl, fun w => conv1 w n⟩
  have hb : (UInt8.ofNat n).toNat = n := toNat_ofNat hn
  by_cases h128 : 128 ≤ n
  · have r1 := qlong_n hR (qt_high (by rw [hb]; exact h128)) (by simp)
    have e1 : (128 : Int) ≤ (n : Int) := by omega
    clear hR hb h0 h1 hn
    go_enter Tryd.func8, Tryd.ntmps8
    (try simp only [List.append_eq, List.cons_append, List.nil_append])
    go_wp2_with fail
    (with_reducible refine (awake_any _ ht).mono ?_)
    rintro e w1 ⟨rfl, hb1⟩
    go_wp2_with fail
    (with_reducible refine (r1 _ (ht.below (bel_alloc hb1 _))).mono ?_)
    rintro e w2 ⟨rfl, hb2⟩
    go_wp2_with fail
    go_ret
    exact ⟨by first | (simp; done) | (simp; omega), (bel_trans (bel_alloc hb1 _) hb2)⟩
  · have hq := qt_byte (b := UInt8.ofNat n) (by rw [hb]; omega)
    rw [hb] at hq
    by_cases h2 : n = 34 ∨ n = 92 ∨ n = 8 ∨ n = 9 ∨ n = 10 ∨ n = 12 ∨ n = 13
    · have r1 := qlong_y (n := 4) hR hq (by rw [qp_two n (by omega) h2]; rfl) (by simp)
      clear hR hb hq h0 h1 hn
      rcases h2 with rfl | rfl | rfl | rfl | rfl | rfl | rfl
      all_goals
        simp only [Int.cast_ofNat_Int] at hcv
        go_enter Tryd.func8, Tryd.ntmps8
        (try simp only [List.append_eq, List.cons_append, List.nil_append])
        go_wp2_with fail
        (with_reducible refine (awake_any _ ht).mono ?_)
        rintro e w1 ⟨rfl, hb1⟩
        go_wp2_with fail
        (with_reducible refine (r1 _ (ht.below (bel_alloc hb1 _))).mono ?_)
        rintro e w2 ⟨rfl, hb2⟩
        go_wp2_with fail
        go_ret
        exact ⟨by first | (simp; done) | (simp; omega), (bel_trans (bel_alloc hb1 _) hb2)⟩
    · have e128 : ¬ (128 : Int) ≤ (n : Int) := by omega
      have g1 : ((n : Int) == 34) = false := by simp; omega
      have g2 : ((n : Int) == 92) = false := by simp; omega
      have g3 : ((n : Int) == 8) = false := by simp; omega
      have g4 : ((n : Int) == 9) = false := by simp; omega
      have g5 : ((n : Int) == 10) = false := by simp; omega
      have g6 : ((n : Int) == 12) = false := by simp; omega
      have g7 : ((n : Int) == 13) = false := by simp; omega
      by_cases h32 : n < 32
      · have r1 := qlong_y (n := 8) hR hq (by rw [qp_six n (by omega) h2]; rfl) (by simp)
        have e32 : (n : Int) < 32 := by omega
        have f32 : ¬ (32 : Int) ≤ (n : Int) := by omega
        clear hR hb hq h0 h1 hn h2 h32 h128
        generalize (n : Int) = x at *
        clear n
        go_enter Tryd.func8, Tryd.ntmps8
        (try simp only [List.append_eq, List.cons_append, List.nil_append])
        go_wp2_with fail
        (with_reducible refine (awake_any _ ht).mono ?_)
        rintro e w1 ⟨rfl, hb1⟩
        go_wp2_with fail
        (with_reducible refine (r1 _ (ht.below (bel_alloc hb1 _))).mono ?_)
        rintro e w2 ⟨rfl, hb2⟩
        go_wp2_with fail
        go_ret
        exact ⟨by first | (simp; done) | (simp; omega), (bel_trans (bel_alloc hb1 _) hb2)⟩
      · have r1 := qlong_y (n := 3) hR hq (by rw [qp_one n (by omega) (by omega) h2]; rfl) (by simp)
        have e32 : ¬ (n : Int) < 32 := by omega
        have f32 : (32 : Int) ≤ (n : Int) := by omega
        clear hR hb hq h0 h1 hn h2 h32 h128
        generalize (n : Int) = x at *
        clear n
        go_enter Tryd.func8, Tryd.ntmps8
        (try simp only [List.append_eq, List.cons_append, List.nil_append])
        go_wp2_with fail
        (with_reducible refine (awake_any _ ht).mono ?_)
        rintro e w1 ⟨rfl, hb1⟩
        go_wp2_with fail
        (with_reducible refine (r1 _ (ht.below (bel_alloc hb1 _))).mono ?_)
        rintro e w2 ⟨rfl, hb2⟩
        go_wp2_with fail
        go_ret
        exact ⟨by first | (simp; done) | (simp; omega), (bel_trans (bel_alloc hb1 _) hb2)⟩
end Go.Proofs.YtfaacngfccceeaaDoor
