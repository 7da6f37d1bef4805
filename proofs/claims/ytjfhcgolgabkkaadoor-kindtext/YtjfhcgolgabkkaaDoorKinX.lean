/- The law KindText: its walk. -/
import Derived.Test.YtjfhcgolgabkkaaDoorKinH
import Derived.Test.YtjfhcgolgabkkaaDoorLexF
import Derived.Test.YtjfhcgolgabkkaaDoorLexP
namespace Go.Proofs.YtjfhcgolgabkkaaDoor
open Go.RowKit
set_option linter.unusedVariables false

theorem thru_all : ∀ l : List UInt8, (l.all fun c => srcB c.toNat && decide (c.toNat < 128)) = true → thru l = l.length
  | [], _ => thru_stop (by rw [nxt_nil])
  | c :: t, h => by
    rw [List.all_cons, Bool.and_eq_true, Bool.and_eq_true] at h
    rw [thru_asc t h.1.1 (by simpa using h.1.2), thru_all t h.2, List.length_cons]; omega
/-- The kind of a terminal's text. -/
def kdK (c : Nat) : Int := if c ≤ 14 then 1 else 2
def ylK (c : Nat) : Yl := ⟨⟨kdK c, stK c, (stK c).length, 0⟩, 0⟩
theorem ylds_one {r : List UInt8} {t : Tk} (h0 : Sc.st r = 0) (hr : 0 < r.length) (ht : tk r = t) (he : t.e = 0) (hn : t.n = r.length) : ylds r 0 = [⟨t, 0⟩] := by
  rw [ylds_step 0 h0 hr ht he, hn, List.drop_length]
  rw [ylds_stop _ (by decide)]
theorem st_K : ∀ c, c < 31 → hasK (c : Nat) = true → Sc.st (stK c) = 0 := by decide +kernel
theorem thru_K : ∀ c, c < 31 → ((stK c).all fun c => srcB c.toNat && decide (c.toNat < 128)) = true := by decide +kernel
theorem tk_K : ∀ c, c < 31 → hasK (c : Nat) = true → tk (stK c) = ⟨kdK c, stK c, (stK c).length, 0⟩ := by
  intro c hc hk
  rcases hasK_iff.1 hk with h | h
  · have : c = 1 ∨ c = 2 ∨ c = 3 ∨ c = 4 ∨ c = 5 ∨ c = 6 ∨ c = 7 ∨ c = 8 ∨ c = 9 ∨ c = 10 ∨ c = 11 ∨ c = 12 ∨ c = 13 ∨ c = 14 := by omega
    rcases this with rfl | rfl | rfl | rfl | rfl | rfl | rfl | rfl | rfl | rfl | rfl | rfl | rfl | rfl <;> (clear hk h hc; change _ = _; kernel_rfl)
  · have : c = 19 ∨ c = 20 ∨ c = 21 ∨ c = 22 ∨ c = 23 ∨ c = 24 ∨ c = 25 ∨ c = 26 ∨ c = 27 ∨ c = 28 ∨ c = 29 ∨ c = 30 := by omega
    rcases this with rfl | rfl | rfl | rfl | rfl | rfl | rfl | rfl | rfl | rfl | rfl | rfl <;> (clear hk h hc; change _ = _; kernel_rfl)
theorem of_K : ∀ c, c < 31 → hasK (c : Nat) = true → ofK (kdK c) (stK c) = c := by decide +kernel
theorem lex_K {c : Nat} (hc : c < 31) (hk : hasK (c : Nat) = true) (w : World) :
    Calls Tryd.prog 20 #[.string (txK (c : Int))] w fun e w' => ∃ A d, e = .returned (.tuple #[.slice A 1 d, .int .i64 0, .int .i64 (txK (c : Int)).size]) ∧ Below w.heap.size w w' ∧ Tr w' A [⟨kdK c, txK (c : Int), 0, ((stK c).length : Nat)⟩] := by
  have hl : (txK (c : Int)).data.toList = stK c := by rw [txK, Int.toNat_natCast, mkb_data]
  have hz := stK_short c hc
  have hz2 : (txK (c : Int)).size = (stK c).length := by rw [Lib.size_eq, hl]
  have hpos : 0 < (stK c).length := List.length_pos_iff.2 (stK_some c hc hk)
  have hy : ylds (txK (c : Int)).data.toList 0 = [ylK c] := by rw [hl, ylds_one (st_K c hc hk) hpos (tk_K c hc hk) rfl rfl]; rfl
  have h := lex_yes (s := txK (c : Int)) (by omega) (by rw [hl]; exact thru_all _ (thru_K c hc)) hy rfl w
  refine h.mono ?_
  rintro e w' ⟨A, d, rfl, hb, ht⟩
  refine ⟨A, d, rfl, hb, ?_⟩
  have e1 : (ylK c).q = ⟨kdK c, txK (c : Int), 0, ((stK c).length : Nat)⟩ := by
    unfold Yl.q Yl.a Yl.z ylK
    simp [txK]
  rw [List.map_cons, List.map_nil, e1] at ht
  exact ht
theorem lex_0 (w : World) : Calls Tryd.prog 20 #[.string ⟨#[]⟩] w fun e w' => ∃ A d, e = .returned (.tuple #[.slice A 0 d, .int .i64 0, .int .i64 0]) ∧ Below w.heap.size w w' ∧ Tr w' A [] :=
  lex_yes (s := ⟨#[]⟩) (Y := []) (by decide) (thru_all [] rfl) (ylds_stop _ (by decide)) rfl w

set_option maxHeartbeats 1000000 in
theorem text_law (te : Int) (w : World) (ht : TabK w) : Calls Tryd.prog 4 #[.int .i64 te] w fun e w' => e = .returned (.bool true) ∧ Below w.heap.size w w' := by
  have HT := Lib.hid ht
  have r1 := fun (w : World) (h : TabK w) => ktext_any te h
  clear ht
  cases hk : hasK te
  · rw [txK_no hk, hk] at r1
    have r2 := lex_0
    have hc : te ≤ 0 ∨ (15 ≤ te ∧ te ≤ 18) ∨ 30 < te := by
      by_cases h : te ≤ 0 ∨ (15 ≤ te ∧ te ≤ 18) ∨ 30 < te
      · exact h
      · rw [hasK_iff.2 (by omega)] at hk; cases hk
    clear hk
    rcases hc with h1 | ⟨h1, h2⟩ | h1
    · have d1 : decide (te ≤ 0) = true := by simp [h1]
      go_enter Tryd.func4, Tryd.ntmps4
      go_wp2_with fail
      refine (awake_any _ HT.out).mono ?_
      rintro e w1 ⟨rfl, hb1⟩
      have HT1 := Lib.hid (HT.out.below hb1)
      go_wp2_with fail
      refine (r1 _ HT1.out).mono ?_
      rintro e w2 ⟨rfl, hb2⟩
      go_wp2_with fail
      refine (r2 _).mono ?_
      rintro e w3 ⟨A, d, rfl, hb3, -⟩
      go_wp2
      go_ret
      exact ⟨by simp, bel_trans (bel_trans hb1 hb2) hb3⟩
    · have d1 : decide (te ≤ 0) = false := by simp; omega
      have d2 : decide (15 ≤ te) = true := by simp [h1]
      have d3 : decide (te ≤ 18) = true := by simp [h2]
      go_enter Tryd.func4, Tryd.ntmps4
      go_wp2_with fail
      refine (awake_any _ HT.out).mono ?_
      rintro e w1 ⟨rfl, hb1⟩
      have HT1 := Lib.hid (HT.out.below hb1)
      go_wp2_with fail
      refine (r1 _ HT1.out).mono ?_
      rintro e w2 ⟨rfl, hb2⟩
      go_wp2_with fail
      refine (r2 _).mono ?_
      rintro e w3 ⟨A, d, rfl, hb3, -⟩
      go_wp2
      go_ret
      exact ⟨by simp, bel_trans (bel_trans hb1 hb2) hb3⟩
    · have d1 : decide (te ≤ 0) = false := by simp; omega
      have d2 : decide (15 ≤ te) = true := by simp; omega
      have d3 : decide (te ≤ 18) = false := by simp; omega
      have d4 : decide (30 < te) = true := by simp [h1]
      go_enter Tryd.func4, Tryd.ntmps4
      go_wp2_with fail
      refine (awake_any _ HT.out).mono ?_
      rintro e w1 ⟨rfl, hb1⟩
      have HT1 := Lib.hid (HT.out.below hb1)
      go_wp2_with fail
      refine (r1 _ HT1.out).mono ?_
      rintro e w2 ⟨rfl, hb2⟩
      go_wp2_with fail
      refine (r2 _).mono ?_
      rintro e w3 ⟨A, d, rfl, hb3, -⟩
      go_wp2
      go_ret
      exact ⟨by simp, bel_trans (bel_trans hb1 hb2) hb3⟩
  · have hte := hasK_iff.1 hk
    obtain ⟨c, rfl⟩ := Int.eq_ofNat_of_zero_le (by omega : 0 ≤ te)
    rw [hk] at r1
    have hc : c < 31 := by omega
    have r2 := fun w => lex_K hc hk w
    have q1 : (0 : Int) < (c : Int) := by omega
    have q2 : (c : Int) ≤ 30 := by omega
    have hof : ((ofK (kdK c) (txK (c : Int)).data.toList : Nat) : Int) = (c : Int) := by rw [txK, Int.toNat_natCast, mkb_data, of_K c hc hk]
    obtain ⟨kd, b, e1, e2, e3⟩ : ∃ (kd : Int) (b : Bool), kdK c = kd ∧ inK 0 (c : Int) = b ∧ (kd == 2) = b := by
      unfold kdK
      rcases hte with h | h
      · exact ⟨1, false, by rw [if_pos (by omega)], by rw [inK_0, nmB]; simp; omega, rfl⟩
      · exact ⟨2, true, by rw [if_neg (by omega)], by rw [inK_0, nmB]; simp; omega, rfl⟩
    have r4 := fun w => in_any e2 w
    rw [e1] at r2 hof
    have r3 := fun (w : World) (h : TabK w) => kof_any (a := 0) (z := (((stK c).length : Nat) : Int)) hof h
    clear hof hk hte hc e1 e2
    generalize txK (c : Int) = X at *
    generalize (((stK c).length : Nat) : Int) = Z at *
    generalize (c : Int) = x at *
    clear c
    go_enter Tryd.func4, Tryd.ntmps4
    go_wp2_with fail
    refine (awake_any _ HT.out).mono ?_
    rintro e w1 ⟨rfl, hb1⟩
    have HT1 := Lib.hid (HT.out.below hb1)
    go_wp2_with fail
    refine (r1 _ HT1.out).mono ?_
    rintro e w2 ⟨rfl, hb2⟩
    go_wp2_with fail
    refine (r2 _).mono ?_
    rintro e w3 ⟨A, d, rfl, hb3, htr⟩
    obtain ⟨b0, o, rfl, c0, c1, c2, c3⟩ := htr 0 _ rfl
    simp only [Nat.zero_mul, Nat.add_zero] at c0 c1 c2 c3
    have hB3 := bel_trans (bel_trans hb1 hb2) hb3
    have HT3 := Lib.hid (HT.out.below hB3)
    clear hb1 hb2 hb3 htr r1 r2
    go_wp2_with fail
    go_region_held3 (fun w' => w'.cell? ⟨b0, o, none⟩ = some (.int .i64 kd) ∧ w'.cell? ⟨b0, o + 1, none⟩ = some (.string X) ∧ w'.cell? ⟨b0, o + 2, none⟩ = some (.int .i64 0) ∧ w'.cell? ⟨b0, o + 3, none⟩ = some (.int .i64 Z))
      (first | (exact ⟨c0, c1, c2, c3⟩) | (go_split_ands; refine ⟨?_, ?_, ?_, ?_⟩ <;> exact bel_cell hq (by assumption)))
      (first | (go_at_call 17; refine (r3 _ HT3.out.drew).mono ?_; rintro e w7 ⟨rfl, hq⟩; have hq4 := hq) | (go_at_call 19; refine (r4 _).mono ?_; rintro e w9 ⟨rfl, rfl⟩; have hq := Below.refl w7.heap.size w7))
    go_wp2
    go_ret
    have hq6 : Below w3.heap.size w3 w7 := ⟨hq4.os, hq4.tape, hq4.output, hq4.size, hq4.block⟩
    exact ⟨by simp, bel_trans hB3 hq6⟩
end Go.Proofs.YtjfhcgolgabkkaaDoor
