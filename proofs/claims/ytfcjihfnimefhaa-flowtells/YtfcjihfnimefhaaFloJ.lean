/- Contracts of package flow: slices.Grow, slices.Concat of bits and one more. -/
import Derived.Test.YtfcjihfnimefhaaWidA
namespace Go.Proofs.Ytfcjihfnimefhaa
open Go.RowKit Go.Shelf
set_option linter.unusedVariables false
set_option maxRecDepth 100000

set_option maxHeartbeats 1000000 in
theorem grow_any {w : World} {N : Nat} (h1 : 1 ≤ N) (hz : N ≤ 1000) :
    Calls Try.prog 45 #[.slice none 0 0, .int .i64 (N : Int)] w fun e w' => ∃ v', e = .returned v' ∧ Bn w [] v' w' := by
  have q1 : ¬ (N : Int) < 0 := by omega
  have q2 : 0 < (N : Int) := by omega
  have q3 : Try.t34.bytes = 24 := by kernel_rfl
  have q4 : Builtin.nextslicecap N 0 = N := nextslicecap_zero (by omega)
  have q5 : (N : Int) * 24 ≤ 281474976710656 := by omega
  have q6 : N * 24 ≤ 281474976710656 := by omega
  have q7 : ¬ N = 0 := by omega
  have hge := grownCap_ge w N 0 34
  have hle := grownCap_le_maxLen w N 0 34 (by unfold maxLen; omega)
  unfold grownCap at hge hle
  have HG := Lib.hid hge
  have HL := Lib.hid hle
  clear hge hle
  go_enter Try.func45, Try.ntmps45
  go_wp2_with fail
  go_ret
  refine ⟨_, rfl, ⟨rfl, .inr ⟨w.heap.size, _, _, rfl, Nat.le_refl _, World.alloc_heap_new w _, Nat.zero_le _, HL.out, ?_, by show List.take 0 _ = []; rfl⟩⟩, (bel_alloc (Below.refl _ w) _).drew⟩
  have := HG.out
  rw [Array.size_append, size_zeroCells, size_zeroCells]
  show N * 2 + _ * 2 = _ * 2
  omega
/-- Two lists one behind the other. -/
theorem concat_any {w : World} {A : Option Addr} {n c g0 g1 : Nat} {l : List Bq} (hA : Br w A l) (hl : l.length = n) (h0 : A = none → n = 0 ∧ c = 0) (hz : n ≤ 400)
    (hc0 : w.cell? ⟨g0, 0, none⟩ = some (.slice A n c)) (hc1 : w.cell? ⟨g0, 1, none⟩ = some (.slice (some ⟨g1, 0, none⟩) 1 1)) (h5 : Br w (some ⟨g1, 0, none⟩) [⟨5, noV⟩]) :
    Calls Try.prog 27 #[.slice (some ⟨g0, 0, none⟩) 2 2] w fun e w' => ∃ v', e = .returned v' ∧ Bn w (l ++ [⟨5, noV⟩]) v' w' := by
  have r1 := fun w => grow_any (w := w) (N := n + 1) (by omega) (by omega)
  have q1 : IntKind.i64.wrap ((n : Int) + 1) = (n : Int) + 1 := IntWalk.i64_in _ (by omega)
  have q2 : IntKind.i64.wrap (0 + (n : Int)) = (n : Int) := by rw [IntWalk.i64_in _ (by omega)]; omega
  have q3 : ¬ (n : Int) < 0 := by omega
  have q4 : ¬ (n : Int) + 1 < 0 := by omega
  have e1 : ((n + 1 : Nat) : Int) = (n : Int) + 1 := by omega
  rw [e1] at r1
  have HA := Lib.hid hA
  have HL := Lib.hid hl
  have H0 := Lib.hid h0
  have H5 := Lib.hid h5
  have HC := Lib.hid (And.intro hc0 hc1)
  clear hA hl h0 h5 e1
  go_enter Try.func27, Try.ntmps27
  go_wp2_with fail
  go_loopw [3, 11] (fun s i wr => (i = .int .i64 0 ∧ s = .int .i64 0 ∨ i = .int .i64 1 ∧ s = .int .i64 n ∨ i = .int .i64 2 ∧ s = .int .i64 ((n : Int) + 1)) ∧ wr = w) (fun _ i _ => 2 - (intOf i).toNat)
  case atStart => exact ⟨.inl ⟨rfl, rfl⟩, rfl⟩
  case round =>
    obtain ⟨hrel, hw⟩ := hrel
    have hw := hw.symm
    subst hw
    obtain ⟨rfl, rfl⟩ | ⟨rfl, rfl⟩ | ⟨rfl, rfl⟩ := hrel
    · go_wp2_with fail
      go_roundw
      case rel => exact ⟨.inr (.inl ⟨rfl, rfl⟩), trivial⟩
      case measure => simp [intOf]
    · go_wp2_with fail
      go_roundw
      case rel => exact ⟨.inr (.inr ⟨rfl, rfl⟩), trivial⟩
      case measure => simp [intOf]
    · clear hc0 hc1
      go_wp2_with fail
      ((with_reducible refine (r1 _).mono ?_))
      rintro e w1 ⟨v1, rfl, h1⟩
      have H1 := Lib.hid h1
      clear h1 r1
      go_wp2_with fail
      go_loopw [6, 27] (fun v i wy => i = .int .i64 0 ∧ Hid (Bn w [] v wy) ∨ i = .int .i64 1 ∧ Hid (Bn w l v wy) ∨ i = .int .i64 2 ∧ Hid (Bn w (l ++ [⟨5, noV⟩]) v wy)) (fun _ i _ => 2 - (intOf i).toNat)
      case atStart => exact .inl ⟨rfl, H1⟩
      case round =>
        clear H1
        obtain ⟨rfl, hB⟩ | ⟨rfl, hB⟩ | ⟨rfl, hB⟩ := hrel
        · have d0 := bel_cell hB.out.bel HC.out.1
          go_wp2_with (at_builtin; refine app_bns rfl _ _ rfl _ [] rfl hB.out rfl (HA.out.below hB.out.bel) HL.out H0.out (by simp; omega) ?_)
          intro v3 w3 h3
          have H3 := Lib.hid (show Bn w l v3 w3 from h3)
          clear h3 d0
          go_wp2_with fail
          go_roundw
          case rel => exact .inr (.inl ⟨rfl, H3⟩)
          case measure => simp [intOf]
        · have d1 := bel_cell hB.out.bel HC.out.2
          go_wp2_with (at_builtin; refine app_bns rfl _ _ rfl _ l rfl hB.out rfl (H5.out.below hB.out.bel) rfl (fun e => by cases e) (by rw [HL.out]; omega) ?_)
          intro v3 w3 h3
          have H3 := Lib.hid h3
          clear h3 d1
          go_wp2_with fail
          go_roundw
          case rel => exact .inr (.inr ⟨rfl, H3⟩)
          case measure => simp [intOf]
        · go_wp2_with fail
          go_ret
          exact ⟨_, rfl, hB.out⟩
end Go.Proofs.Ytfcjihfnimefhaa
