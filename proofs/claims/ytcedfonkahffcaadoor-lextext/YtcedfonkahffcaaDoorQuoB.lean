/- Contracts of package quote: May. -/
import Derived.Test.YtcedfonkahffcaaDoorQuoA
import Derived.RangeFuncKeeps
import Derived.RangeFuncOwn
import Derived.Deep.LoopGhost
import Derived.OneCell
namespace Go.Proofs.YtcedfonkahffcaaDoor
open Go.RowKit
set_option linter.unusedVariables false

theorem next_at {P : Program} {W : World} {g : Nat} {s : ByteArray} {pos c n : Nat} (h : W.heap[g]? = some (.stringIter s pos)) (hp : pos < s.size) (hd : Utf8.decode s pos = (c, n)) (ty : TypeId) :
    (Instr.next (.pointer (some ⟨g, 0, none⟩)) true ty).run P W = .ok (.tuple #[.bool true, .int .i64 pos, .int .i32 c]) (W.putObj g (.stringIter s (pos + n))) := by
  simp only [Instr.next, getObj, setObj, Sem.run_bind, Sem.run, h, Result.andThen, hp, if_true, hd, World.putObj]
  simp [goInt]
theorem next_over {P : Program} {W : World} {g : Nat} {s : ByteArray} {pos : Nat} (h : W.heap[g]? = some (.stringIter s pos)) (hp : ¬ pos < s.size) (ty : TypeId) :
    (Instr.next (.pointer (some ⟨g, 0, none⟩)) true ty).run P W = .ok (.tuple #[.bool false]) W := by
  simp [Instr.next, getObj, Sem.run, h, hp]

/-- The iterator stands at pos, and all below is as it was. -/
structure It (w : World) (g : Nat) (s : ByteArray) (pos : Nat) (W : World) : Prop where
  at_ : W.heap[g]? = some (.stringIter s pos)
  ge : w.heap.size ≤ g
  bel : Below w.heap.size w W
theorem It.put {w : World} {g : Nat} {s : ByteArray} {pos : Nat} {W : World} (h : It w g s pos W) (q : Nat) : It w g s q (W.putObj g (.stringIter s q)) :=
  ⟨World.putObj_heap_same (lt_of_block h.at_), h.ge, h.bel.grown (grownBy_putObj' W g _) h.bel.size (fun k hk => by cases hk; exact h.ge)⟩
theorem It.below {w : World} {g : Nat} {s : ByteArray} {pos : Nat} {W W' : World} (h : It w g s pos W) (b : Below W.heap.size W W') : It w g s pos W' :=
  ⟨(b.block g (lt_of_block h.at_)).trans h.at_, h.ge, h.bel.trans (b.mono h.bel.size)⟩
theorem it_start (w : World) (s : ByteArray) : It w w.heap.size s 0 (w.iter s 0) :=
  ⟨World.iter_heap w s 0, Nat.le_refl _, bel_alloc (Below.refl _ _) _⟩

theorem drop_ne {s : ByteArray} {k : Nat} (h : k < s.size) : s.data.toList.drop k ≠ [] := by
  intro e
  have := congrArg List.length e
  rw [List.length_drop, ← Lib.size_eq] at this
  simp at this; omega

/-- How the next character stands. -/
theorem chr_at (s : ByteArray) (k : Nat) (hk : k < s.size) :
    (∃ c t, okC c ∧ s.data.toList.drop k = enc c ++ t ∧ t = s.data.toList.drop (k + (enc c).length) ∧ k + (enc c).length ≤ s.size ∧ Utf8.decode s k = (c, (enc c).length) ∧ ((nxtN s k = 0 ∧ (c : Int) < 32) ∨ ((nxtN s k == 0) = false ∧ nxtN s k ≠ 0))) ∨
    (nxtN s k = 0 ∧ qtA (s.data.toList.drop k) = none ∧ ∃ c n, Utf8.decode s k = (c, n) ∧ 32 ≤ c ∧ c ≤ 2147483647) := by
  have hN := nxtN_at s k (Nat.le_of_lt hk)
  have hlen : s.data.toList.length = s.size := (Lib.size_eq s).symm
  rcases qc_cases (s.data.toList.drop k) with ⟨c, t, hc, e, hq⟩ | ⟨hq, _⟩
  · refine .inl ⟨c, t, hc, e, ?_, ?_, decode_at s k hk c t hc e, ?_⟩
    · rw [← List.drop_drop, e, List.drop_left]
    · have := congrArg List.length e
      rw [List.length_drop, hlen, List.length_append] at this; omega
    · by_cases h : c < 32
      · by_cases h0 : nxtN s k = 0
        · exact .inl ⟨h0, by omega⟩
        · exact .inr ⟨by simp [h0], h0⟩
      · have hs : srcB c = true := by rcases hc with hc | hc; exact absurd hc h; exact hc
        have := nxt_is (is_enc hs t)
        rw [← e] at this
        rw [this] at hN
        have hp := enc_pos c
        have h0 : nxtN s k ≠ 0 := by rw [hN]; dsimp; omega
        exact .inr ⟨by simp [h0], h0⟩
  · refine .inr ⟨?_, qtA_none (drop_ne hk) (by rw [hq]), _, _, rfl, decode_bad s k hk (by rw [hq]), decode_le s k⟩
    rw [hN]
    obtain ⟨b, t, e⟩ : ∃ b t, s.data.toList.drop k = b :: t := List.exists_cons_of_ne_nil (drop_ne hk)
    rw [e] at hq ⊢
    by_cases hb : b.toNat < 32
    · rw [qc_low hb] at hq; exact absurd (congrArg Prod.snd hq) (by simp)
    · rw [qc_high hb] at hq; rw [hq]; rfl

set_option maxHeartbeats 1000000 in
theorem qmay_any (s : ByteArray) (w : World) :
    Calls Tryd.prog 18 #[.string s] w fun e w' => e = .returned (.bool (qtA s.data.toList).isSome) ∧ Below w.heap.size w w' := by
  have HI := Lib.hid (it_start w s)
  go_enter Tryd.func18, Tryd.ntmps18
  go_wp2_with fail
  go_loopg [] s.size (fun g wr => ∃ pos : Nat, g = s.size - pos ∧ It w w.heap.size s pos wr ∧ pos ≤ s.size ∧ (qtA (s.data.toList.drop pos)).isSome = (qtA s.data.toList).isSome)
  case atStart => exact ⟨0, rfl, HI.out, Nat.zero_le _, by simp⟩
  case round =>
    obtain ⟨pos, hg, hit, hle, hq⟩ := hrel
    have HT := Lib.hid hit
    have HQ := Lib.hid hq
    have HG := Lib.hid hg
    by_cases hp : pos < s.size
    · rcases chr_at s pos hp with ⟨c, t, hc, e, ht, hk, hd, hn⟩ | ⟨hn, hnone, c, n, hd, h32, hcl⟩
      · have hnx := fun ty => next_at (P := Tryd.prog) hit.at_ hp hd ty
        have r1 := next_any s pos
        have HE := Lib.hid e
        have HT2 := Lib.hid ht
        have HC := Lib.hid hc
        have hp1 := enc_pos c
        clear hit hq hg e ht hd hc
        rcases hn with ⟨h0, h1⟩ | ⟨h0, h1⟩
        · rw [h0] at r1
          go_wp2_with fail
          (with_reducible refine (r1 _).mono ?_)
          rintro e w1 ⟨rfl, hb1⟩
          go_wp2_with fail
          go_roundg (s.size - (pos + (enc c).length))
          case measure => rw [HG.out]; omega
          case rel => exact ⟨pos + (enc c).length, rfl, (HT.out.put _).below hb1.below, hk, by rw [← HQ.out, HE.out, qtA_go HC.out, ← HT2.out]; simp⟩
        · generalize nxtN s pos = m at *
          go_wp2_with fail
          (with_reducible refine (r1 _).mono ?_)
          rintro e w1 ⟨rfl, hb1⟩
          go_wp2_with fail
          go_roundg (s.size - (pos + (enc c).length))
          case measure => rw [HG.out]; omega
          case rel => exact ⟨pos + (enc c).length, rfl, (HT.out.put _).below hb1.below, hk, by rw [← HQ.out, HE.out, qtA_go HC.out, ← HT2.out]; simp⟩
      · have hnx := fun ty => next_at (P := Tryd.prog) hit.at_ hp hd ty
        have r1 := next_any s pos
        rw [hn] at r1
        have h32' : (32 : Int) ≤ c := by omega
        have HD := Lib.hid hnone
        clear hit hq hg hd hnone
        go_wp2_with fail
        (with_reducible refine (r1 _).mono ?_)
        rintro e w1 ⟨rfl, hb1⟩
        go_wp2_with fail
        go_ret
        exact ⟨by rw [← HQ.out, HD.out]; rfl, ((HT.out.put _).below hb1.below).bel⟩
    · have hnx := fun ty => next_over (P := Tryd.prog) hit.at_ hp ty
      clear hit hq hg
      go_wp2_with fail
      go_ret
      refine ⟨?_, HT.out.bel⟩
      rw [← HQ.out, List.drop_eq_nil_of_le (by rw [← Lib.size_eq]; omega), qtA_nil]; rfl
end Go.Proofs.YtcedfonkahffcaaDoor
