/- The chapter's example (awake). -/
import Derived.Test.YtcedfonkahffcaaGreatLexS
namespace Go.Proofs.YtcedfonkahffcaaGreat
open Go.RowKit
set_option linter.unusedVariables false

theorem thru_asc {c : UInt8} (t : List UInt8) (h : srcB c.toNat = true) (h2 : c.toNat < 128) : thru (c :: t) = 1 + thru t := by
  have e : enc c.toNat = [c] := by rw [enc1 h2]; simp
  have hi : Is (c :: t) c.toNat := ⟨h, by rw [e]; exact ⟨t, rfl⟩⟩
  have hn := nxt_is hi
  have hn2 : (nxt (c :: t)).2 = 1 := by rw [hn, e]; rfl
  rw [thru_go (by rw [hn2]; decide), hn2]; rfl
theorem ylds_step {r : List UInt8} {t : Tk} (o : Nat) (h0 : Sc.st r = 0) (hr : 0 < r.length) (ht : tk r = t) (he : t.e = 0) : ylds r o = ⟨t, o⟩ :: ylds (r.drop t.n) (o + t.n) := by
  have hb : Sc.blT r = 0 := Sc.blT_stop h0
  have := ylds_go (r := r) (t := t) o (by rw [hb]; exact hr) (by rw [hb]; exact ht) he
  rw [hb, Nat.zero_add, Nat.add_zero] at this
  exact this
def exL : List UInt8 := [123, 97, 40, 98, 58, 45, 49, 41, 125]
def exY : List Yl := [⟨⟨1, [123], 1, 0⟩, 0⟩, ⟨⟨2, [97], 1, 0⟩, 1⟩, ⟨⟨1, [40], 1, 0⟩, 2⟩, ⟨⟨2, [98], 1, 0⟩, 3⟩, ⟨⟨1, [58], 1, 0⟩, 4⟩, ⟨⟨3, [45, 49], 2, 0⟩, 5⟩, ⟨⟨1, [41], 1, 0⟩, 7⟩, ⟨⟨1, [125], 1, 0⟩, 8⟩]
theorem ex_thru : thru exL = 9 := by
  unfold exL
  rw [thru_asc _ (by decide) (by decide), thru_asc _ (by decide) (by decide), thru_asc _ (by decide) (by decide), thru_asc _ (by decide) (by decide), thru_asc _ (by decide) (by decide), thru_asc _ (by decide) (by decide), thru_asc _ (by decide) (by decide), thru_asc _ (by decide) (by decide), thru_asc _ (by decide) (by decide), thru_stop (by rw [nxt_nil])]
theorem ex_ylds : ylds exL 0 = exY := by
  unfold exL exY
  rw [ylds_step (t := ⟨1, [123], 1, 0⟩) 0 (by decide +kernel) (by decide) (by kernel_rfl) rfl]
  show _ :: ylds [97, 40, 98, 58, 45, 49, 41, 125] 1 = _
  rw [ylds_step (t := ⟨2, [97], 1, 0⟩) 1 (by decide +kernel) (by decide) (by kernel_rfl) rfl]
  show _ :: _ :: ylds [40, 98, 58, 45, 49, 41, 125] 2 = _
  rw [ylds_step (t := ⟨1, [40], 1, 0⟩) 2 (by decide +kernel) (by decide) (by kernel_rfl) rfl]
  show _ :: _ :: _ :: ylds [98, 58, 45, 49, 41, 125] 3 = _
  rw [ylds_step (t := ⟨2, [98], 1, 0⟩) 3 (by decide +kernel) (by decide) (by kernel_rfl) rfl]
  show _ :: _ :: _ :: _ :: ylds [58, 45, 49, 41, 125] 4 = _
  rw [ylds_step (t := ⟨1, [58], 1, 0⟩) 4 (by decide +kernel) (by decide) (by kernel_rfl) rfl]
  show _ :: _ :: _ :: _ :: _ :: ylds [45, 49, 41, 125] 5 = _
  rw [ylds_step (t := ⟨3, [45, 49], 2, 0⟩) 5 (by decide +kernel) (by decide) (by kernel_rfl) rfl]
  show _ :: _ :: _ :: _ :: _ :: _ :: ylds [41, 125] 7 = _
  rw [ylds_step (t := ⟨1, [41], 1, 0⟩) 7 (by decide +kernel) (by decide) (by kernel_rfl) rfl]
  show _ :: _ :: _ :: _ :: _ :: _ :: _ :: ylds [125] 8 = _
  rw [ylds_step (t := ⟨1, [125], 1, 0⟩) 8 (by decide +kernel) (by decide) (by kernel_rfl) rfl]
  show _ :: _ :: _ :: _ :: _ :: _ :: _ :: _ :: ylds [] 9 = _
  rw [ylds_stop 9 (by decide)]
theorem eqT_refl (t : Tq) : eqT t t = true := by simp [eqT]
theorem sameT_refl (ts : List Tq) : sameT ts ts = true := by
  induction ts with
  | nil => rfl
  | cons t ts ih => show (eqT t t && sameT ts ts) = true; rw [eqT_refl, ih]; rfl

set_option maxHeartbeats 1000000 in
set_option maxRecDepth 100000 in
theorem awake_any (w : World) : Calls Tryz.prog 4 #[] w fun e w' => e = .returned (.bool true) ∧ Below w.heap.size w w' := by
  have r1 := fun w => lex_yes (s := ⟨#[123, 97, 40, 98, 58, 45, 49, 41, 125]⟩) (Y := exY) (by decide) ex_thru ex_ylds rfl w
  have r2 : ∀ w, Calls Tryz.prog 6 #[.string ⟨#[46, 46, 46, 120]⟩, .int .i64 0] w fun r w' => r = .returned (.tuple #[.agg #[.int .i64 1, .string ⟨#[46, 46, 46]⟩, .int .i64 0, .int .i64 3], .int .i64 0, .int .i64 3]) ∧ Below w.heap.size w w' :=
    fun w => one_at (s := ⟨#[46, 46, 46, 120]⟩) (k := 0) (t := ⟨1, d3, 3, 0⟩) (by decide) (by decide) (by kernel_rfl) w
  go_enter Tryz.func4, Tryz.ntmps4
  go_wp2_with fail
  (with_reducible refine (r1 _).mono ?_)
  rintro e w1 ⟨A, c, rfl, hb1, tr1⟩
  go_wp2_with fail
  (with_reducible refine (r2 _).mono ?_)
  rintro e w2 ⟨rfl, hb2⟩
  have tr2 := tr1.below hb2
  clear tr1 r1 r2
  obtain ⟨b, o, rfl, c0, -⟩ := tr2 5 (Yl.q ⟨⟨3, [45, 49], 2, 0⟩, 5⟩) rfl
  have c0' : w2.cell? ⟨b, o + 20, none⟩ = some (.int .i64 3) := c0
  have lb : b < w2.heap.size := World.block_lt_of_cell? _ _ c0
  have hlen : exY.length = 8 := rfl
  rw [hlen]
  clear c0
  have HT := Lib.hid tr2
  clear tr2
  go_wp2_with fail
  refine (same_any (HT.out.below (bel_alloc (Below.refl _ _) _)) (HT.out.below (bel_alloc (Below.refl _ _) _)) rfl rfl (by decide) (by decide)).mono ?_
  rintro e w3 ⟨rfl, hb3⟩
  rw [sameT_refl]
  go_wp2
  go_ret
  exact ⟨rfl, bel_trans (bel_alloc (bel_trans hb1 hb2) _) hb3⟩
end Go.Proofs.YtcedfonkahffcaaGreat
