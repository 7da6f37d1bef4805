/- The tokens of a source, one by one. -/
import Derived.Test.YtjfhcgolgabkkaaDoorLexM
namespace Go.Proofs.YtjfhcgolgabkkaaDoor
open Go.RowKit
set_option linter.unusedVariables false

theorem thru_asc {c : UInt8} (t : List UInt8) (h : srcB c.toNat = true) (h2 : c.toNat < 128) : thru (c :: t) = 1 + thru t := by
  have e : enc c.toNat = [c] := by rw [enc1 h2]; simp
  have hi : Is (c :: t) c.toNat := ⟨h, by rw [e]; exact ⟨t, rfl⟩⟩
  have hn := nxt_is hi
  have hn2 : (nxt (c :: t)).2 = 1 := by rw [hn, e]; rfl
  rw [thru_go (by rw [hn2]; decide), hn2]; rfl
theorem ylds_step {r : List UInt8} {t : Tk} (o : Nat) (h0 : Sc.st r = 0) (hr : 0 < r.length) (ht : tk r = t) (he : t.e = 0) : ylds r o = ⟨t, o⟩ :: ylds (r.drop t.n) (o + t.n) := by
  have hb : Sc.blT r = 0 := Sc.blT_stop h0
  have := ylds_go (r := r) (t := t) o (by rw [hb]; exact hr) (by rw [hb]; exact ht) he
  rw [hb, Nat.zero_add, Nat.add_zero] at this
  exact this
end Go.Proofs.YtjfhcgolgabkkaaDoor
