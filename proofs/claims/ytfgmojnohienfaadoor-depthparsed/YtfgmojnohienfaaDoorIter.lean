/- A range over a string: the iterator. -/
import Derived.Test.YtfgmojnohienfaaDoorBel
import Derived.RangeFuncKeeps
import Derived.RangeFuncOwn
import Derived.Deep.LoopGhost
import Derived.OneCell
namespace Go.Proofs.YtfgmojnohienfaaDoor
open Go.RowKit
set_option linter.unusedVariables false

theorem next_at {P : Program} {W : World} {g : Nat} {s : ByteArray} {pos c n : Nat} (h : W.heap[g]? = some (.stringIter s pos)) (hp : pos < s.size) (hd : Utf8.decode s pos = (c, n)) (ty : TypeId) :
    (Instr.next (.pointer (some ⟨g, 0, none⟩)) true ty).run P W = .ok (.tuple #[.bool true, .int .i64 pos, .int .i32 c]) (W.putObj g (.stringIter s (pos + n))) := by
  simp only [Instr.next, getObj, setObj, Sem.run_bind, Sem.run, h, Result.andThen, hp, if_true, hd, World.putObj]
  simp [goInt]
theorem next_over {P : Program} {W : World} {g : Nat} {s : ByteArray} {pos : Nat} (h : W.heap[g]? = some (.stringIter s pos)) (hp : ¬ pos < s.size) (ty : TypeId) :
    (Instr.next (.pointer (some ⟨g, 0, none⟩)) true ty).run P W = .ok (.tuple #[.bool false]) W := by
  simp [Instr.next, getObj, Sem.run, h, hp]

/-- The iterator stands at pos, and all below is as it was. -/
structure It (w : World) (g : Nat) (s : ByteArray) (pos : Nat) (W : World) : Prop where
  at_ : W.heap[g]? = some (.stringIter s pos)
  ge : w.heap.size ≤ g
  bel : Below w.heap.size w W
theorem It.put {w : World} {g : Nat} {s : ByteArray} {pos : Nat} {W : World} (h : It w g s pos W) (q : Nat) : It w g s q (W.putObj g (.stringIter s q)) :=
  ⟨World.putObj_heap_same (lt_of_block h.at_), h.ge, h.bel.grown (grownBy_putObj' W g _) h.bel.size (fun k hk => by cases hk; exact h.ge)⟩
theorem It.below {w : World} {g : Nat} {s : ByteArray} {pos : Nat} {W W' : World} (h : It w g s pos W) (b : Below W.heap.size W W') : It w g s pos W' :=
  ⟨(b.block g (lt_of_block h.at_)).trans h.at_, h.ge, h.bel.trans (b.mono h.bel.size)⟩
theorem it_start (w : World) (s : ByteArray) : It w w.heap.size s 0 (w.iter s 0) :=
  ⟨World.iter_heap w s 0, Nat.le_refl _, bel_alloc (Below.refl _ _) _⟩
theorem get_bang (s : ByteArray) (k : Nat) (h : k < s.size) : s.get! k = s[k] := by
  show s.data[k]! = s.data[k]
  rw [getElem!_pos]
/-- A byte below 128 is a character. -/
theorem decode_low (s : ByteArray) (k : Nat) (h : k < s.size) (hl : (s[k]).toNat < 128) : Utf8.decode s k = ((s[k]).toNat, 1) := by
  unfold Utf8.decode
  simp only [Nat.add_zero, get_bang s k h]
  rw [if_pos hl]
end Go.Proofs.YtfgmojnohienfaaDoor
