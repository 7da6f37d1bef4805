/- Strings of bytes. -/
import Derived.Test.YtpcijjdlppoblaaGreatDoorRows
import Derived.Lib.Strings
import Derived.WalkKit
import Derived.Laws.IdiomStrings
import Derived.WalkSpells
import Derived.StillTactics
import Derived.Laws.Pointers
import Derived.Deep.RegionHeld3
import Derived.Deep.QuietTactic
import Derived.BigQuiet
import Derived.Below
import Derived.Lib.Hide
import Derived.WalkSmall
import Derived.LoopN
import Derived.Handy
import Derived.IntWalk
import Derived.WalkMore
import Derived.OneCell
import Derived.OwnWalk
import Derived.Laws.Rows
import Derived.StillTailTactics
namespace Go.Proofs.YtpcijjdlppoblaaGreatDoor
open Go.RowKit
set_option linter.unusedVariables false

/-- The string of a list's bytes. -/
def mkb (l : List UInt8) : ByteArray := ⟨l.toArray⟩
theorem mkb_data (l : List UInt8) : (mkb l).data.toList = l := rfl
theorem mkb_size (l : List UInt8) : (mkb l).size = l.length := by simp [mkb, ByteArray.size]
theorem mkb_toList (l : List UInt8) : (mkb l).toList = l := by rw [Lib.toList_data]; rfl
theorem mkb_of (s : ByteArray) : mkb s.data.toList = s := rfl
theorem mkb_add (a b : List UInt8) : mkb a ++ mkb b = mkb (a ++ b) := by
  apply ByteArray.ext
  simp [mkb]
theorem sadd (a b : List UInt8) (h : a.length + b.length ≤ 1000000) (w : World) : (Op.stringOp .add (mkb a) (mkb b)).run Tryz.prog w = .ok (.string (mkb (a ++ b))) w := by
  rw [← mkb_add]; exact run_string_add_sum w _ _ (by rw [mkb_size, mkb_size]; omega)
/-- A sum of strings, under a name of its own. -/
theorem sadd' {A B : ByteArray} {a b : List UInt8} (hA : A = mkb a) (hB : B = mkb b) (h : a.length + b.length ≤ 1000000) : ∃ R, R = mkb (a ++ b) ∧ ∀ w, (Op.stringOp .add A B).run Tryz.prog w = .ok (.string R) w :=
  ⟨mkb (a ++ b), rfl, fun w => by rw [hA, hB]; exact sadd a b h w⟩
end Go.Proofs.YtpcijjdlppoblaaGreatDoor

/- Chains of calls that leave what is old alone; rows of the call's own. -/
namespace Go.Proofs.YtpcijjdlppoblaaGreatDoor
open Go.RowKit
set_option linter.unusedVariables false

theorem bel_trans {a b c : World} (h : Below a.heap.size a b) (k : Below b.heap.size b c) : Below a.heap.size a c := h.trans (k.mono h.size)
theorem bel_alloc {a b : World} (h : Below a.heap.size a b) (o : Obj) : Below a.heap.size a (b.alloc o) := h.alloc h.size o
theorem bel_cell {w w' : World} (hb : Below w.heap.size w w') {a : Addr} {v : Value} (h : w.cell? a = some v) : w'.cell? a = some v := (hb.cell (World.block_lt_of_cell? w a h)).trans h
theorem row_below {w w' : World} {base : Nat} {e : TypeId} {size n : Nat} {v : Value} {xs : List Value} (h : w.ownsRow base e size v n xs) (b : Below w.heap.size w w') : w'.ownsRow base e size v n xs :=
  h.kept (row := none) ⟨b.os, b.tape, b.output, b.size, fun k hk _ => b.block k hk⟩ (by cases hv : v.ownBlock <;> simp)
theorem grown_refl (w : World) (row : Option Nat) : w.grownBy w row := ⟨rfl, rfl, rfl, Nat.le_refl _, fun _ _ _ => rfl⟩
theorem own_sl {w : World} {base : Nat} {e : TypeId} {size n : Nat} {v : Value} {xs : List Value} (h : w.ownsRow base e size v n xs) : ∃ A m c, v = .slice A m c := by
  rcases h.2 with ⟨rfl, _⟩ | ⟨g', cap, cur, rfl, _⟩
  · exact ⟨_, _, _, rfl⟩
  · exact ⟨_, _, _, rfl⟩
end Go.Proofs.YtpcijjdlppoblaaGreatDoor

/- Rows of tokens. -/
namespace Go.Proofs.YtpcijjdlppoblaaGreatDoor
open Go.RowKit
set_option linter.unusedVariables false

/-- A token as it lies in a row. -/
structure Tq where
  k : Int
  v : ByteArray
  a : Int
  z : Int
/-- A row of tokens from A on. -/
def Tr (w : World) (A : Option Addr) (ts : List Tq) : Prop := ∀ j t, ts[j]? = some t → ∃ b o : Nat, A = some ⟨b, o, none⟩ ∧
  w.cell? ⟨b, o + j * 4, none⟩ = some (.int .i64 t.k) ∧ w.cell? ⟨b, o + j * 4 + 1, none⟩ = some (.string t.v) ∧ w.cell? ⟨b, o + j * 4 + 2, none⟩ = some (.int .i64 t.a) ∧ w.cell? ⟨b, o + j * 4 + 3, none⟩ = some (.int .i64 t.z)
theorem Tr.nil (w : World) (A : Option Addr) : Tr w A [] := fun j t h => by simp at h
theorem Tr.below {w w' : World} {A : Option Addr} {ts : List Tq} (h : Tr w A ts) (hb : Below w.heap.size w w') : Tr w' A ts := fun j t ht => by
  obtain ⟨b, o, h0, h1, h2, h3, h4⟩ := h j t ht
  exact ⟨b, o, h0, bel_cell hb h1, bel_cell hb h2, bel_cell hb h3, bel_cell hb h4⟩
end Go.Proofs.YtpcijjdlppoblaaGreatDoor
