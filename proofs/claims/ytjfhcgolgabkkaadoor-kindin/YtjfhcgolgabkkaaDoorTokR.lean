/- Rows of tokens. -/
import Derived.Test.YtjfhcgolgabkkaaDoorBel
namespace Go.Proofs.YtjfhcgolgabkkaaDoor
open Go.RowKit
set_option linter.unusedVariables false

/-- A token as it lies in a row. -/
structure Tq where
  k : Int
  v : ByteArray
  a : Int
  z : Int
/-- A row of tokens from A on. -/
def Tr (w : World) (A : Option Addr) (ts : List Tq) : Prop := ∀ j t, ts[j]? = some t → ∃ b o : Nat, A = some ⟨b, o, none⟩ ∧
  w.cell? ⟨b, o + j * 4, none⟩ = some (.int .i64 t.k) ∧ w.cell? ⟨b, o + j * 4 + 1, none⟩ = some (.string t.v) ∧ w.cell? ⟨b, o + j * 4 + 2, none⟩ = some (.int .i64 t.a) ∧ w.cell? ⟨b, o + j * 4 + 3, none⟩ = some (.int .i64 t.z)
theorem Tr.nil (w : World) (A : Option Addr) : Tr w A [] := fun j t h => by simp at h
theorem Tr.below {w w' : World} {A : Option Addr} {ts : List Tq} (h : Tr w A ts) (hb : Below w.heap.size w w') : Tr w' A ts := fun j t ht => by
  obtain ⟨b, o, h0, h1, h2, h3, h4⟩ := h j t ht
  exact ⟨b, o, h0, bel_cell hb h1, bel_cell hb h2, bel_cell hb h3, bel_cell hb h4⟩
end Go.Proofs.YtjfhcgolgabkkaaDoor
