/- What the bound on the bulk says of a slice of strings. -/
import Derived.Test.YtpmdkjbkcncnnaaSliS
namespace Go.Proofs.Ytpmdkjbkcncnnaa

theorem bulk_mem {H : Type} {x : List UInt8} {l : List (List UInt8)} (h : x ∈ l) : x.length + 1 ≤ Rows.uptoBulkAll (H := H) (l.map fun x => .lit (.string x)) := by
  induction l with
  | nil => cases h
  | cons y r ih =>
    simp only [List.map_cons, Rows.uptoBulkAll, Rows.uptoBulk]
    rcases List.mem_cons.1 h with rfl | h
    · omega
    · have := ih h; omega
theorem bulkS {H : Type} {d : DataW H} {l : List (List UInt8)} (h : (l = [] ∧ d = .nil) ∨ ∃ sp, d = .slice (l.map fun x => .lit (.string x)) sp) (hb : Rows.uptoBulk d ≤ 1048576) : ∀ x ∈ l, x.length ≤ 1048576 := by
  rcases h with ⟨rfl, _⟩ | ⟨sp, rfl⟩
  · intro x hx; simp at hx
  · intro x hx
    have := bulk_mem (H := H) hx
    simp only [Rows.uptoBulk] at hb
    omega
end Go.Proofs.Ytpmdkjbkcncnnaa
