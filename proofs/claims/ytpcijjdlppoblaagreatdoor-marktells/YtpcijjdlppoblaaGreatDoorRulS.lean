/- The reference's variables (copperplateref11: vars); how lists of symbols are handed back. -/
import Derived.Test.YtpcijjdlppoblaaGreatDoorRulD
namespace Go.Proofs.YtpcijjdlppoblaaGreatDoor
open Go.RowKit
set_option linter.unusedVariables false
set_option maxRecDepth 100000

/-- How a list of symbols is handed back. -/
def SyE (L : List Sq) (w : World) (e : Ending) (w' : World) : Prop := ∃ A c, e = .returned (.slice A L.length c) ∧ Below w.heap.size w w' ∧ Sr w' A L ∧ (A = none → L.length = 0 ∧ c = 0) ∧ (∀ b o : Nat, A = some ⟨b, o, none⟩ → w.heap.size ≤ b)
theorem SyE.nil {L : List Sq} (h : L = []) (w : World) : SyE L w (.returned (.slice none 0 0)) w := by
  subst h; exact ⟨none, 0, rfl, Below.refl _ _, Sr.nil _ _, (fun _ => ⟨rfl, rfl⟩), (fun b o e => by cases e)⟩
theorem SyE.new {L : List Sq} (w : World) {n : Nat} {cs : Array Value} (h : cs.toList = cly L) (hn : L.length = n) (t : TypeId) : SyE L w (.returned (.slice (some ⟨w.heap.size, 0, none⟩) n n)) (w.alloc (.cells cs t)) := by
  subst hn
  refine ⟨some ⟨w.heap.size, 0, none⟩, _, rfl, bel_alloc (Below.refl _ _) _, fun j t ht => ?_, (fun e => by cases e), (fun b o e => by cases e; exact Nat.le_refl _)⟩
  obtain ⟨e0, e1⟩ := cly_at ht
  rw [← h] at e0 e1
  refine ⟨_, 0, rfl, ?_, ?_⟩
  · unfold World.cell? World.alloc; simpa using e0
  · unfold World.cell? World.alloc; simpa using e1

/-- How vars ends. -/
def VaE (w : World) (e : Ending) (w' : World) : Prop := ∃ g, e = .returned (.slice (some ⟨g, 0, none⟩) 90 90) ∧ Below w.heap.size w w' ∧ ∀ j, j < 90 → w'.cell? ⟨g, j, none⟩ = some (.int .i64 (varR j : Nat))
theorem VaE.new (w : World) {cs : Array Value} (h : cs = ((List.range 90).map fun j => Value.int .i64 (varR j : Nat)).toArray) (t : TypeId) : VaE w (.returned (.slice (some ⟨w.heap.size, 0, none⟩) 90 90)) (w.alloc (.cells cs t)) := by
  subst h
  refine ⟨_, rfl, bel_alloc (Below.refl _ _) _, fun j hj => ?_⟩
  unfold World.cell? World.alloc
  simp [hj]
set_option maxHeartbeats 2000000 in
theorem rvars_any (w : World) : Calls Tryz.prog 68 #[] w fun e w' => VaE w e w' := by
  go_enter Tryz.func68, Tryz.ntmps68
  (try simp only [List.append_eq, List.cons_append, List.nil_append])
  go_wp2
  go_ret
  exact VaE.new _ (by kernel_rfl) _
end Go.Proofs.YtpcijjdlppoblaaGreatDoor
