/- Rows of ints that grow at a step of a region that draws its order; a block built as a row. -/
import Derived.Test.YtfcjihfnimefhaaIntR
import Derived.Laws.OwnMore
import Derived.Maps.AppendAt
import Derived.Deep.RegionLaw
namespace Go.Proofs.Ytfcjihfnimefhaa
open Go.RowKit
set_option linter.unusedVariables false
set_option maxRecDepth 100000

/-- 'append(l, ts...)' at a step of a region that draws, l the call's own. -/
theorem step_app_ints {w : World} {ops : Array Oper} {o : Oper} {a : Act} {K : Act → World → Prop} {Q : Exit → Act → World → Prop} {E : Prop} (hgd : o.guard = none) (s x : Operand)
    (ho : o.op = .call { callee := .builtin .append, args := #[s, x], argTypes := #[81, 81] })
    (base : Nat) (v : Value) (n : Nat) (qs : List Int) (hs : a.eval s = v) (hown : w.ownsRow base 3 1 v n (qs.map iv))
    {A : Option Addr} {m c : Nat} {ts : List Int} (hx : a.eval x = .slice A m c) (htr : Ri w A ts) (hm : ts.length = m) (hA : A = none → m = 0 ∧ c = 0)
    (hb : n + m ≤ 1000000) (hbase : base ≤ w.heap.size)
    (h : ∀ v' w', w'.ownsRow base 3 1 v' (n + m) ((qs ++ ts).map iv) → w.grownBy w' v.ownBlock → K (a.put o.dst v') w') :
    if Region.wanted o (yielded ops a.tmps) = true then Oper.wp Try.prog o a w K Q else E := by
  obtain ⟨i0, hi, hz0, hz1, hz2⟩ := info_parts infoI
  have hw : Region.wanted o (yielded ops a.tmps) = true := by simp [Region.wanted, hgd]
  rw [if_pos hw]
  have hrun : ∃ v' w', (Builtin.append_ #[81, 81] o.type #[v, .slice A m c]).run Try.prog w = .ok v' w' ∧ w'.ownsRow base 3 1 v' (n + m) ((qs ++ ts).map iv) ∧ w.grownBy w' v.ownBlock := by
    cases A with
    | none =>
      obtain ⟨rfl, rfl⟩ := hA rfl
      have hts : ts = [] := List.length_eq_zero_iff.1 hm
      subst hts
      exact ⟨v, w, run_append_owned_none (P := Try.prog) (w := w) base 81 o.type 3 i0 1 Try.underlying81 hi v n (qs.map iv) hown, by rw [List.append_nil]; exact hown, grown_refl w _⟩
    | some ad =>
      obtain ⟨v', w', h1, h2, h3, -, -⟩ := run_append_own_at (P := Try.prog) w base 81 o.type 3 i0 (.int .i64 0) 1 8 Try.underlying81 hi hz0 hz1 hz2 rfl (by decide) v n (qs.map iv) hown ad m c (ts.map iv) (by rw [List.length_map, hm, Nat.mul_one]) (ri_news htr) (iv_one ts) (by unfold maxLen; omega) (by omega) hbase
      exact ⟨v', w', h1, by rw [List.map_append]; exact h2, h3⟩
  obtain ⟨v', w', hr, h2, h3⟩ := hrun
  unfold Oper.wp execOp
  simp only [ho, resolve, invoke, builtin, Sem.run_bind, Sem.run_pure, Result.andThen_ok, List.map_toArray, List.map_cons, List.map_nil, hs, hx, hr]
  exact h v' w' h2 h3
/-- A block of ints, as a row of the call's own. -/
theorem own_blk (w : World) (l : List Int) (h : l.length ≤ 1000) : (w.alloc (.cells (l.map iv).toArray 3)).ownsRow w.heap.size 3 1 (.slice (some ⟨w.heap.size, 0, none⟩) l.length l.length) l.length (l.map iv) :=
  ⟨by rw [List.length_map, Nat.mul_one], .inr ⟨w.heap.size, l.length, (l.map iv).toArray, rfl, Nat.le_refl _, heap_alloc_new w _, Nat.le_refl _, by unfold maxLen; omega, by simp, by rw [List.take_of_length_le (by simp)]⟩⟩
end Go.Proofs.Ytfcjihfnimefhaa
