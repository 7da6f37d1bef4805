/- Rows of bits that grow at a step of a region that draws its order; parts of rows of bits. -/
import Derived.Test.YtcbhhdnnmnogdaaBitH
import Derived.Deep.RegionLaw
namespace Go.Proofs.Ytcbhhdnnmnogdaa
open Go.RowKit
set_option linter.unusedVariables false
set_option maxRecDepth 100000

/-- 'append(l, bs...)' at a step of a region that draws, l a row of bits of the call's own. -/
theorem step_app_bits {w0 w : World} {ops : Array Oper} {o : Oper} {a : Act} {K : Act → World → Prop} {Q : Exit → Act → World → Prop} {E : Prop} (hgd : o.guard = none) (s x : Operand)
    (ho : o.op = .call { callee := .builtin .append, args := #[s, x], argTypes := #[22, 22] })
    (v : Value) (X : List Bq) (hs : a.eval s = v) (hown : Bn w0 X v w) {A : Option Addr} {m c : Nat} {bs : List Bq} (hx : a.eval x = .slice A m c) (htr : Br w A bs) (hm : bs.length = m) (hA : A = none → m = 0 ∧ c = 0) (hb : X.length + m ≤ 1000000)
    (h : ∀ v' w', Bn w0 (X ++ bs) v' w' → w.grownBy w' v.ownBlock → K (a.put o.dst v') w') :
    if Region.wanted o (yielded ops a.tmps) = true then Oper.wp Try.prog o a w K Q else E := by
  obtain ⟨i0, hi, hz0, hz1, hz2⟩ := info_parts infoBit
  have hw : Region.wanted o (yielded ops a.tmps) = true := by simp [Region.wanted, hgd]
  rw [if_pos hw]
  have hrun : ∃ v' w', (Builtin.append_ #[22, 22] o.type #[v, .slice A m c]).run Try.prog w = .ok v' w' ∧ Bn w0 (X ++ bs) v' w' ∧ w.grownBy w' v.ownBlock := by
    cases A with
    | none =>
      obtain ⟨rfl, rfl⟩ := hA rfl
      have hts : bs = [] := List.length_eq_zero_iff.1 hm
      subst hts
      exact ⟨v, w, run_append_owned_none (P := Try.prog) (w := w) w0.heap.size 22 o.type 31 i0 2 Try.underlying22 hi v X.length (clb X) hown.own, by rw [List.append_nil]; exact hown, grown_refl w _⟩
    | some ad =>
      obtain ⟨v', w', h1, h2, h3, -, -⟩ := run_append_own_at (P := Try.prog) w w0.heap.size 22 o.type 31 i0 (.agg #[.int .i64 0, .string ⟨#[]⟩]) 2 24 Try.underlying22 hi hz0 hz1 hz2 rfl (by decide) v X.length (clb X) hown.own ad m c (clb bs) (by rw [clb_len, hm]) (br_news htr) (clb_one bs) (by unfold maxLen; omega) (by omega) hown.bel.size
      exact ⟨v', w', h1, hown.next hm (by rw [clb_append]; exact h2) h3, h3⟩
  obtain ⟨v', w', hr, h2, h3⟩ := hrun
  unfold Oper.wp execOp
  simp only [ho, resolve, invoke, builtin, Sem.run_bind, Sem.run_pure, Result.andThen_ok, List.map_toArray, List.map_cons, List.map_nil, hs, hx, hr]
  exact h v' w' h2 h3
end Go.Proofs.Ytcbhhdnnmnogdaa
