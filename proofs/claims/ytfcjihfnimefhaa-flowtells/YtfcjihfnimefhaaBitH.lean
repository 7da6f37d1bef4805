/- Rows of bits, appended whole. -/
import Derived.Test.YtfcjihfnimefhaaBitR
import Derived.Laws.OwnMore
import Derived.Maps.AppendAt
namespace Go.Proofs.Ytfcjihfnimefhaa
open Go.RowKit
set_option linter.unusedVariables false
set_option maxRecDepth 100000

/-- 'append(l, bs...)', l a row of bits of the call's own. -/
theorem app_bns {w0 w : World} {ops : Array Oper} {rest : List Oper} {o : Oper} {a : Act} {Q : Exit → Act → World → Prop} (hgd : o.guard = none) (s x : Operand)
    (ho : o.op = .call { callee := .builtin .append, args := #[s, x], argTypes := #[22, 22] })
    (v : Value) (X : List Bq) (hs : a.eval s = v) (hown : Bn w0 X v w) {A : Option Addr} {m c : Nat} {bs : List Bq} (hx : a.eval x = .slice A m c) (htr : Br w A bs) (hm : bs.length = m) (hA : A = none → m = 0 ∧ c = 0) (hb : X.length + m ≤ 1000000)
    (h : ∀ v' w', Bn w0 (X ++ bs) v' w' → wpList Try.prog ops Q rest (a.put o.dst v') w') : wpList Try.prog ops Q (o :: rest) a w :=
  app_bits hgd s x ho w0.heap.size v X.length X hs hown.own hx htr hm hA hb hown.bel.size fun v' w' h1 h2 => h v' w' (hown.next hm h1 h2)
theorem Bn.row {w : World} {X : List Bq} {v : Value} {W : World} (h : Bn w X v W) : ∃ A c, v = .slice A X.length c ∧ Br W A X ∧ (A = none → X.length = 0 ∧ c = 0) ∧ X.length ≤ c := by
  obtain ⟨A, n, c, rfl, hc⟩ := own_slB h.own
  obtain ⟨rfl, h2, h3⟩ := br_row h.own
  exact ⟨A, c, rfl, h2, h3, hc⟩
/-- 'append(l, bs...)', l a row of bits of the call's own, where the operation is guarded. -/
theorem app_bns_g {w0 w : World} {ops : Array Oper} {rest : List Oper} {o : Oper} {a : Act} {Q : Exit → Act → World → Prop} (hw : Region.wanted o (yielded ops a.tmps) = true) (s x : Operand)
    (ho : o.op = .call { callee := .builtin .append, args := #[s, x], argTypes := #[22, 22] })
    (v : Value) (X : List Bq) (hs : a.eval s = v) (hown : Bn w0 X v w) {A : Option Addr} {m c : Nat} {bs : List Bq} (hx : a.eval x = .slice A m c) (htr : Br w A bs) (hm : bs.length = m) (hA : A = none → m = 0 ∧ c = 0) (hb : X.length + m ≤ 1000000)
    (h : ∀ v' w', Bn w0 (X ++ bs) v' w' → wpList Try.prog ops Q rest (a.put o.dst v') w') : wpList Try.prog ops Q (o :: rest) a w := by
  obtain ⟨i0, hi, hz0, hz1, hz2⟩ := info_parts infoBit
  have hrun : ∃ v' w', (Builtin.append_ #[22, 22] o.type #[v, .slice A m c]).run Try.prog w = .ok v' w' ∧ Bn w0 (X ++ bs) v' w' := by
    cases A with
    | none =>
      obtain ⟨rfl, rfl⟩ := hA rfl
      have hts : bs = [] := List.length_eq_zero_iff.1 hm
      subst hts
      exact ⟨v, w, run_append_owned_none (P := Try.prog) (w := w) w0.heap.size 22 o.type 34 i0 2 Try.underlying22 hi v X.length (clb X) hown.own, by rw [List.append_nil]; exact hown⟩
    | some ad =>
      obtain ⟨v', w', h1, h2, h3, -, -⟩ := run_append_own_at (P := Try.prog) w w0.heap.size 22 o.type 34 i0 (.agg #[.int .i64 0, .string ⟨#[]⟩]) 2 24 Try.underlying22 hi hz0 hz1 hz2 rfl (by decide) v X.length (clb X) hown.own ad m c (clb bs) (by rw [clb_len, hm]) (br_news htr) (clb_one bs) (by unfold maxLen; omega) (by omega) hown.bel.size
      exact ⟨v', w', h1, hown.next hm (by rw [clb_append]; exact h2) h3⟩
  obtain ⟨v', w', hr, h2⟩ := hrun
  rw [wpList, if_pos hw]
  left
  unfold Oper.wp execOp
  simp only [ho, resolve, invoke, builtin, Sem.run_bind, Sem.run_pure, Result.andThen_ok, List.map_toArray, List.map_cons, List.map_nil, hs, hx, hr]
  exact h v' w' h2
/-- A block of bits of the call's own. -/
theorem bn_blk (w : World) {ts : List Bq} {cs : Array Value} {n : Nat} (hc : cs.toList = clb ts) (hn : ts.length = n) (h1 : n ≤ 1000) : Bn w ts (.slice (some ⟨w.heap.size, 0, none⟩) n n) (w.alloc (.cells cs 34)) := by
  subst hn
  have hz : cs.size = ts.length * 2 := by rw [← Array.length_toList, hc, clb_len]
  exact ⟨⟨by rw [clb_len], .inr ⟨w.heap.size, ts.length, cs, rfl, Nat.le_refl _, heap_alloc_new w _, Nat.le_refl _, by unfold maxLen; omega, hz, by rw [hc, List.take_of_length_le (by rw [clb_len]; exact Nat.le_refl _)]⟩⟩, bel_alloc (Below.refl _ _) _⟩
end Go.Proofs.Ytfcjihfnimefhaa
