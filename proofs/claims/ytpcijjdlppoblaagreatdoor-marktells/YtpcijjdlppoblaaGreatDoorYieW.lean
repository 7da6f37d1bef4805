/- Rows of symbols that grow at a step of a region that draws its order. -/
import Derived.Test.YtpcijjdlppoblaaGreatDoorSliI
import Derived.Laws.OwnMore
import Derived.Maps.AppendAt
import Derived.Deep.RegionLaw
namespace Go.Proofs.YtpcijjdlppoblaaGreatDoor
open Go.RowKit
set_option linter.unusedVariables false
set_option maxRecDepth 100000

/-- 'append(l, ts...)' at a step of a region that draws, l the call's own. -/
theorem step_app_syms {w : World} {ops : Array Oper} {o : Oper} {a : Act} {K : Act → World → Prop} {Q : Exit → Act → World → Prop} {E : Prop} (hgd : o.guard = none) (s x : Operand)
    (ho : o.op = .call { callee := .builtin .append, args := #[s, x], argTypes := #[42, 42] })
    (base : Nat) (v : Value) (n : Nat) (qs : List Sq) (hs : a.eval s = v) (hown : w.ownsRow base 59 2 v n (cly qs))
    {A : Option Addr} {m c : Nat} {ts : List Sq} (hx : a.eval x = .slice A m c) (htr : Sr w A ts) (hm : ts.length = m) (hA : A = none → m = 0 ∧ c = 0)
    (hb : n + m ≤ 1000000) (hbase : base ≤ w.heap.size)
    (h : ∀ v' w', w'.ownsRow base 59 2 v' (n + m) (cly (qs ++ ts)) → w.grownBy w' v.ownBlock → K (a.put o.dst v') w') :
    if Region.wanted o (yielded ops a.tmps) = true then Oper.wp Tryz.prog o a w K Q else E := by
  obtain ⟨i0, hi, hz0, hz1, hz2⟩ := info_parts infoSym
  have hw : Region.wanted o (yielded ops a.tmps) = true := by simp [Region.wanted, hgd]
  rw [if_pos hw]
  have hrun : ∃ v' w', (Builtin.append_ #[42, 42] o.type #[v, .slice A m c]).run Tryz.prog w = .ok v' w' ∧ w'.ownsRow base 59 2 v' (n + m) (cly (qs ++ ts)) ∧ w.grownBy w' v.ownBlock := by
    cases A with
    | none =>
      obtain ⟨rfl, rfl⟩ := hA rfl
      have hts : ts = [] := List.length_eq_zero_iff.1 hm
      subst hts
      exact ⟨v, w, run_append_owned_none (P := Tryz.prog) (w := w) base 42 o.type 59 i0 2 Tryz.underlying42 hi v n (cly qs) hown, by rw [List.append_nil]; exact hown, grown_refl w _⟩
    | some ad =>
      obtain ⟨v', w', h1, h2, h3, -, -⟩ := run_append_own_at (P := Tryz.prog) w base 42 o.type 59 i0 (.agg #[.int .i64 0, .int .i64 0]) 2 16 Tryz.underlying42 hi hz0 hz1 hz2 rfl (by decide) v n (cly qs) hown ad m c (cly ts) (by rw [cly_len, hm]) (sr_news htr) (cly_one ts) (by unfold maxLen; omega) (by omega) hbase
      exact ⟨v', w', h1, by rw [cly_append]; exact h2, h3⟩
  obtain ⟨v', w', hr, h2, h3⟩ := hrun
  unfold Oper.wp execOp
  simp only [ho, resolve, invoke, builtin, Sem.run_bind, Sem.run_pure, Result.andThen_ok, List.map_toArray, List.map_cons, List.map_nil, hs, hx, hr]
  exact h v' w' h2 h3
end Go.Proofs.YtpcijjdlppoblaaGreatDoor
