/- Rows of bits, and of texts, appended whole. -/
import Derived.Test.YtpcijjdlppoblaaGreatDoorMarE
import Derived.Laws.OwnMore
import Derived.Maps.AppendAt
namespace Go.Proofs.YtpcijjdlppoblaaGreatDoor
open Go.RowKit
set_option linter.unusedVariables false
set_option maxRecDepth 100000

/-- 'append(l, bs...)', l a row of bits of the call's own. -/
theorem app_bns {w0 w : World} {ops : Array Oper} {rest : List Oper} {o : Oper} {a : Act} {Q : Exit → Act → World → Prop} (hgd : o.guard = none) (s x : Operand)
    (ho : o.op = .call { callee := .builtin .append, args := #[s, x], argTypes := #[26, 26] })
    (v : Value) (X : List Bq) (hs : a.eval s = v) (hown : Bn w0 X v w) {A : Option Addr} {m c : Nat} {bs : List Bq} (hx : a.eval x = .slice A m c) (htr : Br w A bs) (hm : bs.length = m) (hA : A = none → m = 0 ∧ c = 0) (hb : X.length + m ≤ 1000000)
    (h : ∀ v' w', Bn w0 (X ++ bs) v' w' → wpList Tryz.prog ops Q rest (a.put o.dst v') w') : wpList Tryz.prog ops Q (o :: rest) a w :=
  app_bits hgd s x ho w0.heap.size v X.length X hs hown.own hx htr hm hA hb hown.bel.size fun v' w' h1 h2 => h v' w' (hown.next hm h1 h2)
theorem Bn.row {w : World} {X : List Bq} {v : Value} {W : World} (h : Bn w X v W) : ∃ A c, v = .slice A X.length c ∧ Br W A X ∧ (A = none → X.length = 0 ∧ c = 0) ∧ X.length ≤ c := by
  obtain ⟨A, n, c, rfl, hc⟩ := own_slB h.own
  obtain ⟨rfl, h2, h3⟩ := br_row h.own
  exact ⟨A, c, rfl, h2, h3, hc⟩
theorem Xn.next' {w : World} {X x : List ByteArray} {n : Nat} {v v' : Value} {W W' : World} (h : Xn w X v W) (hn : x.length = n) (ho : W'.ownsRow w.heap.size 9 1 v' (X.length + n) ((X ++ x).map tv)) (hg : W.grownBy W' v.ownBlock) : Xn w (X ++ x) v' W' :=
  ⟨by rw [List.length_append, hn]; exact ho, h.bel.grown hg h.bel.size (fun k hk => (h.own.lt k hk).1)⟩
theorem Xn.below {w : World} {X : List ByteArray} {v : Value} {W W' : World} (h : Xn w X v W) (b : Below W.heap.size W W') : Xn w X v W' := ⟨row_below h.own b, bel_trans h.bel b⟩
/-- 'append(l, ts...)', l a row of texts of the call's own. -/
theorem app_xns {w0 w : World} {ops : Array Oper} {rest : List Oper} {o : Oper} {a : Act} {Q : Exit → Act → World → Prop} (hgd : o.guard = none) (s x : Operand)
    (ho : o.op = .call { callee := .builtin .append, args := #[s, x], argTypes := #[35, 35] })
    (v : Value) (X : List ByteArray) (hs : a.eval s = v) (hown : Xn w0 X v w) {A : Option Addr} {m c : Nat} {ts : List ByteArray} (hx : a.eval x = .slice A m c) (htr : Xr w A ts) (hm : ts.length = m) (hA : A = none → m = 0 ∧ c = 0) (hb : X.length + m ≤ 1000000)
    (h : ∀ v' w', Xn w0 (X ++ ts) v' w' → wpList Tryz.prog ops Q rest (a.put o.dst v') w') : wpList Tryz.prog ops Q (o :: rest) a w :=
  app_txts hgd s x ho w0.heap.size v X.length X hs hown.own hx htr hm hA hb hown.bel.size fun v' w' h1 h2 => h v' w' (hown.next' hm h1 h2)
theorem Xn.row {w : World} {X : List ByteArray} {v : Value} {W : World} (h : Xn w X v W) : ∃ A c, v = .slice A X.length c ∧ Xr W A X := by
  obtain ⟨A, n, c, rfl⟩ := own_slX h.own
  obtain ⟨rfl, h2, h3⟩ := xr_row h.own
  exact ⟨A, c, rfl, h2⟩
/-- 'append(l, bs...)', l a row of bits of the call's own, where the operation is guarded. -/
theorem app_bns_g {w0 w : World} {ops : Array Oper} {rest : List Oper} {o : Oper} {a : Act} {Q : Exit → Act → World → Prop} (hw : Region.wanted o (yielded ops a.tmps) = true) (s x : Operand)
    (ho : o.op = .call { callee := .builtin .append, args := #[s, x], argTypes := #[26, 26] })
    (v : Value) (X : List Bq) (hs : a.eval s = v) (hown : Bn w0 X v w) {A : Option Addr} {m c : Nat} {bs : List Bq} (hx : a.eval x = .slice A m c) (htr : Br w A bs) (hm : bs.length = m) (hA : A = none → m = 0 ∧ c = 0) (hb : X.length + m ≤ 1000000)
    (h : ∀ v' w', Bn w0 (X ++ bs) v' w' → wpList Tryz.prog ops Q rest (a.put o.dst v') w') : wpList Tryz.prog ops Q (o :: rest) a w := by
  obtain ⟨i0, hi, hz0, hz1, hz2⟩ := info_parts infoBit
  have hrun : ∃ v' w', (Builtin.append_ #[26, 26] o.type #[v, .slice A m c]).run Tryz.prog w = .ok v' w' ∧ Bn w0 (X ++ bs) v' w' := by
    cases A with
    | none =>
      obtain ⟨rfl, rfl⟩ := hA rfl
      have hts : bs = [] := List.length_eq_zero_iff.1 hm
      subst hts
      exact ⟨v, w, run_append_owned_none (P := Tryz.prog) (w := w) w0.heap.size 26 o.type 47 i0 2 Tryz.underlying26 hi v X.length (clb X) hown.own, by rw [List.append_nil]; exact hown⟩
    | some ad =>
      obtain ⟨v', w', h1, h2, h3, -, -⟩ := run_append_own_at (P := Tryz.prog) w w0.heap.size 26 o.type 47 i0 (.agg #[.int .i64 0, .string ⟨#[]⟩]) 2 24 Tryz.underlying26 hi hz0 hz1 hz2 rfl (by decide) v X.length (clb X) hown.own ad m c (clb bs) (by rw [clb_len, hm]) (br_news htr) (clb_one bs) (by unfold maxLen; omega) (by omega) hown.bel.size
      exact ⟨v', w', h1, hown.next hm (by rw [clb_append]; exact h2) h3⟩
  obtain ⟨v', w', hr, h2⟩ := hrun
  rw [wpList, if_pos hw]
  left
  unfold Oper.wp execOp
  simp only [ho, resolve, invoke, builtin, Sem.run_bind, Sem.run_pure, Result.andThen_ok, List.map_toArray, List.map_cons, List.map_nil, hs, hx, hr]
  exact h v' w' h2
end Go.Proofs.YtpcijjdlppoblaaGreatDoor
