/- Rows of ints. -/
import Derived.Test.YtfcjihfnimefhaaIntV
import Derived.Laws.AppendOwnNone
namespace Go.Proofs.Ytfcjihfnimefhaa
open Go.RowKit
set_option linter.unusedVariables false

theorem infoI : (Try.prog.info? 3).map (fun i => (i.zero, i.size, i.bytes)) = some (some (.int .i64 0), 1, 8) := by kernel_rfl
/-- A row of ints from A on. -/
def Ri (w : World) (A : Option Addr) (l : List Int) : Prop := ∀ j x, l[j]? = some x → ∃ b o : Nat, A = some ⟨b, o, none⟩ ∧ w.cell? ⟨b, o + j, none⟩ = some (.int .i64 x)
theorem Ri.nil (w : World) (A : Option Addr) : Ri w A [] := fun j t h => by simp at h
theorem Ri.below {w w' : World} {A : Option Addr} {l : List Int} (h : Ri w A l) (hb : Below w.heap.size w w') : Ri w' A l := fun j t ht => by
  obtain ⟨b, o, h0, h1⟩ := h j t ht
  exact ⟨b, o, h0, bel_cell hb h1⟩
theorem ri_row {w : World} {base n c : Nat} {A : Option Addr} {l : List Int} (h : w.ownsRow base 3 1 (.slice A n c) l.length (l.map iv)) : n = l.length ∧ Ri w A l ∧ (A = none → n = 0 ∧ c = 0) := by
  obtain ⟨hl, ⟨h1, h2⟩ | ⟨g, cap, cur, h1, h3, h4, h5, h6, h7, h8⟩⟩ := h
  · injection h1 with h1 h1' h1''
    have hy : l = [] := List.length_eq_zero_iff.1 h2
    subst hy
    exact ⟨by rw [h1', List.length_nil], Ri.nil _ _, fun _ => ⟨h1', h1''⟩⟩
  · injection h1 with h1 h1' h1''
    refine ⟨h1', fun j x hx => ⟨g, 0, h1, ?_⟩, fun e => by rw [h1] at e; cases e⟩
    have hj : j < l.length := (List.getElem?_eq_some_iff.1 hx).1
    have hv : (l.map iv)[j]? = some (iv x) := by simp [hx]
    rw [← h8, List.getElem?_take_of_lt (by omega)] at hv
    rw [Nat.zero_add]
    simp [World.cell?, h4]
    simpa [iv] using hv
theorem ri_news {w : World} {ad : Addr} {l : List Int} (h : Ri w (some ad) l) : ∀ j u, (l.map iv)[j]? = some u → w.cell? (ad.add j) = some u := fun j u hj => by
  rw [List.getElem?_map, Option.map_eq_some_iff] at hj
  obtain ⟨x, hx, rfl⟩ := hj
  obtain ⟨b, o, e, c0⟩ := h j x hx
  obtain rfl : ad = ⟨b, o, none⟩ := Option.some.inj e
  rw [Addr.add_lit]; exact c0
theorem iv_one (l : List Int) : ∀ u ∈ l.map iv, u.oneCell' = true := by
  intro u hu
  obtain ⟨x, _, rfl⟩ := List.mem_map.1 hu
  rfl
/-- 'append(l, ts...)', l the call's own, ts ints. -/
theorem app_ints {w : World} {ops : Array Oper} {rest : List Oper} {o : Oper} {a : Act} {Q : Exit → Act → World → Prop} (hgd : o.guard = none) (s x : Operand)
    (ho : o.op = .call { callee := .builtin .append, args := #[s, x], argTypes := #[81, 81] })
    (base : Nat) (v : Value) (n : Nat) (qs : List Int) (hs : a.eval s = v) (hown : w.ownsRow base 3 1 v n (qs.map iv))
    {A : Option Addr} {m c : Nat} {ts : List Int} (hx : a.eval x = .slice A m c) (htr : Ri w A ts) (hm : ts.length = m) (hA : A = none → m = 0 ∧ c = 0)
    (hb : n + m ≤ 1000000) (hbase : base ≤ w.heap.size)
    (h : ∀ v' w', w'.ownsRow base 3 1 v' (n + m) ((qs ++ ts).map iv) → w.grownBy w' v.ownBlock → wpList Try.prog ops Q rest (a.put o.dst v') w') : wpList Try.prog ops Q (o :: rest) a w := by
  obtain ⟨i0, hi, hz0, hz1, hz2⟩ := info_parts infoI
  cases A with
  | none =>
    obtain ⟨rfl, rfl⟩ := hA rfl
    have hts : ts = [] := List.length_eq_zero_iff.1 hm
    subst hts
    refine wpList_append_own_none hgd s x 81 ho base 3 i0 1 Try.underlying81 hi v n (qs.map iv) hs hown hx ?_
    exact h v w (by rw [List.append_nil]; exact hown) (grown_refl w _)
  | some ad =>
    refine wpList_append_own _ hgd s x 81 ho base 3 i0 (.int .i64 0) 1 8 Try.underlying81 hi hz0 hz1 hz2 rfl (by decide) v n (qs.map iv) hs hown ad m c (ts.map iv) hx (by rw [List.length_map, hm, Nat.mul_one]) (ri_news htr) (iv_one ts) (by unfold maxLen; omega) (by omega) hbase ?_
    intro v' w' h1 h2 _
    exact h v' w' (by rw [List.map_append]; exact h1) h2
end Go.Proofs.Ytfcjihfnimefhaa
