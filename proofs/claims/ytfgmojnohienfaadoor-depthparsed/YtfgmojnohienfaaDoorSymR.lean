/- Rows of symbols. -/
import Derived.Test.YtfgmojnohienfaaDoorRulM
import Derived.Test.YtfgmojnohienfaaDoorBel
import Derived.Laws.AppendOwnNone
namespace Go.Proofs.YtfgmojnohienfaaDoor
open Go.RowKit
set_option linter.unusedVariables false

/-- A row of symbols from A on. -/
def Sr (w : World) (A : Option Addr) (ts : List Sq) : Prop := ∀ j t, ts[j]? = some t → ∃ b o : Nat, A = some ⟨b, o, none⟩ ∧
  w.cell? ⟨b, o + j * 2, none⟩ = some (.int .i64 t.k) ∧ w.cell? ⟨b, o + j * 2 + 1, none⟩ = some (.int .i64 t.n)
theorem Sr.nil (w : World) (A : Option Addr) : Sr w A [] := fun j t h => by simp at h
theorem Sr.below {w w' : World} {A : Option Addr} {ts : List Sq} (h : Sr w A ts) (hb : Below w.heap.size w w') : Sr w' A ts := fun j t ht => by
  obtain ⟨b, o, h0, h1, h2⟩ := h j t ht
  exact ⟨b, o, h0, bel_cell hb h1, bel_cell hb h2⟩
theorem infoSym : (Tryd.prog.info? 35).map (fun i => (i.zero, i.size, i.bytes)) = some (some (.agg #[.int .i64 0, .int .i64 0]), 2, 16) := by kernel_rfl
/-- A row's cells. -/
def cly (ts : List Sq) : List Value := ts.flatMap fun t => [.int .i64 t.k, .int .i64 t.n]
theorem cly_len (ts : List Sq) : (cly ts).length = ts.length * 2 := by
  induction ts with
  | nil => rfl
  | cons t ts ih => rw [cly, List.flatMap_cons, List.length_append]; change 2 + (cly ts).length = _; rw [ih, List.length_cons]; omega
theorem cly_append (a b : List Sq) : cly (a ++ b) = cly a ++ cly b := by simp [cly]
theorem cly_one (ts : List Sq) : ∀ u ∈ cly ts, u.oneCell' = true := by
  intro u hu
  simp only [cly, List.mem_flatMap] at hu
  obtain ⟨t, _, hu⟩ := hu
  simp at hu
  rcases hu with rfl | rfl <;> rfl
theorem cly_at {ts : List Sq} {j : Nat} {t : Sq} (h : ts[j]? = some t) : (cly ts)[j * 2]? = some (.int .i64 t.k) ∧ (cly ts)[j * 2 + 1]? = some (.int .i64 t.n) := by
  induction ts generalizing j with
  | nil => simp at h
  | cons x ts ih =>
    have e : cly (x :: ts) = .int .i64 x.k :: .int .i64 x.n :: cly ts := rfl
    rw [e]
    cases j with
    | zero =>
      obtain rfl : x = t := by simpa using h
      exact ⟨rfl, rfl⟩
    | succ j =>
      have := ih (j := j) (by simpa using h)
      rw [show (j + 1) * 2 = j * 2 + 2 by omega]
      exact this
theorem sr_news {w : World} {ad : Addr} {ts : List Sq} (h : Sr w (some ad) ts) : ∀ j u, (cly ts)[j]? = some u → w.cell? (ad.add j) = some u := fun j u hj => by
  have hl := (List.getElem?_eq_some_iff.1 hj).1
  rw [cly_len] at hl
  have hd : j / 2 < ts.length := by omega
  obtain ⟨t, ht⟩ : ∃ t, ts[j / 2]? = some t := ⟨_, List.getElem?_eq_getElem hd⟩
  obtain ⟨b, o, e, c0, c1⟩ := h (j / 2) t ht
  obtain rfl : ad = ⟨b, o, none⟩ := Option.some.inj e
  obtain ⟨e0, e1⟩ := cly_at ht
  rw [Addr.add_lit]
  have hm : j % 2 = 0 ∨ j % 2 = 1 := by omega
  rcases hm with hm | hm
  · have ej : j = j / 2 * 2 := by omega
    rw [ej] at hj ⊢; rw [e0] at hj; rw [← hj]; exact c0
  · have ej : j = j / 2 * 2 + 1 := by omega
    rw [ej] at hj ⊢; rw [e1] at hj; rw [← hj, ← Nat.add_assoc]; exact c1
theorem sr_row {w : World} {base n c : Nat} {A : Option Addr} {ts : List Sq} (h : w.ownsRow base 35 2 (.slice A n c) ts.length (cly ts)) : n = ts.length ∧ Sr w A ts ∧ (A = none → n = 0 ∧ c = 0) := by
  obtain ⟨hl, ⟨h1, h2⟩ | ⟨g, cap, cur, h1, h3, h4, h5, h6, h7, h8⟩⟩ := h
  · injection h1 with h1 h1' h1''
    have hy : ts = [] := List.length_eq_zero_iff.1 h2
    subst hy
    exact ⟨by rw [h1', List.length_nil], Sr.nil _ _, fun _ => ⟨h1', h1''⟩⟩
  · injection h1 with h1 h1' h1''
    refine ⟨h1', fun j t ht => ?_, fun e => by rw [h1] at e; cases e⟩
    obtain ⟨e0, e1⟩ := cly_at ht
    have hj : j < ts.length := (List.getElem?_eq_some_iff.1 ht).1
    have key : ∀ (m : Nat) (v : Value), m < ts.length * 2 → (cly ts)[m]? = some v → w.cell? ⟨g, m, none⟩ = some v := by
      intro m v hm hv
      rw [← h8, List.getElem?_take_of_lt hm] at hv
      simp [World.cell?, h4]
      simpa using hv
    refine ⟨g, 0, h1, ?_, ?_⟩
    · rw [Nat.zero_add]; exact key _ _ (by omega) e0
    · rw [Nat.zero_add]; exact key _ _ (by omega) e1
/-- 'append(l, ts...)', l the call's own. -/
theorem app_syms {w : World} {ops : Array Oper} {rest : List Oper} {o : Oper} {a : Act} {Q : Exit → Act → World → Prop} (hgd : o.guard = none) (s x : Operand)
    (ho : o.op = .call { callee := .builtin .append, args := #[s, x], argTypes := #[36, 36] })
    (base : Nat) (v : Value) (n : Nat) (qs : List Sq) (hs : a.eval s = v) (hown : w.ownsRow base 35 2 v n (cly qs))
    {A : Option Addr} {m c : Nat} {ts : List Sq} (hx : a.eval x = .slice A m c) (htr : Sr w A ts) (hm : ts.length = m) (hA : A = none → m = 0 ∧ c = 0)
    (hb : n + m ≤ 1000000) (hbase : base ≤ w.heap.size)
    (h : ∀ v' w', w'.ownsRow base 35 2 v' (n + m) (cly (qs ++ ts)) → w.grownBy w' v.ownBlock → wpList Tryd.prog ops Q rest (a.put o.dst v') w') : wpList Tryd.prog ops Q (o :: rest) a w := by
  obtain ⟨i0, hi, hz0, hz1, hz2⟩ := info_parts infoSym
  cases A with
  | none =>
    obtain ⟨rfl, rfl⟩ := hA rfl
    have hts : ts = [] := List.length_eq_zero_iff.1 hm
    subst hts
    refine wpList_append_own_none hgd s x 36 ho base 35 i0 2 Tryd.underlying36 hi v n (cly qs) hs hown hx ?_
    exact h v w (by rw [List.append_nil]; exact hown) (grown_refl w _)
  | some ad =>
    refine wpList_append_own _ hgd s x 36 ho base 35 i0 (.agg #[.int .i64 0, .int .i64 0]) 2 16 Tryd.underlying36 hi hz0 hz1 hz2 rfl (by decide) v n (cly qs) hs hown ad m c (cly ts) hx (by rw [cly_len, hm]) (sr_news htr) (cly_one ts) (by unfold maxLen; omega) (by omega) hbase ?_
    intro v' w' h1 h2 _
    exact h v' w' (by rw [cly_append]; exact h1) h2
/-- A block of one symbol, as a row. -/
theorem sr_one {w : World} {g : Nat} {k n : Int} {t : TypeId} {fr : Nat × Nat} (h : w.heap[g]? = some (.cells #[.int .i64 k, .int .i64 n] t fr)) : Sr w (some ⟨g, 0, none⟩) [⟨k, n⟩] := fun j s hj => by
  cases j with
  | zero =>
    obtain rfl : (⟨k, n⟩ : Sq) = s := by simpa using hj
    refine ⟨g, 0, rfl, ?_, ?_⟩ <;> simp [World.cell?, h]
  | succ j => simp at hj
end Go.Proofs.YtfgmojnohienfaaDoor
