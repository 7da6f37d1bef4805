/- Rows of tokens that grow by others. -/
import Derived.Test.YtjfhcgolgabkkaaDoorTokR
import Derived.Laws.AppendOwnNone
namespace Go.Proofs.YtjfhcgolgabkkaaDoor
open Go.RowKit
set_option linter.unusedVariables false

theorem infoTok : (Tryd.prog.info? 23).map (fun i => (i.zero, i.size, i.bytes)) = some (some (.agg #[.int .i64 0, .string ⟨#[]⟩, .int .i64 0, .int .i64 0]), 4, 40) := by kernel_rfl
/-- A row's cells. -/
def clq (ts : List Tq) : List Value := ts.flatMap fun t => [.int .i64 t.k, .string t.v, .int .i64 t.a, .int .i64 t.z]
theorem clq_len (ts : List Tq) : (clq ts).length = ts.length * 4 := by
  induction ts with
  | nil => rfl
  | cons t ts ih => rw [clq, List.flatMap_cons, List.length_append]; change 4 + (clq ts).length = _; rw [ih, List.length_cons]; omega
theorem clq_append (a b : List Tq) : clq (a ++ b) = clq a ++ clq b := by simp [clq]
theorem clq_one (ts : List Tq) : ∀ u ∈ clq ts, u.oneCell' = true := by
  intro u hu
  simp only [clq, List.mem_flatMap] at hu
  obtain ⟨t, _, hu⟩ := hu
  simp at hu
  rcases hu with rfl | rfl | rfl | rfl <;> rfl
theorem clq_at {ts : List Tq} {j : Nat} {t : Tq} (h : ts[j]? = some t) : (clq ts)[j * 4]? = some (.int .i64 t.k) ∧ (clq ts)[j * 4 + 1]? = some (.string t.v) ∧ (clq ts)[j * 4 + 2]? = some (.int .i64 t.a) ∧ (clq ts)[j * 4 + 3]? = some (.int .i64 t.z) := by
  induction ts generalizing j with
  | nil => simp at h
  | cons x ts ih =>
    have e : clq (x :: ts) = .int .i64 x.k :: .string x.v :: .int .i64 x.a :: .int .i64 x.z :: clq ts := rfl
    rw [e]
    cases j with
    | zero =>
      obtain rfl : x = t := by simpa using h
      exact ⟨rfl, rfl, rfl, rfl⟩
    | succ j =>
      have := ih (j := j) (by simpa using h)
      rw [show (j + 1) * 4 = j * 4 + 4 by omega]
      exact this
theorem tr_news {w : World} {ad : Addr} {ts : List Tq} (h : Tr w (some ad) ts) : ∀ j u, (clq ts)[j]? = some u → w.cell? (ad.add j) = some u := fun j u hj => by
  have hl := (List.getElem?_eq_some_iff.1 hj).1
  rw [clq_len] at hl
  have hd : j / 4 < ts.length := by omega
  obtain ⟨t, ht⟩ : ∃ t, ts[j / 4]? = some t := ⟨_, List.getElem?_eq_getElem hd⟩
  obtain ⟨b, o, e, c0, c1, c2, c3⟩ := h (j / 4) t ht
  obtain rfl : ad = ⟨b, o, none⟩ := Option.some.inj e
  obtain ⟨e0, e1, e2, e3⟩ := clq_at ht
  rw [Addr.add_lit]
  have hm : j % 4 = 0 ∨ j % 4 = 1 ∨ j % 4 = 2 ∨ j % 4 = 3 := by omega
  rcases hm with hm | hm | hm | hm
  · have ej : j = j / 4 * 4 := by omega
    rw [ej] at hj ⊢; rw [e0] at hj; rw [← hj]; exact c0
  · have ej : j = j / 4 * 4 + 1 := by omega
    rw [ej] at hj ⊢; rw [e1] at hj; rw [← hj, ← Nat.add_assoc]; exact c1
  · have ej : j = j / 4 * 4 + 2 := by omega
    rw [ej] at hj ⊢; rw [e2] at hj; rw [← hj, ← Nat.add_assoc]; exact c2
  · have ej : j = j / 4 * 4 + 3 := by omega
    rw [ej] at hj ⊢; rw [e3] at hj; rw [← hj, ← Nat.add_assoc]; exact c3
theorem tr_rowq {w : World} {base n c : Nat} {A : Option Addr} {ts : List Tq} (h : w.ownsRow base 23 4 (.slice A n c) ts.length (clq ts)) : n = ts.length ∧ Tr w A ts := by
  obtain ⟨hl, ⟨h1, h2⟩ | ⟨g, cap, cur, h1, h3, h4, h5, h6, h7, h8⟩⟩ := h
  · injection h1 with h1 h1' h1''
    have hy : ts = [] := List.length_eq_zero_iff.1 h2
    subst hy
    exact ⟨by rw [h1', List.length_nil], Tr.nil _ _⟩
  · injection h1 with h1 h1' h1''
    refine ⟨h1', fun j t ht => ?_⟩
    obtain ⟨e0, e1, e2, e3⟩ := clq_at ht
    have hj : j < ts.length := (List.getElem?_eq_some_iff.1 ht).1
    have key : ∀ (m : Nat) (v : Value), m < ts.length * 4 → (clq ts)[m]? = some v → w.cell? ⟨g, m, none⟩ = some v := by
      intro m v hm hv
      rw [← h8, List.getElem?_take_of_lt hm] at hv
      simp [World.cell?, h4]
      simpa using hv
    refine ⟨g, 0, h1, ?_, ?_, ?_, ?_⟩
    · rw [Nat.zero_add]; exact key _ _ (by omega) e0
    · rw [Nat.zero_add]; exact key _ _ (by omega) e1
    · rw [Nat.zero_add]; exact key _ _ (by omega) e2
    · rw [Nat.zero_add]; exact key _ _ (by omega) e3
/-- 'append(l, ts...)', l the call's own. -/
theorem app_own {w : World} {ops : Array Oper} {rest : List Oper} {o : Oper} {a : Act} {Q : Exit → Act → World → Prop} (hgd : o.guard = none) (s x : Operand)
    (ho : o.op = .call { callee := .builtin .append, args := #[s, x], argTypes := #[24, 24] })
    (base : Nat) (v : Value) (n : Nat) (qs : List Tq) (hs : a.eval s = v) (hown : w.ownsRow base 23 4 v n (clq qs))
    {A : Option Addr} {m c : Nat} {ts : List Tq} (hx : a.eval x = .slice A m c) (htr : Tr w A ts) (hm : ts.length = m) (hA : A = none → m = 0 ∧ c = 0)
    (hb : n + m ≤ 1000000) (hbase : base ≤ w.heap.size)
    (h : ∀ v' w', w'.ownsRow base 23 4 v' (n + m) (clq (qs ++ ts)) → w.grownBy w' v.ownBlock → wpList Tryd.prog ops Q rest (a.put o.dst v') w') : wpList Tryd.prog ops Q (o :: rest) a w := by
  obtain ⟨i0, hi, hz0, hz1, hz2⟩ := info_parts infoTok
  cases A with
  | none =>
    obtain ⟨rfl, rfl⟩ := hA rfl
    have hts : ts = [] := List.length_eq_zero_iff.1 hm
    subst hts
    refine wpList_append_own_none hgd s x 24 ho base 23 i0 4 Tryd.underlying24 hi v n (clq qs) hs hown hx ?_
    exact h v w (by rw [List.append_nil]; exact hown) (grown_refl w _)
  | some ad =>
    refine wpList_append_own _ hgd s x 24 ho base 23 i0 (.agg #[.int .i64 0, .string ⟨#[]⟩, .int .i64 0, .int .i64 0]) 4 40 Tryd.underlying24 hi hz0 hz1 hz2 rfl (by decide) v n (clq qs) hs hown ad m c (clq ts) hx (by rw [clq_len, hm]) (tr_news htr) (clq_one ts) (by unfold maxLen; omega) (by omega) hbase ?_
    intro v' w' h1 h2 _
    exact h v' w' (by rw [clq_append]; exact h1) h2

end Go.Proofs.YtjfhcgolgabkkaaDoor
