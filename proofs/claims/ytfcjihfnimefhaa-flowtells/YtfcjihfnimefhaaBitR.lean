/- Rows of bits. -/
import Derived.Test.YtfcjihfnimefhaaBitM
import Derived.Test.YtfcjihfnimefhaaBel
import Derived.Laws.AppendOwnNone
namespace Go.Proofs.Ytfcjihfnimefhaa
open Go.RowKit
set_option linter.unusedVariables false

/-- A row of bits from A on. -/
def Br (w : World) (A : Option Addr) (bs : List Bq) : Prop := ∀ j t, bs[j]? = some t → ∃ b o : Nat, A = some ⟨b, o, none⟩ ∧
  w.cell? ⟨b, o + j * 2, none⟩ = some (.int .i64 t.m) ∧ w.cell? ⟨b, o + j * 2 + 1, none⟩ = some (.string t.v)
theorem Br.nil (w : World) (A : Option Addr) : Br w A [] := fun j t h => by simp at h
theorem Br.below {w w' : World} {A : Option Addr} {bs : List Bq} (h : Br w A bs) (hb : Below w.heap.size w w') : Br w' A bs := fun j t ht => by
  obtain ⟨b, o, h0, h1, h2⟩ := h j t ht
  exact ⟨b, o, h0, bel_cell hb h1, bel_cell hb h2⟩
theorem infoBit : (Try.prog.info? 34).map (fun i => (i.zero, i.size, i.bytes)) = some (some (.agg #[.int .i64 0, .string ⟨#[]⟩]), 2, 24) := by kernel_rfl
/-- A row's cells. -/
def clb (bs : List Bq) : List Value := bs.flatMap fun t => [.int .i64 t.m, .string t.v]
theorem clb_cons (t : Bq) (bs : List Bq) : clb (t :: bs) = .int .i64 t.m :: .string t.v :: clb bs := rfl
theorem clb_len (bs : List Bq) : (clb bs).length = bs.length * 2 := by
  induction bs with
  | nil => rfl
  | cons t bs ih => rw [clb_cons, List.length_cons, List.length_cons, ih, List.length_cons]; omega
theorem clb_append (a b : List Bq) : clb (a ++ b) = clb a ++ clb b := by simp [clb]
theorem clb_one (bs : List Bq) : ∀ u ∈ clb bs, u.oneCell' = true := by
  intro u hu
  simp only [clb, List.mem_flatMap] at hu
  obtain ⟨t, _, hu⟩ := hu
  simp at hu
  rcases hu with rfl | rfl <;> rfl
theorem clb_at {bs : List Bq} {j : Nat} {t : Bq} (h : bs[j]? = some t) : (clb bs)[j * 2]? = some (.int .i64 t.m) ∧ (clb bs)[j * 2 + 1]? = some (.string t.v) := by
  induction bs generalizing j with
  | nil => simp at h
  | cons x bs ih =>
    rw [clb_cons]
    cases j with
    | zero =>
      obtain rfl : x = t := by simpa using h
      exact ⟨rfl, rfl⟩
    | succ j =>
      have := ih (j := j) (by simpa using h)
      rw [show (j + 1) * 2 = j * 2 + 2 by omega]
      exact this
theorem br_news {w : World} {ad : Addr} {bs : List Bq} (h : Br w (some ad) bs) : ∀ j u, (clb bs)[j]? = some u → w.cell? (ad.add j) = some u := fun j u hj => by
  have hl := (List.getElem?_eq_some_iff.1 hj).1
  rw [clb_len] at hl
  have hd : j / 2 < bs.length := by omega
  obtain ⟨t, ht⟩ : ∃ t, bs[j / 2]? = some t := ⟨_, List.getElem?_eq_getElem hd⟩
  obtain ⟨b, o, e, c0, c1⟩ := h (j / 2) t ht
  obtain rfl : ad = ⟨b, o, none⟩ := Option.some.inj e
  obtain ⟨e0, e1⟩ := clb_at ht
  rw [Addr.add_lit]
  have hm : j % 2 = 0 ∨ j % 2 = 1 := by omega
  rcases hm with hm | hm
  · have ej : j = j / 2 * 2 := by omega
    rw [ej] at hj ⊢; rw [e0] at hj; rw [← hj]; exact c0
  · have ej : j = j / 2 * 2 + 1 := by omega
    rw [ej] at hj ⊢; rw [e1] at hj; rw [← hj, ← Nat.add_assoc]; exact c1
theorem br_row {w : World} {base n c : Nat} {A : Option Addr} {bs : List Bq} (h : w.ownsRow base 34 2 (.slice A n c) bs.length (clb bs)) : n = bs.length ∧ Br w A bs ∧ (A = none → n = 0 ∧ c = 0) := by
  obtain ⟨hl, ⟨h1, h2⟩ | ⟨g, cap, cur, h1, h3, h4, h5, h6, h7, h8⟩⟩ := h
  · injection h1 with h1 h1' h1''
    have hy : bs = [] := List.length_eq_zero_iff.1 h2
    subst hy
    exact ⟨by rw [h1', List.length_nil], Br.nil _ _, fun _ => ⟨h1', h1''⟩⟩
  · injection h1 with h1 h1' h1''
    refine ⟨h1', fun j t ht => ?_, fun e => by rw [h1] at e; cases e⟩
    obtain ⟨e0, e1⟩ := clb_at ht
    have hj : j < bs.length := (List.getElem?_eq_some_iff.1 ht).1
    have key : ∀ (m : Nat) (v : Value), m < bs.length * 2 → (clb bs)[m]? = some v → w.cell? ⟨g, m, none⟩ = some v := by
      intro m v hm hv
      rw [← h8, List.getElem?_take_of_lt hm] at hv
      simp [World.cell?, h4]
      simpa using hv
    refine ⟨g, 0, h1, ?_, ?_⟩
    · rw [Nat.zero_add]; exact key _ _ (by omega) e0
    · rw [Nat.zero_add]; exact key _ _ (by omega) e1
/-- 'append(l, bs...)', l the call's own. -/
theorem app_bits {w : World} {ops : Array Oper} {rest : List Oper} {o : Oper} {a : Act} {Q : Exit → Act → World → Prop} (hgd : o.guard = none) (s x : Operand)
    (ho : o.op = .call { callee := .builtin .append, args := #[s, x], argTypes := #[22, 22] })
    (base : Nat) (v : Value) (n : Nat) (qs : List Bq) (hs : a.eval s = v) (hown : w.ownsRow base 34 2 v n (clb qs))
    {A : Option Addr} {m c : Nat} {bs : List Bq} (hx : a.eval x = .slice A m c) (htr : Br w A bs) (hm : bs.length = m) (hA : A = none → m = 0 ∧ c = 0)
    (hb : n + m ≤ 1000000) (hbase : base ≤ w.heap.size)
    (h : ∀ v' w', w'.ownsRow base 34 2 v' (n + m) (clb (qs ++ bs)) → w.grownBy w' v.ownBlock → wpList Try.prog ops Q rest (a.put o.dst v') w') : wpList Try.prog ops Q (o :: rest) a w := by
  obtain ⟨i0, hi, hz0, hz1, hz2⟩ := info_parts infoBit
  cases A with
  | none =>
    obtain ⟨rfl, rfl⟩ := hA rfl
    have hts : bs = [] := List.length_eq_zero_iff.1 hm
    subst hts
    refine wpList_append_own_none hgd s x 22 ho base 34 i0 2 Try.underlying22 hi v n (clb qs) hs hown hx ?_
    exact h v w (by rw [List.append_nil]; exact hown) (grown_refl w _)
  | some ad =>
    refine wpList_append_own _ hgd s x 22 ho base 34 i0 (.agg #[.int .i64 0, .string ⟨#[]⟩]) 2 24 Try.underlying22 hi hz0 hz1 hz2 rfl (by decide) v n (clb qs) hs hown ad m c (clb bs) hx (by rw [clb_len, hm]) (br_news htr) (clb_one bs) (by unfold maxLen; omega) (by omega) hbase ?_
    intro v' w' h1 h2 _
    exact h v' w' (by rw [clb_append]; exact h1) h2
/-- A block of one bit, as a row. -/
theorem br_one {w : World} {g : Nat} {m : Int} {v : ByteArray} {t : TypeId} {fr : Nat × Nat} (h : w.heap[g]? = some (.cells #[.int .i64 m, .string v] t fr)) : Br w (some ⟨g, 0, none⟩) [⟨m, v⟩] := fun j s hj => by
  cases j with
  | zero =>
    obtain rfl : (⟨m, v⟩ : Bq) = s := by simpa using hj
    refine ⟨g, 0, rfl, ?_, ?_⟩ <;> simp [World.cell?, h]
  | succ j => simp at hj
theorem drop_consM {α : Type} {X : List α} {k : Nat} {s : α} (h : X[k]? = some s) : X.drop k = s :: X.drop (k + 1) := by
  obtain ⟨h1, rfl⟩ := List.getElem?_eq_some_iff.1 h
  exact List.drop_eq_getElem_cons h1
/-- A row of bits of the call's own, and what was there is as it was. -/
structure Bn (w : World) (X : List Bq) (v : Value) (W : World) : Prop where
  own : W.ownsRow w.heap.size 34 2 v X.length (clb X)
  bel : Below w.heap.size w W
theorem Bn.start (w : World) : Bn w [] (.slice none 0 0) w := ⟨World.ownsRow_nil _ _ _ _, Below.refl _ _⟩
theorem Bn.alloc {w : World} {X : List Bq} {v : Value} {W : World} (h : Bn w X v W) (o : Obj) : Bn w X v (W.alloc o) := ⟨h.own.alloc o, bel_alloc h.bel o⟩
theorem Bn.below {w : World} {X : List Bq} {v : Value} {W W' : World} (h : Bn w X v W) (b : Below W.heap.size W W') : Bn w X v W' := ⟨row_below h.own b, bel_trans h.bel b⟩
theorem Bn.next {w : World} {X : List Bq} {x : List Bq} {n : Nat} {v v' : Value} {W W' : World} (h : Bn w X v W) (hn : x.length = n) (ho : W'.ownsRow w.heap.size 34 2 v' (X.length + n) (clb (X ++ x))) (hg : W.grownBy W' v.ownBlock) : Bn w (X ++ x) v' W' :=
  ⟨by rw [List.length_append, hn]; exact ho, h.bel.grown hg h.bel.size (fun k hk => (h.own.lt k hk).1)⟩
/-- 'append(l, x)', l a row of bits of the call's own. -/
theorem app_bn {w0 w : World} {ops : Array Oper} {rest : List Oper} {o : Oper} {a : Act} {Q : Exit → Act → World → Prop} (hgd : o.guard = none) (s x : Operand)
    (ho : o.op = .call { callee := .builtin .append, args := #[s, x], argTypes := #[22, 22] })
    (v : Value) (X : List Bq) (i : Bq) (hs : a.eval s = v) (hown : Bn w0 X v w) {ad : Addr} {c : Nat} (hx : a.eval x = .slice (some ad) 1 c) (htr : Br w (some ad) [i]) (hb : X.length + 1 ≤ 1000000)
    (h : ∀ v' w', Bn w0 (X ++ [i]) v' w' → wpList Try.prog ops Q rest (a.put o.dst v') w') : wpList Try.prog ops Q (o :: rest) a w :=
  app_bits hgd s x ho w0.heap.size v X.length X hs hown.own (A := some ad) (m := 1) (c := c) (bs := [i]) hx htr rfl (fun e => by cases e) hb hown.bel.size fun v' w' h1 h2 => h v' w' (hown.next rfl h1 h2)
theorem own_slB {w : World} {base e sz k : Nat} {v : Value} {xs : List Value} (h : w.ownsRow base e sz v k xs) : ∃ A n c, v = .slice A n c ∧ n ≤ c := by
  rcases h.2 with ⟨rfl, _⟩ | ⟨g, cap, cur, rfl, _, _, hc, _⟩
  · exact ⟨_, _, _, rfl, Nat.le_refl _⟩
  · exact ⟨_, _, _, rfl, hc⟩
theorem br_drop {w : World} {g o : Nat} {l : List Bq} (h : Br w (some ⟨g, o, none⟩) l) (k : Nat) : Br w (some ⟨g, o + k * 2, none⟩) (l.drop k) := fun j t hj => by
  rw [List.getElem?_drop] at hj
  obtain ⟨b', o', e, c0, c1⟩ := h (k + j) t hj
  injection e with e
  injection e with e1 e2
  subst e1 e2
  refine ⟨g, o + k * 2, rfl, ?_, ?_⟩
  · rw [show o + k * 2 + j * 2 = o + (k + j) * 2 by omega]; exact c0
  · rw [show o + k * 2 + j * 2 + 1 = o + (k + j) * 2 + 1 by omega]; exact c1
theorem Br.take {w : World} {A : Option Addr} {l : List Bq} (h : Br w A l) (k : Nat) : Br w A (l.take k) := fun j t hj => by
  rw [List.getElem?_take] at hj
  by_cases e : j < k
  · rw [if_pos e] at hj; exact h j t hj
  · rw [if_neg e] at hj; cases hj
end Go.Proofs.Ytfcjihfnimefhaa
