/- Package parse: hand, put. -/
import Derived.Test.YtfgmojnohienfaaDoorParM
import Derived.Test.YtfgmojnohienfaaDoorPicC
import Derived.Maps.AppendAt
namespace Go.Proofs.YtfgmojnohienfaaDoor
open Go.RowKit
set_option linter.unusedVariables false
set_option maxRecDepth 100000

/-- A row that has grown: all but it is as it was, and it lies where it lay, or in a new block. -/
structure Gro (w : World) (v : Value) (w' : World) (v' : Value) : Prop where
  g : w.grownBy w' v.ownBlock
  at' : v'.ownBlock = v.ownBlock ∨ ∃ k, v'.ownBlock = some k ∧ w.heap.size ≤ k
theorem Gro.refl (w : World) (v : Value) : Gro w v w v := ⟨grown_refl _ _, .inl rfl⟩
theorem Gro.trans {w w1 w2 : World} {v v1 v2 : Value} (h : Gro w v w1 v1) (k : Gro w1 v1 w2 v2) : Gro w v w2 v2 := by
  refine ⟨⟨k.g.os.trans h.g.os, k.g.tape.trans h.g.tape, k.g.output.trans h.g.output, Nat.le_trans h.g.size k.g.size, fun b hb hne => ?_⟩, ?_⟩
  · refine (k.g.block b (Nat.lt_of_lt_of_le hb h.g.size) ?_).trans (h.g.block b hb hne)
    rcases h.at' with e | ⟨x, e, hx⟩
    · rw [e]; exact hne
    · rw [e]; intro e'; cases e'; omega
  · rcases k.at' with e | ⟨x, e, hx⟩
    · rcases h.at' with e' | ⟨y, e', hy⟩
      · exact .inl (e.trans e')
      · exact .inr ⟨y, e.trans e', hy⟩
    · exact .inr ⟨x, e, Nat.le_trans h.g.size hx⟩
theorem Gro.below {w w1 w2 : World} {v v1 : Value} (h : Gro w v w1 v1) (b : Below w1.heap.size w1 w2) : Gro w v w2 v1 :=
  h.trans ⟨⟨b.os, b.tape, b.output, b.size, fun k hk _ => b.block k hk⟩, .inl rfl⟩
/-- Rows of different element types lie in different blocks. -/
theorem own_ne {w : World} {B B' : Nat} {e e' : TypeId} {size size' n n' : Nat} {v v' : Value} {xs xs' : List Value} (h : w.ownsRow B e size v n xs) (h' : w.ownsRow B' e' size' v' n' xs') (hne : e ≠ e') : v.ownBlock = none ∨ v.ownBlock ≠ v'.ownBlock := by
  rcases h.2 with ⟨rfl, _⟩ | ⟨g, cap, cur, rfl, _, hgg, _⟩
  · exact .inl rfl
  · rcases h'.2 with ⟨rfl, _⟩ | ⟨g', cap', cur', rfl, _, hgg', _⟩
    · exact .inr (by simp [Value.ownBlock])
    · refine .inr fun he => ?_
      simp only [Value.ownBlock, Option.some.injEq] at he
      subst he
      rw [hgg] at hgg'
      simp only [Option.some.injEq, Obj.cells.injEq] at hgg'
      exact hne hgg'.2.1
/-- 'append(l, t)', l a row of symbols of the call's own: where it lies then. -/
theorem app_sym_at {w : World} {ops : Array Oper} {rest : List Oper} {o : Oper} {a : Act} {Q : Exit → Act → World → Prop} (hgd : o.guard = none) (s x : Operand)
    (ho : o.op = .call { callee := .builtin .append, args := #[s, x], argTypes := #[36, 36] })
    (base : Nat) (v : Value) (n : Nat) (qs : List Sq) (hs : a.eval s = v) (hown : w.ownsRow base 35 2 v n (cly qs))
    {ad : Addr} {c : Nat} {t : Sq} (hx : a.eval x = .slice (some ad) 1 c) (htr : Sr w (some ad) [t])
    (hb : n + 1 ≤ 1000000) (hbase : base ≤ w.heap.size)
    (h : ∀ v' w', w'.ownsRow base 35 2 v' (n + 1) (cly (qs ++ [t])) → Gro w v w' v' → wpList Tryd.prog ops Q rest (a.put o.dst v') w') : wpList Tryd.prog ops Q (o :: rest) a w := by
  obtain ⟨i0, hi, hz0, hz1, hz2⟩ := info_parts infoSym
  refine wpList_append_own_at _ hgd s x 36 ho base 35 i0 (.agg #[.int .i64 0, .int .i64 0]) 2 16 Tryd.underlying36 hi hz0 hz1 hz2 rfl (by decide) v n (cly qs) hs hown ad 1 c (cly [t]) hx rfl (sr_news htr) (cly_one [t]) (by unfold maxLen; omega) (by omega) hbase ?_
  intro v' w' h1 h2 _ h4
  refine h v' w' (by rw [cly_append]; exact h1) ⟨h2, ?_⟩
  rcases h4 with e | e
  · exact .inl e
  · exact .inr ⟨_, e, Nat.le_refl _⟩
/-- Plain, its answer's length under a name of its own, and where it lies. -/
def PxE (m : Nat) (L : List Sq) (w : World) (e : Ending) (w' : World) : Prop := ∃ A c, e = .returned (.slice A m c) ∧ Below w.heap.size w w' ∧ Sr w' A L ∧ (∀ b, (Value.slice A m c).ownBlock = some b → w.heap.size ≤ b)
theorem plain_at {w : World} {A : Option Addr} {n m c : Nat} {ts L : List Sq} (hL : plS ts = L) (hm : L.length = m) (ha : Sr w A ts) (hn : ts.length = n) (hz : n ≤ 1000000) :
    Calls Tryd.prog 21 #[.slice A n c] w fun e w' => PxE m L w e w' := by
  subst hm
  exact (plain_lies hL ha hn hz).mono (by rintro e w' ⟨A, c, rfl, hb, hs, -, h1⟩; exact ⟨A, c, rfl, hb, hs, h1⟩)
/-- A row of symbols beside one that grows. -/
theorem Sr.gro {w w' : World} {A : Option Addr} {ts : List Sq} {v v' : Value} (h : Sr w A ts) (hg : Gro w v w' v') (hne : ∀ b o, A = some ⟨b, o, none⟩ → v.ownBlock ≠ some b) : Sr w' A ts := fun j t ht => by
  obtain ⟨b, o, h0, h1, h2⟩ := h j t ht
  have hb := World.block_lt_of_cell? _ _ h1
  have e := hg.g.block b hb (Ne.symm (hne b o h0))
  exact ⟨b, o, h0, (World.cell?_of_block (a := ⟨b, _, none⟩) e).trans h1, (World.cell?_of_block (a := ⟨b, _, none⟩) e).trans h2⟩
/-- A block of one int, as a row. -/
theorem ri_one {w : World} {g : Nat} {k : Int} {t : TypeId} {fr : Nat × Nat} (h : w.heap[g]? = some (.cells #[.int .i64 k] t fr)) : Ri w (some ⟨g, 0, none⟩) [k] := fun j x hj => by
  cases j with
  | zero =>
    obtain rfl : k = x := by simpa using hj
    exact ⟨g, 0, rfl, by simp [World.cell?, h]⟩
  | succ j => simp at hj
theorem plR_len (i : Int) : (plR i).length ≤ 10 := Nat.le_trans (plS_le _) (symI_len i)

set_option maxHeartbeats 400000 in
theorem hand_any {A : Option Addr} {n c : Nat} {L : List Int} {a : Nat} {x : Int} (hx : hdL L a = x) (hl : L.length = n) (ha : a ≤ n) {w : World} (hA : Ri w A L) :
    Calls Tryd.prog 11 #[.slice A n c, .int .i64 a] w fun e w' => e = .returned (.int .i64 x) ∧ w = w' := by
  by_cases h : a < n
  · obtain ⟨y, hy⟩ : ∃ y, L[a]? = some y := ⟨_, List.getElem?_eq_getElem (by rw [hl]; exact h)⟩
    obtain ⟨b, o, rfl, c0⟩ := hA a y hy
    rw [hdL_some hy] at hx
    subst hx
    have q1 : ((a : Int) == (n : Int)) = false := by simp; omega
    clear hA hy hl
    go_enter Tryd.func11, Tryd.ntmps11
    go_wp2
    go_ret
    exact ⟨rfl, rfl⟩
  · obtain rfl : a = n := by omega
    rw [hdL_over (by omega)] at hx
    subst hx
    clear hA hl ha h
    go_enter Tryd.func11, Tryd.ntmps11
    go_wp2
    go_ret
    exact ⟨rfl, rfl⟩
/-- How put ends: the row Q with P behind it, backwards. -/
def PuE (base n : Nat) (Q : List Sq) (v : Value) (w : World) (e : Ending) (w' : World) : Prop := ∃ v', e = .returned v' ∧ w'.ownsRow base 35 2 v' n (cly Q) ∧ Gro w v w' v'
set_option maxHeartbeats 1000000 in
theorem put_any {w : World} {base n : Nat} {v : Value} {Q : List Sq} (i : Int) (hown : w.ownsRow base 35 2 v n (cly Q)) (hn : n ≤ 900000) (hbase : base ≤ w.heap.size) (ht : TabR w) :
    Calls Tryd.prog 13 #[v, .int .i64 i] w fun e w' => PuE base (n + (plR i).length) (Q ++ (plR i).reverse) v w e w' := by
  obtain ⟨L, hL⟩ : ∃ L, symI i = L := ⟨_, rfl⟩
  obtain ⟨nl, hnl⟩ : ∃ n, L.length = n := ⟨_, rfl⟩
  obtain ⟨vv, hv⟩ : ∃ v, varI i = v := ⟨_, rfl⟩
  obtain ⟨bb, hbb⟩ : ∃ v, isI i = v := ⟨_, rfl⟩
  have hn10 : nl ≤ 10 := by rw [← hnl, ← hL]; exact symI_len i
  have r1 := getp_any i hL hnl hv hbb ht
  obtain ⟨P, hP⟩ : ∃ P, plS L = P := ⟨_, rfl⟩
  obtain ⟨m, hm⟩ : ∃ m, P.length = m := ⟨_, rfl⟩
  have hm10 : m ≤ 10 := by rw [← hm, ← hP]; exact Nat.le_trans (plS_le L) (by omega)
  have r2 := fun {w A c} h => plain_at (w := w) (A := A) (c := c) hP hm h hnl (by omega)
  have hpl : plR i = P := by rw [plR, hL, hP]
  rw [hpl, hm]
  have HM := Lib.hid hm
  have HO := Lib.hid hown
  clear hL hnl hv hbb hP hm hpl hown ht
  go_enter Tryd.func13, Tryd.ntmps13
  go_wp2_with fail
  ((with_reducible refine r1.mono ?_))
  rintro e w1 ⟨A, c, rfl, hb1, hs1⟩
  have HS1 := Lib.hid (hs1.below (bel_alloc (Below.refl _ _) (.cells #[.int .i64 vv, .slice A nl c] 48)))
  have HB1 := Lib.hid (bel_alloc hb1 (.cells #[.int .i64 vv, .slice A nl c] 48))
  clear hb1 hs1 r1
  go_wp2_with fail
  ((with_reducible refine (r2 HS1.out).mono ?_))
  rintro e w2 ⟨B, c2, rfl, hb2, hs2, hl2⟩
  have hne2 : ∀ b o, B = some ⟨b, o, none⟩ → v.ownBlock ≠ some b := fun b o e e' => by
    subst e
    have h1 := hl2 b rfl
    have h2 := (HO.out.lt b e').2
    have h3 := HB1.out.size
    omega
  have HNE := Lib.hid hne2
  have HS2 := Lib.hid hs2
  have HB2 := Lib.hid (bel_trans HB1.out hb2)
  have HO2 := Lib.hid (row_below HO.out HB2.out)
  have HG2 := Lib.hid ((Gro.refl w v).below HB2.out)
  have hz2 : base ≤ w2.heap.size := Nat.le_trans hbase HB2.out.size
  clear hb2 hs2 r2 HS1 HO HB1 hl2 hne2
  go_wp2_with fail
  go_loopw [0, 19] (fun q j wr => ∃ k : Nat, j = .int .i64 k ∧ k ≤ m ∧ Hid (wr.ownsRow base 35 2 q (n + k) (cly (Q ++ P.reverse.take k)) ∧ Gro w2 v wr q)) (fun _ j _ => m - (intOf j).toNat)
  case atStart => exact ⟨0, rfl, Nat.zero_le _, Lib.hid ⟨by rw [List.take_zero, List.append_nil]; exact HO2.out, Gro.refl _ _⟩⟩
  case round =>
    obtain ⟨k, rfl, hk, hq⟩ := hrel
    have hzr : base ≤ wr.heap.size := Nat.le_trans hz2 hq.out.2.g.size
    by_cases hlt : k < m
    · obtain ⟨j, hj⟩ : ∃ j : Nat, m = j + k + 1 := ⟨m - 1 - k, by omega⟩
      obtain ⟨t, ht⟩ : ∃ t, P[j]? = some t := ⟨_, List.getElem?_eq_getElem (by rw [HM.out]; omega)⟩
      have htr : P.reverse[k]? = some t := by
        rw [List.getElem?_reverse (by rw [HM.out]; exact hlt), ← ht, HM.out]; congr 1; omega
      have hrow : P.reverse.take (k + 1) = P.reverse.take k ++ [t] := by rw [List.take_add_one, htr]; rfl
      obtain ⟨b, o, rfl, c0, c1⟩ := (HS2.out.gro hq.out.2 HNE.out) j t ht
      have HR := Lib.hid hrow
      have q1 : (k : Int) < (m : Int) := by omega
      have q2 : (m : Int) - 1 - (k : Int) = (j : Int) := by omega
      have q3 : j < m := by omega
      have HOA := Lib.hid (hq.out.1.alloc (.cells #[.int .i64 t.k, .int .i64 t.n] 35))
      have HGA := Lib.hid (hq.out.2.below (bel_alloc (Below.refl _ wr) (.cells #[.int .i64 t.k, .int .i64 t.n] 35)))
      clear ht htr hrow hq hj
      go_wp2_with (at_builtin; refine app_sym_at rfl _ _ rfl base _ _ (Q ++ P.reverse.take k) rfl HOA.out (ad := ⟨wr.heap.size, 0, none⟩) (c := 1) (t := t) (by simp [go_sem]) (sr_one (k := t.k) (n := t.n) (heap_alloc_new wr _)) (by omega) (by simp; omega) ?_)
      intro v' w3 hown' hgro
      have HO3 := Lib.hid hown'
      have HG3 := Lib.hid (HGA.out.trans hgro)
      clear hown' hgro
      go_wp2
      go_roundw
      case rel => exact ⟨k + 1, by go_num, by omega, Lib.hid ⟨by rw [HR.out]; exact HO3.out, HG3.out⟩⟩
      case measure => simp [intOf]; omega
    · obtain rfl : k = m := by omega
      have h1 := hq.out.1
      rw [List.take_of_length_le (by rw [List.length_reverse, HM.out]; exact Nat.le_refl _)] at h1
      have HO3 := Lib.hid h1
      have HG3 := Lib.hid (HG2.out.trans hq.out.2)
      clear hq h1
      go_wp2
      go_ret
      exact ⟨_, rfl, HO3.out, HG3.out⟩
end Go.Proofs.YtfgmojnohienfaaDoor
