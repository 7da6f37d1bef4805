/- Package parse: hand, put. -/
import Derived.Test.YtpcijjdlppoblaaGreatDoorYieN
import Derived.Test.YtpcijjdlppoblaaGreatDoorPicC
import Derived.Maps.AppendAt
import Derived.ScopeJumps
import Derived.WalkMore
import Derived.RegionTactic
import Derived.StillTailTactics
import Derived.Deep.LoopGhost
namespace Go.Proofs.YtpcijjdlppoblaaGreatDoor
open Go.RowKit
set_option linter.unusedVariables false
set_option maxRecDepth 100000

/-- A row that has grown: all but it is as it was, and it lies where it lay, or in a new block. -/
structure Gro (w : World) (v : Value) (w' : World) (v' : Value) : Prop where
  g : w.grownBy w' v.ownBlock
  at' : v'.ownBlock = v.ownBlock ∨ ∃ k, v'.ownBlock = some k ∧ w.heap.size ≤ k
theorem Gro.refl (w : World) (v : Value) : Gro w v w v := ⟨grown_refl _ _, .inl rfl⟩
theorem Gro.trans {w w1 w2 : World} {v v1 v2 : Value} (h : Gro w v w1 v1) (k : Gro w1 v1 w2 v2) : Gro w v w2 v2 := by
  refine ⟨⟨k.g.os.trans h.g.os, k.g.tape.trans h.g.tape, k.g.output.trans h.g.output, Nat.le_trans h.g.size k.g.size, fun b hb hne => ?_⟩, ?_⟩
  · refine (k.g.block b (Nat.lt_of_lt_of_le hb h.g.size) ?_).trans (h.g.block b hb hne)
    rcases h.at' with e | ⟨x, e, hx⟩
    · rw [e]; exact hne
    · rw [e]; intro e'; cases e'; omega
  · rcases k.at' with e | ⟨x, e, hx⟩
    · rcases h.at' with e' | ⟨y, e', hy⟩
      · exact .inl (e.trans e')
      · exact .inr ⟨y, e.trans e', hy⟩
    · exact .inr ⟨x, e, Nat.le_trans h.g.size hx⟩
theorem Gro.below {w w1 w2 : World} {v v1 : Value} (h : Gro w v w1 v1) (b : Below w1.heap.size w1 w2) : Gro w v w2 v1 :=
  h.trans ⟨⟨b.os, b.tape, b.output, b.size, fun k hk _ => b.block k hk⟩, .inl rfl⟩
/-- Rows of different element types lie in different blocks. -/
theorem row_ne {w : World} {B B' : Nat} {e e' : TypeId} {size size' n n' : Nat} {v v' : Value} {xs xs' : List Value} (h : w.ownsRow B e size v n xs) (h' : w.ownsRow B' e' size' v' n' xs') (hne : e ≠ e') : v.ownBlock = none ∨ v.ownBlock ≠ v'.ownBlock := by
  rcases h.2 with ⟨rfl, _⟩ | ⟨g, cap, cur, rfl, _, hgg, _⟩
  · exact .inl rfl
  · rcases h'.2 with ⟨rfl, _⟩ | ⟨g', cap', cur', rfl, _, hgg', _⟩
    · exact .inr (by simp [Value.ownBlock])
    · refine .inr fun he => ?_
      simp only [Value.ownBlock, Option.some.injEq] at he
      subst he
      rw [hgg] at hgg'
      simp only [Option.some.injEq, Obj.cells.injEq] at hgg'
      exact hne hgg'.2.1
/-- 'append(l, t)', l a row of symbols of the call's own: where it lies then. -/
theorem app_sym_at {w : World} {ops : Array Oper} {rest : List Oper} {o : Oper} {a : Act} {Q : Exit → Act → World → Prop} (hgd : o.guard = none) (s x : Operand)
    (ho : o.op = .call { callee := .builtin .append, args := #[s, x], argTypes := #[42, 42] })
    (base : Nat) (v : Value) (n : Nat) (qs : List Sq) (hs : a.eval s = v) (hown : w.ownsRow base 59 2 v n (cly qs))
    {ad : Addr} {c : Nat} {t : Sq} (hx : a.eval x = .slice (some ad) 1 c) (htr : Sr w (some ad) [t])
    (hb : n + 1 ≤ 1000000) (hbase : base ≤ w.heap.size)
    (h : ∀ v' w', w'.ownsRow base 59 2 v' (n + 1) (cly (qs ++ [t])) → Gro w v w' v' → wpList Tryz.prog ops Q rest (a.put o.dst v') w') : wpList Tryz.prog ops Q (o :: rest) a w := by
  obtain ⟨i0, hi, hz0, hz1, hz2⟩ := info_parts infoSym
  refine wpList_append_own_at _ hgd s x 42 ho base 59 i0 (.agg #[.int .i64 0, .int .i64 0]) 2 16 Tryz.underlying42 hi hz0 hz1 hz2 rfl (by decide) v n (cly qs) hs hown ad 1 c (cly [t]) hx rfl (sr_news htr) (cly_one [t]) (by unfold maxLen; omega) (by omega) hbase ?_
  intro v' w' h1 h2 _ h4
  refine h v' w' (by rw [cly_append]; exact h1) ⟨h2, ?_⟩
  rcases h4 with e | e
  · exact .inl e
  · exact .inr ⟨_, e, Nat.le_refl _⟩
/-- Plain, its answer's length under a name of its own, and where it lies. -/
def PxE (m : Nat) (L : List Sq) (w : World) (e : Ending) (w' : World) : Prop := ∃ A c, e = .returned (.slice A m c) ∧ Below w.heap.size w w' ∧ Sr w' A L ∧ (∀ b, (Value.slice A m c).ownBlock = some b → w.heap.size ≤ b)
theorem plain_at {w : World} {A : Option Addr} {n m c : Nat} {ts L : List Sq} (hL : plS ts = L) (hm : L.length = m) (ha : Sr w A ts) (hn : ts.length = n) (hz : n ≤ 1000000) :
    Calls Tryz.prog 61 #[.slice A n c] w fun e w' => PxE m L w e w' := by
  subst hm
  exact (plain_lies hL ha hn hz).mono (by rintro e w' ⟨A, c, rfl, hb, hs, -, h1⟩; exact ⟨A, c, rfl, hb, hs, h1⟩)
/-- A row of symbols beside one that grows. -/
theorem Sr.gro {w w' : World} {A : Option Addr} {ts : List Sq} {v v' : Value} (h : Sr w A ts) (hg : Gro w v w' v') (hne : ∀ b o, A = some ⟨b, o, none⟩ → v.ownBlock ≠ some b) : Sr w' A ts := fun j t ht => by
  obtain ⟨b, o, h0, h1, h2⟩ := h j t ht
  have hb := World.block_lt_of_cell? _ _ h1
  have e := hg.g.block b hb (Ne.symm (hne b o h0))
  exact ⟨b, o, h0, (World.cell?_of_block (a := ⟨b, _, none⟩) e).trans h1, (World.cell?_of_block (a := ⟨b, _, none⟩) e).trans h2⟩
/-- A block of one int, as a row. -/
theorem ri_one {w : World} {g : Nat} {k : Int} {t : TypeId} {fr : Nat × Nat} (h : w.heap[g]? = some (.cells #[.int .i64 k] t fr)) : Ri w (some ⟨g, 0, none⟩) [k] := fun j x hj => by
  cases j with
  | zero =>
    obtain rfl : k = x := by simpa using hj
    exact ⟨g, 0, rfl, by simp [World.cell?, h]⟩
  | succ j => simp at hj
theorem plR_len (i : Int) : (plR i).length ≤ 10 := Nat.le_trans (plS_le _) (symI_len i)

set_option maxHeartbeats 400000 in
theorem hand_any {A : Option Addr} {n c : Nat} {L : List Int} {a : Nat} {x : Int} (hx : hdL L a = x) (hl : L.length = n) (ha : a ≤ n) {w : World} (hA : Ri w A L) :
    Calls Tryz.prog 51 #[.slice A n c, .int .i64 a] w fun e w' => e = .returned (.int .i64 x) ∧ w = w' := by
  by_cases h : a < n
  · obtain ⟨y, hy⟩ : ∃ y, L[a]? = some y := ⟨_, List.getElem?_eq_getElem (by rw [hl]; exact h)⟩
    obtain ⟨b, o, rfl, c0⟩ := hA a y hy
    rw [hdL_some hy] at hx
    subst hx
    have q1 : ((a : Int) == (n : Int)) = false := by simp; omega
    clear hA hy hl
    go_enter Tryz.func51, Tryz.ntmps51
    go_wp2
    go_ret
    exact ⟨rfl, rfl⟩
  · obtain rfl : a = n := by omega
    rw [hdL_over (by omega)] at hx
    subst hx
    clear hA hl ha h
    go_enter Tryz.func51, Tryz.ntmps51
    go_wp2
    go_ret
    exact ⟨rfl, rfl⟩
/-- How put ends: the row Q with P behind it, backwards. -/
def PuE (base n : Nat) (Q : List Sq) (v : Value) (w : World) (e : Ending) (w' : World) : Prop := ∃ v', e = .returned v' ∧ w'.ownsRow base 59 2 v' n (cly Q) ∧ Gro w v w' v'
set_option maxHeartbeats 1000000 in
theorem hput_any {w : World} {base n : Nat} {v : Value} {Q : List Sq} (i : Int) (hown : w.ownsRow base 59 2 v n (cly Q)) (hn : n ≤ 900000) (hbase : base ≤ w.heap.size) (ht : TabR w) :
    Calls Tryz.prog 53 #[v, .int .i64 i] w fun e w' => PuE base (n + (plR i).length) (Q ++ (plR i).reverse) v w e w' := by
  obtain ⟨L, hL⟩ : ∃ L, symI i = L := ⟨_, rfl⟩
  obtain ⟨nl, hnl⟩ : ∃ n, L.length = n := ⟨_, rfl⟩
  obtain ⟨vv, hv⟩ : ∃ v, varI i = v := ⟨_, rfl⟩
  obtain ⟨bb, hbb⟩ : ∃ v, isI i = v := ⟨_, rfl⟩
  have hn10 : nl ≤ 10 := by rw [← hnl, ← hL]; exact symI_len i
  have r1 := getp_any i hL hnl hv hbb ht
  obtain ⟨P, hP⟩ : ∃ P, plS L = P := ⟨_, rfl⟩
  obtain ⟨m, hm⟩ : ∃ m, P.length = m := ⟨_, rfl⟩
  have hm10 : m ≤ 10 := by rw [← hm, ← hP]; exact Nat.le_trans (plS_le L) (by omega)
  have r2 := fun {w A c} h => plain_at (w := w) (A := A) (c := c) hP hm h hnl (by omega)
  have hpl : plR i = P := by rw [plR, hL, hP]
  rw [hpl, hm]
  have HM := Lib.hid hm
  have HO := Lib.hid hown
  clear hL hnl hv hbb hP hm hpl hown ht
  go_enter Tryz.func53, Tryz.ntmps53
  go_wp2_with fail
  ((with_reducible refine r1.mono ?_))
  rintro e w1 ⟨A, c, rfl, hb1, hs1⟩
  have HS1 := Lib.hid (hs1.below (bel_alloc (Below.refl _ _) (.cells #[.int .i64 vv, .slice A nl c] 78)))
  have HB1 := Lib.hid (bel_alloc hb1 (.cells #[.int .i64 vv, .slice A nl c] 78))
  clear hb1 hs1 r1
  go_wp2_with fail
  ((with_reducible refine (r2 HS1.out).mono ?_))
  rintro e w2 ⟨B, c2, rfl, hb2, hs2, hl2⟩
  have hne2 : ∀ b o, B = some ⟨b, o, none⟩ → v.ownBlock ≠ some b := fun b o e e' => by
    subst e
    have h1 := hl2 b rfl
    have h2 := (HO.out.lt b e').2
    have h3 := HB1.out.size
    omega
  have HNE := Lib.hid hne2
  have HS2 := Lib.hid hs2
  have HB2 := Lib.hid (bel_trans HB1.out hb2)
  have HO2 := Lib.hid (row_below HO.out HB2.out)
  have HG2 := Lib.hid ((Gro.refl w v).below HB2.out)
  have hz2 : base ≤ w2.heap.size := Nat.le_trans hbase HB2.out.size
  clear hb2 hs2 r2 HS1 HO HB1 hl2 hne2
  go_wp2_with fail
  go_loopw [0, 19] (fun q j wr => ∃ k : Nat, j = .int .i64 k ∧ k ≤ m ∧ Hid (wr.ownsRow base 59 2 q (n + k) (cly (Q ++ P.reverse.take k)) ∧ Gro w2 v wr q)) (fun _ j _ => m - (intOf j).toNat)
  case atStart => exact ⟨0, rfl, Nat.zero_le _, Lib.hid ⟨by rw [List.take_zero, List.append_nil]; exact HO2.out, Gro.refl _ _⟩⟩
  case round =>
    obtain ⟨k, rfl, hk, hq⟩ := hrel
    have hzr : base ≤ wr.heap.size := Nat.le_trans hz2 hq.out.2.g.size
    by_cases hlt : k < m
    · obtain ⟨j, hj⟩ : ∃ j : Nat, m = j + k + 1 := ⟨m - 1 - k, by omega⟩
      obtain ⟨t, ht⟩ : ∃ t, P[j]? = some t := ⟨_, List.getElem?_eq_getElem (by rw [HM.out]; omega)⟩
      have htr : P.reverse[k]? = some t := by
        rw [List.getElem?_reverse (by rw [HM.out]; exact hlt), ← ht, HM.out]; congr 1; omega
      have hrow : P.reverse.take (k + 1) = P.reverse.take k ++ [t] := by rw [List.take_add_one, htr]; rfl
      obtain ⟨b, o, rfl, c0, c1⟩ := (HS2.out.gro hq.out.2 HNE.out) j t ht
      have HR := Lib.hid hrow
      have q1 : (k : Int) < (m : Int) := by omega
      have q2 : (m : Int) - 1 - (k : Int) = (j : Int) := by omega
      have q3 : j < m := by omega
      have HOA := Lib.hid (hq.out.1.alloc (.cells #[.int .i64 t.k, .int .i64 t.n] 59))
      have HGA := Lib.hid (hq.out.2.below (bel_alloc (Below.refl _ wr) (.cells #[.int .i64 t.k, .int .i64 t.n] 59)))
      clear ht htr hrow hq hj
      go_wp2_with (at_builtin; refine app_sym_at rfl _ _ rfl base _ _ (Q ++ P.reverse.take k) rfl HOA.out (ad := ⟨wr.heap.size, 0, none⟩) (c := 1) (t := t) (by simp [go_sem]) (sr_one (k := t.k) (n := t.n) (heap_alloc_new wr _)) (by omega) (by simp; omega) ?_)
      intro v' w3 hown' hgro
      have HO3 := Lib.hid hown'
      have HG3 := Lib.hid (HGA.out.trans hgro)
      clear hown' hgro
      go_wp2
      go_roundw
      case rel => exact ⟨k + 1, by go_num, by omega, Lib.hid ⟨by rw [HR.out]; exact HO3.out, HG3.out⟩⟩
      case measure => simp [intOf]; omega
    · obtain rfl : k = m := by omega
      have h1 := hq.out.1
      rw [List.take_of_length_le (by rw [List.length_reverse, HM.out]; exact Nat.le_refl _)] at h1
      have HO3 := Lib.hid h1
      have HG3 := Lib.hid (HG2.out.trans hq.out.2)
      clear hq h1
      go_wp2
      go_ret
      exact ⟨_, rfl, HO3.out, HG3.out⟩
end Go.Proofs.YtpcijjdlppoblaaGreatDoor

/- Package parse: run. -/
namespace Go.Proofs.YtpcijjdlppoblaaGreatDoor
open Go.RowKit
set_option linter.unusedVariables false
set_option maxRecDepth 100000

/-- A scope that is left by a jump forward to one label. -/
theorem wp_scope_forward {P : Program} {a : Act} {w : World} {Q : Exit → Act → World → Prop} {c rest : Code} (l : Nat) (hf : findLabel c l = some rest)
    (first : ∀ J : Act → World → Prop, (∀ a w, rest.wp P (Exit.noGoto Q) a w → J a w) → c.wp P (Exit.jump l J Q) a w) : (Code.scope c).wp P Q a w := by
  refine wp_scope_jumps l (fun a w => rest.wp P (Exit.noGoto Q) a w) (fun _ _ => 0) hf (first _ (fun _ _ h => h)) (fun a w h => ?_)
  refine Code.wp_mono ?_ h
  intro e a w hq
  cases e with
  | goto l => exact hq.elim
  | _ => exact hq
theorem jump_ret {l : Nat} {J : Act → World → Prop} {Q : Exit → Act → World → Prop} {a : Act} {w : World} : Exit.jump l J Q .ret a w = Q .ret a w := rfl
theorem cly_len2 (S : List Sq) : (cly S).length = 2 * S.length := by rw [cly_len]; omega
/-- The row without its last symbol. -/
theorem row_pop {w : World} {base : Nat} {g cap : Nat} {t : Sq} {S : List Sq} (h : w.ownsRow base 59 2 (.slice (some ⟨g, 0, none⟩) (S.length + 1) cap) (S.length + 1) (cly (t :: S).reverse)) :
    w.ownsRow base 59 2 (.slice (some ⟨g, 0, none⟩) S.length cap) S.length (cly S.reverse) := by
  obtain ⟨h1, h2⟩ := h
  have hl : (cly S.reverse).length = S.length * 2 := by rw [cly_len, List.length_reverse]
  rcases h2 with ⟨h0, _⟩ | ⟨g', cap', cur, hv, hg, hh, hn, hcap, hsz, htake⟩
  · cases h0
  · cases hv
    refine ⟨hl, .inr ⟨g, cap, cur, rfl, hg, hh, by omega, hcap, hsz, ?_⟩⟩
    have h3 : (cur.toList.take ((S.length + 1) * 2)).take (S.length * 2) = (cly (t :: S).reverse).take (S.length * 2) := by rw [htake]
    rw [List.take_take, Nat.min_eq_left (by omega), List.reverse_cons, cly_append, ← hl, List.take_left] at h3
    rw [← hl]; exact h3
/-- How run ends. -/
def RnE (m : Nat) (R : List Int) (z : Nat) (b : Bool) (w : World) (e : Ending) (w' : World) : Prop :=
  ∃ A c, e = .returned (.tuple #[.slice A m c, .int .i64 (z : Nat), .bool b]) ∧ Below w.heap.size w w' ∧ Ri w' A R ∧ (A = none → m = 0 ∧ c = 0) ∧ m ≤ c
theorem row_cap {w : World} {base size m n c : Nat} {e : TypeId} {A : Option Addr} {xs : List Value} (h : w.ownsRow base e size (.slice A n c) m xs) : n ≤ c := by
  rcases h.2 with ⟨h1, _⟩ | ⟨g, cap, cur, h1, _, _, h2, _⟩
  · injection h1 with _ h2 h3; omega
  · injection h1 with _ h3 h4; omega
/-- What holds at the loop's head: r told, rs to come, the stack S. -/
structure Wk (L R : List Int) (z : Nat) (f : Bool) (w : World) (r rs : List Int) (S : List Sq) (a : Nat) (v v' : Value) (wr : World) : Prop where
  eq : r ++ rs = R
  run : Run (hdL L) S a rs z f
  len : S.length ≤ 1 + 10 * r.length
  rules : wr.ownsRow w.heap.size 3 1 v r.length (r.map iv)
  stack : wr.ownsRow w.heap.size 59 2 v' S.length (cly S.reverse)
  bel : Below w.heap.size w wr
/-- A fresh block of one symbol, as a row. -/
theorem row_new (w : World) (k n : Int) : (w.alloc (.cells #[.int .i64 k, .int .i64 n] 59)).ownsRow w.heap.size 59 2 (.slice (some ⟨w.heap.size, 0, none⟩) 1 1) 1 (cly [⟨k, n⟩]) :=
  ⟨rfl, .inr ⟨w.heap.size, 1, #[.int .i64 k, .int .i64 n], rfl, Nat.le_refl _, heap_alloc_new w _, Nat.le_refl _, by decide, rfl, rfl⟩⟩
theorem hand_b {A : Option Addr} {n c : Nat} {L : List Int} {a : Nat} {x : Int} (hx : hdL L a = x) (hl : L.length = n) (ha : a ≤ n) {w : World} (hA : Ri w A L) :
    Calls Tryz.prog 51 #[.slice A n c, .int .i64 a] w fun e w' => e = .returned (.int .i64 x) ∧ Below w.heap.size w w' :=
  (hand_any hx hl ha hA).mono (by rintro e w' ⟨rfl, rfl⟩; exact ⟨rfl, Below.refl _ _⟩)
theorem Wk.start {L R : List Int} {z : Nat} {f : Bool} (w : World) (h : Par L R z f) :
    Wk L R z f w [] R [⟨1, 0⟩] 0 (.slice none 0 0) (.slice (some ⟨w.heap.size, 0, none⟩) 1 1) (w.alloc (.cells #[.int .i64 1, .int .i64 0] 59)) :=
  ⟨rfl, h, by simp, World.ownsRow_nil _ _ _ _, row_new w 1 0, bel_alloc (Below.refl _ _) _⟩
theorem Wk.below {L R : List Int} {z : Nat} {f : Bool} {w : World} {r rs : List Int} {S : List Sq} {a : Nat} {v v' : Value} {wr w2 : World} (h : Wk L R z f w r rs S a v v' wr) (b : Below wr.heap.size wr w2) : Wk L R z f w r rs S a v v' w2 :=
  ⟨h.eq, h.run, h.len, row_below h.rules b, row_below h.stack b, bel_trans h.bel b⟩
/-- What is known behind the stack's first symbol: as Wk, but for the run. -/
structure Wp (R : List Int) (w : World) (r rs : List Int) (S : List Sq) (v v' : Value) (wr : World) : Prop where
  eq : r ++ rs = R
  len : S.length ≤ 10 * r.length
  rules : wr.ownsRow w.heap.size 3 1 v r.length (r.map iv)
  stack : wr.ownsRow w.heap.size 59 2 v' S.length (cly S.reverse)
  bel : Below w.heap.size w wr
theorem Wk.pop {L R : List Int} {z : Nat} {f : Bool} {w : World} {r rs : List Int} {t : Sq} {S : List Sq} {a g M N cap : Nat} {v : Value} {wr : World} (h : Wk L R z f w r rs (t :: S) a v (.slice (some ⟨g, 0, none⟩) M cap) wr) (hM : M = N + 1) (hN : S.length = N) :
    Wp R w r rs S v (.slice (some ⟨g, 0, none⟩) N cap) wr := by
  subst hM hN
  exact ⟨h.eq, by have := h.len; rw [List.length_cons] at this; omega, h.rules, row_pop h.stack, h.bel⟩
theorem Wp.below {R : List Int} {w : World} {r rs : List Int} {S : List Sq} {v v' : Value} {wr w2 : World} (h : Wp R w r rs S v v' wr) (b : Below wr.heap.size wr w2) : Wp R w r rs S v v' w2 :=
  ⟨h.eq, h.len, row_below h.rules b, row_below h.stack b, bel_trans h.bel b⟩
/-- A rule more is told. -/
theorem Wp.told {R : List Int} {w : World} {i : Int} {r rs : List Int} {S : List Sq} {v v' v2 : Value} {wr w2 : World} (h : Wp R w r (i :: rs) S v v' wr) (hg : wr.grownBy w2 v.ownBlock) (ho : w2.ownsRow w.heap.size 3 1 v2 (r.length + 1) ((r ++ [i]).map iv)) :
    Wp R w (r ++ [i]) rs S v2 v' w2 := by
  refine ⟨by rw [List.append_assoc]; exact h.eq, by have := h.len; rw [List.length_append]; omega, by rw [List.length_append]; exact ho, ?_, ?_⟩
  · exact h.stack.kept hg (row_ne h.stack h.rules (by decide))
  · exact h.bel.grown hg h.bel.size (fun k hk => (h.rules.lt k hk).1)
/-- Its symbols are put. -/
theorem Wp.put {L R : List Int} {z : Nat} {f : Bool} {w : World} {i : Int} {r rs : List Int} {S : List Sq} {v v' v2 : Value} {a N : Nat} {wr w2 : World} (h : Wp R w (r ++ [i]) rs S v v' wr) (hN : S.length = N) (hg : Gro wr v' w2 v2)
    (ho : w2.ownsRow w.heap.size 59 2 v2 (N + (plR i).length) (cly (S.reverse ++ (plR i).reverse))) (hr : Run (hdL L) (plR i ++ S) a rs z f) (hS : S.length ≤ 10 * r.length) : Wk L R z f w (r ++ [i]) rs (plR i ++ S) a v v2 w2 := by
  subst hN
  have hp := plR_len i
  refine ⟨h.eq, hr, by rw [List.length_append, List.length_append, List.length_singleton]; omega, ?_, ?_, ?_⟩
  · exact h.rules.kept hg.g (row_ne h.rules h.stack (by decide))
  · rw [List.length_append, List.reverse_append, Nat.add_comm]; exact ho
  · exact h.bel.grown hg.g h.bel.size (fun k hk => (h.stack.lt k hk).1)
/-- Where the parser stops. -/
theorem Wk.stop {L R : List Int} {z m : Nat} {f : Bool} {w : World} {r : List Int} {S : List Sq} {a : Nat} {A : Option Addr} {n c : Nat} {v' : Value} {wr : World} (h : Wk L R z f w r [] S a (.slice A n c) v' wr) (hm : R.length = m) :
    n = m ∧ Ri wr A R ∧ (A = none → m = 0 ∧ c = 0) ∧ m ≤ c := by
  have e := h.eq
  rw [List.append_nil] at e
  subst e
  obtain ⟨e1, e2, e3⟩ := ri_row h.rules
  have e4 : n = m := by rw [e1, hm]
  exact ⟨e4, e2, fun e => ⟨by rw [← e4]; exact (e3 e).1, (e3 e).2⟩, by rw [← e4]; exact row_cap h.rules⟩
theorem bel_two (w : World) (o : Obj) : Below w.heap.size w (w.drew.alloc o) := bel_alloc (Below.refl _ _).drew o
theorem bel_two' (w : World) (o : Obj) : Below w.heap.size w ((w.alloc o).drew) := (bel_alloc (Below.refl _ _) o).drew
set_option maxHeartbeats 4000000 in
theorem run_any {w : World} {A : Option Addr} {n m c z : Nat} {L R : List Int} {f : Bool} (hp : Par L R z f) (hl : L.length = n) (hm : R.length = m) (hn : n ≤ 1000) (hA : Ri w A L) (ht : TabR w) :
    Calls Tryz.prog 33 #[.slice A n c] w fun e w' => RnE m R z (f && decide (z = n)) w e w' := by
  have hz : z ≤ n := by rw [← hl]; exact hp.within
  have hm2 : m ≤ 10000 := by have := hp.steps; omega
  have HP := Lib.hid (Wk.start w hp)
  have HL := Lib.hid hl
  have HM := Lib.hid hm
  have HA := Lib.hid hA
  have HT := Lib.hid ht
  clear hp hl hm hA ht
  go_enter Tryz.func33, Tryz.ntmps33
  go_wp2_with fail
  refine wp_scope_forward 0 rfl ?_
  intro J hJ
  have HJ := Lib.hid hJ
  clear hJ
  go_wp2_with fail
  go_step3
  go_wp2_with fail
  go_loopg [2, 3, 5] (m + z) (fun gh v2 v3 v5 wr => ∃ (r rs : List Int) (a : Nat) (S : List Sq), gh = rs.length + (z - a) ∧ v3 = .int .i64 (a : Nat) ∧ a ≤ n ∧ Hid (Wk L R z f w r rs S a v2 v5 wr))
  case atStart => exact ⟨[], R, 0, _, by rw [HM.out]; rfl, rfl, Nat.zero_le _, HP⟩
  case round =>
    obtain ⟨r, rs, a, S, hg, rfl, han, hW⟩ := hrel
    have HG := Lib.hid hg
    clear hg HP
    cases S with
    | nil =>
      obtain ⟨A', m', c', hv⟩ := own_sl hW.out.rules
      subst hv
      obtain ⟨A5, m5, c5, hv⟩ := own_sl hW.out.stack
      subst hv
      obtain ⟨hr1, hr2, hr3⟩ : rs = [] ∧ z = a ∧ f = true := by
        have := hW.out.run
        cases this
        exact ⟨rfl, rfl, rfl⟩
      subst hr1 hr2 hr3
      obtain ⟨e1, e2, e3⟩ := hW.out.stop HM.out
      have e5 : m5 = 0 := (sr_row (ts := []) hW.out.stack).1
      subst e1 e5
      have H2 := Lib.hid e2
      have H3 := Lib.hid e3
      have HB := Lib.hid hW.out.bel
      have hq : ((z : Int) == (n : Int)) = decide (z = n) := by rw [Bool.eq_iff_iff, beq_iff_eq, decide_eq_true_eq]; omega
      have HQ := Lib.hid hq
      clear hW e2 e3 hq HA HT HL HM
      go_wp2_with fail
      go_step3
      go_wp2_with fail
      (try rw [jump_ret])
      go_ret3
      exact ⟨A', c', by rw [HQ.out]; simp, HB.out, H2.out, H3.out⟩
    | cons t S =>
      obtain ⟨N, hN⟩ : ∃ N, S.length = N := ⟨_, rfl⟩
      obtain ⟨M, hM⟩ : ∃ M, M = N + 1 := ⟨_, rfl⟩
      have hlenM : (t :: S).length = M := by rw [List.length_cons, hN, hM]
      obtain ⟨g, cap, hv, hgb, hgl⟩ := hW.out.stack.form (Nat.succ_pos _)
      rw [hlenM] at hv
      subst hv
      have hst := hW.out.stack
      rw [hlenM] at hst
      have hcap : M ≤ cap := by
        rcases hst.2 with ⟨h0, _⟩ | ⟨g', cap', cur, hv, _, _, hn, _⟩
        · cases h0
        · cases hv; exact hn
      have htop : (t :: S).reverse[N]? = some t := by rw [← hN]; simp
      have hst2 : wr.ownsRow w.heap.size 59 2 (.slice (some ⟨g, 0, none⟩) M cap) (t :: S).reverse.length (cly (t :: S).reverse) := by
        rw [List.length_reverse, hlenM]; exact hst
      obtain ⟨b, o, e0, c0, c1⟩ := (sr_row hst2).2.1 N t htop
      obtain ⟨rfl, rfl⟩ : g = b ∧ 0 = o := by simpa using e0
      rw [Nat.zero_add] at c0 c1
      have hM2 : M ≤ 100001 := by have := hW.out.len; have := congrArg List.length hW.out.eq; rw [List.length_append, HM.out] at this; rw [hlenM] at *; omega
      have q1 : (M : Int) - 1 = (N : Int) := by omega
      have q2 : N < M := by omega
      have q3 : 0 < M := by omega
      have q6 : (0 : Int) < (M : Int) := by omega
      have q4 : IntKind.i64.wrap ((M : Int) - 1) = (N : Int) := by rw [q1]; exact IntWalk.i64_in _ (by omega)
      have q8 : IntKind.i64.wrap (N : Int) = (N : Int) := IntWalk.i64_in _ (by omega)
      have q5 : N ≤ cap := by omega
      have q7 : (N : Int) < (M : Int) := by omega
      obtain ⟨x, hx⟩ : ∃ x, hdL L a = x := ⟨_, rfl⟩
      have r1 := fun w' (hb : Below wr.heap.size wr w') => hand_any (c := c) hx HL.out han ((HA.out.below hW.out.bel).below hb)
      have HM1 := Lib.hid hM
      have HX := Lib.hid hx
      have HN := Lib.hid hN
      have HLM := Lib.hid hlenM
      clear hst hst2 htop e0 hN hM hlenM hx
      by_cases hk : t.k = 1
      · have k1 : (t.k == 1) = true := by simpa using hk
        obtain ⟨i, hi⟩ : ∃ i, pickK x t.n = i := ⟨_, rfl⟩
        have r2 := fun {w} h => ppick_any (w := w) hi h
        by_cases h0 : 0 ≤ i
        · have k2 : ¬ i < 0 := by omega
          obtain ⟨rs', hrs, hrun⟩ : ∃ rs', rs = i :: rs' ∧ Run (hdL L) (plR i ++ S) a rs' z f := by
            have := hW.out.run
            cases this with
            | term h1 _ _ => exact absurd hk h1
            | miss h1 _ => exact absurd hk h1
            | var _ h1 _ h2 =>
              rw [HX.out, hi] at h1
              subst h1
              exact ⟨_, rfl, h2⟩
            | stop _ h1 => rw [HX.out, hi] at h1; omega
          subst hrs
          have HR := Lib.hid hrun
          have HK := Lib.hid hk
          clear hk hi h0 hrun
          go_wp2_with fail
          go_region_held3 (fun w' => w'.cell? ⟨g, N * 2, none⟩ = some (.int .i64 t.k) ∧ w'.cell? ⟨g, N * 2 + 1, none⟩ = some (.int .i64 t.n))
            (first
              | (exact ⟨c0, c1⟩)
              | (exact ⟨bel_cell (bel_alloc (Below.refl _ wr) _) c0, bel_cell (bel_alloc (Below.refl _ wr) _) c1⟩))
            (first
              | (go_at_call 51; ((with_reducible refine (r1 _ (by first | exact (Below.refl _ _).drew | exact Below.refl _ _ | exact (bel_alloc (Below.refl _ _) _).drew)).mono ?_)); rintro e w2 ⟨rfl, rfl⟩))
          all_goals
            go_wp2_with fail
            ((with_reducible refine (r2 (HT.out.below (bel_trans hW.out.bel (by first | exact bel_two _ _ | exact bel_two' _ _)))).mono ?_))
            rintro e w2 ⟨rfl, hb2⟩
            have K2 := Lib.hid (((hW.out.pop HM1.out HN.out).below (by first | exact bel_two _ _ | exact bel_two' _ _)).below hb2)
            have KA := Lib.hid (K2.out.below (bel_alloc (Below.refl _ _) (.cells #[.int .i64 i] 3)))
            have hrl : r.length + 1 ≤ 20000 := by
              have := congrArg List.length hW.out.eq
              rw [List.length_append, HM.out, List.length_cons] at this
              omega
            have hzz : w.heap.size ≤ (w2.alloc (.cells #[.int .i64 i] 3)).heap.size := KA.out.bel.size
            clear hb2 hW c0 c1
            go_wp2_with (at_builtin; refine app_ints rfl _ _ rfl w.heap.size _ _ r rfl KA.out.rules (A := some ⟨w2.heap.size, 0, none⟩) (m := 1) (c := 1) (ts := [i]) (by simp [go_sem]) (ri_one (heap_alloc_new w2 _)) rfl (fun e => by cases e) (by omega) hzz ?_)
            intro v' w3 hown' hgrow
            have K3 := Lib.hid (KA.out.told hgrow (by rw [List.map_append]; exact hown'))
            clear hown' hgrow hzz
            go_wp2_with fail
            have hst3 := K3.out.stack
            rw [HN.out] at hst3
            ((with_reducible refine (hput_any i hst3 (by omega) K3.out.bel.size (HT.out.below K3.out.bel)).mono ?_))
            rintro e w4 ⟨v4, rfl, ho4, hg4⟩
            have K4 := Lib.hid (K3.out.put HN.out hg4 ho4 HR.out K2.out.len)
            clear ho4 hg4 hst3
            go_wp2_with fail
            go_roundg (rs'.length + (z - a))
            case measure => rw [HG.out, List.length_cons]; omega
            case rel => exact ⟨_, rs', a, _, rfl, rfl, han, K4⟩
        · have k2 : i < 0 := by omega
          obtain ⟨hr1, hr2, hr3⟩ : rs = [] ∧ z = a ∧ f = false := by
            have := hW.out.run
            cases this with
            | term h1 _ _ => exact absurd hk h1
            | miss h1 _ => exact absurd hk h1
            | var _ h1 h2 _ => rw [HX.out, hi] at h1; omega
            | stop _ h1 => exact ⟨rfl, rfl, rfl⟩
          subst hr1 hr2 hr3
          obtain ⟨A', m', c', hv⟩ := own_sl hW.out.rules
          subst hv
          obtain ⟨e1, e2, e3⟩ := hW.out.stop HM.out
          subst e1
          have HK := Lib.hid hk
          clear hk hi h0
          go_wp2_with fail
          go_region_held3 (fun w' => w'.cell? ⟨g, N * 2, none⟩ = some (.int .i64 t.k) ∧ w'.cell? ⟨g, N * 2 + 1, none⟩ = some (.int .i64 t.n))
            (first
              | (exact ⟨c0, c1⟩)
              | (exact ⟨bel_cell (bel_alloc (Below.refl _ wr) _) c0, bel_cell (bel_alloc (Below.refl _ wr) _) c1⟩))
            (first
              | (go_at_call 51; ((with_reducible refine (r1 _ (by first | exact (Below.refl _ _).drew | exact Below.refl _ _ | exact (bel_alloc (Below.refl _ _) _).drew)).mono ?_)); rintro e w2 ⟨rfl, rfl⟩))
          all_goals
            go_wp2_with fail
            ((with_reducible refine (r2 (HT.out.below (bel_trans hW.out.bel (by first | exact bel_two _ _ | exact bel_two' _ _)))).mono ?_))
            rintro e w2 ⟨rfl, hb2⟩
            have HB4 := Lib.hid (bel_trans (bel_trans hW.out.bel (by first | exact bel_two _ _ | exact bel_two' _ _)) hb2)
            have H2 := Lib.hid (e2.below (bel_trans (by first | exact bel_two _ _ | exact bel_two' _ _) hb2))
            have H3 := Lib.hid e3
            clear hb2 hW c0 c1 e2 e3
            go_wp2_with fail
            go_step3
            refine ⟨rfl, HJ.out _ _ ?_⟩
            go_wp2_with fail
            rw [Exit.noGoto_ret]
            go_ret3
            exact ⟨A', c', by simp, HB4.out, H2.out, H3.out⟩
      · have k1 : (t.k == 1) = false := by simpa using hk
        obtain ⟨y, hy⟩ : ∃ y, fitK x t = y := ⟨_, rfl⟩
        have r2 := fun {w} h => pfits_any (t := t) hy (w := w) h
        cases y
        · obtain ⟨hr1, hr2, hr3⟩ : rs = [] ∧ z = a ∧ f = false := by
            have := hW.out.run
            cases this with
            | term _ h1 _ => rw [HX.out, hy] at h1; cases h1
            | miss _ _ => exact ⟨rfl, rfl, rfl⟩
            | var h1 _ _ _ => exact absurd h1 hk
            | stop h1 _ => exact absurd h1 hk
          subst hr1 hr2 hr3
          obtain ⟨A', m', c', hv⟩ := own_sl hW.out.rules
          subst hv
          obtain ⟨e1, e2, e3⟩ := hW.out.stop HM.out
          subst e1
          have HK := Lib.hid hk
          clear hk hy
          go_wp2_with fail
          go_region_held3 (fun w' => w'.cell? ⟨g, N * 2, none⟩ = some (.int .i64 t.k) ∧ w'.cell? ⟨g, N * 2 + 1, none⟩ = some (.int .i64 t.n))
            (first
              | (exact ⟨c0, c1⟩)
              | (exact ⟨bel_cell (bel_alloc (Below.refl _ wr) _) c0, bel_cell (bel_alloc (Below.refl _ wr) _) c1⟩))
            (first
              | (go_at_call 51; ((with_reducible refine (r1 _ (by first | exact (Below.refl _ _).drew | exact Below.refl _ _ | exact (bel_alloc (Below.refl _ _) _).drew)).mono ?_)); rintro e w2 ⟨rfl, rfl⟩))
          all_goals
            go_wp2_with fail
            ((with_reducible refine (r2 (HT.out.below (bel_trans hW.out.bel (by first | exact bel_two _ _ | exact bel_two' _ _)))).mono ?_))
            rintro e w2 ⟨rfl, hb2⟩
            have HB4 := Lib.hid (bel_trans (bel_trans hW.out.bel (by first | exact bel_two _ _ | exact bel_two' _ _)) hb2)
            have H2 := Lib.hid (e2.below (bel_trans (by first | exact bel_two _ _ | exact bel_two' _ _) hb2))
            have H3 := Lib.hid e3
            clear hb2 hW c0 c1 e2 e3
            go_wp2_with fail
            go_step3
            refine ⟨rfl, HJ.out _ _ ?_⟩
            go_wp2_with fail
            rw [Exit.noGoto_ret]
            go_ret3
            exact ⟨A', c', by simp, HB4.out, H2.out, H3.out⟩
        · have hrun : Run (hdL L) S (a + 1) rs z f := by
            have := hW.out.run
            cases this with
            | term _ _ h1 => exact h1
            | miss _ h1 => rw [HX.out, hy] at h1; cases h1
            | var h1 _ _ _ => exact absurd h1 hk
            | stop h1 _ => exact absurd h1 hk
          have hlt : a + 1 ≤ n := by
            by_cases e : a = n
            · have hx := HX.out
              rw [hdL_over (by rw [HL.out]; omega)] at hx
              rw [← hx, fit_end hk] at hy
              cases hy
            · omega
          have hsum : IntKind.i64.wrap ((a : Int) + 1) = (a : Int) + 1 := IntWalk.i64_in _ (by omega)
          have HR := Lib.hid hrun
          have HK := Lib.hid hk
          clear hk hy hrun
          go_wp2_with fail
          go_region_held3 (fun w' => w'.cell? ⟨g, N * 2, none⟩ = some (.int .i64 t.k) ∧ w'.cell? ⟨g, N * 2 + 1, none⟩ = some (.int .i64 t.n))
            (first
              | (exact ⟨c0, c1⟩)
              | (exact ⟨bel_cell (bel_alloc (Below.refl _ wr) _) c0, bel_cell (bel_alloc (Below.refl _ wr) _) c1⟩))
            (first
              | (go_at_call 51; ((with_reducible refine (r1 _ (by first | exact (Below.refl _ _).drew | exact Below.refl _ _ | exact (bel_alloc (Below.refl _ _) _).drew)).mono ?_)); rintro e w2 ⟨rfl, rfl⟩))
          all_goals
            go_wp2_with fail
            ((with_reducible refine (r2 (HT.out.below (bel_trans hW.out.bel (by first | exact bel_two _ _ | exact bel_two' _ _)))).mono ?_))
            rintro e w2 ⟨rfl, hb2⟩
            have K2 := Lib.hid (((hW.out.pop HM1.out HN.out).below (by first | exact bel_two _ _ | exact bel_two' _ _)).below hb2)
            have hlen := hW.out.len
            clear hb2 hW c0 c1
            go_wp2_with fail
            go_roundg (rs.length + (z - (a + 1)))
            case measure => have := HR.out.le; rw [HG.out]; omega
            case rel => exact ⟨r, rs, a + 1, S, rfl, by go_num, hlt, Lib.hid ⟨K2.out.eq, HR.out, by have := K2.out.len; omega, K2.out.rules, by rw [HN.out]; have := K2.out.stack; rw [HN.out] at this; exact this, K2.out.bel⟩⟩
end Go.Proofs.YtpcijjdlppoblaaGreatDoor

/- Package parse: Parse, Viable, Steps. -/
namespace Go.Proofs.YtpcijjdlppoblaaGreatDoor
open Go.RowKit
set_option linter.unusedVariables false
set_option maxRecDepth 100000

/-- How Parse ends. -/
def PaE (m : Nat) (R : List Int) (at' : Int) (w : World) (e : Ending) (w' : World) : Prop :=
  ∃ A c, e = .returned (.tuple #[.slice A m c, .int .i64 at']) ∧ Below w.heap.size w w' ∧ Ri w' A R ∧ (A = none → m = 0 ∧ c = 0) ∧ m ≤ c
set_option maxHeartbeats 1000000 in
theorem parse_any {w : World} {A : Option Addr} {n m c z : Nat} {L R R' : List Int} {f : Bool} {at' : Int} (hp : Par L R z f) (hr : outR L R z f = R') (hm : R'.length = m) (ha : outZ L z f = at') (hl : L.length = n) (hn : n ≤ 1000) (hA : Ri w A L) (ht : TabR w) :
    Calls Tryz.prog 21 #[.slice A n c] w fun e w' => PaE m R' at' w e w' := by
  obtain ⟨k, hk⟩ : ∃ k, R.length = k := ⟨_, rfl⟩
  have r1 := run_any (c := c) hp hl hk hn hA ht
  cases hy : yesB L z f
  · have h1 : (f && decide (z = n)) = false := by rw [← hl]; exact hy
    rw [outR, hy, if_neg (by simp)] at hr
    rw [outZ, hy, if_neg (by simp)] at ha
    subst hr ha
    rw [h1] at r1
    obtain rfl : m = 0 := hm.symm
    clear hp hm hl hn hA ht hk hy h1
    go_enter Tryz.func21, Tryz.ntmps21
    go_wp2_with fail
    ((with_reducible refine r1.mono ?_))
    rintro e w1 ⟨B, d, rfl, hb1, hs1, hn1⟩
    have HB1 := Lib.hid hb1
    clear hb1 hs1 hn1 r1
    go_wp2_with fail
    go_ret2
    exact ⟨none, 0, rfl, HB1.out, Ri.nil _ _, fun _ => ⟨rfl, rfl⟩, Nat.le_refl _⟩
  · have h1 : (f && decide (z = n)) = true := by rw [← hl]; exact hy
    rw [outR, hy, if_pos rfl] at hr
    rw [outZ, hy, if_pos rfl] at ha
    subst hr ha
    rw [h1] at r1
    obtain rfl : k = m := hk.symm.trans hm
    clear hp hm hl hn hA ht hk hy h1
    go_enter Tryz.func21, Tryz.ntmps21
    go_wp2_with fail
    ((with_reducible refine r1.mono ?_))
    rintro e w1 ⟨B, d, rfl, hb1, hs1, hn1⟩
    have HB1 := Lib.hid hb1
    have HS1 := Lib.hid hs1
    have HN1 := Lib.hid hn1
    clear hb1 hs1 hn1 r1
    go_wp2_with fail
    go_ret2
    exact ⟨B, d, rfl, HB1.out, HS1.out, HN1.out⟩
/-- Parse of nothing at all. -/
theorem parse_nil {w : World} (ht : TabR w) : Calls Tryz.prog 21 #[.slice none 0 0] w fun e w' => PaE 0 [] 0 w e w' := by
  obtain ⟨R, z, f, hp⟩ := par_ex []
  obtain ⟨h1, h2⟩ := none_nil hp
  exact parse_any (n := 0) (c := 0) hp h1 rfl h2 rfl (by omega) (Ri.nil _ _) ht
/-- A row's beginning. -/
theorem Ri.take {w : World} {A : Option Addr} {l : List Int} (h : Ri w A l) (k : Nat) : Ri w A (l.take k) := fun j x hx => by
  have hj : j < k := by
    have := (List.getElem?_eq_some_iff.1 hx).1
    rw [List.length_take] at this
    omega
  rw [List.getElem?_take_of_lt hj] at hx
  exact h j x hx
/-- A block of three ints, as a row. -/
theorem ri_three {w : World} {g : Nat} {x y z : Int} {t : TypeId} {fr : Nat × Nat} (h : w.heap[g]? = some (.cells #[.int .i64 x, .int .i64 y, .int .i64 z] t fr)) : Ri w (some ⟨g, 0, none⟩) [x, y, z] := fun j u hj => by
  match j, hj with
  | 0, hj =>
    obtain rfl : x = u := by simpa using hj
    exact ⟨g, 0, rfl, by simp [World.cell?, h]⟩
  | 1, hj =>
    obtain rfl : y = u := by simpa using hj
    exact ⟨g, 0, rfl, by simp [World.cell?, h]⟩
  | 2, hj =>
    obtain rfl : z = u := by simpa using hj
    exact ⟨g, 0, rfl, by simp [World.cell?, h]⟩
  | j + 3, hj => simp at hj
/-- Parse of the chapter's example: its first rules. -/
def PwE (w : World) (e : Ending) (w' : World) : Prop :=
  ∃ b o c : Nat, e = .returned (.tuple #[.slice (some ⟨b, o, none⟩) 10 c, .int .i64 (-1)]) ∧ Below w.heap.size w w' ∧ w'.cell? ⟨b, o, none⟩ = some (.int .i64 0) ∧ w'.cell? ⟨b, o + 1, none⟩ = some (.int .i64 3)
theorem parse_doc {w : World} {A : Option Addr} {c : Nat} (hA : Ri w A [12, 18, 14]) (ht : TabR w) : Calls Tryz.prog 21 #[.slice A 3 c] w fun e w' => PwE w e w' := by
  refine (parse_any (n := 3) (c := c) par_doc (R' := [0, 3, 41, 44, 46, 23, 21, 48, 42, 1]) (m := 10) (at' := -1) (by decide) rfl (by decide) rfl (by decide) hA ht).mono ?_
  rintro e w' ⟨B, d, rfl, hb, hs, -⟩
  obtain ⟨b, o, rfl, c0⟩ := hs 0 0 rfl
  obtain ⟨b', o', e1, c1⟩ := hs 1 3 rfl
  obtain ⟨rfl, rfl⟩ : b = b' ∧ o = o' := by simpa using e1
  exact ⟨b, o, d, rfl, hb, c0, c1⟩
def PvE (w : World) (e : Ending) (w' : World) : Prop := ∃ A c, e = .returned (.tuple #[.slice A 0 c, .int .i64 2]) ∧ Below w.heap.size w w'
theorem parse_cut {w : World} {A : Option Addr} {c : Nat} (hA : Ri w A [12, 18]) (ht : TabR w) : Calls Tryz.prog 21 #[.slice A 2 c] w fun e w' => PvE w e w' := by
  refine (parse_any (n := 2) (c := c) par_cut (R' := []) (m := 0) (at' := 2) (by decide) rfl (by decide) rfl (by decide) hA ht).mono ?_
  rintro e w' ⟨B, d, rfl, hb, -, -⟩
  exact ⟨B, d, rfl, hb⟩
end Go.Proofs.YtpcijjdlppoblaaGreatDoor
