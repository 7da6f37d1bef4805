/- Package parse: run. -/
import Derived.Test.YtfgmojnohienfaaDoorParA
import Derived.ScopeJumps
import Derived.WalkMore
import Derived.RegionTactic
import Derived.StillTailTactics
import Derived.Deep.LoopGhost
namespace Go.Proofs.YtfgmojnohienfaaDoor
open Go.RowKit
set_option linter.unusedVariables false
set_option maxRecDepth 100000

/-- A scope that is left by a jump forward to one label. -/
theorem wp_scope_forward {P : Program} {a : Act} {w : World} {Q : Exit → Act → World → Prop} {c rest : Code} (l : Nat) (hf : findLabel c l = some rest)
    (first : ∀ J : Act → World → Prop, (∀ a w, rest.wp P (Exit.noGoto Q) a w → J a w) → c.wp P (Exit.jump l J Q) a w) : (Code.scope c).wp P Q a w := by
  refine wp_scope_jumps l (fun a w => rest.wp P (Exit.noGoto Q) a w) (fun _ _ => 0) hf (first _ (fun _ _ h => h)) (fun a w h => ?_)
  refine Code.wp_mono ?_ h
  intro e a w hq
  cases e with
  | goto l => exact hq.elim
  | _ => exact hq
theorem jump_ret {l : Nat} {J : Act → World → Prop} {Q : Exit → Act → World → Prop} {a : Act} {w : World} : Exit.jump l J Q .ret a w = Q .ret a w := rfl
theorem cly_len2 (S : List Sq) : (cly S).length = 2 * S.length := by rw [cly_len]; omega
/-- The row without its last symbol. -/
theorem row_pop {w : World} {base : Nat} {g cap : Nat} {t : Sq} {S : List Sq} (h : w.ownsRow base 35 2 (.slice (some ⟨g, 0, none⟩) (S.length + 1) cap) (S.length + 1) (cly (t :: S).reverse)) :
    w.ownsRow base 35 2 (.slice (some ⟨g, 0, none⟩) S.length cap) S.length (cly S.reverse) := by
  obtain ⟨h1, h2⟩ := h
  have hl : (cly S.reverse).length = S.length * 2 := by rw [cly_len, List.length_reverse]
  rcases h2 with ⟨h0, _⟩ | ⟨g', cap', cur, hv, hg, hh, hn, hcap, hsz, htake⟩
  · cases h0
  · cases hv
    refine ⟨hl, .inr ⟨g, cap, cur, rfl, hg, hh, by omega, hcap, hsz, ?_⟩⟩
    have h3 : (cur.toList.take ((S.length + 1) * 2)).take (S.length * 2) = (cly (t :: S).reverse).take (S.length * 2) := by rw [htake]
    rw [List.take_take, Nat.min_eq_left (by omega), List.reverse_cons, cly_append, ← hl, List.take_left] at h3
    rw [← hl]; exact h3
/-- How run ends. -/
def RnE (m : Nat) (R : List Int) (z : Nat) (b : Bool) (w : World) (e : Ending) (w' : World) : Prop :=
  ∃ A c, e = .returned (.tuple #[.slice A m c, .int .i64 (z : Nat), .bool b]) ∧ Below w.heap.size w w' ∧ Ri w' A R ∧ (A = none → m = 0 ∧ c = 0) ∧ m ≤ c
theorem row_cap {w : World} {base size m n c : Nat} {e : TypeId} {A : Option Addr} {xs : List Value} (h : w.ownsRow base e size (.slice A n c) m xs) : n ≤ c := by
  rcases h.2 with ⟨h1, _⟩ | ⟨g, cap, cur, h1, _, _, h2, _⟩
  · injection h1 with _ h2 h3; omega
  · injection h1 with _ h3 h4; omega
/-- What holds at the loop's head: r told, rs to come, the stack S. -/
structure Wk (L R : List Int) (z : Nat) (f : Bool) (w : World) (r rs : List Int) (S : List Sq) (a : Nat) (v v' : Value) (wr : World) : Prop where
  eq : r ++ rs = R
  run : Run (hdL L) S a rs z f
  len : S.length ≤ 1 + 10 * r.length
  rules : wr.ownsRow w.heap.size 3 1 v r.length (r.map iv)
  stack : wr.ownsRow w.heap.size 35 2 v' S.length (cly S.reverse)
  bel : Below w.heap.size w wr
/-- A fresh block of one symbol, as a row. -/
theorem row_new (w : World) (k n : Int) : (w.alloc (.cells #[.int .i64 k, .int .i64 n] 35)).ownsRow w.heap.size 35 2 (.slice (some ⟨w.heap.size, 0, none⟩) 1 1) 1 (cly [⟨k, n⟩]) :=
  ⟨rfl, .inr ⟨w.heap.size, 1, #[.int .i64 k, .int .i64 n], rfl, Nat.le_refl _, heap_alloc_new w _, Nat.le_refl _, by decide, rfl, rfl⟩⟩
theorem hand_b {A : Option Addr} {n c : Nat} {L : List Int} {a : Nat} {x : Int} (hx : hdL L a = x) (hl : L.length = n) (ha : a ≤ n) {w : World} (hA : Ri w A L) :
    Calls Tryd.prog 11 #[.slice A n c, .int .i64 a] w fun e w' => e = .returned (.int .i64 x) ∧ Below w.heap.size w w' :=
  (hand_any hx hl ha hA).mono (by rintro e w' ⟨rfl, rfl⟩; exact ⟨rfl, Below.refl _ _⟩)
theorem Wk.start {L R : List Int} {z : Nat} {f : Bool} (w : World) (h : Par L R z f) :
    Wk L R z f w [] R [⟨1, 0⟩] 0 (.slice none 0 0) (.slice (some ⟨w.heap.size, 0, none⟩) 1 1) (w.alloc (.cells #[.int .i64 1, .int .i64 0] 35)) :=
  ⟨rfl, h, by simp, World.ownsRow_nil _ _ _ _, row_new w 1 0, bel_alloc (Below.refl _ _) _⟩
theorem Wk.below {L R : List Int} {z : Nat} {f : Bool} {w : World} {r rs : List Int} {S : List Sq} {a : Nat} {v v' : Value} {wr w2 : World} (h : Wk L R z f w r rs S a v v' wr) (b : Below wr.heap.size wr w2) : Wk L R z f w r rs S a v v' w2 :=
  ⟨h.eq, h.run, h.len, row_below h.rules b, row_below h.stack b, bel_trans h.bel b⟩
/-- What is known behind the stack's first symbol: as Wk, but for the run. -/
structure Wp (R : List Int) (w : World) (r rs : List Int) (S : List Sq) (v v' : Value) (wr : World) : Prop where
  eq : r ++ rs = R
  len : S.length ≤ 10 * r.length
  rules : wr.ownsRow w.heap.size 3 1 v r.length (r.map iv)
  stack : wr.ownsRow w.heap.size 35 2 v' S.length (cly S.reverse)
  bel : Below w.heap.size w wr
theorem Wk.pop {L R : List Int} {z : Nat} {f : Bool} {w : World} {r rs : List Int} {t : Sq} {S : List Sq} {a g M N cap : Nat} {v : Value} {wr : World} (h : Wk L R z f w r rs (t :: S) a v (.slice (some ⟨g, 0, none⟩) M cap) wr) (hM : M = N + 1) (hN : S.length = N) :
    Wp R w r rs S v (.slice (some ⟨g, 0, none⟩) N cap) wr := by
  subst hM hN
  exact ⟨h.eq, by have := h.len; rw [List.length_cons] at this; omega, h.rules, row_pop h.stack, h.bel⟩
theorem Wp.below {R : List Int} {w : World} {r rs : List Int} {S : List Sq} {v v' : Value} {wr w2 : World} (h : Wp R w r rs S v v' wr) (b : Below wr.heap.size wr w2) : Wp R w r rs S v v' w2 :=
  ⟨h.eq, h.len, row_below h.rules b, row_below h.stack b, bel_trans h.bel b⟩
/-- A rule more is told. -/
theorem Wp.told {R : List Int} {w : World} {i : Int} {r rs : List Int} {S : List Sq} {v v' v2 : Value} {wr w2 : World} (h : Wp R w r (i :: rs) S v v' wr) (hg : wr.grownBy w2 v.ownBlock) (ho : w2.ownsRow w.heap.size 3 1 v2 (r.length + 1) ((r ++ [i]).map iv)) :
    Wp R w (r ++ [i]) rs S v2 v' w2 := by
  refine ⟨by rw [List.append_assoc]; exact h.eq, by have := h.len; rw [List.length_append]; omega, by rw [List.length_append]; exact ho, ?_, ?_⟩
  · exact h.stack.kept hg (own_ne h.stack h.rules (by decide))
  · exact h.bel.grown hg h.bel.size (fun k hk => (h.rules.lt k hk).1)
/-- Its symbols are put. -/
theorem Wp.put {L R : List Int} {z : Nat} {f : Bool} {w : World} {i : Int} {r rs : List Int} {S : List Sq} {v v' v2 : Value} {a N : Nat} {wr w2 : World} (h : Wp R w (r ++ [i]) rs S v v' wr) (hN : S.length = N) (hg : Gro wr v' w2 v2)
    (ho : w2.ownsRow w.heap.size 35 2 v2 (N + (plR i).length) (cly (S.reverse ++ (plR i).reverse))) (hr : Run (hdL L) (plR i ++ S) a rs z f) (hS : S.length ≤ 10 * r.length) : Wk L R z f w (r ++ [i]) rs (plR i ++ S) a v v2 w2 := by
  subst hN
  have hp := plR_len i
  refine ⟨h.eq, hr, by rw [List.length_append, List.length_append, List.length_singleton]; omega, ?_, ?_, ?_⟩
  · exact h.rules.kept hg.g (own_ne h.rules h.stack (by decide))
  · rw [List.length_append, List.reverse_append, Nat.add_comm]; exact ho
  · exact h.bel.grown hg.g h.bel.size (fun k hk => (h.stack.lt k hk).1)
/-- Where the parser stops. -/
theorem Wk.stop {L R : List Int} {z m : Nat} {f : Bool} {w : World} {r : List Int} {S : List Sq} {a : Nat} {A : Option Addr} {n c : Nat} {v' : Value} {wr : World} (h : Wk L R z f w r [] S a (.slice A n c) v' wr) (hm : R.length = m) :
    n = m ∧ Ri wr A R ∧ (A = none → m = 0 ∧ c = 0) ∧ m ≤ c := by
  have e := h.eq
  rw [List.append_nil] at e
  subst e
  obtain ⟨e1, e2, e3⟩ := ri_row h.rules
  have e4 : n = m := by rw [e1, hm]
  exact ⟨e4, e2, fun e => ⟨by rw [← e4]; exact (e3 e).1, (e3 e).2⟩, by rw [← e4]; exact row_cap h.rules⟩
theorem bel_two (w : World) (o : Obj) : Below w.heap.size w (w.drew.alloc o) := bel_alloc (Below.refl _ _).drew o
theorem bel_two' (w : World) (o : Obj) : Below w.heap.size w ((w.alloc o).drew) := (bel_alloc (Below.refl _ _) o).drew
set_option maxHeartbeats 4000000 in
theorem run_any {w : World} {A : Option Addr} {n m c z : Nat} {L R : List Int} {f : Bool} (hp : Par L R z f) (hl : L.length = n) (hm : R.length = m) (hn : n ≤ 1000) (hA : Ri w A L) (ht : TabR w) :
    Calls Tryd.prog 9 #[.slice A n c] w fun e w' => RnE m R z (f && decide (z = n)) w e w' := by
  have hz : z ≤ n := by rw [← hl]; exact hp.within
  have hm2 : m ≤ 10000 := by have := hp.steps; omega
  have HP := Lib.hid (Wk.start w hp)
  have HL := Lib.hid hl
  have HM := Lib.hid hm
  have HA := Lib.hid hA
  have HT := Lib.hid ht
  clear hp hl hm hA ht
  go_enter Tryd.func9, Tryd.ntmps9
  go_wp2_with fail
  refine wp_scope_forward 0 rfl ?_
  intro J hJ
  have HJ := Lib.hid hJ
  clear hJ
  go_wp2_with fail
  go_step3
  go_wp2_with fail
  go_loopg [2, 3, 5] (m + z) (fun gh v2 v3 v5 wr => ∃ (r rs : List Int) (a : Nat) (S : List Sq), gh = rs.length + (z - a) ∧ v3 = .int .i64 (a : Nat) ∧ a ≤ n ∧ Hid (Wk L R z f w r rs S a v2 v5 wr))
  case atStart => exact ⟨[], R, 0, _, by rw [HM.out]; rfl, rfl, Nat.zero_le _, HP⟩
  case round =>
    obtain ⟨r, rs, a, S, hg, rfl, han, hW⟩ := hrel
    have HG := Lib.hid hg
    clear hg HP
    cases S with
    | nil =>
      obtain ⟨A', m', c', hv⟩ := own_sl hW.out.rules
      subst hv
      obtain ⟨A5, m5, c5, hv⟩ := own_sl hW.out.stack
      subst hv
      obtain ⟨hr1, hr2, hr3⟩ : rs = [] ∧ z = a ∧ f = true := by
        have := hW.out.run
        cases this
        exact ⟨rfl, rfl, rfl⟩
      subst hr1 hr2 hr3
      obtain ⟨e1, e2, e3⟩ := hW.out.stop HM.out
      have e5 : m5 = 0 := (sr_row (ts := []) hW.out.stack).1
      subst e1 e5
      have H2 := Lib.hid e2
      have H3 := Lib.hid e3
      have HB := Lib.hid hW.out.bel
      have hq : ((z : Int) == (n : Int)) = decide (z = n) := by rw [Bool.eq_iff_iff, beq_iff_eq, decide_eq_true_eq]; omega
      have HQ := Lib.hid hq
      clear hW e2 e3 hq HA HT HL HM
      go_wp2_with fail
      go_step3
      go_wp2_with fail
      (try rw [jump_ret])
      go_ret3
      exact ⟨A', c', by rw [HQ.out]; simp, HB.out, H2.out, H3.out⟩
    | cons t S =>
      obtain ⟨N, hN⟩ : ∃ N, S.length = N := ⟨_, rfl⟩
      obtain ⟨M, hM⟩ : ∃ M, M = N + 1 := ⟨_, rfl⟩
      have hlenM : (t :: S).length = M := by rw [List.length_cons, hN, hM]
      obtain ⟨g, cap, hv, hgb, hgl⟩ := hW.out.stack.form (Nat.succ_pos _)
      rw [hlenM] at hv
      subst hv
      have hst := hW.out.stack
      rw [hlenM] at hst
      have hcap : M ≤ cap := by
        rcases hst.2 with ⟨h0, _⟩ | ⟨g', cap', cur, hv, _, _, hn, _⟩
        · cases h0
        · cases hv; exact hn
      have htop : (t :: S).reverse[N]? = some t := by rw [← hN]; simp
      have hst2 : wr.ownsRow w.heap.size 35 2 (.slice (some ⟨g, 0, none⟩) M cap) (t :: S).reverse.length (cly (t :: S).reverse) := by
        rw [List.length_reverse, hlenM]; exact hst
      obtain ⟨b, o, e0, c0, c1⟩ := (sr_row hst2).2.1 N t htop
      obtain ⟨rfl, rfl⟩ : g = b ∧ 0 = o := by simpa using e0
      rw [Nat.zero_add] at c0 c1
      have hM2 : M ≤ 100001 := by have := hW.out.len; have := congrArg List.length hW.out.eq; rw [List.length_append, HM.out] at this; rw [hlenM] at *; omega
      have q1 : (M : Int) - 1 = (N : Int) := by omega
      have q2 : N < M := by omega
      have q3 : 0 < M := by omega
      have q6 : (0 : Int) < (M : Int) := by omega
      have q4 : IntKind.i64.wrap ((M : Int) - 1) = (N : Int) := by rw [q1]; exact IntWalk.i64_in _ (by omega)
      have q8 : IntKind.i64.wrap (N : Int) = (N : Int) := IntWalk.i64_in _ (by omega)
      have q5 : N ≤ cap := by omega
      have q7 : (N : Int) < (M : Int) := by omega
      obtain ⟨x, hx⟩ : ∃ x, hdL L a = x := ⟨_, rfl⟩
      have r1 := fun w' (hb : Below wr.heap.size wr w') => hand_any (c := c) hx HL.out han ((HA.out.below hW.out.bel).below hb)
      have HM1 := Lib.hid hM
      have HX := Lib.hid hx
      have HN := Lib.hid hN
      have HLM := Lib.hid hlenM
      clear hst hst2 htop e0 hN hM hlenM hx
      by_cases hk : t.k = 1
      · have k1 : (t.k == 1) = true := by simpa using hk
        obtain ⟨i, hi⟩ : ∃ i, pickK x t.n = i := ⟨_, rfl⟩
        have r2 := fun {w} h => ppick_any (w := w) hi h
        by_cases h0 : 0 ≤ i
        · have k2 : ¬ i < 0 := by omega
          obtain ⟨rs', hrs, hrun⟩ : ∃ rs', rs = i :: rs' ∧ Run (hdL L) (plR i ++ S) a rs' z f := by
            have := hW.out.run
            cases this with
            | term h1 _ _ => exact absurd hk h1
            | miss h1 _ => exact absurd hk h1
            | var _ h1 _ h2 =>
              rw [HX.out, hi] at h1
              subst h1
              exact ⟨_, rfl, h2⟩
            | stop _ h1 => rw [HX.out, hi] at h1; omega
          subst hrs
          have HR := Lib.hid hrun
          have HK := Lib.hid hk
          clear hk hi h0 hrun
          go_wp2_with fail
          go_region_held3 (fun w' => w'.cell? ⟨g, N * 2, none⟩ = some (.int .i64 t.k) ∧ w'.cell? ⟨g, N * 2 + 1, none⟩ = some (.int .i64 t.n))
            (first
              | (exact ⟨c0, c1⟩)
              | (exact ⟨bel_cell (bel_alloc (Below.refl _ wr) _) c0, bel_cell (bel_alloc (Below.refl _ wr) _) c1⟩))
            (first
              | (go_at_call 11; ((with_reducible refine (r1 _ (by first | exact (Below.refl _ _).drew | exact Below.refl _ _ | exact (bel_alloc (Below.refl _ _) _).drew)).mono ?_)); rintro e w2 ⟨rfl, rfl⟩))
          all_goals
            go_wp2_with fail
            ((with_reducible refine (r2 (HT.out.below (bel_trans hW.out.bel (by first | exact bel_two _ _ | exact bel_two' _ _)))).mono ?_))
            rintro e w2 ⟨rfl, hb2⟩
            have K2 := Lib.hid (((hW.out.pop HM1.out HN.out).below (by first | exact bel_two _ _ | exact bel_two' _ _)).below hb2)
            have KA := Lib.hid (K2.out.below (bel_alloc (Below.refl _ _) (.cells #[.int .i64 i] 3)))
            have hrl : r.length + 1 ≤ 20000 := by
              have := congrArg List.length hW.out.eq
              rw [List.length_append, HM.out, List.length_cons] at this
              omega
            have hzz : w.heap.size ≤ (w2.alloc (.cells #[.int .i64 i] 3)).heap.size := KA.out.bel.size
            clear hb2 hW c0 c1
            go_wp2_with (at_builtin; refine app_ints rfl _ _ rfl w.heap.size _ _ r rfl KA.out.rules (A := some ⟨w2.heap.size, 0, none⟩) (m := 1) (c := 1) (ts := [i]) (by simp [go_sem]) (ri_one (heap_alloc_new w2 _)) rfl (fun e => by cases e) (by omega) hzz ?_)
            intro v' w3 hown' hgrow
            have K3 := Lib.hid (KA.out.told hgrow (by rw [List.map_append]; exact hown'))
            clear hown' hgrow hzz
            go_wp2_with fail
            have hst3 := K3.out.stack
            rw [HN.out] at hst3
            ((with_reducible refine (put_any i hst3 (by omega) K3.out.bel.size (HT.out.below K3.out.bel)).mono ?_))
            rintro e w4 ⟨v4, rfl, ho4, hg4⟩
            have K4 := Lib.hid (K3.out.put HN.out hg4 ho4 HR.out K2.out.len)
            clear ho4 hg4 hst3
            go_wp2_with fail
            go_roundg (rs'.length + (z - a))
            case measure => rw [HG.out, List.length_cons]; omega
            case rel => exact ⟨_, rs', a, _, rfl, rfl, han, K4⟩
        · have k2 : i < 0 := by omega
          obtain ⟨hr1, hr2, hr3⟩ : rs = [] ∧ z = a ∧ f = false := by
            have := hW.out.run
            cases this with
            | term h1 _ _ => exact absurd hk h1
            | miss h1 _ => exact absurd hk h1
            | var _ h1 h2 _ => rw [HX.out, hi] at h1; omega
            | stop _ h1 => exact ⟨rfl, rfl, rfl⟩
          subst hr1 hr2 hr3
          obtain ⟨A', m', c', hv⟩ := own_sl hW.out.rules
          subst hv
          obtain ⟨e1, e2, e3⟩ := hW.out.stop HM.out
          subst e1
          have HK := Lib.hid hk
          clear hk hi h0
          go_wp2_with fail
          go_region_held3 (fun w' => w'.cell? ⟨g, N * 2, none⟩ = some (.int .i64 t.k) ∧ w'.cell? ⟨g, N * 2 + 1, none⟩ = some (.int .i64 t.n))
            (first
              | (exact ⟨c0, c1⟩)
              | (exact ⟨bel_cell (bel_alloc (Below.refl _ wr) _) c0, bel_cell (bel_alloc (Below.refl _ wr) _) c1⟩))
            (first
              | (go_at_call 11; ((with_reducible refine (r1 _ (by first | exact (Below.refl _ _).drew | exact Below.refl _ _ | exact (bel_alloc (Below.refl _ _) _).drew)).mono ?_)); rintro e w2 ⟨rfl, rfl⟩))
          all_goals
            go_wp2_with fail
            ((with_reducible refine (r2 (HT.out.below (bel_trans hW.out.bel (by first | exact bel_two _ _ | exact bel_two' _ _)))).mono ?_))
            rintro e w2 ⟨rfl, hb2⟩
            have HB4 := Lib.hid (bel_trans (bel_trans hW.out.bel (by first | exact bel_two _ _ | exact bel_two' _ _)) hb2)
            have H2 := Lib.hid (e2.below (bel_trans (by first | exact bel_two _ _ | exact bel_two' _ _) hb2))
            have H3 := Lib.hid e3
            clear hb2 hW c0 c1 e2 e3
            go_wp2_with fail
            go_step3
            refine ⟨rfl, HJ.out _ _ ?_⟩
            go_wp2_with fail
            rw [Exit.noGoto_ret]
            go_ret3
            exact ⟨A', c', by simp, HB4.out, H2.out, H3.out⟩
      · have k1 : (t.k == 1) = false := by simpa using hk
        obtain ⟨y, hy⟩ : ∃ y, fitK x t = y := ⟨_, rfl⟩
        have r2 := fun {w} h => pfits_any (t := t) hy (w := w) h
        cases y
        · obtain ⟨hr1, hr2, hr3⟩ : rs = [] ∧ z = a ∧ f = false := by
            have := hW.out.run
            cases this with
            | term _ h1 _ => rw [HX.out, hy] at h1; cases h1
            | miss _ _ => exact ⟨rfl, rfl, rfl⟩
            | var h1 _ _ _ => exact absurd h1 hk
            | stop h1 _ => exact absurd h1 hk
          subst hr1 hr2 hr3
          obtain ⟨A', m', c', hv⟩ := own_sl hW.out.rules
          subst hv
          obtain ⟨e1, e2, e3⟩ := hW.out.stop HM.out
          subst e1
          have HK := Lib.hid hk
          clear hk hy
          go_wp2_with fail
          go_region_held3 (fun w' => w'.cell? ⟨g, N * 2, none⟩ = some (.int .i64 t.k) ∧ w'.cell? ⟨g, N * 2 + 1, none⟩ = some (.int .i64 t.n))
            (first
              | (exact ⟨c0, c1⟩)
              | (exact ⟨bel_cell (bel_alloc (Below.refl _ wr) _) c0, bel_cell (bel_alloc (Below.refl _ wr) _) c1⟩))
            (first
              | (go_at_call 11; ((with_reducible refine (r1 _ (by first | exact (Below.refl _ _).drew | exact Below.refl _ _ | exact (bel_alloc (Below.refl _ _) _).drew)).mono ?_)); rintro e w2 ⟨rfl, rfl⟩))
          all_goals
            go_wp2_with fail
            ((with_reducible refine (r2 (HT.out.below (bel_trans hW.out.bel (by first | exact bel_two _ _ | exact bel_two' _ _)))).mono ?_))
            rintro e w2 ⟨rfl, hb2⟩
            have HB4 := Lib.hid (bel_trans (bel_trans hW.out.bel (by first | exact bel_two _ _ | exact bel_two' _ _)) hb2)
            have H2 := Lib.hid (e2.below (bel_trans (by first | exact bel_two _ _ | exact bel_two' _ _) hb2))
            have H3 := Lib.hid e3
            clear hb2 hW c0 c1 e2 e3
            go_wp2_with fail
            go_step3
            refine ⟨rfl, HJ.out _ _ ?_⟩
            go_wp2_with fail
            rw [Exit.noGoto_ret]
            go_ret3
            exact ⟨A', c', by simp, HB4.out, H2.out, H3.out⟩
        · have hrun : Run (hdL L) S (a + 1) rs z f := by
            have := hW.out.run
            cases this with
            | term _ _ h1 => exact h1
            | miss _ h1 => rw [HX.out, hy] at h1; cases h1
            | var h1 _ _ _ => exact absurd h1 hk
            | stop h1 _ => exact absurd h1 hk
          have hlt : a + 1 ≤ n := by
            by_cases e : a = n
            · have hx := HX.out
              rw [hdL_over (by rw [HL.out]; omega)] at hx
              rw [← hx, fit_end hk] at hy
              cases hy
            · omega
          have hsum : IntKind.i64.wrap ((a : Int) + 1) = (a : Int) + 1 := IntWalk.i64_in _ (by omega)
          have HR := Lib.hid hrun
          have HK := Lib.hid hk
          clear hk hy hrun
          go_wp2_with fail
          go_region_held3 (fun w' => w'.cell? ⟨g, N * 2, none⟩ = some (.int .i64 t.k) ∧ w'.cell? ⟨g, N * 2 + 1, none⟩ = some (.int .i64 t.n))
            (first
              | (exact ⟨c0, c1⟩)
              | (exact ⟨bel_cell (bel_alloc (Below.refl _ wr) _) c0, bel_cell (bel_alloc (Below.refl _ wr) _) c1⟩))
            (first
              | (go_at_call 11; ((with_reducible refine (r1 _ (by first | exact (Below.refl _ _).drew | exact Below.refl _ _ | exact (bel_alloc (Below.refl _ _) _).drew)).mono ?_)); rintro e w2 ⟨rfl, rfl⟩))
          all_goals
            go_wp2_with fail
            ((with_reducible refine (r2 (HT.out.below (bel_trans hW.out.bel (by first | exact bel_two _ _ | exact bel_two' _ _)))).mono ?_))
            rintro e w2 ⟨rfl, hb2⟩
            have K2 := Lib.hid (((hW.out.pop HM1.out HN.out).below (by first | exact bel_two _ _ | exact bel_two' _ _)).below hb2)
            have hlen := hW.out.len
            clear hb2 hW c0 c1
            go_wp2_with fail
            go_roundg (rs.length + (z - (a + 1)))
            case measure => have := HR.out.le; rw [HG.out]; omega
            case rel => exact ⟨r, rs, a + 1, S, rfl, by go_num, hlt, Lib.hid ⟨K2.out.eq, HR.out, by have := K2.out.len; omega, K2.out.rules, by rw [HN.out]; have := K2.out.stack; rw [HN.out] at this; exact this, K2.out.bel⟩⟩
end Go.Proofs.YtfgmojnohienfaaDoor
