/- The reference's parser (copperplateref13): down. -/
import Derived.Test.YtkgljjinegphdaaDoorParR
import Derived.StillTailTactics
namespace Go.Proofs.YtkgljjinegphdaaDoor
open Go.RowKit
set_option linter.unusedVariables false
set_option maxRecDepth 100000

/-- How down ends. -/
def DnE (w0 : World) (R : List Int) (z : Nat) (f : Bool) (v : Value) (w : World) (e : Ending) (w' : World) : Prop :=
  ∃ A m c, e = .returned (.agg #[.slice A m c, .int .i64 (z : Nat), .bool (!f)]) ∧ w'.ownsRow w0.heap.size 3 1 (.slice A m c) R.length (R.map iv) ∧ Gro w v w' (.slice A m c)
/-- While down works: its parameter's box, its result's, and the rules. -/
structure Dv (w0 w : World) (v : Value) (R : List Int) (a : Int) (fl : Bool) (vv : Value) (W : World) : Prop where
  x : Bx W (w.heap.size + 1) vv (.int .i64 a) (.bool fl)
  y : Bx W (w.heap.size + 2) (.slice none 0 0) (.int .i64 0) (.bool false)
  o : W.ownsRow w0.heap.size 3 1 vv R.length (R.map iv)
  g : Gro w v W vv
theorem Dv.start (w0 w : World) (k n : Int) (R : List Int) (a : Int) (v : Value) (ho : w.ownsRow w0.heap.size 3 1 v R.length (R.map iv)) :
    Dv w0 w v R a false v (((w.alloc (.cells #[.int .i64 k, .int .i64 n] 37)).alloc (.cells #[v, .int .i64 a, .bool false] 34)).alloc (.cells #[.slice none 0 0, .int .i64 0, .bool false] 34)) := by
  have h1 := Bx.new (w.alloc (.cells #[.int .i64 k, .int .i64 n] 37)) v (.int .i64 a) (.bool false)
  rw [World.size_alloc] at h1
  have h2 := Bx.new ((w.alloc (.cells #[.int .i64 k, .int .i64 n] 37)).alloc (.cells #[v, .int .i64 a, .bool false] 34)) (.slice none 0 0) (.int .i64 0) (.bool false)
  rw [World.size_alloc, World.size_alloc] at h2
  exact ⟨h1.below (bel_alloc (Below.refl _ _) _), h2, ((ho.alloc _).alloc _).alloc _, (((Gro.refl w v).below (bel_alloc (Below.refl _ _) _)).below (bel_alloc (Below.refl _ _) _)).below (bel_alloc (Below.refl _ _) _)⟩
theorem Dv.below {w0 w : World} {v : Value} {R : List Int} {a : Int} {fl : Bool} {vv : Value} {W W' : World} (h : Dv w0 w v R a fl vv W) (b : Below W.heap.size W W') : Dv w0 w v R a fl vv W' :=
  ⟨h.x.below b, h.y.below b, row_below h.o b, h.g.below b⟩
theorem Dv.fails {w0 w : World} {v : Value} {R : List Int} {a : Int} {fl : Bool} {vv : Value} {W : World} (h : Dv w0 w v R a fl vv W) (fl' : Bool) : Dv w0 w v R a fl' vv (W.setCell ⟨w.heap.size + 1, 2, none⟩ (.bool fl')) :=
  ⟨h.x.set2 _, h.y.other (by omega) _, row_set h.o h.x _, h.g.set (by omega) _ _⟩
theorem Dv.goes {w0 w : World} {v : Value} {R : List Int} {a : Int} {fl : Bool} {vv : Value} {W : World} (h : Dv w0 w v R a fl vv W) (a' : Int) : Dv w0 w v R a' fl vv (W.setCell ⟨w.heap.size + 1, 1, none⟩ (.int .i64 a')) :=
  ⟨h.x.set1 _, h.y.other (by omega) _, row_set h.o h.x _, h.g.set (by omega) _ _⟩
/-- A rule more. -/
theorem Dv.told {w0 w : World} {v : Value} {R R' : List Int} {a : Int} {fl : Bool} {vv v2 : Value} {W W' : World} (h : Dv w0 w v R a fl vv W) (hg : Gro W vv W' v2) (ho : W'.ownsRow w0.heap.size 3 1 v2 R'.length (R'.map iv)) :
    Dv w0 w v R' a fl v2 (W'.setCell ⟨w.heap.size + 1, 0, none⟩ v2) := by
  have hx := h.x.gro h.o hg
  have hy := h.y.gro h.o hg
  exact ⟨hx.set0 _, hy.other (by omega) _, row_set ho hx _, (h.g.trans hg).set (by omega) _ _⟩
/-- A call's answer is laid into the parameter's box. -/
theorem Dv.call {w0 w : World} {v : Value} {R R' : List Int} {a a' : Int} {fl fl' : Bool} {vv v2 : Value} {W W' : World} (h : Dv w0 w v R a fl vv W) (hg : Gro W vv W' v2) (ho : W'.ownsRow w0.heap.size 3 1 v2 R'.length (R'.map iv)) :
    Dv w0 w v R' a' fl' v2 (set3 W' (w.heap.size + 1) v2 (.int .i64 a') (.bool fl')) := by
  have hx := h.x.gro h.o hg
  have hy := h.y.gro h.o hg
  exact ⟨hx.set _ _ _, ((hy.other (by omega) _).other (by omega) _).other (by omega) _, row_set (row_set (row_set ho hx _) (hx.set0 _) _) ((hx.set0 _).set1 _) _,
    (((h.g.trans hg).set (by omega) _ _).set (by omega) _ _).set (by omega) _ _⟩
/-- The end. -/
theorem Dv.done {w0 w : World} {v : Value} {R : List Int} {z : Nat} {f fl : Bool} {A : Option Addr} {m c : Nat} {W : World} (h : Dv w0 w v R (z : Nat) fl (.slice A m c) W) (hf : fl = !f) :
    DnE w0 R z f v w (.returned (.agg #[.slice A m c, .int .i64 (z : Nat), .bool fl])) (set3 W (w.heap.size + 2) (.slice A m c) (.int .i64 (z : Nat)) (.bool fl)) := by
  subst hf
  exact ⟨A, m, c, rfl, row_set (row_set (row_set h.o h.y _) (h.y.set0 _) _) ((h.y.set0 _).set1 _) _, ((h.g.set (by omega) _ _).set (by omega) _ _).set (by omega) _ _⟩
/-- 'append(l, i)', l a row of ints of the call's own: where it lies then. -/
theorem app_int_at {w : World} {ops : Array Oper} {rest : List Oper} {o : Oper} {a : Act} {Q : Exit → Act → World → Prop} (hgd : o.guard = none) (s x : Operand)
    (ho : o.op = .call { callee := .builtin .append, args := #[s, x], argTypes := #[22, 22] })
    (base : Nat) (v : Value) (n : Nat) (qs : List Int) (hs : a.eval s = v) (hown : w.ownsRow base 3 1 v n (qs.map iv))
    {ad : Addr} {c : Nat} {i : Int} (hx : a.eval x = .slice (some ad) 1 c) (htr : Ri w (some ad) [i])
    (hb : n + 1 ≤ 1000000) (hbase : base ≤ w.heap.size)
    (h : ∀ A m c w', w'.ownsRow base 3 1 (.slice A m c) (n + 1) ((qs ++ [i]).map iv) → Gro w v w' (.slice A m c) → wpList Tryd.prog ops Q rest (a.put o.dst (.slice A m c)) w') : wpList Tryd.prog ops Q (o :: rest) a w := by
  obtain ⟨i0, hi, hz0, hz1, hz2⟩ := info_parts infoI
  refine wpList_append_own_at _ hgd s x 22 ho base 3 i0 (.int .i64 0) 1 8 Tryd.underlying22 hi hz0 hz1 hz2 rfl (by decide) v n (qs.map iv) hs hown ad 1 c ([i].map iv) hx rfl (ri_news htr) (iv_one [i]) (by unfold maxLen; omega) (by omega) hbase ?_
  intro v' w' h1 h2 _ h4
  obtain ⟨A, m, c, rfl⟩ := own_sl h1
  refine h A m c w' (by rw [List.map_append]; exact h1) ⟨h2, ?_⟩
  rcases h4 with e | e
  · exact .inl e
  · exact .inr ⟨_, e, Nat.le_refl _⟩
/-- What down answers, asked of symbols that tell d rules at most. -/
def AnsD (w0 : World) (A : Option Addr) (n c : Nat) (L : List Int) (d : Nat) : Prop := ∀ (t : Sq) (a z : Nat) (r rs : List Int) (f : Bool) (B : Option Addr) (m k : Nat) (w : World),
  rs.length ≤ d → Run (hdL L) [t] a rs z f → a ≤ n → r.length + rs.length ≤ 100000 → Below w0.heap.size w0 w → w.ownsRow w0.heap.size 3 1 (.slice B m k) r.length (r.map iv) →
  Calls Tryd.prog 24 #[.agg #[.int .i64 t.k, .int .i64 t.n], .slice A n c, .agg #[.slice B m k, .int .i64 (a : Nat), .bool false]] w fun e w' => DnE w0 (r ++ rs) z f (.slice B m k) w e w'
set_option maxHeartbeats 2000000 in
theorem down_leaf {w0 : World} {A : Option Addr} {n c : Nat} {L : List Int} (hl : L.length = n) (hn : n ≤ 1000) (hA : Ri w0 A L) {t : Sq} {a z : Nat} {r rs : List Int} {f : Bool} {B : Option Addr} {m k : Nat} {w : World}
    (hk : t.k ≠ 1) (hr : Run (hdL L) [t] a rs z f) (han : a ≤ n) (hB : Below w0.heap.size w0 w) (ho : w.ownsRow w0.heap.size 3 1 (.slice B m k) r.length (r.map iv)) :
    Calls Tryd.prog 24 #[.agg #[.int .i64 t.k, .int .i64 t.n], .slice A n c, .agg #[.slice B m k, .int .i64 (a : Nat), .bool false]] w fun e w' => DnE w0 (r ++ rs) z f (.slice B m k) w e w' := by
  obtain ⟨x, hx⟩ : ∃ x, hdL L a = x := ⟨_, rfl⟩
  have q1 : (t.k == 1) = false := by simpa using hk
  have q2 : (t.k != 1) = true := by simpa using hk
  obtain ⟨y, hy⟩ : ∃ y, fitK x t = y := ⟨_, rfl⟩
  have r1 := fun w' (hb : Below w.heap.size w w') => rhand_any (c := c) hx hl han ((hA.below hB).below hb)
  have r2 := fun w => rfits_any (t := t) hy w
  have HD := Lib.hid (Dv.start w0 w t.k t.n r a (.slice B m k) ho)
  have HB3 := Lib.hid (bel_alloc (bel_alloc (bel_alloc (Below.refl _ w) (.cells #[.int .i64 t.k, .int .i64 t.n] 37)) (.cells #[.slice B m k, .int .i64 (a : Nat), .bool false] 34)) (.cells #[.slice none 0 0, .int .i64 0, .bool false] 34))
  cases y
  · obtain ⟨rfl, rfl, rfl⟩ : rs = [] ∧ z = a ∧ f = false := by
      cases hr with
      | term _ h1 _ => rw [hx, hy] at h1; cases h1
      | miss _ _ => exact ⟨rfl, rfl, rfl⟩
      | var h1 _ _ _ => exact absurd h1 hk
      | stop h1 _ => exact absurd h1 hk
    clear hr hx hy hk hA hB ho hl
    go_enter Tryd.func24, Tryd.ntmps24
    (try simp only [List.append_eq, List.cons_append, List.nil_append])
    go_wp2_with fail
    ((with_reducible refine (r1 _ HB3.out).mono ?_))
    rintro e w' ⟨rfl, rfl⟩
    go_wp2_with fail
    ((with_reducible refine (r2 _).mono ?_))
    rintro e w4 ⟨rfl, hb4⟩
    have HD4 := Lib.hid (HD.out.below hb4)
    obtain ⟨c0, c1, c2, f0, f1, f2⟩ := HD4.out.x.cells
    obtain ⟨d0, d1, d2, g0, g1, g2⟩ := HD4.out.y.cells
    have lx := HD4.out.x.lt
    have ly := HD4.out.y.lt
    clear hb4
    go_wp2_with fail
    refine body_box3 rfl (HD4.out.fails true).y rfl rfl ?_
    rw [List.append_nil]
    exact (HD4.out.fails true).done rfl
  · obtain ⟨rfl, rfl, rfl⟩ : rs = [] ∧ z = a + 1 ∧ f = true := by
      cases hr with
      | term _ _ h1 => cases h1; exact ⟨rfl, rfl, rfl⟩
      | miss _ h1 => rw [hx, hy] at h1; cases h1
      | var h1 _ _ _ => exact absurd h1 hk
      | stop h1 _ => exact absurd h1 hk
    have hlt : a < n := by
      by_cases e : a = n
      · rw [hdL_over (by omega)] at hx
        rw [← hx, fit_end hk] at hy
        cases hy
      · omega
    have q3 : ¬ (n ≤ a) := by omega
    have q4 : decide (n ≤ a) = false := decide_eq_false q3
    have q5 : ¬ ((n : Int) ≤ (a : Int)) := by omega
    clear hr hx hy hk hA hB ho hl
    go_enter Tryd.func24, Tryd.ntmps24
    (try simp only [List.append_eq, List.cons_append, List.nil_append])
    go_wp2_with fail
    ((with_reducible refine (r1 _ HB3.out).mono ?_))
    rintro e w' ⟨rfl, rfl⟩
    go_wp2_with fail
    ((with_reducible refine (r2 _).mono ?_))
    rintro e w4 ⟨rfl, hb4⟩
    have HD4 := Lib.hid (HD.out.below hb4)
    obtain ⟨c0, c1, c2, f0, f1, f2⟩ := HD4.out.x.cells
    obtain ⟨d0, d1, d2, g0, g1, g2⟩ := HD4.out.y.cells
    have lx := HD4.out.x.lt
    have ly := HD4.out.y.lt
    clear hb4
    go_wp2_with fail
    refine body_box3 rfl (HD4.out.goes ((a : Int) + 1)).y rfl rfl ?_
    rw [List.append_nil]
    exact (HD4.out.goes ((a + 1 : Nat) : Int)).done rfl
end Go.Proofs.YtkgljjinegphdaaDoor
