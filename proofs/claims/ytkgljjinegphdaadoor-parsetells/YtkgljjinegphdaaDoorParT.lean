/- The reference's parser (copperplateref13): down, asked of a variable; all, Parse, Viable, Steps. -/
import Derived.Test.YtkgljjinegphdaaDoorParS
namespace Go.Proofs.YtkgljjinegphdaaDoor
open Go.RowKit
set_option linter.unusedVariables false
set_option maxRecDepth 100000

/-- At the loop's head: k symbols of P are done with. -/
structure Lp (L : List Int) (w0 w : World) (v : Value) (P : List Sq) (R : List Int) (z : Nat) (f : Bool) (d n : Nat) (Q : Option Addr) (k : Nat) (r : List Int) (a : Nat) (fl : Bool) (vv : Value) (W : World) : Prop where
  dv : Dv w0 w v r (a : Nat) fl vv W
  sr : Sr W Q P
  at' : ∀ b o, Q = some ⟨b, o, none⟩ → w.heap.size + 3 ≤ b ∧ vv.ownBlock ≠ some b
  bel : Below w0.heap.size w0 W
  on : (fl = false ∧ a ≤ n ∧ ∃ rs, Run (hdL L) (P.drop k) a rs z f ∧ r ++ rs = R ∧ rs.length ≤ d) ∨ (fl = true ∧ f = false ∧ r = R ∧ a = z)
theorem drop_at {P : List Sq} {k : Nat} {t : Sq} (h : P[k]? = some t) : P.drop k = [t] ++ P.drop (k + 1) := by
  obtain ⟨h1, rfl⟩ := List.getElem?_eq_some_iff.1 h
  rw [List.drop_eq_getElem_cons h1]; rfl
theorem Sr.setc {w : World} {A : Option Addr} {ts : List Sq} (h : Sr w A ts) {b' j' : Nat} (hne : ∀ b o, A = some ⟨b, o, none⟩ → b ≠ b') (u : Value) : Sr (w.setCell ⟨b', j', none⟩ u) A ts := fun j t ht => by
  obtain ⟨b, o, h0, h1, h2⟩ := h j t ht
  have hn := hne b o h0
  exact ⟨b, o, h0, (World.cell?_setCell_other _ _ _ _ (by intro e; injection e; omega)).trans h1, (World.cell?_setCell_other _ _ _ _ (by intro e; injection e; omega)).trans h2⟩
theorem dv_bel {w0 w : World} {v : Value} {R : List Int} (hB : Below w0.heap.size w0 w) (ho : w.ownsRow w0.heap.size 3 1 v R.length (R.map iv)) {W' : World} {R' : List Int} {a' : Int} {fl' : Bool} {vv' : Value} (h : Dv w0 w v R' a' fl' vv' W') : Below w0.heap.size w0 W' :=
  hB.grown h.g.g hB.size (fun k hk => (ho.lt k hk).1)
set_option maxHeartbeats 4000000 in
theorem down_var {w0 : World} {A : Option Addr} {n c : Nat} {L : List Int} (hl : L.length = n) (hn : n ≤ 1000) (hA : Ri w0 A L) {t : Sq} {a z : Nat} {r rs : List Int} {f : Bool} {B : Option Addr} {m k' : Nat} {w : World}
    (hk : t.k = 1) (hr : Run (hdL L) [t] a rs z f) (hd : ∀ d, rs.length = d + 1 → AnsD w0 A n c L d) (han : a ≤ n) (hlen : r.length + rs.length ≤ 100000) (hB : Below w0.heap.size w0 w) (ho : w.ownsRow w0.heap.size 3 1 (.slice B m k') r.length (r.map iv)) :
    Calls Tryd.prog 24 #[.agg #[.int .i64 t.k, .int .i64 t.n], .slice A n c, .agg #[.slice B m k', .int .i64 (a : Nat), .bool false]] w fun e w' => DnE w0 (r ++ rs) z f (.slice B m k') w e w' := by
  obtain ⟨x, hx⟩ : ∃ x, hdL L a = x := ⟨_, rfl⟩
  have q1 : (t.k == 1) = true := by simpa using hk
  have q2 : (t.k != 1) = false := by simpa using hk
  obtain ⟨i, hi⟩ : ∃ i, pickK x t.n = i := ⟨_, rfl⟩
  have r1 := fun w' (hb : Below w.heap.size w w') => rhand_any (c := c) hx hl han ((hA.below hB).below hb)
  have r2 := fun w => rpick_any hi w
  have HD := Lib.hid (Dv.start w0 w t.k t.n r a (.slice B m k') ho)
  have HB3 := Lib.hid (bel_alloc (bel_alloc (bel_alloc (Below.refl _ w) (.cells #[.int .i64 t.k, .int .i64 t.n] 37)) (.cells #[.slice B m k', .int .i64 (a : Nat), .bool false] 34)) (.cells #[.slice none 0 0, .int .i64 0, .bool false] 34))
  by_cases h0 : 0 ≤ i
  · obtain ⟨rs', rfl, hrun⟩ : ∃ rs', rs = i :: rs' ∧ Run (hdL L) (plR i) a rs' z f := by
      cases hr with
      | term h1 _ _ => exact absurd hk h1
      | miss h1 _ => exact absurd hk h1
      | var _ h1 _ h2 =>
        rw [hx, hi] at h1
        subst h1
        rw [List.append_nil] at h2
        exact ⟨_, rfl, h2⟩
      | stop _ h1 => rw [hx, hi] at h1; omega
    have k2 : ¬ i < 0 := by omega
    rw [List.length_cons] at hlen
    obtain ⟨d, hdd⟩ : ∃ d, rs'.length = d := ⟨_, rfl⟩
    have hd := hd d (by rw [List.length_cons, hdd])
    have hrd : rs'.length ≤ d := by omega
    clear hdd
    obtain ⟨G, hG⟩ : ∃ G, symI i = G := ⟨_, rfl⟩
    obtain ⟨nl, hnl⟩ : ∃ n, G.length = n := ⟨_, rfl⟩
    obtain ⟨gv, hgv⟩ : ∃ v, varI i = v := ⟨_, rfl⟩
    obtain ⟨gb, hgb⟩ : ∃ v, isI i = v := ⟨_, rfl⟩
    have hn10 : nl ≤ 10 := by rw [← hnl, ← hG]; exact symI_len i
    have r3 := fun w => rgetp_any i hG hnl hgv hgb w
    obtain ⟨P, hP⟩ : ∃ P, plS G = P := ⟨_, rfl⟩
    obtain ⟨pm, hpm⟩ : ∃ m, P.length = m := ⟨_, rfl⟩
    have r4 := fun {w A c} h => rplain_lies (w := w) (A := A) (c := c) hP hpm h hnl (by omega)
    have hpl : plR i = P := by rw [plR, hG, hP]
    rw [hpl] at hrun
    have hpm10 : pm ≤ 10 := by rw [← hpm, ← hP]; exact Nat.le_trans (plS_le G) (by omega)
    have HRUN := Lib.hid hrun
    have HB := Lib.hid hB
    have HO := Lib.hid ho
    have HDD := Lib.hid hd
    have HPM := Lib.hid hpm
    have HLN := Lib.hid hl
    have HK := Lib.hid hk
    clear hr hx hi hk hA hB ho hl hd hG hnl hgv hgb hP hpm hpl hrun h0
    go_enter Tryd.func24, Tryd.ntmps24
    (try simp only [List.append_eq, List.cons_append, List.nil_append])
    go_wp2_with fail
    ((with_reducible refine (r1 _ HB3.out).mono ?_))
    rintro e w' ⟨rfl, rfl⟩
    go_wp2_with fail
    ((with_reducible refine (r2 _).mono ?_))
    rintro e w4 ⟨rfl, hb4⟩
    have HD4 := Lib.hid (HD.out.below hb4)
    have HDA := Lib.hid (HD4.out.below (bel_alloc (Below.refl _ _) (.cells #[.int .i64 i] 3)))
    obtain ⟨c0, c1, c2, f0, f1, f2⟩ := HDA.out.x.cells
    obtain ⟨e0, e1, e2, -, -, -⟩ := HD4.out.x.cells
    have lx4 := HD4.out.x.lt
    have lx := HDA.out.x.lt
    have hzz : w0.heap.size ≤ (w4.alloc (.cells #[.int .i64 i] 3)).heap.size := (dv_bel HB.out HO.out HDA.out).size
    clear hb4
    go_wp2_with (at_builtin; refine app_int_at rfl _ _ rfl w0.heap.size _ _ r rfl HDA.out.o (ad := ⟨w4.heap.size, 0, none⟩) (c := 1) (i := i) (by simp [go_sem]) (ri_one (heap_alloc_new w4 _)) (by omega) hzz ?_)
    intro A' m' c' w5 hown' hgro
    have hown2 : w5.ownsRow w0.heap.size 3 1 (.slice A' m' c') (r ++ [i]).length ((r ++ [i]).map iv) := by rw [List.length_append, List.map_append]; exact hown'
    have hx5 := HDA.out.x.gro HDA.out.o hgro
    have K5 := Lib.hid (HDA.out.told hgro hown2)
    clear c0 c1 c2 f0 f1 f2 e0 e1 e2 lx4 lx hzz hown' hown2 hgro
    obtain ⟨c0, c1, c2, f0, f1, f2⟩ := hx5.cells
    have lx := hx5.lt
    clear hx5
    go_wp2_with fail
    ((with_reducible refine (r3 _).mono ?_))
    rintro e w6 ⟨Q6, c6, rfl, hb6, hs6⟩
    have HS6 := Lib.hid (hs6.below (bel_alloc (Below.refl _ _) (.cells #[.int .i64 gv, .slice Q6 nl c6] 49)))
    have K6 := Lib.hid ((K5.out.below hb6).below (bel_alloc (Below.refl _ _) (.cells #[.int .i64 gv, .slice Q6 nl c6] 49)))
    clear c0 c1 c2 f0 f1 f2 lx hb6 hs6
    go_wp2_with fail
    ((with_reducible refine (r4 HS6.out).mono ?_))
    rintro e w7 ⟨Q, c7, rfl, hb7, hs7, -, hq7⟩
    have K7 := Lib.hid (K6.out.below hb7)
    have hat7 : ∀ b o, Q = some ⟨b, o, none⟩ → w.heap.size + 3 ≤ b ∧ (Value.slice A' m' c').ownBlock ≠ some b := fun b o e => by
      subst e
      have h1 := hq7 b rfl
      have h2 := K6.out.y.lt
      refine ⟨by omega, fun e' => ?_⟩
      have := (K6.out.o.lt b e').2
      omega
    have HLP : Lp L w0 w (.slice B m k') P (r ++ i :: rs') z f d n Q 0 (r ++ [i]) a false (.slice A' m' c') w7 :=
      ⟨K7.out, hs7, hat7, dv_bel HB.out HO.out K7.out, .inl ⟨rfl, han, rs', by rw [List.drop_zero]; exact HRUN.out, by simp, hrd⟩⟩
    have HLP := Lib.hid HLP
    clear hb7 hs7 hq7 hat7
    go_wp2_with fail
    go_loopw [13] (fun j wr => ∃ (k : Nat) (r2 : List Int) (a2 : Nat) (fl : Bool) (B2 : Option Addr) (m2 c2 : Nat), j = .int .i64 k ∧ k ≤ pm ∧ Hid (Lp L w0 w (.slice B m k') P (r ++ i :: rs') z f d n Q k r2 a2 fl (.slice B2 m2 c2) wr)) (fun j _ => pm - (intOf j).toNat)
    case atStart => exact ⟨0, _, _, _, _, _, _, rfl, Nat.zero_le _, HLP⟩
    case round =>
      obtain ⟨k, r2, a2, fl, B2, m2, c2, rfl, hkm, hW⟩ := hrel
      obtain ⟨b0, b1, b2, g0, g1, g2⟩ := hW.out.dv.x.cells
      have lx := hW.out.dv.x.lt
      cases fl
      · obtain ⟨ha2, rs2, hrun2, heq2, hrd2⟩ : a2 ≤ n ∧ ∃ rs, Run (hdL L) (P.drop k) a2 rs z f ∧ r2 ++ rs = r ++ i :: rs' ∧ rs.length ≤ d := by
          rcases hW.out.on with ⟨_, h1, h2⟩ | ⟨h1, _⟩
          · exact ⟨h1, h2⟩
          · cases h1
        by_cases hlt : k < pm
        · obtain ⟨u, hu⟩ : ∃ u, P[k]? = some u := ⟨_, List.getElem?_eq_getElem (by rw [HPM.out]; exact hlt)⟩
          obtain ⟨b, o, rfl, y0, y1⟩ := hW.out.sr k u hu
          have hat := hW.out.at' b o rfl
          have q3 : (k : Int) < (pm : Int) := by omega
          have hsum : r2.length + rs2.length ≤ 100000 := by
            have := congrArg List.length heq2
            simp only [List.length_append, List.length_cons] at this
            omega
          rw [drop_at hu] at hrun2
          have hblt := World.block_lt_of_cell? _ _ y0
          have hSR := Lib.hid hW.out.sr
          have hDV := Lib.hid hW.out.dv
          have hBL := Lib.hid hW.out.bel
          have hAT := Lib.hid hat
          clear hu hat hW
          have hcall : ∃ (R3 : List Int) (z3 : Nat) (f3 : Bool), (Calls Tryd.prog 24 #[.agg #[.int .i64 u.k, .int .i64 u.n], .slice A n c, .agg #[.slice B2 m2 c2, .int .i64 (a2 : Nat), .bool false]] wr.drew fun e w' => DnE w0 R3 z3 f3 (.slice B2 m2 c2) wr.drew e w')
              ∧ Hid (((!f3) = false ∧ z3 ≤ n ∧ ∃ rs, Run (hdL L) (P.drop (k + 1)) z3 rs z f ∧ R3 ++ rs = r ++ i :: rs' ∧ rs.length ≤ d) ∨ ((!f3) = true ∧ f = false ∧ R3 = r ++ i :: rs' ∧ z3 = z)) := by
            have hbd : Below w0.heap.size w0 wr.drew := hBL.out.drew
            rcases hrun2.split rfl with ⟨rs1, y, rs3, h1, h2, h3⟩ | ⟨h1, h2⟩
            · refine ⟨_, _, _, HDD.out u a2 y r2 rs1 true B2 m2 c2 wr.drew ?_ h2 ha2 ?_ hbd hDV.out.o, Lib.hid (.inl ⟨rfl, ?_, rs3, h3, ?_, ?_⟩)⟩
              · rw [h1, List.length_append] at hrd2; omega
              · rw [h1, List.length_append] at hsum; omega
              · rw [← HLN.out]; exact h2.within (fun j h => hdL_over h) (by rw [HLN.out]; exact ha2)
              · rw [List.append_assoc, ← h1]; exact heq2
              · rw [h1, List.length_append] at hrd2; omega
            · subst h1
              exact ⟨_, _, _, HDD.out u a2 z r2 rs2 false B2 m2 c2 wr.drew hrd2 h2 ha2 hsum hbd hDV.out.o, Lib.hid (.inr ⟨rfl, rfl, heq2, rfl⟩)⟩
          obtain ⟨R3, z3, f3, hc3, hon3⟩ := hcall
          clear hrun2 heq2 hrd2 hsum ha2
          go_wp2_with fail
          go_still_tail 6, (by kernel_rfl)
          change wpList _ _ _ _ _ wr.drew
          go_wp2_with fail
          ((with_reducible refine hc3.mono ?_))
          rintro e w8 ⟨A8, m8, c8, rfl, ho8, hg8⟩
          have hDr := hDV.out.below (Below.refl _ wr).drew
          have hx8 := hDr.x.gro hDr.o hg8
          have K8 := Lib.hid (Dv.call (a' := (z3 : Nat)) (fl' := !f3) hDr hg8 ho8)
          have S8 := Lib.hid (hSR.out.gro (w' := w8) (v := .slice B2 m2 c2) (v' := .slice A8 m8 c8) (Gro.trans (Gro.below (Gro.refl wr (.slice B2 m2 c2)) (Below.refl _ wr).drew) hg8) (fun b' o' e => by injection e with e; injection e with e1 e2; subst e1; exact hAT.out.2))
          have N8 : (Value.slice A8 m8 c8).ownBlock ≠ some b := by
            rcases hg8.at' with e | ⟨q, e, hq⟩
            · rw [e]; exact hAT.out.2
            · rw [e]; intro e'; injection e' with e'; subst e'; exact absurd (Nat.lt_of_lt_of_le hblt hq) (Nat.lt_irrefl _)
          have B8 := Lib.hid (hBL.out.drew.grown hg8.g (by exact hBL.out.size) (fun q hq => (hDV.out.o.lt q hq).1))
          clear hDr
          clear b0 b1 b2 g0 g1 g2 lx y0 y1 hblt hc3
          obtain ⟨b0, b1, b2, g0, g1, g2⟩ := hx8.cells
          have lx := hx8.lt
          clear hx8
          go_wp2_with fail
          go_roundw
          case rel =>
            refine ⟨k + 1, R3, z3, !f3, A8, m8, c8, by go_num, by omega, Lib.hid ⟨K8.out, ?_, ?_, ?_, hon3.out⟩⟩
            · have hn : ∀ b' o', (some ⟨b, o, none⟩ : Option Addr) = some ⟨b', o', none⟩ → b' ≠ w.heap.size + 1 := fun b' o' e => by
                injection e with e; injection e with e1 e2; subst e1; have := hAT.out.1; omega
              exact ((S8.out.setc hn _).setc hn _).setc hn _
            · intro b' o' e
              injection e with e; injection e with e1 e2; subst e1
              exact ⟨hAT.out.1, N8⟩
            · exact dv_bel HB.out HO.out K8.out
          case measure => simp [intOf]; omega
        · obtain rfl : k = pm := by omega
          rw [List.drop_eq_nil_of_le (by rw [HPM.out]; exact Nat.le_refl _)] at hrun2
          obtain ⟨rfl, rfl, rfl⟩ : rs2 = [] ∧ z = a2 ∧ f = true := by cases hrun2; exact ⟨rfl, rfl, rfl⟩
          rw [List.append_nil] at heq2
          subst heq2
          have HW := Lib.hid hW.out.dv
          obtain ⟨y0, y1, y2, p0, p1, p2⟩ := hW.out.dv.y.cells
          have ly := hW.out.dv.y.lt
          have q3 : ¬ (k : Int) < (k : Int) := by omega
          clear hW hrun2
          go_wp2_with fail
          refine body_box3 rfl HW.out.y rfl rfl ?_
          exact HW.out.done rfl
      · obtain ⟨rfl, rfl, rfl⟩ : f = false ∧ r2 = r ++ i :: rs' ∧ a2 = z := by
          rcases hW.out.on with ⟨h1, _⟩ | ⟨_, h1⟩
          · cases h1
          · exact h1
        have HW := Lib.hid hW.out.dv
        obtain ⟨y0, y1, y2, p0, p1, p2⟩ := hW.out.dv.y.cells
        have ly := hW.out.dv.y.lt
        clear hW
        by_cases hlt : k < pm
        · have q3 : (k : Int) < (pm : Int) := by omega
          go_wp2_with fail
          refine body_box3 rfl HW.out.y rfl rfl ?_
          exact HW.out.done rfl
        · have q3 : ¬ (k : Int) < (pm : Int) := by omega
          go_wp2_with fail
          refine body_box3 rfl HW.out.y rfl rfl ?_
          exact HW.out.done rfl
  · obtain ⟨rfl, rfl, rfl⟩ : rs = [] ∧ z = a ∧ f = false := by
      cases hr with
      | term h1 _ _ => exact absurd hk h1
      | miss h1 _ => exact absurd hk h1
      | var _ h1 h2 _ => rw [hx, hi] at h1; omega
      | stop _ h1 => exact ⟨rfl, rfl, rfl⟩
    have k2 : i < 0 := by omega
    have HK := Lib.hid hk
    clear hr hx hi hk hA hB ho hl hd h0
    go_enter Tryd.func24, Tryd.ntmps24
    (try simp only [List.append_eq, List.cons_append, List.nil_append])
    go_wp2_with fail
    ((with_reducible refine (r1 _ HB3.out).mono ?_))
    rintro e w' ⟨rfl, rfl⟩
    go_wp2_with fail
    ((with_reducible refine (r2 _).mono ?_))
    rintro e w4 ⟨rfl, hb4⟩
    have HD4 := Lib.hid (HD.out.below hb4)
    obtain ⟨c0, c1, c2, f0, f1, f2⟩ := HD4.out.x.cells
    obtain ⟨d0, d1, d2, g0, g1, g2⟩ := HD4.out.y.cells
    have lx := HD4.out.x.lt
    have ly := HD4.out.y.lt
    clear hb4
    go_wp2_with fail
    refine body_box3 rfl (HD4.out.fails true).y rfl rfl ?_
    rw [List.append_nil]
    exact (HD4.out.fails true).done rfl
theorem ans_dn {w0 : World} {A : Option Addr} {n c : Nat} {L : List Int} (hl : L.length = n) (hn : n ≤ 1000) (hA : Ri w0 A L) : ∀ d, AnsD w0 A n c L d := by
  intro d
  induction d with
  | zero =>
    intro t a z r rs f B m k w hd hr ha hlen hB ho
    by_cases hk : t.k = 1
    · exact down_var hl hn hA hk hr (fun d h => by omega) ha hlen hB ho
    · exact down_leaf hl hn hA hk hr ha hB ho
  | succ d ih =>
    intro t a z r rs f B m k w hd hr ha hlen hB ho
    by_cases hk : t.k = 1
    · refine down_var hl hn hA hk hr (fun e h => ?_) ha hlen hB ho
      have : e ≤ d := by omega
      intro t a z r rs f B m k w hd
      exact ih t a z r rs f B m k w (by omega)
    · exact down_leaf hl hn hA hk hr ha hB ho
end Go.Proofs.YtkgljjinegphdaaDoor
