/- Package yield: the closure, of variables. -/
import Derived.Test.YtcipfipfamecmaaDoorYieB
import Derived.Deep.AppendLies
import Derived.Deep.RegionLaw
import Derived.StillTailTactics
namespace Go.Proofs.YtcipfipfamecmaaDoor
open Go.RowKit
set_option linter.unusedVariables false
set_option maxRecDepth 100000

/-- A row of symbols beside a cell that is written. -/
theorem Sr.setc {w : World} {b o g j : Nat} {ts : List Sq} (h : Sr w (some ⟨b, o, none⟩) ts) (hne : g ≠ b) (v : Value) : Sr (w.setCell ⟨g, j, none⟩ v) (some ⟨b, o, none⟩) ts := fun i t ht => by
  obtain ⟨b', o', e, h1, h2⟩ := h i t ht
  obtain ⟨rfl, rfl⟩ : b = b' ∧ o = o' := by simpa using e
  refine ⟨b, o, rfl, ?_, ?_⟩
  · rw [World.cell?_setCell_far _ _ _ _ (by exact hne)]; exact h1
  · rw [World.cell?_setCell_far _ _ _ _ (by exact hne)]; exact h2
/-- What the closure does, of symbols that want d calls within each other at most. -/
def AnsT (d : Nat) (w0 : World) (bf br bw bt : Nat) : Prop := ∀ (t : Sq) (F W : List Sq) (R : List Int) (w : World), chB d t = true → F.length + 1 + W.length + 10 * R.length ≤ 20001 → KE w0 bf br bw bt F W R w →
  Calls Tryd.prog 31 #[.agg #[.int .i64 t.k, .int .i64 t.n], .pointer (some ⟨bf, 0, none⟩), .pointer (some ⟨br, 0, none⟩), .pointer (some ⟨bw, 0, none⟩), .pointer (some ⟨bt, 0, none⟩)] w fun e w' => TeE w0 bf br bw bt F W (tel d t R) e w'
section
variable {w0 : World} {bf br bw bt : Nat} {F W : List Sq} {R : List Int} {v : Int} {w : World}
set_option maxHeartbeats 1000000 in
/-- No rule is left. -/
theorem tell_nil (ht0 : TabR w0) (h : KE w0 bf br bw bt F W [] w) :
    Calls Tryd.prog 31 #[.agg #[.int .i64 1, .int .i64 v], .pointer (some ⟨bf, 0, none⟩), .pointer (some ⟨br, 0, none⟩), .pointer (some ⟨bw, 0, none⟩), .pointer (some ⟨bt, 0, none⟩)] w fun e w' => e = wrY ∧ Below w0.heap.size w0 w' := by
  obtain ⟨A, n, c, vf, vw, h⟩ := h
  obtain rfl : n = 0 := h.rl.symm
  have h1 := h.below (bel_alloc (Below.refl _ w) (.cells #[.int .i64 1, .int .i64 v] 33))
  have r1 := fun w => rep_nil (v := v) (A := A) (c := c) w
  have c1 := cell_of_one h.r
  have l1 := lt_of_block h.r
  have HB := Lib.hid h1.bel
  clear h h1
  go_enter Tryd.func31, Tryd.ntmps31
  go_wp2_with fail
  ((with_reducible refine (r1 _).mono ?_))
  rintro e w1 ⟨he, hb1⟩
  unfold wrY at he
  subst he
  have HB1 := Lib.hid (bel_trans HB.out hb1)
  clear hb1 r1
  go_wp2
  exact ⟨rfl, rfl, HB1.out⟩
set_option maxHeartbeats 1000000 in
/-- The rule is none of the variable. -/
theorem tell_no {i : Int} (ht0 : TabR w0) (hi : isR v i = false) (h : KE w0 bf br bw bt F W (i :: R) w) :
    Calls Tryd.prog 31 #[.agg #[.int .i64 1, .int .i64 v], .pointer (some ⟨bf, 0, none⟩), .pointer (some ⟨br, 0, none⟩), .pointer (some ⟨bw, 0, none⟩), .pointer (some ⟨bt, 0, none⟩)] w fun e w' => e = wrY ∧ Below w0.heap.size w0 w' := by
  obtain ⟨A, n, c, vf, vw, h⟩ := h
  obtain ⟨b, o, rfl, c0⟩ := h.rr 0 i rfl
  rw [Nat.add_zero] at c0
  obtain ⟨N, hN⟩ : ∃ N, R.length = N := ⟨_, rfl⟩
  obtain rfl : N + 1 = n := by rw [← hN]; exact h.rl
  have h1 := h.below (bel_alloc (Below.refl _ w) (.cells #[.int .i64 1, .int .i64 v] 33))
  have r1 := rep_no (n := N) (c := c) hi (bel_cell h1.bel c0) (ht0.below h1.bel)
  have c1 := cell_of_one h.r
  have l1 := lt_of_block h.r
  have HB := Lib.hid h1.bel
  clear h h1 c0 hi hN ht0
  go_enter Tryd.func31, Tryd.ntmps31
  go_wp2_with fail
  ((with_reducible refine r1.mono ?_))
  rintro e w1 ⟨he, hb1⟩
  unfold wrY at he
  subst he
  have HB1 := Lib.hid (bel_trans HB.out hb1)
  clear hb1 r1
  go_wp2
  exact ⟨rfl, rfl, HB1.out⟩
theorem ri_tail {w : World} {b o : Nat} {i : Int} {R : List Int} (h : Ri w (some ⟨b, o, none⟩) (i :: R)) : Ri w (some ⟨b, o + 1, none⟩) R := fun j x hj => by
  obtain ⟨b', o', e, c0⟩ := h (j + 1) x (by simpa using hj)
  obtain ⟨rfl, rfl⟩ : b = b' ∧ o = o' := by simpa using e
  exact ⟨b, o + 1, rfl, by rw [Nat.add_assoc, Nat.add_comm 1 j]; exact c0⟩
/-- The next rule comes: the slice of the others. -/
theorem Kx.next1 {i : Int} {b o N : Nat} {vf vw : Value} (h : Kx w0 bf br bw bt F W (i :: R) (some ⟨b, o, none⟩) (N + 1) 1 vf vw w) :
    Kx w0 bf br bw bt F W R (some ⟨b, o, none⟩) N 0 vf vw (w.setCell ⟨br, 0, none⟩ (.slice (some ⟨b, o, none⟩) N 0)) := by
  have h1 := h.rl
  have h2 := h.rc
  rw [List.length_cons] at h1
  obtain rfl : N = 0 := by omega
  obtain rfl : R = [] := List.eq_nil_of_length_eq_zero (by omega)
  exact h.setR (Ri.nil _ _) rfl (Nat.le_refl _)
theorem Kx.next2 {i : Int} {b o N c : Nat} {vf vw : Value} (h : Kx w0 bf br bw bt F W (i :: R) (some ⟨b, o, none⟩) (N + 1) (c + 2) vf vw w) :
    Kx w0 bf br bw bt F W R (some ⟨b, o + 1, none⟩) N (c + 1) vf vw (w.setCell ⟨br, 0, none⟩ (.slice (some ⟨b, o + 1, none⟩) N (c + 1))) := by
  have h1 := h.rl
  have h2 := h.rc
  rw [List.length_cons] at h1
  exact h.setR (ri_tail h.rr) (by omega) (by omega)
set_option maxHeartbeats 1000000 in
/-- A rule without symbols. -/
theorem tell_empty {i : Int} (ht0 : TabR w0) (hi : isR v i = true) (hs : symI i = []) (h : KE w0 bf br bw bt F W (i :: R) w) :
    Calls Tryd.prog 31 #[.agg #[.int .i64 1, .int .i64 v], .pointer (some ⟨bf, 0, none⟩), .pointer (some ⟨br, 0, none⟩), .pointer (some ⟨bw, 0, none⟩), .pointer (some ⟨bt, 0, none⟩)] w fun e w' => TeE w0 bf br bw bt F W (some ([], [], R)) e w' := by
  obtain ⟨A, n, c, vf, vw, h⟩ := h
  obtain ⟨b, o, rfl, c0⟩ := h.rr 0 i rfl
  rw [Nat.add_zero] at c0
  obtain ⟨N, hN⟩ : ∃ N, R.length = N := ⟨_, rfl⟩
  obtain rfl : N + 1 = n := by rw [← hN]; exact h.rl
  have hrc := h.rc
  have h1 := h.below (bel_alloc (Below.refl _ w) (.cells #[.int .i64 1, .int .i64 v] 33))
  have r1 := rep_yes (n := N) (c := c) hi hs (m := 0) rfl (bel_cell h1.bel c0) (ht0.below h1.bel)
  have c1 := cell_of_one h.r
  have l1 := lt_of_block h.r
  have HK := Lib.hid h1
  have hcc : (c = 1 ∧ N = 0) ∨ ∃ c', c = c' + 2 := by
    by_cases e : c = 1
    · exact .inl ⟨e, by omega⟩
    · exact .inr ⟨c - 2, by omega⟩
  clear h h1 c0 hi hN ht0 hs
  rcases hcc with ⟨rfl, rfl⟩ | ⟨c', rfl⟩
  all_goals
    go_enter Tryd.func31, Tryd.ntmps31
    go_wp2_with fail
    ((with_reducible refine r1.mono ?_))
    rintro e w1 ⟨B, d, rfl, hb1, -, -⟩
    have hk1 := HK.out.below hb1
    have c2 := cell_of_one hk1.r
    have g2 := free_of_one hk1.r
    have hk2 := by first | exact hk1.next1 | exact hk1.next2
    have HK2 := Lib.hid hk2
    clear hb1 r1 hk1 c1 hk2
    go_wp2
    go_end0
    exact ⟨rfl, _, _, _, _, _, by rw [List.append_nil]; exact HK2.out⟩
/-- A symbol has to wait, told by append's law at a step of a region. -/
theorem Kx.lies {A : Option Addr} {n c : Nat} {vf vw : Value} (h : Kx w0 bf br bw bt F W R A n c vf vw w) {t : Sq} {g cap H : Nat} {w1 : World} (hg : w.grownBy w1 vw.ownBlock) (hat : vw.ownBlock = some g ∨ g = H) (hH : w.heap.size = H)
    (ho : w1.ownsRow w0.heap.size 33 2 (.slice (some ⟨g, 0, none⟩) (W.length + 1) cap) (W.length + 1) (cly W.reverse ++ [.int .i64 t.k, .int .i64 t.n])) :
    Gro w vw w1 (.slice (some ⟨g, 0, none⟩) (W.length + 1) cap) ∧ w1.heap[bw]? = some (.cells #[vw] 24 (0, 0)) ∧ Kx w0 bf br bw bt F (t :: W) R A n c vf (.slice (some ⟨g, 0, none⟩) (W.length + 1) cap) (w1.setCell ⟨bw, 0, none⟩ (.slice (some ⟨g, 0, none⟩) (W.length + 1) cap)) := by
  have hG : Gro w vw w1 (.slice (some ⟨g, 0, none⟩) (W.length + 1) cap) := ⟨hg, by
    rcases hat with e | e
    · exact .inl (by rw [e]; rfl)
    · exact .inr ⟨g, rfl, by omega⟩⟩
  obtain ⟨h1, h2⟩ := h.push (t := t) hG (by rw [cly_append]; exact ho)
  exact ⟨hG, h1, h2⟩
/-- The boxes, the waiting ones' row in no block bb. -/
def KN (w0 : World) (bf br bw bt bb : Nat) (F W : List Sq) (R : List Int) (w : World) : Prop := ∃ A n c vf vw, Kx w0 bf br bw bt F W R A n c vf vw w ∧ vw.ownBlock ≠ some bb
set_option maxHeartbeats 4000000 in
/-- A rule with symbols: all but the first wait, the first is told. -/
theorem tell_deep {d : Nat} {i : Int} {u : Sq} {l : List Sq} {x : Option (List Sq × List Sq × List Int)} (ht0 : TabR w0) (hd : AnsT d w0 bf br bw bt) (hc : chB d u = true) (hi : isR v i = true) (hs : symI i = u :: l) (hx : tel d u R = x)
    (hlen : F.length + 1 + W.length + 10 * (R.length + 1) ≤ 20001) (h : KE w0 bf br bw bt F W (i :: R) w) :
    Calls Tryd.prog 31 #[.agg #[.int .i64 1, .int .i64 v], .pointer (some ⟨bf, 0, none⟩), .pointer (some ⟨br, 0, none⟩), .pointer (some ⟨bw, 0, none⟩), .pointer (some ⟨bt, 0, none⟩)] w fun e w' => TeE w0 bf br bw bt F W (x.map fun y => (y.1, y.2.1 ++ l, y.2.2)) e w' := by
  obtain ⟨A, n, c, vf, vw, h⟩ := h
  obtain ⟨b, o, rfl, c0⟩ := h.rr 0 i rfl
  rw [Nat.add_zero] at c0
  obtain ⟨N, hN⟩ : ∃ N, R.length = N := ⟨_, rfl⟩
  obtain rfl : N + 1 = n := by rw [← hN]; exact h.rl
  obtain ⟨M, hM⟩ : ∃ M, l.length = M := ⟨_, rfl⟩
  have hM9 : M ≤ 9 := by have := tlI_len i; rw [hs, List.length_cons, hM] at this; omega
  have hrc := h.rc
  have h1 := h.below (bel_alloc (Below.refl _ w) (.cells #[.int .i64 1, .int .i64 v] 33))
  have r1 := rep_yes (n := N) (c := c) hi hs (m := M + 1) (by rw [List.length_cons, hM]) (bel_cell h1.bel c0) (ht0.below h1.bel)
  have r2 := fun w (hK : KE w0 bf br bw bt F (l ++ W) R w) => hd u F (l ++ W) R w hc (by rw [List.length_append]; omega) hK
  rw [hx] at r2
  have c1 := cell_of_one h.r
  have l1 := lt_of_block h.r
  have l2 := lt_of_block h.q
  have hoq := h.oq
  have HK := Lib.hid h1
  have HN := Lib.hid hN
  have HM := Lib.hid hM
  have HOQ := Lib.hid hoq
  have hcc : (c = 1 ∧ N = 0) ∨ ∃ c', c = c' + 2 := by
    by_cases e : c = 1
    · exact .inl ⟨e, by omega⟩
    · exact .inr ⟨c - 2, by omega⟩
  obtain ⟨i0, hI, hz0, hz1, hz2⟩ := info_parts infoSym
  have HI := Lib.hid hI
  have HI0 := Lib.hid hz0
  have HI1 := Lib.hid hz1
  have HI2 := Lib.hid hz2
  have q0 : ((M : Int) + 1 == 0) = false := by simp; omega
  clear h h1 c0 hi hN ht0 hs hx hd hM hoq hI hz0 hz1 hz2
  rcases hcc with ⟨rfl, rfl⟩ | ⟨c', rfl⟩
  all_goals
    go_enter Tryd.func31, Tryd.ntmps31
    go_wp2_with fail
    ((with_reducible refine r1.mono ?_))
    rintro e w1 ⟨B, d, rfl, hb1, hs1, hl1⟩
    obtain ⟨bb, ob, rfl, d0, d1⟩ := hs1 0 u rfl
    have hbb : w.heap.size + 1 ≤ bb := by have := hl1 bb ob rfl; rwa [World.size_alloc] at this
    have hk1 := HK.out.below hb1
    have c2 := cell_of_one hk1.r
    have g2 := free_of_one hk1.r
    have hk2 := by first | exact hk1.next1 | exact hk1.next2
    have HK2 := Lib.hid hk2
    have HS2 := Lib.hid (fun y => hs1.setc (g := br) (j := 0) (by omega) y)
    have hne : vw.ownBlock ≠ some bb := fun e => by have := (HOQ.out.lt bb e).2; omega
    have HNE := Lib.hid hne
    clear hb1 r1 hk1 c1 hk2 hs1 hl1 d0 d1 hne
    go_wp2_with fail
    go_loopw [7] (fun q wr => ∃ j : Nat, q = .int .i64 j ∧ j ≤ M ∧ Hid (KN w0 bf br bw bt bb F ((u :: l).drop (j + 1) ++ W) R wr) ∧ Hid (Sr wr (some ⟨bb, ob, none⟩) (u :: l))) (fun q _ => (intOf q).toNat)
    case atStart => exact ⟨M, rfl, Nat.le_refl _, Lib.hid ⟨_, _, _, _, _, by rw [List.drop_eq_nil_of_le (by rw [List.length_cons, HM.out]; exact Nat.le_refl _)]; exact HK2.out, HNE.out⟩, Lib.hid (HS2.out _)⟩
    case round =>
      clear HS2 HNE HK2 HK c2 g2
      obtain ⟨j, rfl, hj, hK, hS⟩ := hrel
      obtain ⟨A3, n3, c3, vf3, vw3, k3, ne3⟩ := hK.out
      by_cases h0 : 0 < j
      · obtain ⟨k, hk⟩ : ∃ k, j = k + 1 := ⟨j - 1, by omega⟩
        obtain ⟨t, ht⟩ : ∃ t, (u :: l)[j]? = some t := ⟨_, List.getElem?_eq_getElem (by rw [List.length_cons, HM.out]; omega)⟩
        obtain ⟨b', o', ee, e0, e1⟩ := hS.out j t ht
        obtain ⟨rfl, rfl⟩ : bb = b' ∧ ob = o' := by simpa using ee
        have hlb := World.block_lt_of_cell? _ _ e0
        have hdrop : (u :: l).drop (k + 1) ++ W = t :: ((u :: l).drop (j + 1) ++ W) := by
          obtain ⟨h1, h2⟩ := List.getElem?_eq_some_iff.1 ht
          rw [← hk, List.drop_eq_getElem_cons h1, h2]; rfl
        have hlw : ((u :: l).drop (j + 1) ++ W).length ≤ 30000 := by rw [List.length_append, List.length_drop, List.length_cons, HM.out]; omega
        obtain ⟨D, hDD⟩ : ∃ D, (u :: l).drop (j + 1) ++ W = D := ⟨_, rfl⟩
        rw [hDD] at k3 hdrop hlw
        clear hDD
        have q1 : (0 : Int) < (j : Int) := by omega
        have q2 : (j : Int) - 1 = (k : Int) := by omega
        have q3 : j < M + 1 := by omega
        have cq := cell_of_one k3.q
        have lq := lt_of_block k3.q
        have ka := k3.below (bel_two wr (.cells #[.int .i64 t.k, .int .i64 t.n] 33))
        have hz := ka.bel.size
        have HA := Lib.hid ka
        have HSA := Lib.hid (hS.out.below (bel_two wr (.cells #[.int .i64 t.k, .int .i64 t.n] 33)))
        have HD := Lib.hid hdrop
        have NE3 := Lib.hid ne3
        have HJ := Lib.hid hk
        have q4 : (j : Int) < (M : Int) + 1 := by omega
        clear hK hS k3 ka ht hdrop ee ne3 hk
        go_wp2_with fail
        go_region_law (first
          | (refine step_append_lies _ (by rfl) _ _ _ (by rfl) w0.heap.size 33 i0 _ 2 16 Tryd.underlying24 HI.out HI0.out HI1.out HI2.out rfl (by decide) vw3 _ _ (by rfl) HA.out.oq
              ⟨wr.heap.size, 0, none⟩ 1 1 [.int .i64 t.k, .int .i64 t.n] (by rfl) (by rfl) (World.news_of_block (cs := #[.int .i64 t.k, .int .i64 t.n]) (t := 33) (fr := (0, 0)) (heap_alloc_new wr.drew _)) (by simp [Value.oneCell'])
              (by decide) (by unfold maxLen; omega) (by omega) hz (wr.heap.size + 1) (by simp) ?_; intro gg cap w3 ho hg hat hlt3
             obtain ⟨hG, f3, hn⟩ := HA.out.lies (t := t) hg hat (by simp) ho
             have HG := Lib.hid hG
             have HN3 := Lib.hid hn
             have c4 := cell_of_one f3
             have g4 := free_of_one f3
             clear ho hg hn hG f3))
        all_goals
          have hne : gg ≠ bb := fun e => by
            rcases hat with h | h
            · rw [e] at h; exact NE3.out h
            · omega
          have HNE3 := Lib.hid (show (Value.slice (some ⟨gg, 0, none⟩) (D.length + 1) cap).ownBlock ≠ some bb from fun e => hne (by injection e))
          have HS3 := Lib.hid (fun y => (HSA.out.gro HG.out (fun b o e => by cases e; exact NE3.out)).setc (g := bw) (j := 0) (by omega) y)
          clear hat hne cq e0 e1
          go_wp2_with fail
          go_roundw
          case rel => exact ⟨k, rfl, by omega, Lib.hid ⟨_, _, _, _, _, by rw [HD.out]; exact HN3.out, HNE3.out⟩, Lib.hid (HS3.out _)⟩
          case measure => simp [intOf]; omega
      · obtain rfl : j = 0 := by omega
        obtain ⟨b', o', ee, e0, e1⟩ := hS.out 0 u rfl
        obtain ⟨rfl, rfl⟩ : bb = b' ∧ ob = o' := by simpa using ee
        rw [Nat.zero_mul, Nat.add_zero] at e0 e1
        have r3 := fun w' (hb : Below wr.heap.size wr w') => r2 w' ⟨_, _, _, _, _, k3.below hb⟩
        have ct := cell_of_one k3.t
        unfold fnY at ct
        have lt := lt_of_block k3.t
        clear hK hS k3 ee r2
        go_wp2_with fail
        go_still_tail 4, (by kernel_rfl)
        change wpList _ _ _ _ _ wr.drew
        go_wp2_with fail
        ((with_reducible refine (r3 _ (Below.refl _ _).drew).mono ?_))
        rintro e w3 hte
        cases x with
        | none =>
          obtain ⟨he, hb⟩ := hte
          unfold wrY at he
          subst he
          have HB3 := Lib.hid hb
          clear hb r3
          go_wp2
          exact ⟨rfl, rfl, HB3.out⟩
        | some y =>
          obtain ⟨⟨q, p, Z⟩, rfl⟩ : ∃ z, z = y := ⟨_, rfl⟩
          obtain ⟨rfl, hk⟩ := hte
          have HK3 := Lib.hid hk
          clear hk r3
          go_wp2
          go_end0
          exact ⟨rfl, by rw [List.append_assoc]; exact HK3.out⟩
end
theorem ansT_all {w0 : World} {bf br bw bt : Nat} (ht0 : TabR w0) : ∀ d, AnsT d w0 bf br bw bt
  | 0 => fun t F W R w hc hl h => by
    have hk : t.k ≠ 1 := by simpa [chB] using hc
    rw [tel_leaf 0 R hk]
    exact tell_leaf hk (by omega) h
  | d + 1 => fun t F W R w hc hl h => by
    by_cases hk : t.k = 1
    · cases R with
      | nil =>
        rw [tel_nil d hk]
        obtain ⟨k, n⟩ := t
        change k = 1 at hk
        subst hk
        exact tell_nil ht0 h
      | cons i R =>
        cases hi : isR t.n i
        · rw [tel_no d R hk hi]
          obtain ⟨k, n⟩ := t
          change k = 1 at hk
          subst hk
          exact tell_no ht0 hi h
        · cases hs : symI i with
          | nil =>
            rw [tel_empty d R hk hi hs]
            obtain ⟨k, n⟩ := t
            change k = 1 at hk
            subst hk
            exact tell_empty ht0 hi hs h
          | cons u l =>
            rw [tel_deep d R hk hi hs]
            have hcu := ch_next hc hk hi hs
            obtain ⟨k, n⟩ := t
            change k = 1 at hk
            subst hk
            exact tell_deep ht0 (ansT_all ht0 d) hcu hi hs rfl hl h
    · rw [tel_leaf (d + 1) R hk]
      exact tell_leaf hk (by omega) h
end Go.Proofs.YtcipfipfamecmaaDoor
