/- Package yield: Derives; the common beginning: awake. -/
import Derived.Test.YtcipfipfamecmaaDoorYieE
import Derived.Test.YtcipfipfamecmaaDoorYieN
import Derived.StillTailTactics
namespace Go.Proofs.YtcipfipfamecmaaDoor
open Go.RowKit
set_option linter.unusedVariables false
set_option maxRecDepth 100000

set_option maxHeartbeats 1000000 in
theorem derives_any {w : World} {A A2 : Option Addr} {n c n2 c2 : Nat} {R L : List Int} {X : List Sq} {is r : Bool} (hf : Ful R X is) (hr : derB is X L = r) (hl : R.length = n) (hc : n ≤ c) (hn : n ≤ 2000) (hA : Ri w A R) (hl2 : L.length = n2) (hn2 : n2 ≤ 1000) (hA2 : Ri w A2 L) (ht : TabR w) :
    Calls Tryd.prog 17 #[.slice A n c, .slice A2 n2 c2] w fun e w' => e = .returned (.bool r) ∧ Below w.heap.size w w' := by
  obtain ⟨Y, hY⟩ : ∃ Y, plS X = Y := ⟨_, rfl⟩
  obtain ⟨m, hm⟩ : ∃ m, Y.length = m := ⟨_, rfl⟩
  have r1 := yield_any (c := c) hf hY hm hl hc hn hA ht
  have hm2 : m ≤ 20001 := by have h1 := ful_len hf; have h2 := plS_le X; rw [hY] at h2; omega
  rw [derB, hY] at hr
  have HA2 := Lib.hid hA2
  have HT := Lib.hid ht
  clear hf hY hl hc hn hA ht hA2
  cases is
  · have hr : false = r := hr
    subst hr
    clear hm hl2 hm2
    go_enter Tryd.func17, Tryd.ntmps17
    go_wp2_with fail
    ((with_reducible refine r1.mono ?_))
    rintro e w1 ⟨B, d, rfl, hb1, hs1, -⟩
    have HB1 := Lib.hid hb1
    clear hb1 hs1 r1
    go_wp2_with fail
    go_ret
    exact ⟨rfl, HB1.out⟩
  · by_cases hmn : m = n2
    · subst hmn
      have q1 : ((m : Int) != (m : Int)) = false := by simp
      rw [Bool.true_and, hm, hl2, decide_eq_true rfl, Bool.true_and] at hr
      have HR := Lib.hid hr
      have HM := Lib.hid hm
      have HL := Lib.hid hl2
      clear hr hm hl2
      go_enter Tryd.func17, Tryd.ntmps17
      go_wp2_with fail
      ((with_reducible refine r1.mono ?_))
      rintro e w1 ⟨B, d, rfl, hb1, hs1, -⟩
      have HB1 := Lib.hid hb1
      have HS1 := Lib.hid hs1
      clear hb1 hs1 r1
      go_wp2_with fail
      go_loopw [25] (fun q wr => ∃ k : Nat, q = .int .i64 k ∧ k ≤ m ∧ Hid (fitA (hdL L) k (Y.drop k) = r) ∧ Below w1.heap.size w1 wr) (fun q _ => m - (intOf q).toNat)
      case atStart => exact ⟨0, rfl, Nat.zero_le _, by rw [List.drop_zero]; exact HR, Below.refl _ _⟩
      case round =>
        obtain ⟨k, rfl, hk, hg, hB⟩ := hrel
        by_cases hlt : k < m
        · obtain ⟨t, htt⟩ : ∃ t, Y[k]? = some t := ⟨_, List.getElem?_eq_getElem (by rw [HM.out]; exact hlt)⟩
          obtain ⟨x, hx⟩ : ∃ x, L[k]? = some x := ⟨_, List.getElem?_eq_getElem (by rw [HL.out]; exact hlt)⟩
          obtain ⟨b, o, rfl, c0, c1⟩ := (HS1.out.below hB) k t htt
          have hbw := bel_trans HB1.out hB
          obtain ⟨b2, o2, rfl, e0⟩ := (HA2.out.below hbw) k x hx
          have hg' := hg.out
          rw [fitA_drop htt, hdL_some hx] at hg'
          have q2 : (k : Int) < (m : Int) := by omega
          obtain ⟨y, hy⟩ : ∃ y, fitK x t = y := ⟨_, rfl⟩
          rw [hy] at hg'
          have hb3 := bel_two' wr (.cells #[.int .i64 t.k, .int .i64 t.n] 33)
          have r2 := pfits_any (t := t) hy (w := (wr.alloc (.cells #[.int .i64 t.k, .int .i64 t.n] 33)).drew) (HT.out.below (bel_trans hbw hb3))
          have HB3 := Lib.hid (bel_trans hbw hb3)
          have HBB3 := Lib.hid (bel_trans hB hb3)
          have ez := bel_cell (bel_alloc (Below.refl _ wr) (.cells #[.int .i64 t.k, .int .i64 t.n] 33)) e0
          have z0 : (wr.alloc (.cells #[.int .i64 t.k, .int .i64 t.n] 33)).cell? ⟨wr.heap.size, 0, none⟩ = some (.int .i64 t.k) := by simp [go_sem]
          have z1 : (wr.alloc (.cells #[.int .i64 t.k, .int .i64 t.n] 33)).cell? ⟨wr.heap.size, 1, none⟩ = some (.int .i64 t.n) := by simp [go_sem]
          clear htt hx hg hbw hb3 hy hB e0
          cases y
          · have hr2 : false = r := hg'
            subst hr2
            clear hg'
            go_wp2_with fail
            generalize wr.alloc (.cells #[.int .i64 t.k, .int .i64 t.n] 33) = W4 at ez z0 z1 r2 HB3 HBB3 ⊢
            go_still_tail 5, (by kernel_rfl)
            change wpList _ _ _ _ _ W4.drew
            go_wp2_with fail
            ((with_reducible refine r2.mono ?_))
            rintro e w3 ⟨rfl, hb4⟩
            have HB4 := Lib.hid (bel_trans HB3.out hb4)
            clear hb4 r2
            go_wp2_with fail
            go_ret
            exact ⟨rfl, HB4.out⟩
          · have HG := Lib.hid (show fitA (hdL L) (k + 1) (Y.drop (k + 1)) = r from hg')
            clear hg'
            go_wp2_with fail
            generalize wr.alloc (.cells #[.int .i64 t.k, .int .i64 t.n] 33) = W4 at ez z0 z1 r2 HB3 HBB3 ⊢
            go_still_tail 5, (by kernel_rfl)
            change wpList _ _ _ _ _ W4.drew
            go_wp2_with fail
            ((with_reducible refine r2.mono ?_))
            rintro e w3 ⟨rfl, hb4⟩
            have HB4 := Lib.hid (bel_trans HBB3.out hb4)
            clear hb4 r2
            go_wp2_with fail
            go_roundw
            case rel => exact ⟨k + 1, by go_num, by omega, HG, HB4.out⟩
            case measure => simp [intOf]; omega
        · obtain rfl : k = m := by omega
          have hg' := hg.out
          rw [List.drop_eq_nil_of_le (by rw [HM.out]; exact Nat.le_refl _), fitA] at hg'
          subst hg'
          have HB3 := Lib.hid (bel_trans HB1.out hB)
          clear hg hB
          go_wp2_with fail
          go_ret
          exact ⟨rfl, HB3.out⟩
    · have q1 : ((m : Int) != (n2 : Int)) = true := by simp; omega
      rw [Bool.true_and, hm, hl2, decide_eq_false hmn, Bool.false_and] at hr
      subst hr
      clear hm hl2 hmn
      go_enter Tryd.func17, Tryd.ntmps17
      go_wp2_with fail
      ((with_reducible refine r1.mono ?_))
      rintro e w1 ⟨B, d, rfl, hb1, hs1, -⟩
      have HB1 := Lib.hid hb1
      clear hb1 hs1 r1
      go_wp2_with fail
      go_ret
      exact ⟨rfl, HB1.out⟩
/-- What rules derive, with fuel. -/
def derF : Nat → List Sq → List Int → Option (List Sq × List Int × Bool)
  | 0, _, _ => none
  | _ + 1, [], R => some ([], R, true)
  | n + 1, t :: S, R => if t.k = 1 then (match R with | [] => some ([], [], false) | i :: R' => if isR t.n i then derF n (symI i ++ S) R' else some ([], i :: R', false)) else (derF n S R).map fun x => (t :: x.1, x.2)
theorem derF_der : ∀ (n : Nat) (S : List Sq) (R : List Int) {o : List Sq} {Z : List Int} {f : Bool}, derF n S R = some (o, Z, f) → Der S R o Z f := by
  intro n
  induction n with
  | zero => intro S R o Z f e; cases e
  | succ n ih =>
    intro S R o Z f e
    cases S with
    | nil => rw [derF] at e; cases e; exact .nil
    | cons t S =>
      by_cases hk : t.k = 1
      · cases R with
        | nil => simp only [derF, hk, if_true] at e; cases e; exact .none hk
        | cons i R =>
          simp only [derF, if_pos hk] at e
          cases hi : isR t.n i
          · rw [hi, if_neg (by simp)] at e; cases e; exact .stop hk hi
          · rw [hi, if_pos rfl] at e; exact .var hk hi (ih _ _ e)
      · have e : (derF n S R).map (fun x => (t :: x.1, x.2)) = some (o, Z, f) := by
          simp only [derF, if_neg hk] at e; exact e
        rw [Option.map_eq_some_iff] at e
        obtain ⟨⟨o', Z', f'⟩, e1, e2⟩ := e
        cases e2
        exact .put hk (ih _ _ e1)
/-- The chapter's example. -/
def docR : List Int := [0, 3, 41, 44, 46, 23, 21, 48, 42, 1]
def docB : Bool := match derF 60 docS docR with
  | some (o, Z, f) => f && Z.isEmpty && o.length == 7 && (plS o).length == 3 && derB true o [12, 23, 14]
  | none => false
theorem docB_eq : docB = true := by decide +kernel
theorem ful_doc : ∃ X, Ful docR X true ∧ X.length = 7 ∧ (plS X).length = 3 ∧ derB true X [12, 23, 14] = true := by
  have h := docB_eq
  unfold docB at h
  cases e : derF 60 docS docR with
  | none => rw [e] at h; cases h
  | some y =>
    obtain ⟨o, Z, f⟩ := y
    rw [e] at h
    simp only [Bool.and_eq_true, beq_iff_eq, List.isEmpty_iff] at h
    obtain ⟨⟨⟨⟨rfl, rfl⟩, h3⟩, h4⟩, h5⟩ := h
    exact ⟨o, Ful.of (derF_der _ _ _ e), h3, h4, h5⟩
theorem ful_cut : Ful [3, 41, 44, 46, 23, 21, 48, 42, 1] [] false := by
  obtain ⟨X, is, h⟩ := ful_ex [3, 41, 44, 46, 23, 21, 48, 42, 1]
  have hi : is = false := h.not fun X d => by
    obtain ⟨R', e, -⟩ := doc_der d
    injection e with e1
    exact absurd e1 (by decide)
  subst hi
  have := h.no
  rw [this] at h
  exact h
/-- A block of ints, as a row. -/
theorem ri_block {w : World} {g : Nat} (l : List Int) {t : TypeId} {fr : Nat × Nat} (h : w.heap[g]? = some (.cells (l.map iv).toArray t fr)) : Ri w (some ⟨g, 0, none⟩) l := fun j x hj => by
  refine ⟨g, 0, rfl, ?_⟩
  rw [Nat.zero_add]
  simp only [World.cell?, h]
  have : ((l.map iv).toArray)[j]? = some (iv x) := by simp [hj]
  simpa [iv] using this
end Go.Proofs.YtcipfipfamecmaaDoor
