/- The contract of lex.Lex, in its three ways; rows of tokens. -/
import Derived.Test.YtcedfonkahffcaaGreatLexE
import Derived.StillTailTactics
namespace Go.Proofs.YtcedfonkahffcaaGreat
open Go.RowKit Go.Shelf
set_option linter.unusedVariables false

/-- A token as it lies in a row. -/
structure Tq where
  k : Int
  v : ByteArray
  a : Int
  z : Int
def Yl.q (y : Yl) : Tq := ⟨y.t.k, mkb y.t.v, y.a, y.z⟩
/-- A row of tokens from A on. -/
def Tr (w : World) (A : Option Addr) (ts : List Tq) : Prop := ∀ j t, ts[j]? = some t → ∃ b o : Nat, A = some ⟨b, o, none⟩ ∧
  w.cell? ⟨b, o + j * 4, none⟩ = some (.int .i64 t.k) ∧ w.cell? ⟨b, o + j * 4 + 1, none⟩ = some (.string t.v) ∧ w.cell? ⟨b, o + j * 4 + 2, none⟩ = some (.int .i64 t.a) ∧ w.cell? ⟨b, o + j * 4 + 3, none⟩ = some (.int .i64 t.z)
theorem Tr.nil (w : World) (A : Option Addr) : Tr w A [] := fun j t h => by simp at h
theorem bel_cell {w w' : World} (hb : Below w.heap.size w w') {a : Addr} {v : Value} (h : w.cell? a = some v) : w'.cell? a = some v := (hb.cell (World.block_lt_of_cell? w a h)).trans h
theorem Tr.below {w w' : World} {A : Option Addr} {ts : List Tq} (h : Tr w A ts) (hb : Below w.heap.size w w') : Tr w' A ts := fun j t ht => by
  obtain ⟨b, o, h0, h1, h2, h3, h4⟩ := h j t ht
  exact ⟨b, o, h0, bel_cell hb h1, bel_cell hb h2, bel_cell hb h3, bel_cell hb h4⟩
theorem cls_at {ys : List Yl} {j : Nat} {y : Yl} (h : ys[j]? = some y) : (cls ys)[j * 4]? = some (.int .i64 y.t.k) ∧ (cls ys)[j * 4 + 1]? = some (.string (mkb y.t.v)) ∧ (cls ys)[j * 4 + 2]? = some (.int .i64 y.a) ∧ (cls ys)[j * 4 + 3]? = some (.int .i64 y.z) := by
  induction ys generalizing j with
  | nil => simp at h
  | cons x ys ih =>
    have e : cls (x :: ys) = .int .i64 x.t.k :: .string (mkb x.t.v) :: .int .i64 x.a :: .int .i64 x.z :: cls ys := rfl
    rw [e]
    cases j with
    | zero =>
      obtain rfl : x = y := by simpa using h
      exact ⟨rfl, rfl, rfl, rfl⟩
    | succ j =>
      have := ih (j := j) (by simpa using h)
      rw [show (j + 1) * 4 = j * 4 + 4 by omega]
      exact this
theorem tr_row {w : World} {base n c : Nat} {A : Option Addr} {ys : List Yl} (h : w.ownsRow base 26 4 (.slice A n c) ys.length (cls ys)) : n = ys.length ∧ Tr w A (ys.map Yl.q) := by
  obtain ⟨hl, ⟨h1, h2⟩ | ⟨g, cap, cur, h1, h3, h4, h5, h6, h7, h8⟩⟩ := h
  · injection h1 with h1 h1' h1''
    have hy : ys = [] := List.length_eq_zero_iff.1 h2
    subst hy
    exact ⟨by rw [h1', List.length_nil], Tr.nil _ _⟩
  · injection h1 with h1 h1' h1''
    refine ⟨h1', fun j t ht => ?_⟩
    rw [List.getElem?_map, Option.map_eq_some_iff] at ht
    obtain ⟨y, hy, rfl⟩ := ht
    obtain ⟨e0, e1, e2, e3⟩ := cls_at hy
    have hj : j < ys.length := (List.getElem?_eq_some_iff.1 hy).1
    have key : ∀ (m : Nat) (v : Value), m < ys.length * 4 → (cls ys)[m]? = some v → w.cell? ⟨g, m, none⟩ = some v := by
      intro m v hm hv
      rw [← h8, List.getElem?_take_of_lt hm] at hv
      simp [World.cell?, h4]
      simpa using hv
    refine ⟨g, 0, h1, ?_, ?_, ?_, ?_⟩
    · rw [Nat.zero_add]; exact key _ _ (by omega) e0
    · rw [Nat.zero_add]; exact key _ _ (by omega) e1
    · rw [Nat.zero_add]; exact key _ _ (by omega) e2
    · rw [Nat.zero_add]; exact key _ _ (by omega) e3

theorem badI_all' {l : List UInt8} (h : thru l = l.length) : badI l < 0 := by rw [badI, if_pos h]; decide
theorem lex_yes {s : ByteArray} {Y : List Yl} (hs : s.size ≤ 1000000) (hm : thru s.data.toList = s.data.toList.length) (hY : ylds s.data.toList 0 = Y) (ho : allOk Y = true) (w : World) :
    Calls Tryz.prog 8 #[.string s] w fun e w' => ∃ A c, e = .returned (.tuple #[.slice A Y.length c, .int .i64 0, .int .i64 s.size]) ∧ Below w.heap.size w w' ∧ Tr w' A (Y.map Yl.q) := by
  refine (lex_in s hs w (badI_all' hm)).mono ?_
  rintro e w' ⟨v, er, p, rfl, hb, ⟨h1, rfl, rfl, h4⟩ | ⟨h1, _⟩⟩
  · rw [hY] at h4
    obtain ⟨A, c, rfl⟩ := row_slice h4
    exact ⟨A, c, rfl, hb, (tr_row h4).2⟩
  · rw [hY, ho] at h1; cases h1
theorem lex_no {s : ByteArray} {Y : List Yl} {er p : Int} (hs : s.size ≤ 1000000) (hm : thru s.data.toList = s.data.toList.length) (hY : ylds s.data.toList 0 = Y) (ho : allOk Y = false) (he : errOf Y = (er, p)) (w : World) :
    Calls Tryz.prog 8 #[.string s] w fun e w' => e = .returned (.tuple #[.slice none 0 0, .int .i64 er, .int .i64 p]) ∧ Below w.heap.size w w' := by
  refine (lex_in s hs w (badI_all' hm)).mono ?_
  rintro e w' ⟨v, er', p', rfl, hb, ⟨h1, _⟩ | ⟨h1, rfl, h3, h4⟩⟩
  · rw [hY, ho] at h1; cases h1
  · rw [hY, he] at h3 h4
    dsimp at h3 h4
    subst h3 h4
    exact ⟨rfl, hb⟩
set_option maxHeartbeats 400000 in
theorem lex_bad {s : ByteArray} {b : Int} (hs : s.size ≤ 1000000) (hb : badI s.data.toList = b) (h0 : 0 ≤ b) (w : World) :
    Calls Tryz.prog 8 #[.string s] w fun e w' => e = .returned (.tuple #[.slice none 0 0, .int .i64 2, .int .i64 b]) ∧ Below w.heap.size w w' := by
  have r0 := fun w => bad_any s (by omega) w
  rw [hb] at r0
  clear hb
  go_enter Tryz.func8, Tryz.ntmps8
  go_wp2_with fail
  (with_reducible refine (r0 _).mono ?_)
  rintro e w1 ⟨rfl, hb1⟩
  have R1 := (Rb.new w (.slice none 0 0) 0 0).below hb1
  have q2 := R1.r2.cell
  have q3 := R1.r3.cell
  have q4 := R1.r4.cell
  have g2 := R1.r2.frozen
  have g3 := R1.r3.frozen
  have g4 := R1.r4.frozen
  have hB1 : Below w.heap.size w w1 := ((((Below.refl _ w).alloc (Nat.le_refl _) _).alloc (by simp) _).alloc (by simp; omega) _).trans (hb1.mono (by simp; omega))
  have HR := Lib.hid R1
  clear hb1 R1
  go_wp2
  exact bodyPost_ret (res3 rfl rfl rfl rfl (HR.out.set (.slice none 0 0) 2 b)) rfl ⟨rfl, bel_three hB1 (Nat.le_refl _) _ _ _⟩
end Go.Proofs.YtcedfonkahffcaaGreat

/- Rows of tokens held against each other: alike, slices.EqualFunc, lex.Same; the reference's Same. -/
namespace Go.Proofs.YtcedfonkahffcaaGreat
open Go.RowKit
set_option linter.unusedVariables false

def eqT (t u : Tq) : Bool := (t.k == u.k) && (t.v.toList == u.v.toList)
set_option maxHeartbeats 400000 in
theorem alike_any (t u : Tq) (w : World) :
    Calls Tryz.prog 30 #[.agg #[.int .i64 t.k, .string t.v, .int .i64 t.a, .int .i64 t.z], .agg #[.int .i64 u.k, .string u.v, .int .i64 u.a, .int .i64 u.z]] w fun e w' => e = .returned (.bool (eqT t u)) ∧ Below w.heap.size w w' := by
  cases h1 : (t.k == u.k)
  · have e : eqT t u = false := by simp [eqT, h1]
    rw [e]; clear e
    go_enter Tryz.func30, Tryz.ntmps30
    go_wp2
    go_ret
    exact ⟨by simp, by go_grown⟩
  · have e : eqT t u = (t.v.toList == u.v.toList) := by simp [eqT, h1]
    rw [e]; clear e
    go_enter Tryz.func30, Tryz.ntmps30
    go_wp2
    go_ret
    exact ⟨by simp, by go_grown⟩

/-- Two rows have the same tokens, wherever these stand. -/
def sameT : List Tq → List Tq → Bool
  | [], [] => true
  | t :: ts, u :: us => eqT t u && sameT ts us
  | _, _ => false
theorem sameT_len {ts us : List Tq} (h : ts.length ≠ us.length) : sameT ts us = false := by
  induction ts generalizing us with
  | nil => cases us with
    | nil => exact absurd rfl h
    | cons u us => rfl
  | cons t ts ih => cases us with
    | nil => rfl
    | cons u us =>
      show (eqT t u && sameT ts us) = false
      rw [ih (by simpa using h), Bool.and_false]
/-- The first k are alike. -/
def Sm (ts us : List Tq) (k : Nat) : Prop := ∀ j t u, j < k → ts[j]? = some t → us[j]? = some u → eqT t u = true
theorem Sm.start (ts us : List Tq) : Sm ts us 0 := fun j t u hj => by omega
theorem Sm.succ {ts us : List Tq} {k : Nat} {t u : Tq} (h : Sm ts us k) (ht : ts[k]? = some t) (hu : us[k]? = some u) (e : eqT t u = true) : Sm ts us (k + 1) := fun j t' u' hj ht' hu' => by
  by_cases hk : j = k
  · subst hk; rw [ht] at ht'; rw [hu] at hu'; cases ht'; cases hu'; exact e
  · exact h j t' u' (by omega) ht' hu'
theorem sameT_no {ts us : List Tq} {k : Nat} {t u : Tq} (ht : ts[k]? = some t) (hu : us[k]? = some u) (e : eqT t u = false) : sameT ts us = false := by
  induction ts generalizing us k with
  | nil => simp at ht
  | cons x ts ih => cases us with
    | nil => rfl
    | cons y us =>
      show (eqT x y && sameT ts us) = false
      cases k with
      | zero =>
        obtain rfl : x = t := by simpa using ht
        obtain rfl : y = u := by simpa using hu
        rw [e]; rfl
      | succ k => rw [ih (k := k) (by simpa using ht) (by simpa using hu), Bool.and_false]
theorem Sm.end {ts us : List Tq} (h : Sm ts us ts.length) (hl : ts.length = us.length) : sameT ts us = true := by
  induction ts generalizing us with
  | nil => cases us with
    | nil => rfl
    | cons u us => simp at hl
  | cons t ts ih => cases us with
    | nil => simp at hl
    | cons u us =>
      show (eqT t u && sameT ts us) = true
      rw [h 0 t u (by simp) rfl rfl, Bool.true_and]
      exact ih (fun j t' u' hj h1 h2 => h (j + 1) t' u' (by simp; omega) h1 h2) (by simpa using hl)

set_option maxHeartbeats 1000000 in
set_option maxRecDepth 100000 in
theorem eqf_any {w : World} {A B : Option Addr} {n m c d : Nat} {ts us : List Tq} (ha : Tr w A ts) (hb : Tr w B us) (hn : ts.length = n) (hm : us.length = m) (hz : n ≤ 1000000000) (hz2 : m ≤ 1000000000) :
    Calls Tryz.prog 29 #[.slice A n c, .slice B m d, .func (.func 30) #[] #[]] w fun e w' => e = .returned (.bool (sameT ts us)) ∧ Below w.heap.size w w' := by
  by_cases hl : n = m
  · obtain ⟨S, hS⟩ : ∃ S, sameT ts us = S := ⟨_, rfl⟩
    rw [hS]
    have HS := Lib.hid hS
    have HN := Lib.hid hn
    have HM := Lib.hid hm
    have HA := Lib.hid ha
    have HB := Lib.hid hb
    have HL := Lib.hid hl
    clear hS hn hm ha hb
    subst hl
    go_enter Tryz.func29, Tryz.ntmps29
    go_wp2
    go_loopw [17] (fun i wr => ∃ k : Nat, i = .int .i64 k ∧ k ≤ n ∧ Sm ts us k ∧ Below w.heap.size w wr) (fun i _ => n - (intOf i).toNat)
    case atStart => exact ⟨0, rfl, Nat.zero_le _, Sm.start _ _, Below.refl _ _⟩
    case round =>
      obtain ⟨k, rfl, hk, hsm, hB⟩ := hrel
      have HSM := Lib.hid hsm
      clear hsm
      by_cases hlt : k < n
      · obtain ⟨t, ht⟩ : ∃ t, ts[k]? = some t := ⟨_, List.getElem?_eq_getElem (by rw [HN.out]; exact hlt)⟩
        obtain ⟨u, hu⟩ : ∃ u, us[k]? = some u := ⟨_, List.getElem?_eq_getElem (by rw [HM.out]; exact hlt)⟩
        obtain ⟨b, o, rfl, c0, c1, c2, c3⟩ := (HA.out.below hB) k t ht
        obtain ⟨b', o', rfl, d0, d1, d2, d3⟩ := (HB.out.below hB) k u hu
        have HT := Lib.hid ht
        have HU := Lib.hid hu
        have lb : b < wr.heap.size := World.block_lt_of_cell? _ _ c0
        have lb' : b' < wr.heap.size := World.block_lt_of_cell? _ _ d0
        clear ht hu
        have r1 := fun w => alike_any t u w
        cases he : eqT t u
        · rw [he] at r1
          have hno : sameT ts us = false := sameT_no HT.out HU.out he
          rw [HS.out] at hno
          subst hno
          clear he
          go_wp2_with fail
          (with_reducible refine (r1 _).mono ?_)
          rintro e w1 ⟨rfl, hb1⟩
          go_wp2
          go_ret
          exact ⟨rfl, hB.trans (bel_trans (bel_alloc (bel_alloc (Below.refl _ _) _) _) hb1 |>.mono hB.size)⟩
        · rw [he] at r1
          have HN2 := Lib.hid (HSM.out.succ HT.out HU.out he)
          clear he
          go_wp2_with fail
          (with_reducible refine (r1 _).mono ?_)
          rintro e w1 ⟨rfl, hb1⟩
          have hB2 := hB.trans (bel_trans (bel_alloc (bel_alloc (Below.refl _ _) _) _) hb1 |>.mono hB.size)
          clear hb1
          go_wp2
          go_roundw
          case rel => exact ⟨k + 1, by go_num, by omega, HN2.out, hB2⟩
          case measure => simp [intOf]; omega
      · obtain rfl : k = n := by omega
        have hyes : sameT ts us = true := by
          have h := HSM.out
          rw [← HN.out] at h
          exact h.end (HN.out.trans HM.out.symm)
        rw [HS.out] at hyes
        subst hyes
        go_wp2
        go_ret
        exact ⟨rfl, hB⟩
  · rw [sameT_len (by rw [hn, hm]; exact hl)]
    have hl' : ¬ (n : Int) = (m : Int) := by omega
    go_enter Tryz.func29, Tryz.ntmps29
    go_wp2
    go_ret
    exact ⟨rfl, Below.refl _ _⟩

set_option maxHeartbeats 400000 in
theorem same_any {w : World} {A B : Option Addr} {n m c d : Nat} {ts us : List Tq} (ha : Tr w A ts) (hb : Tr w B us) (hn : ts.length = n) (hm : us.length = m) (hz : n ≤ 1000000000) (hz2 : m ≤ 1000000000) :
    Calls Tryz.prog 12 #[.slice A n c, .slice B m d] w fun e w' => e = .returned (.bool (sameT ts us)) ∧ Below w.heap.size w w' := by
  have r1 := eqf_any (c := c) (d := d) ha hb hn hm hz hz2
  clear ha hb hn hm
  generalize sameT ts us = S at *
  go_enter Tryz.func12, Tryz.ntmps12
  go_wp2_with fail
  (with_reducible refine r1.mono ?_)
  rintro e w1 ⟨rfl, hb1⟩
  go_wp2
  go_ret
  exact ⟨rfl, hb1⟩
end Go.Proofs.YtcedfonkahffcaaGreat
