/- The law RuleMarks: its walk. -/
import Derived.Test.YtgjinkekepfnnaaDoorRulD
import Derived.Test.YtgjinkekepfnnaaDoorSymF
namespace Go.Proofs.YtgjinkekepfnnaaDoor
open Go.RowKit
set_option linter.unusedVariables false
set_option maxRecDepth 100000

def sumD (f : Sq → Int) : List Sq → Int
  | [] => 0
  | t :: l => f t + sumD f l
theorem sumD_app (f : Sq → Int) (a b : List Sq) : sumD f (a ++ b) = sumD f a + sumD f b := by
  induction a with
  | nil => simp [sumD]
  | cons t a ih => simp only [List.cons_append, sumD, ih]; omega
theorem sumD_take {f : Sq → Int} {l : List Sq} {k : Nat} {t : Sq} (h : l[k]? = some t) : sumD f (l.take (k + 1)) = sumD f (l.take k) + f t := by
  rw [List.take_add_one, h, Option.toList_some, sumD_app]; simp [sumD]
def dOp (t : Sq) : Int := if t.k = 3 ∧ t.n = 6 then 1 else if t.k = 3 ∧ t.n = 7 then -1 else 0
def dIn (t : Sq) : Int := if t.k = 3 ∧ t.n = 8 then 1 else if t.k = 3 ∧ t.n = 9 then -1 else 0
theorem marks_in : ∀ i, i < 90 → ∀ k, k < 11 → 0 ≤ sumD dOp ((symR i).take k) ∧ sumD dOp ((symR i).take k) ≤ 1 ∧ 0 ≤ sumD dIn ((symR i).take k) ∧ sumD dIn ((symR i).take k) ≤ 1 := by decide +kernel
theorem marks_end : ∀ i, i < 90 → sumD dOp (symR i) = 0 ∧ sumD dIn (symR i) = 0 ∧ ((symR i).length = 0 ∨ 0 < (plS (symR i)).length) := by decide +kernel
def goodB (t : Sq) : Bool := (decide (t.k = 0) && decide (0 < t.n) && decide (t.n < 31)) || (decide (t.k = 1) && decide (0 ≤ t.n) && decide (t.n < 43)) || (decide (t.k = 2) && decide (0 ≤ t.n) && decide (t.n < 3)) || (decide (t.k = 3) && decide (0 < t.n) && decide (t.n < 10))
theorem good_all : ∀ i, i < 90 → (symR i).all goodB = true := by decide +kernel
theorem good_ways {t : Sq} (h : goodB t = true) : (t.k = 0 ∧ 0 < t.n ∧ t.n < 31) ∨ (t.k = 1 ∧ 0 ≤ t.n ∧ t.n < 43) ∨ (t.k = 2 ∧ 0 ≤ t.n ∧ t.n < 3) ∨ (t.k = 3 ∧ 0 < t.n ∧ t.n < 10) := by
  simp only [goodB, Bool.or_eq_true, Bool.and_eq_true, decide_eq_true_eq] at h
  omega
/-- A round's way: the symbol ⟨k, n⟩, the counts ahead and behind. -/
inductive Way : Int → Int → Int → Int → Int → Int → Prop
  | term {n a b : Int} (h1 : 0 < n) (h2 : n < 31) : Way 0 n a b a b
  | var {n a b : Int} (h1 : 0 ≤ n) (h2 : n < 43) : Way 1 n a b a b
  | cls {n a b : Int} (h1 : 0 ≤ n) (h2 : n < 3) : Way 2 n a b a b
  | open_ {b : Int} : Way 3 6 0 b 1 b
  | close {b : Int} : Way 3 7 1 b 0 b
  | inw {a : Int} : Way 3 8 a 0 a 1
  | outw {a : Int} : Way 3 9 a 1 a 0
  | mark {n a b : Int} (h1 : 0 < n) (h2 : n < 6) : Way 3 n a b a b
theorem way_of {t : Sq} {a b : Int} (h : goodB t = true) (ha : 0 ≤ a ∧ a ≤ 1) (hb : 0 ≤ b ∧ b ≤ 1) (ha' : 0 ≤ a + dOp t ∧ a + dOp t ≤ 1) (hb' : 0 ≤ b + dIn t ∧ b + dIn t ≤ 1) : Way t.k t.n a b (a + dOp t) (b + dIn t) := by
  obtain ⟨k, n⟩ := t
  have hd := good_ways h
  dsimp only at hd ⊢
  unfold dOp dIn at *
  dsimp only at *
  rcases hd with ⟨rfl, h1, h2⟩ | ⟨rfl, h1, h2⟩ | ⟨rfl, h1, h2⟩ | ⟨rfl, h1, h2⟩
  · simp; exact .term h1 h2
  · simp; exact .var h1 h2
  · simp; exact .cls h1 h2
  · by_cases g6 : n = 6
    · subst g6
      simp at ha' hb' ⊢
      obtain rfl : a = 0 := by omega
      exact .open_
    by_cases g7 : n = 7
    · subst g7
      simp at ha' hb' ⊢
      obtain rfl : a = 1 := by omega
      exact .close
    by_cases g8 : n = 8
    · subst g8
      simp at ha' hb' ⊢
      obtain rfl : b = 0 := by omega
      exact .inw
    by_cases g9 : n = 9
    · subst g9
      simp at ha' hb' ⊢
      obtain rfl : b = 1 := by omega
      exact .outw
    simp [g6, g7, g8, g9]
    exact .mark h1 (by omega)
theorem vars_q (w : World) : Calls Tryd.prog 18 #[] w fun e w' => e = .returned (.int .i64 43) ∧ w' = w := (vars_any w).mono fun _ _ h => ⟨h.1, h.2.symm⟩

set_option maxHeartbeats 4000000 in
theorem marks_law (i : Int) {w : World} (ht : TabR w) : Calls Tryd.prog 5 #[.int .i64 i] w fun e w' => e = .returned (.bool true) ∧ Below w.heap.size w w' := by
  have HT := Lib.hid ht
  clear ht
  by_cases hi : 0 ≤ i ∧ i < 90
  · obtain ⟨k, rfl⟩ := Int.eq_ofNat_of_zero_le hi.1
    have hk : k < 90 := by omega
    clear hi
    have hv3 := varR_lt k hk
    have hin := marks_in k hk
    obtain ⟨e1, e2, e3⟩ := marks_end k hk
    have hgd := good_all k hk
    have hm10 := tlR_len k hk
    rw [← symR_len] at hm10
    obtain ⟨vv, hvv⟩ : ∃ x, (varR k : Int) = x := ⟨_, rfl⟩
    have v1 : 0 ≤ vv := by omega
    have v2 : vv < 43 := by omega
    obtain ⟨sy, hsy⟩ : ∃ x, symR k = x := ⟨_, rfl⟩
    rw [hsy] at hin e1 e2 e3 hgd hm10
    obtain ⟨m, hm⟩ : ∃ x, sy.length = x := ⟨_, rfl⟩
    rw [hm] at hm10 e3
    obtain ⟨la, hla⟩ : ∃ L, plS sy = L := ⟨_, rfl⟩
    obtain ⟨na, hna⟩ : ∃ n, la.length = n := ⟨_, rfl⟩
    rw [hla, hna] at e3
    have rg := fun (w : World) (h : TabR w) => get_as hk hvv hsy hm h
    have rp := fun {w : World} {X : Option Addr} {x : Nat} (h : Sr w X sy) => plain_as (c := x) hla hna h hm (by omega)
    have HM := Lib.hid hm
    have HIN := Lib.hid hin
    have HGD := Lib.hid hgd
    have HE1 := Lib.hid e1
    have HE2 := Lib.hid e2
    have HE3 := Lib.hid e3
    clear hvv hsy hm hla hna hin hgd e1 e2 e3 hv3
    go_enter Tryd.func5, Tryd.ntmps5
    go_wp2_with fail
    refine (awake_any _ HT.out).mono ?_
    rintro e w1 ⟨rfl, hb1⟩
    have HB1 := Lib.hid hb1
    clear hb1
    go_wp2_with fail
    ((with_reducible refine (rg _ (HT.out.below HB1.out)).mono ?_))
    rintro e w2 ⟨X, cx, rfl, hb2, hX, -⟩
    have hbo := bel_alloc (Below.refl _ w2) (.cells #[.int .i64 vv, .slice X m cx] 25)
    have HX := Lib.hid (hX.below hbo)
    have HP := Lib.hid (B2.new w2 (.int .i64 vv) (.slice X m cx) 25)
    have HB2 := Lib.hid (bel_trans (bel_trans HB1.out hb2) hbo)
    clear hb2 hX rg hbo
    generalize hw3 : w2.alloc (.cells #[.int .i64 vv, .slice X m cx] 25) = w3 at *
    have HW3 := Lib.hid hw3
    clear hw3
    go_wp2_with fail
    rw [HW3.out]
    go_loopw [6, 7, 8] (fun a b j wr => ∃ n : Nat, j = .int .i64 n ∧ n ≤ m ∧ a = .int .i64 (sumD dOp (sy.take n)) ∧ b = .int .i64 (sumD dIn (sy.take n)) ∧ Below w3.heap.size w3 wr) (fun _ _ j _ => m - (intOf j).toNat)
    case atStart => exact ⟨0, rfl, Nat.zero_le _, rfl, rfl, Below.refl _ _⟩
    case round =>
      obtain ⟨n, rfl, hn, rfl, rfl, hB⟩ := hrel
      have HB := Lib.hid hB
      obtain ⟨p0, p1, -, -⟩ := HP.out.below hB
      have lp := World.block_lt_of_cell? _ _ p0
      by_cases hlt : n < m
      · obtain ⟨t, ht⟩ : ∃ t, sy[n]? = some t := ⟨_, List.getElem?_eq_getElem (by rw [HM.out]; exact hlt)⟩
        obtain ⟨b, o, rfl, c0, c1⟩ := (HX.out.below hB) n t ht
        have lb := World.block_lt_of_cell? _ _ c0
        have h1 := HIN.out n (by omega)
        have h2 := HIN.out (n + 1) (by omega)
        have hg : goodB t = true := List.all_eq_true.1 HGD.out t (List.mem_of_getElem? ht)
        have s1 := sumD_take (f := dOp) ht
        have s2 := sumD_take (f := dIn) ht
        rw [s1, s2] at h2
        have HW := way_of hg ⟨h1.1, h1.2.1⟩ h1.2.2 ⟨h2.1, h2.2.1⟩ h2.2.2
        have h11 := h1.1
        have h12 := h1.2.1
        have h13 := h1.2.2.1
        have h14 := h1.2.2.2
        have h21 := h2.1
        have h22 := h2.2.1
        have h23 := h2.2.2.1
        have h24 := h2.2.2.2
        rw [← s1] at HW h21 h22
        rw [← s2] at HW h23 h24
        clear h1 h2 hg s1 s2 hB ht
        obtain ⟨a', ha'⟩ : ∃ x, sumD dOp (sy.take (n + 1)) = x := ⟨_, rfl⟩
        obtain ⟨b', hb'⟩ : ∃ x, sumD dIn (sy.take (n + 1)) = x := ⟨_, rfl⟩
        have HA' := Lib.hid ha'
        have HB' := Lib.hid hb'
        rw [ha'] at HW h21 h22
        rw [hb'] at HW h23 h24
        generalize sumD dOp (sy.take n) = av at *
        generalize sumD dIn (sy.take n) = bv at *
        generalize t.k = tk at *
        generalize t.n = tn at *
        clear ha' hb'
        cases HW
        case mark h1 h2 =>
          have z6 : (tn == 6) = false := by simp; omega
          have z7 : (tn == 7) = false := by simp; omega
          have z8 : (tn == 8) = false := by simp; omega
          have z9 : (tn == 9) = false := by simp; omega
          have z10 : tn < 10 := by omega
          clear h2
          go_wp2_with fail
          go_quiet ((go_at_call 18; exact Calls.quiet_of_same (vars_q _)))
          go_wp2_with fail
          go_roundw
          case rel => exact ⟨n + 1, by go_num, by omega, by rw [HA'.out], by rw [HB'.out], below_drewN (bel_alloc HB.out _) _⟩
          case measure => simp [intOf]; omega
        all_goals
          go_wp2_with fail
          go_quiet ((go_at_call 18; exact Calls.quiet_of_same (vars_q _)))
          go_wp2_with fail
          go_roundw
          case rel => exact ⟨n + 1, by go_num, by omega, by rw [HA'.out], by rw [HB'.out], below_drewN (bel_alloc HB.out _) _⟩
          case measure => simp [intOf]; omega
      · obtain rfl : n = m := by omega
        have e1 : sumD dOp (sy.take n) = 0 := by rw [List.take_of_length_le (by rw [HM.out]; exact Nat.le_refl _), HE1.out]
        have e2 : sumD dIn (sy.take n) = 0 := by rw [List.take_of_length_le (by rw [HM.out]; exact Nat.le_refl _), HE2.out]
        rw [e1, e2]
        clear e1 e2 hB
        by_cases h0 : n = 0
        · subst h0
          go_wp2_with fail
          go_quiet ((go_at_call 18; exact Calls.quiet_of_same (vars_q _)))
          go_wp2_with fail
          go_ret
          exact ⟨by simp, below_drewN (bel_trans HB2.out HB.out) _⟩
        · have h3 : 0 < na := by have := HE3.out; omega
          have q1 : ((n : Int) == 0) = false := by simp; omega
          have q2 : (0 : Int) < (na : Int) := by omega
          have HXw := Lib.hid (HX.out.below HB.out)
          clear h0
          go_wp2_with fail
          go_region_held3 (fun w' => w'.cell? ⟨w2.heap.size, 0, none⟩ = some (.int .i64 vv) ∧ w'.cell? ⟨w2.heap.size, 1, none⟩ = some (.slice X n cx))
            (first | (exact ⟨p0, p1⟩) | (go_split_ands; refine ⟨?_, ?_⟩ <;> exact bel_cell hq (by assumption)))
            (first
              | (go_at_call 16; ((with_reducible refine (rp HXw.out.drew).mono ?_)); rintro e w4 ⟨Y, cy, rfl, hq, -, -⟩; have hq4 := hq)
              | (go_at_call 18; ((with_reducible refine (vars_any _).mono ?_)); rintro e w5 ⟨rfl, rfl⟩; have hq := Below.refl w4.heap.size w4))
          go_wp2
          go_ret
          exact ⟨by simp, bel_trans (bel_trans HB2.out HB.out) (bel_undrew hq4)⟩
  · have ra := get_no (i := i) (by omega)
    unfold GnE at ra
    clear hi
    go_enter Tryd.func5, Tryd.ntmps5
    go_wp2_with fail
    refine (awake_any _ HT.out).mono ?_
    rintro e w1 ⟨rfl, hb1⟩
    have HB1 := Lib.hid hb1
    clear hb1
    go_wp2_with fail
    refine (ra _).mono ?_
    rintro e w2 ⟨rfl, hb2⟩
    have HB2 := Lib.hid (bel_alloc (bel_trans HB1.out hb2) (.cells #[.int .i64 0, .slice none 0 0] 25))
    clear hb2
    go_wp2_with fail
    go_ret
    exact ⟨by simp, HB2.out⟩
end Go.Proofs.YtgjinkekepfnnaaDoor
