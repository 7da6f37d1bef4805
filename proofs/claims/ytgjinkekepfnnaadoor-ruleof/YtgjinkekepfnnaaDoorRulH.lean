/- The law RuleOf: its walk. -/
import Derived.Test.YtgjinkekepfnnaaDoorRulD
namespace Go.Proofs.YtgjinkekepfnnaaDoor
open Go.RowKit
set_option linter.unusedVariables false
set_option maxRecDepth 100000

theorem ofR_some : ∀ v : Nat, v < 43 → 0 < (ofR v).length := by decide +kernel
theorem ofR_up : ∀ v : Nat, v < 43 → (ofR v).Pairwise (· < ·) := by decide +kernel
/-- How many of the rules have no symbols. -/
def nonR (l : List Int) : Nat := (l.filter fun x => (symR x.toNat).length == 0).length
theorem nonR_one : ∀ v : Nat, v < 43 → nonR (ofR v) ≤ 1 := by decide +kernel
theorem nonR_le (l : List Int) : nonR l ≤ l.length := List.length_filter_le _ _
theorem nonR_take {l : List Int} {k : Nat} {x : Int} (h : l[k]? = some x) : nonR (l.take (k + 1)) = nonR (l.take k) + (if (symR x.toNat).length = 0 then 1 else 0) := by
  unfold nonR
  rw [List.take_add_one, h, Option.toList_some, List.filter_append, List.length_append]
  by_cases g : (symR x.toNat).length = 0 <;> simp [g]
def inB (i : Int) (l : List Int) : Bool := l.any fun x => x == i
theorem inB_take {i : Int} {l : List Int} {k : Nat} {x : Int} (h : l[k]? = some x) : inB i (l.take (k + 1)) = (inB i (l.take k) || (x == i)) := by
  unfold inB
  rw [List.take_add_one, h, Option.toList_some, List.any_append]; simp
theorem inB_of (i v : Int) : inB i (ofR v) = true ↔ ∃ a : Nat, a < 90 ∧ (varR a : Int) = v ∧ i = (a : Int) := by
  unfold inB
  rw [List.any_eq_true]
  constructor
  · rintro ⟨x, hx, he⟩
    obtain ⟨a, h1, h2, h3⟩ := ofR_mem.1 hx
    exact ⟨a, h1, h2, by rw [← h3]; simpa using (beq_iff_eq.1 he).symm⟩
  · rintro ⟨a, h1, h2, h3⟩
    exact ⟨i, ofR_mem.2 ⟨a, h1, h2, h3⟩, by simp⟩
/-- How an Of ends, its answer's length under a name of its own. -/
def OhE (m : Nat) (L : List Int) (w : World) (e : Ending) (w' : World) : Prop := ∃ A c, e = .returned (.slice A m c) ∧ Below w.heap.size w w' ∧ Ri w' A L
theorem Ri.drew {w : World} {A : Option Addr} {l : List Int} (h : Ri w A l) : Ri w.drew A l := h

set_option maxHeartbeats 4000000 in
theorem of_law (v i : Int) {w : World} (ht : TabR w) : Calls Tryd.prog 4 #[.int .i64 v, .int .i64 i] w fun e w' => e = .returned (.bool true) ∧ Below w.heap.size w w' := by
  have HT := Lib.hid ht
  clear ht
  obtain ⟨L, hL⟩ : ∃ L, ofR v = L := ⟨_, rfl⟩
  obtain ⟨n, hn⟩ : ∃ n, L.length = n := ⟨_, rfl⟩
  have ro : ∀ w, TabR w → Calls Tryd.prog 14 #[.int .i64 v] w fun e w' => OhE n L w e w' := fun w h => (of_any v hL h).mono (by rintro e w' ⟨A, c, rfl, hb, hs, -⟩; exact ⟨A, c, by rw [hn], hb, hs⟩)
  by_cases hv : 0 ≤ v ∧ v < 43
  · have hn0 := ofR_some v.toNat (by omega)
    have hup := ofR_up v.toNat (by omega)
    have hone := nonR_one v.toNat (by omega)
    rw [show ((v.toNat : Nat) : Int) = v by omega, hL] at hn0 hup hone
    rw [hn] at hn0
    have hn90 : n ≤ 90 := by rw [← hn, ← hL]; exact ofN_len v 90
    have hib := inB_of i v
    rw [hL] at hib
    have hmem : ∀ x ∈ L, ∃ a : Nat, a < 90 ∧ (varR a : Int) = v ∧ x = (a : Int) := fun x hx => ofR_mem.1 (by rw [hL]; exact hx)
    have v0 := hv.1
    have v1 := hv.2
    have HN := Lib.hid hn
    have HUP := Lib.hid hup
    have HONE := Lib.hid hone
    have HIB := Lib.hid hib
    have HMEM := Lib.hid hmem
    clear hL hn hv hup hone hib hmem
    go_enter Tryd.func4, Tryd.ntmps4
    go_wp2_with fail
    refine (awake_any _ HT.out).mono ?_
    rintro e w1 ⟨rfl, hb1⟩
    have HB1 := Lib.hid hb1
    clear hb1
    go_wp2_with fail
    ((with_reducible refine (ro _ (HT.out.below HB1.out)).mono ?_))
    rintro e w2 ⟨A, c, rfl, hb2, hA⟩
    have HA := Lib.hid hA
    have HB2 := Lib.hid (bel_trans HB1.out hb2)
    clear hb2 hA ro
    go_wp2_with fail
    refine (vars_any _).mono ?_
    rintro e w' ⟨rfl, rfl⟩
    go_wp2_with fail
    refine (vars_any _).mono ?_
    rintro e w' ⟨rfl, rfl⟩
    go_wp2_with fail
    go_loopw [7, 8, 9] (fun a y j wr => ∃ k : Nat, j = .int .i64 k ∧ k ≤ n ∧ a = .int .i64 (nonR (L.take k) : Nat) ∧ y = .bool (inB i (L.take k)) ∧ Below w2.heap.size w2 wr) (fun _ _ j _ => n - (intOf j).toNat)
    case atStart => exact ⟨0, rfl, Nat.zero_le _, rfl, rfl, Below.refl _ _⟩
    case round =>
      obtain ⟨k, rfl, hk, rfl, rfl, hB⟩ := hrel
      have HB := Lib.hid hB
      by_cases hlt : k < n
      · obtain ⟨x, hx⟩ : ∃ x, L[k]? = some x := ⟨_, List.getElem?_eq_getElem (by rw [HN.out]; exact hlt)⟩
        obtain ⟨b, o, rfl, c0⟩ := (HA.out.below hB) k x hx
        have c0' := c0
        obtain ⟨a, ha, hva, rfl⟩ := HMEM.out x (List.mem_of_getElem? hx)
        have q0 : (k : Int) < (n : Int) := by omega
        obtain ⟨sy, hsy⟩ : ∃ x, symR a = x := ⟨_, rfl⟩
        obtain ⟨m, hm⟩ : ∃ x, sy.length = x := ⟨_, rfl⟩
        have rg := fun (w : World) (h : TabR w) => get_as ha hva hsy hm h
        have h1 := nonR_take hx
        have h2 := inB_take (i := i) hx
        have h3 := nonR_le (L.take k)
        have h4 : (L.take k).length ≤ k := by rw [List.length_take]; omega
        rw [Int.toNat_natCast, hsy, hm] at h1
        have H1 := Lib.hid h1
        have H2 := Lib.hid h2
        obtain ⟨N, hN⟩ : ∃ N, nonR (L.take k) = N := ⟨_, rfl⟩
        obtain ⟨y, hy⟩ : ∃ y, inB i (L.take k) = y := ⟨_, rfl⟩
        rw [hN] at H1 h3 ⊢
        rw [hy] at H2 ⊢
        have hN9 : N ≤ 90 := by omega
        have HX := Lib.hid hx
        clear hva hsy hm h1 h2 hN hy h3 h4 hx
        have HT2 := Lib.hid (HT.out.below (bel_trans HB2.out HB.out))
        have HC0 := Lib.hid c0'
        have hprev : (¬ (0 : Int) < (k : Int) ∧ ¬ 0 < k) ∨ ∃ p ap : Nat, (0 : Int) < (k : Int) ∧ 0 < k ∧ Hid ((k : Int) - 1 = (p : Int)) ∧ (p : Int) < (n : Int) ∧ Hid (wr.cell? ⟨b, o + p, none⟩ = some (.int .i64 (ap : Int))) ∧ ¬ a ≤ ap := by
          by_cases h0 : 0 < k
          · right
            obtain ⟨p, rfl⟩ : ∃ p, k = p + 1 := ⟨k - 1, by omega⟩
            have hpl : p < L.length := by rw [HN.out]; omega
            obtain ⟨ap, -, -, hap⟩ := HMEM.out L[p] (List.getElem_mem hpl)
            have hx2 := HX.out
            obtain ⟨hkl, hxe⟩ := List.getElem?_eq_some_iff.1 hx2
            have hlt3 := List.pairwise_iff_getElem.1 HUP.out p (p + 1) hpl hkl (by omega)
            rw [hxe, hap] at hlt3
            obtain ⟨b', o', e1, e2⟩ := (HA.out.below hB) p (ap : Int) (by rw [← hap]; exact List.getElem?_eq_getElem hpl)
            obtain ⟨rfl, rfl⟩ : b = b' ∧ o = o' := by
              have := Option.some.inj e1
              injection this with e3 e4 _
              exact ⟨e3, e4⟩
            exact ⟨p, ap, by omega, by omega, by show ((p + 1 : Nat) : Int) - 1 = (p : Int); omega, by omega, e2, by omega⟩
          · left; exact ⟨by omega, h0⟩
        have hway : (y = true) ∨ (y = false ∧ ((a : Int) == i) = true) ∨ (y = false ∧ ((a : Int) == i) = false) := by
          cases y
          · cases h : ((a : Int) == i)
            · exact .inr (.inr ⟨rfl, rfl⟩)
            · exact .inr (.inl ⟨rfl, rfl⟩)
          · exact .inl rfl
        have hemp : (((m : Int) == 0) = true ∧ Hid (m = 0)) ∨ (((m : Int) == 0) = false ∧ Hid (m ≠ 0)) := by
          by_cases h : m = 0
          · exact .inl ⟨by simp [h], h⟩
          · exact .inr ⟨by simpa using h, h⟩
        clear hB c0'
        rcases hprev with ⟨k1, k2⟩ | ⟨p, ap, k1, k2, HK, k3, HCP, k4⟩
        · rcases hemp with ⟨m1, HM⟩ | ⟨m1, HM⟩
          · rcases hway with rfl | ⟨rfl, qe⟩ | ⟨rfl, qe⟩
            all_goals
              go_wp2_with fail
              ((with_reducible refine (rg _ HT2.out).mono ?_))
              rintro e w3 ⟨X, cx, rfl, hb3, -, -⟩
              have hbo := bel_alloc (Below.refl _ w3) (.cells #[.int .i64 v, .slice X m cx] 25)
              obtain ⟨p0, p1, -, -⟩ := B2.new w3 (.int .i64 v) (.slice X m cx) 25
              have d0 := bel_cell (bel_trans hb3 hbo) HC0.out
              have HB3 := Lib.hid (bel_trans HB.out (bel_trans hb3 hbo))
              clear hb3 hbo
              go_wp2_with fail
              go_quiet (fail)
              go_wp2_with fail
              go_roundw
              case rel => exact ⟨k + 1, by go_num, by omega, by rw [H1.out, if_pos HM.out]; go_num, by rw [H2.out]; first | rfl | (rw [qe]; rfl), below_drewN HB3.out _⟩
              case measure => simp [intOf]; omega
          · rcases hway with rfl | ⟨rfl, qe⟩ | ⟨rfl, qe⟩
            all_goals
              go_wp2_with fail
              ((with_reducible refine (rg _ HT2.out).mono ?_))
              rintro e w3 ⟨X, cx, rfl, hb3, -, -⟩
              have hbo := bel_alloc (Below.refl _ w3) (.cells #[.int .i64 v, .slice X m cx] 25)
              obtain ⟨p0, p1, -, -⟩ := B2.new w3 (.int .i64 v) (.slice X m cx) 25
              have d0 := bel_cell (bel_trans hb3 hbo) HC0.out
              have HB3 := Lib.hid (bel_trans HB.out (bel_trans hb3 hbo))
              clear hb3 hbo
              go_wp2_with fail
              go_quiet (fail)
              go_wp2_with fail
              go_roundw
              case rel => exact ⟨k + 1, by go_num, by omega, by rw [H1.out, if_neg HM.out]; rfl, by rw [H2.out]; first | rfl | (rw [qe]; rfl), below_drewN HB3.out _⟩
              case measure => simp [intOf]; omega
        · rcases hemp with ⟨m1, HM⟩ | ⟨m1, HM⟩
          · rcases hway with rfl | ⟨rfl, qe⟩ | ⟨rfl, qe⟩
            all_goals
              go_wp2_with fail
              ((with_reducible refine (rg _ HT2.out).mono ?_))
              rintro e w3 ⟨X, cx, rfl, hb3, -, -⟩
              have hbo := bel_alloc (Below.refl _ w3) (.cells #[.int .i64 v, .slice X m cx] 25)
              obtain ⟨p0, p1, -, -⟩ := B2.new w3 (.int .i64 v) (.slice X m cx) 25
              have d0 := bel_cell (bel_trans hb3 hbo) HC0.out
              have dp := bel_cell (bel_trans hb3 hbo) HCP.out
              have k5 := HK.out
              have k6 : IntKind.i64.wrap ((k : Int) - 1) = (p : Int) := by rw [k5]; exact IntWalk.i64_in _ (by omega)
              have HB3 := Lib.hid (bel_trans HB.out (bel_trans hb3 hbo))
              clear hb3 hbo
              go_wp2_with fail
              go_quiet (fail)
              go_wp2_with fail
              go_roundw
              case rel => exact ⟨k + 1, by go_num, by omega, by rw [H1.out, if_pos HM.out]; go_num, by rw [H2.out]; first | rfl | (rw [qe]; rfl), below_drewN HB3.out _⟩
              case measure => simp [intOf]; omega
          · rcases hway with rfl | ⟨rfl, qe⟩ | ⟨rfl, qe⟩
            all_goals
              go_wp2_with fail
              ((with_reducible refine (rg _ HT2.out).mono ?_))
              rintro e w3 ⟨X, cx, rfl, hb3, -, -⟩
              have hbo := bel_alloc (Below.refl _ w3) (.cells #[.int .i64 v, .slice X m cx] 25)
              obtain ⟨p0, p1, -, -⟩ := B2.new w3 (.int .i64 v) (.slice X m cx) 25
              have d0 := bel_cell (bel_trans hb3 hbo) HC0.out
              have dp := bel_cell (bel_trans hb3 hbo) HCP.out
              have k5 := HK.out
              have k6 : IntKind.i64.wrap ((k : Int) - 1) = (p : Int) := by rw [k5]; exact IntWalk.i64_in _ (by omega)
              have HB3 := Lib.hid (bel_trans HB.out (bel_trans hb3 hbo))
              clear hb3 hbo
              go_wp2_with fail
              go_quiet (fail)
              go_wp2_with fail
              go_roundw
              case rel => exact ⟨k + 1, by go_num, by omega, by rw [H1.out, if_neg HM.out]; rfl, by rw [H2.out]; first | rfl | (rw [qe]; rfl), below_drewN HB3.out _⟩
              case measure => simp [intOf]; omega
      · obtain rfl : k = n := by omega
        have t1 : nonR (L.take k) ≤ 1 := by rw [List.take_of_length_le (by rw [HN.out]; exact Nat.le_refl _)]; exact HONE.out
        have t2 : inB i (L.take k) = inB i L := by rw [List.take_of_length_le (by rw [HN.out]; exact Nat.le_refl _)]
        rw [t2]
        generalize nonR (L.take k) = N at *
        have t3 : (N : Int) ≤ 1 := by omega
        have t4 : (0 : Int) < (k : Int) := by omega
        have HT2 := Lib.hid (HT.out.below (bel_trans HB2.out HB.out))
        clear t2 hB
        by_cases hi : 0 ≤ i ∧ i < 90
        · obtain ⟨a, rfl⟩ := Int.eq_ofNat_of_zero_le hi.1
          have ha : a < 90 := by omega
          have ha2 : (a : Int) < 90 := hi.2
          obtain ⟨vv, hvv⟩ : ∃ x, (varR a : Int) = x := ⟨_, rfl⟩
          obtain ⟨sy, hsy⟩ : ∃ x, symR a = x := ⟨_, rfl⟩
          obtain ⟨m, hm⟩ : ∃ x, sy.length = x := ⟨_, rfl⟩
          have rg := fun (w : World) (h : TabR w) => get_as ha hvv hsy hm h
          have hy : inB a L = (vv == v) := by
            rw [Bool.eq_iff_iff, HIB.out]
            constructor
            · rintro ⟨x, h1, h2, h3⟩
              obtain rfl : a = x := by omega
              simpa [← hvv] using h2
            · intro h
              exact ⟨a, ha, by rw [hvv]; simpa using h, rfl⟩
          rw [hy]
          generalize hq : (vv == v) = q
          clear hy hvv hsy hm hi
          go_wp2_with fail
          ((with_reducible refine (rg _ HT2.out).mono ?_))
          rintro e w3 ⟨X, cx, rfl, hb3, -, -⟩
          obtain ⟨p0, p1, -, -⟩ := B2.new w3 (.int .i64 vv) (.slice X m cx) 25
          have HB3 := Lib.hid (bel_alloc (bel_trans (bel_trans HB2.out HB.out) hb3) (.cells #[.int .i64 vv, .slice X m cx] 25))
          clear hb3
          go_wp2_with fail
          refine (count_any _).mono ?_
          rintro e w' ⟨rfl, rfl⟩
          go_wp2_with fail
          go_ret
          exact ⟨by simp, HB3.out⟩
        · have hy : inB i L = false := by
            rw [← Bool.not_eq_true, HIB.out]
            rintro ⟨x, h1, h2, h3⟩
            exact hi (by omega)
          rw [hy]
          have rg := get_no (i := i) (by omega)
          unfold GnE at rg
          clear hy
          by_cases h0 : 0 ≤ i
          · have h1 : ¬ i < 90 := by omega
            clear hi
            go_wp2_with fail
            refine (rg _).mono ?_
            rintro e w3 ⟨rfl, hb3⟩
            have HB3 := Lib.hid (bel_alloc (bel_trans (bel_trans HB2.out HB.out) hb3) (.cells #[.int .i64 0, .slice none 0 0] 25))
            clear hb3
            go_wp2_with fail
            refine (count_any _).mono ?_
            rintro e w' ⟨rfl, rfl⟩
            go_wp2_with fail
            go_ret
            exact ⟨by simp; omega, HB3.out⟩
          · clear hi
            go_wp2_with fail
            refine (rg _).mono ?_
            rintro e w3 ⟨rfl, hb3⟩
            have HB3 := Lib.hid (bel_alloc (bel_trans (bel_trans HB2.out HB.out) hb3) (.cells #[.int .i64 0, .slice none 0 0] 25))
            clear hb3
            go_wp2_with fail
            go_ret
            exact ⟨by simp, HB3.out⟩
  · have hz : n = 0 := by rw [← hn, ← hL, ofR_none (by omega)]; rfl
    subst hz
    clear hL hn
    by_cases h0 : v < 0
    · go_enter Tryd.func4, Tryd.ntmps4
      go_wp2_with fail
      refine (awake_any _ HT.out).mono ?_
      rintro e w1 ⟨rfl, hb1⟩
      have HB1 := Lib.hid hb1
      clear hb1
      go_wp2_with fail
      ((with_reducible refine (ro _ (HT.out.below HB1.out)).mono ?_))
      rintro e w2 ⟨A, c, rfl, hb2, -⟩
      have HB2 := Lib.hid (bel_trans HB1.out hb2)
      clear hb2
      go_wp2_with fail
      go_ret
      exact ⟨by simp, HB2.out⟩
    · have h1 : 43 ≤ v := by omega
      go_enter Tryd.func4, Tryd.ntmps4
      go_wp2_with fail
      refine (awake_any _ HT.out).mono ?_
      rintro e w1 ⟨rfl, hb1⟩
      have HB1 := Lib.hid hb1
      clear hb1
      go_wp2_with fail
      ((with_reducible refine (ro _ (HT.out.below HB1.out)).mono ?_))
      rintro e w2 ⟨A, c, rfl, hb2, -⟩
      have HB2 := Lib.hid (bel_trans HB1.out hb2)
      clear hb2
      go_wp2_with fail
      refine (vars_any _).mono ?_
      rintro e w' ⟨rfl, rfl⟩
      go_wp2_with fail
      go_ret
      exact ⟨by simp, HB2.out⟩
end Go.Proofs.YtgjinkekepfnnaaDoor
