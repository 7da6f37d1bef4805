/- Contracts of package mark: stands, May. -/
import Derived.Test.YtfcjihfnimefhaaBitR
import Derived.Test.YtfcjihfnimefhaaIntV
import Derived.Deep.RegionLaw
import Derived.Laws.OwnMore
namespace Go.Proofs.Ytfcjihfnimefhaa
open Go.RowKit
set_option linter.unusedVariables false
set_option maxRecDepth 100000

set_option maxHeartbeats 1000000 in
theorem mst_any {m : Int} {v : ByteArray} {r : Bool} (hr : okB ⟨m, v⟩ = r) (w : World) :
    Calls Try.prog 46 #[.agg #[.int .i64 m, .string v]] w fun e w' => e = .returned (.bool r) ∧ Below w.heap.size w w' := by
  have hb := bel_alloc (Below.refl _ w) (.cells #[.int .i64 m, .string v] 34)
  by_cases h0 : 0 ≤ m
  · by_cases h1 : m < 10
    · by_cases h2 : v.size = 0
      · obtain rfl : v = ⟨#[]⟩ := by
          obtain ⟨⟨l⟩⟩ := v
          cases l with
          | nil => rfl
          | cons a l => cases h2
        have e : r = true := by rw [← hr, okB, decide_eq_true h0, decide_eq_true h1]; rfl
        clear hr h2
        go_enter Try.func46, Try.ntmps46
        go_wp2
        go_ret
        exact ⟨by rw [e]; rfl, hb⟩
      · by_cases h3 : m = 0
        · have e : r = true := by rw [← hr, h3]; simp [okB]
          subst h3
          have q2 : (v.toList == []) = false := by
            obtain ⟨⟨l⟩⟩ := v
            cases l with
            | nil => exact absurd rfl h2
            | cons a l => rw [Lib.toList_data]; rfl
          clear hr h2
          go_enter Try.func46, Try.ntmps46
          go_wp2
          go_ret
          exact ⟨by rw [e]; simp, hb⟩
        · have e : r = false := by
            rw [← hr, okB]
            rw [decide_eq_false (show ¬ (⟨m, v⟩ : Bq).v.size = 0 from h2), decide_eq_false (show ¬ (⟨m, v⟩ : Bq).m = 0 from h3)]
            simp
          have q2 : (v.toList == []) = false := by
            obtain ⟨⟨l⟩⟩ := v
            cases l with
            | nil => exact absurd rfl h2
            | cons a l => rw [Lib.toList_data]; rfl
          have q3 : (m == 0) = false := by simpa using h3
          clear hr h2 h3
          go_enter Try.func46, Try.ntmps46
          go_wp2
          go_ret
          exact ⟨by rw [e]; simp, hb⟩
    · have e : r = false := by rw [← hr, okB, decide_eq_false (show ¬ (⟨m, v⟩ : Bq).m < 10 from h1)]; simp
      clear hr
      go_enter Try.func46, Try.ntmps46
      go_wp2
      go_ret
      exact ⟨rfl, hb⟩
  · have e : r = false := by rw [← hr, okB, decide_eq_false (show ¬ 0 ≤ (⟨m, v⟩ : Bq).m from h0)]; simp
    clear hr
    go_enter Try.func46, Try.ntmps46
    go_wp2
    go_ret
    exact ⟨rfl, hb⟩

/-- How often marks stood, among k bits. -/
def Cn (Cs : List Int) (o i : Int) (k : Nat) : Prop := Cs.length = 10 ∧ (∀ (j : Nat) (x : Int), Cs[j]? = some x → 0 ≤ x ∧ x ≤ k) ∧ ∃ c6 c7 c8 c9 : Int, Cs[6]? = some c6 ∧ Cs[7]? = some c7 ∧ Cs[8]? = some c8 ∧ Cs[9]? = some c9 ∧ c6 - c7 = o ∧ c8 - c9 = i
def noC : List Int := [0, 0, 0, 0, 0, 0, 0, 0, 0, 0]
theorem Cn.start : Cn noC 0 0 0 := by
  refine ⟨rfl, fun j x h => ?_, 0, 0, 0, 0, rfl, rfl, rfl, rfl, rfl, rfl⟩
  have hm := List.mem_of_getElem? h
  have : x = 0 := by simpa [noC] using hm
  subst this
  exact ⟨Int.le_refl _, Int.le_refl _⟩
theorem set_at {Cs : List Int} {m j : Nat} {x y : Int} (h : Cs[j]? = some y) (hm : m < Cs.length) : (Cs.set m x)[j]? = some (if m = j then x else y) := by
  rw [List.getElem?_set]
  by_cases e : m = j
  · rw [if_pos e, if_pos hm, if_pos e]
  · rw [if_neg e, if_neg e, h]
theorem Cn.step {Cs : List Int} {o i : Int} {k m : Nat} (h : Cn Cs o i k) (hm : m < 10) : ∃ x, Cs[m]? = some x ∧ 0 ≤ x ∧ x ≤ k ∧ Cn (Cs.set m (x + 1)) (o + dO m) (i + dI m) (k + 1) := by
  obtain ⟨hl, hb, c6, c7, c8, c9, h6, h7, h8, h9, ho, hi⟩ := h
  obtain ⟨x, hx⟩ : ∃ x, Cs[m]? = some x := ⟨_, List.getElem?_eq_getElem (by omega)⟩
  obtain ⟨x0, x1⟩ := hb m x hx
  have hml : m < Cs.length := by omega
  refine ⟨x, hx, x0, x1, by rw [List.length_set]; exact hl, fun j y hj => ?_, _, _, _, _, set_at h6 hml, set_at h7 hml, set_at h8 hml, set_at h9 hml, ?_, ?_⟩
  · rw [List.getElem?_set] at hj
    by_cases e : m = j
    · rw [if_pos e, if_pos hml] at hj
      obtain rfl := Option.some.inj hj
      omega
    · rw [if_neg e] at hj
      have := hb j y hj
      omega
  · have key : ∀ j y, Cs[j]? = some y → m = j → y = x := fun j y hy e => by rw [← e, hx] at hy; exact (Option.some.inj hy).symm
    have k6 := key 6 c6 h6
    have k7 := key 7 c7 h7
    unfold dO
    by_cases e6 : m = 6
    · have := k6 e6
      subst e6
      simp
      omega
    · by_cases e7 : m = 7
      · have := k7 e7
        subst e7
        simp
        omega
      · rw [if_neg e6, if_neg e7, if_neg (by omega), if_neg (by omega)]; omega
  · have key : ∀ j y, Cs[j]? = some y → m = j → y = x := fun j y hy e => by rw [← e, hx] at hy; exact (Option.some.inj hy).symm
    have k8 := key 8 c8 h8
    have k9 := key 9 c9 h9
    unfold dI
    by_cases e8 : m = 8
    · have := k8 e8
      subst e8
      simp
      omega
    · by_cases e9 : m = 9
      · have := k9 e9
        subst e9
        simp
        omega
      · rw [if_neg e8, if_neg e9, if_neg (by omega), if_neg (by omega)]; omega
/-- The array. -/
structure Ca (w0 : World) (g : Nat) (Cs : List Int) (w : World) : Prop where
  row : w.ownsRow w0.heap.size 72 1 (.slice (some ⟨g, 0, none⟩) 10 10) 10 (Cs.map iv)
  bel : Below w0.heap.size w0 w
theorem Ca.start (w : World) : Ca w w.heap.size noC (w.alloc (.cells #[.int .i64 0, .int .i64 0, .int .i64 0, .int .i64 0, .int .i64 0, .int .i64 0, .int .i64 0, .int .i64 0, .int .i64 0, .int .i64 0] 72)) :=
  ⟨⟨rfl, .inr ⟨w.heap.size, 10, _, rfl, Nat.le_refl _, heap_alloc_new w _, Nat.le_refl _, by unfold maxLen; omega, by simp, rfl⟩⟩, bel_alloc (Below.refl _ _) _⟩
theorem Ca.below {w0 w w' : World} {g : Nat} {Cs : List Int} (h : Ca w0 g Cs w) (b : Below w.heap.size w w') : Ca w0 g Cs w' := ⟨row_below h.row b, bel_trans h.bel b⟩
theorem Ca.at {w0 w : World} {g : Nat} {Cs : List Int} (h : Ca w0 g Cs w) {j : Nat} {x : Int} (hj : Cs[j]? = some x) : w.cell? ⟨g, j, none⟩ = some (.int .i64 x) ∧ w.frozen? ⟨g, j, none⟩ = false := by
  refine ⟨?_, h.row.frozenAt j⟩
  have := h.row.cells (g := g) rfl j (iv x) (by simp [hj])
  simpa [Addr.add_lit, iv] using this
theorem Ca.set {w0 w : World} {g : Nat} {Cs : List Int} (h : Ca w0 g Cs w) (j : Nat) (x : Int) : Ca w0 g (Cs.set j x) (w.setCell ⟨g, j, none⟩ (.int .i64 x)) :=
  ⟨by have := (h.row.stored j (iv x)).1; rwa [← List.map_set] at this, h.bel.setCell (h.row.lt g rfl).1 _⟩

set_option maxHeartbeats 2000000 in
theorem mmay_any {w : World} {A : Option Addr} {n c : Nat} {bs : List Bq} {r : Bool} (hr : mayL bs = r) (hA : Br w A bs) (hn : bs.length = n) (hz : n ≤ 100000) :
    Calls Try.prog 28 #[.slice A n c] w fun e w' => e = .returned (.bool r) ∧ Below w.heap.size w w' := by
  by_cases h4 : 4000 < n
  · have e : r = false := by rw [← hr, mayL, decide_eq_false (by omega)]; rfl
    subst e
    have q1 : (4000 : Int) < (n : Int) := by omega
    clear hr hA hn h4
    go_enter Try.func28, Try.ntmps28
    go_wp2
    go_ret
    exact ⟨rfl, Below.refl _ _⟩
  have q1 : ¬ (4000 : Int) < (n : Int) := by omega
  rw [mayL_is (by omega)] at hr
  have HA := Lib.hid hA
  have HN := Lib.hid hn
  have HR := Lib.hid hr
  have HS := Lib.hid (Ca.start w)
  clear hA hn hr
  go_enter Try.func28, Try.ntmps28
  go_wp2
  go_loopw [11] (fun i wr => ∃ (k : Nat) (o q : Int) (Cs : List Int), i = .int .i64 k ∧ k ≤ n ∧ 0 ≤ o ∧ 0 ≤ q ∧ Hid (Ca w w.heap.size Cs wr) ∧ Hid (Cn Cs o q k) ∧ Hid (mayF o q (bs.drop k) = r)) (fun i _ => n - (intOf i).toNat)
  case atStart => exact ⟨0, 0, 0, noC, rfl, Nat.zero_le _, Int.le_refl _, Int.le_refl _, HS, Lib.hid Cn.start, Lib.hid (by rw [List.drop_zero]; exact HR.out)⟩
  case round =>
    obtain ⟨k, o, q, Cs, rfl, hk, ho, hq, hca, hcn, hr⟩ := hrel
    have hsz := hca.out.bel.size
    by_cases hlt : k < n
    · obtain ⟨t, ht⟩ : ∃ t, bs[k]? = some t := ⟨_, List.getElem?_eq_getElem (by rw [HN.out]; exact hlt)⟩
      obtain ⟨b, o', rfl, c0, c1⟩ := (HA.out.below hca.out.bel) k t ht
      have lb := World.block_lt_of_cell? _ _ c0
      have hdr := drop_consM ht
      have hr2 := hr.out
      rw [hdr] at hr2
      have HR2 := Lib.hid hr2
      obtain ⟨tm, tv⟩ := t
      dsimp only at c0 c1
      obtain ⟨ok, hok⟩ : ∃ ok, okB ⟨tm, tv⟩ = ok := ⟨_, rfl⟩
      have r1 := fun w => mst_any hok w
      have HK := Lib.hid hok
      have HC1 := Lib.hid (hca.out.below (bel_alloc (Below.refl _ _) (.cells #[.int .i64 tm, .string tv] 34)))
      have hbx := heap_alloc_new wr (.cells #[.int .i64 tm, .string tv] 34)
      have HBX := Lib.hid hbx
      clear ht hdr hr2 hok hbx hr
      go_wp2_with fail
      ((with_reducible refine (r1 _).mono ?_))
      rintro e w5 ⟨rfl, hb5⟩
      have HC5 := Lib.hid (HC1.out.below hb5)
      cases ok with
      | false =>
        have e : r = false := by rw [← HR2.out]; exact mayF_bad _ _ _ HK.out
        subst e
        have HBB := Lib.hid HC5.out.bel
        clear hb5 r1
        go_wp2
        go_ret
        exact ⟨rfl, HBB.out⟩
      | true =>
        obtain ⟨hm0, hm1⟩ : 0 ≤ tm ∧ tm < 10 := by
          have := HK.out
          rw [okB, Bool.and_eq_true, Bool.and_eq_true, decide_eq_true_eq, decide_eq_true_eq] at this
          exact this.1
        obtain ⟨m, rfl⟩ := Int.eq_ofNat_of_zero_le hm0
        obtain ⟨x, hx, x0, x1, hcn2⟩ := hcn.out.step (m := m) (by omega)
        obtain ⟨d0, f0⟩ := HC5.out.at hx
        have b0 := (bel_cell hb5 (show (wr.alloc (.cells #[.int .i64 (m : Int), .string tv] 34)).cell? ⟨wr.heap.size, 0, none⟩ = some (.int .i64 (m : Int)) by rw [World.cell?, HBX.out]; rfl))
        have lw := World.block_lt_of_cell? _ _ b0
        have hca2 := HC5.out.set m (x + 1)
        obtain ⟨hl2, hbd, c6, c7, c8, c9, h6, h7, h8, h9, e6, e8⟩ := hcn2
        have d6 := (hca2.at h6).1
        have d7 := (hca2.at h7).1
        have d8 := (hca2.at h8).1
        have d9 := (hca2.at h9).1
        have HCN := Lib.hid (show Cn (Cs.set m (x + 1)) (o + dO m) (q + dI m) (k + 1) from ⟨hl2, hbd, c6, c7, c8, c9, h6, h7, h8, h9, e6, e8⟩)
        have HCA := Lib.hid hca2
        clear hb5 r1 hca2 hbd h6 h7 h8 h9 hx hcn hl2
        have hm10 : m < 10 := by omega
        by_cases hov : 0 ≤ o + dO m ∧ 0 ≤ q + dI m
        · have p1 : ¬ c6 < c7 := by omega
          have p2 : ¬ c8 < c9 := by omega
          have HR3 := Lib.hid ((mayF_on _ HK.out hov.1 hov.2).symm.trans HR2.out)
          go_wp2
          go_roundw
          case rel => exact ⟨k + 1, o + dO m, q + dI m, Cs.set m (x + 1), by go_num, by omega, hov.1, hov.2, HCA, HCN, HR3⟩
          case measure => simp [intOf]; omega
        · have e : r = false := by rw [← HR2.out]; exact mayF_over _ hov
          subst e
          have HBB := Lib.hid HCA.out.bel
          by_cases p1 : c6 < c7
          · clear hov
            go_wp2
            go_ret
            exact ⟨rfl, HBB.out⟩
          · have p2 : c8 < c9 := by omega
            clear hov
            go_wp2
            go_ret
            exact ⟨rfl, HBB.out⟩
    · obtain rfl : k = n := by omega
      have hr2 := hr.out
      rw [List.drop_eq_nil_of_le (by rw [HN.out]; exact Nat.le_refl _), mayF] at hr2
      obtain ⟨hl2, hbd, c6, c7, c8, c9, h6, h7, h8, h9, e6, e8⟩ := hcn.out
      have d6 := (hca.out.at h6).1
      have d7 := (hca.out.at h7).1
      have d8 := (hca.out.at h8).1
      have d9 := (hca.out.at h9).1
      have HBB := Lib.hid hca.out.bel
      have HRR := Lib.hid hr2
      clear hr2 hr hca hcn hl2 hbd h6 h7 h8 h9
      by_cases p1 : c6 = c7
      · by_cases p2 : c8 = c9
        · have e : r = true := by
            rw [← HRR.out, show o = 0 by omega, show q = 0 by omega]; rfl
          have q1 : (c6 == c7) = true := by simpa using p1
          have q2 : (c8 == c9) = true := by simpa using p2
          subst e
          clear p1 p2
          go_wp2
          go_ret
          exact ⟨rfl, HBB.out⟩
        · have e : r = false := by
            rw [← HRR.out, beq_false_of_ne (show q ≠ 0 by omega)]; simp
          have q1 : (c6 == c7) = true := by simpa using p1
          have q2 : (c8 == c9) = false := by simpa using p2
          subst e
          clear p1 p2
          go_wp2
          go_ret
          exact ⟨rfl, HBB.out⟩
      · have e : r = false := by
          rw [← HRR.out, beq_false_of_ne (show o ≠ 0 by omega)]; rfl
        have q1 : (c6 == c7) = false := by simpa using p1
        subst e
        clear p1
        go_wp2
        go_ret
        exact ⟨rfl, HBB.out⟩
end Go.Proofs.Ytfcjihfnimefhaa
