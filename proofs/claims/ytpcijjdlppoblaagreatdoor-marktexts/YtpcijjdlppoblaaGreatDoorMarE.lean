/- Package mark: Texts, May. -/
import Derived.Test.YtpcijjdlppoblaaGreatDoorMarC
import Derived.Test.YtpcijjdlppoblaaGreatDoorTxtR
import Derived.Test.YtpcijjdlppoblaaGreatDoorSliI
import Derived.Laws.OwnMore
import Derived.Test.YtpcijjdlppoblaaGreatDoorParC
import Derived.Test.YtpcijjdlppoblaaGreatDoorLexF
import Derived.Test.YtpcijjdlppoblaaGreatDoorLexB
namespace Go.Proofs.YtpcijjdlppoblaaGreatDoor
open Go.RowKit
set_option linter.unusedVariables false
set_option maxRecDepth 100000

/-- How Texts ends. -/
def XtE (m : Nat) (xs : List ByteArray) (w : World) (e : Ending) (w' : World) : Prop := ∃ A c, e = .returned (.slice A m c) ∧ Below w.heap.size w w' ∧ Xr w' A xs ∧ (A = none → m = 0 ∧ c = 0)
theorem own_slX {w : World} {base e sz k : Nat} {v : Value} {xs : List Value} (h : w.ownsRow base e sz v k xs) : ∃ A n c, v = .slice A n c := by
  rcases h.2 with ⟨rfl, _⟩ | ⟨g, cap, cur, rfl, _⟩
  · exact ⟨_, _, _, rfl⟩
  · exact ⟨_, _, _, rfl⟩
set_option maxHeartbeats 1000000 in
theorem mtxt_any {w : World} {A : Option Addr} {n m c : Nat} {bs : List Bq} {xs : List ByteArray} (hx : txL bs = xs) (hm : xs.length = m) (hA : Br w A bs) (hn : bs.length = n) (hz : n ≤ 100000) :
    Calls Tryz.prog 17 #[.slice A n c] w fun e w' => XtE m xs w e w' := by
  have HA := Lib.hid hA
  have HN := Lib.hid hn
  have HX := Lib.hid hx
  have HM := Lib.hid hm
  clear hA hn hx hm
  go_enter Tryz.func17, Tryz.ntmps17
  go_wp2
  go_loopw [3, 8] (fun v i wr => ∃ k : Nat, i = .int .i64 k ∧ k ≤ n ∧ Xn w (txL (bs.take k)) v wr) (fun _ i _ => n - (intOf i).toNat)
  case atStart => exact ⟨0, rfl, Nat.zero_le _, Xn.start _⟩
  case round =>
    obtain ⟨k, rfl, hk, hxn⟩ := hrel
    have HXN := Lib.hid hxn
    by_cases hlt : k < n
    · obtain ⟨t, ht⟩ : ∃ t, bs[k]? = some t := ⟨_, List.getElem?_eq_getElem (by rw [HN.out]; exact hlt)⟩
      obtain ⟨b, o, rfl, c0, c1⟩ := (HA.out.below hxn.bel) k t ht
      have lb := World.block_lt_of_cell? _ _ c0
      have hnx := txL_next ht
      have hlen := txL_le (bs.take k)
      rw [List.length_take, HN.out] at hlen
      obtain ⟨tm, tv⟩ := t
      dsimp only at c0 c1 hnx
      by_cases h0 : tm = 0
      · subst h0
        rw [if_pos rfl] at hnx
        have HNX := Lib.hid hnx
        have HX2 := Lib.hid ((hxn.alloc (.cells #[.int .i64 0, .string tv] 47)).alloc (.cells #[.string tv] 9))
        clear hxn ht hnx
        go_wp2_with (at_builtin; refine app_xn rfl _ _ rfl _ (txL (bs.take k)) tv rfl HX2.out (ad := ⟨wr.heap.size + 1, 0, none⟩) (c := 1) (by simp [go_sem]) (xr_one (heap_alloc2_new wr _ _)) (by omega) ?_)
        intro v' w3 h3
        have H3 := Lib.hid h3
        clear h3
        go_wp2
        go_roundw
        case rel => exact ⟨k + 1, by go_num, by omega, by rw [HNX.out]; exact H3.out⟩
        case measure => simp [intOf]; omega
      · rw [if_neg h0, List.append_nil] at hnx
        have q0 : (tm == 0) = false := by simpa using h0
        have HNX := Lib.hid hnx
        have HX2 := Lib.hid (hxn.alloc (.cells #[.int .i64 tm, .string tv] 47))
        clear hxn ht hnx
        go_wp2
        go_roundw
        case rel => exact ⟨k + 1, by go_num, by omega, by rw [HNX.out]; exact HX2.out⟩
        case measure => simp [intOf]; omega
    · obtain rfl : k = n := by omega
      obtain ⟨A', n', c', rfl⟩ := own_slX hxn.own
      have ho := hxn.own
      rw [List.take_of_length_le (by rw [HN.out]; exact Nat.le_refl _), HX.out] at ho
      obtain ⟨e1, e2, e3⟩ := xr_row ho
      rw [HM.out] at e1
      subst e1
      have H2 := Lib.hid e2
      have H3 := Lib.hid e3
      have HB := Lib.hid hxn.bel
      clear ho e2 e3 hxn
      go_wp2
      go_ret
      exact ⟨_, _, rfl, HB.out, H2.out, H3.out⟩

/-! ### May -/
/-- How often marks stood, among k bits. -/
def Cn (Cs : List Int) (o i : Int) (k : Nat) : Prop := Cs.length = 10 ∧ (∀ (j : Nat) (x : Int), Cs[j]? = some x → 0 ≤ x ∧ x ≤ k) ∧ ∃ c6 c7 c8 c9 : Int, Cs[6]? = some c6 ∧ Cs[7]? = some c7 ∧ Cs[8]? = some c8 ∧ Cs[9]? = some c9 ∧ c6 - c7 = o ∧ c8 - c9 = i
def noC : List Int := [0, 0, 0, 0, 0, 0, 0, 0, 0, 0]
theorem Cn.start : Cn noC 0 0 0 := by
  refine ⟨rfl, fun j x h => ?_, 0, 0, 0, 0, rfl, rfl, rfl, rfl, rfl, rfl⟩
  have hm := List.mem_of_getElem? h
  have : x = 0 := by simpa [noC] using hm
  subst this
  exact ⟨Int.le_refl _, Int.le_refl _⟩
theorem set_at {Cs : List Int} {m j : Nat} {x y : Int} (h : Cs[j]? = some y) (hm : m < Cs.length) : (Cs.set m x)[j]? = some (if m = j then x else y) := by
  rw [List.getElem?_set]
  by_cases e : m = j
  · rw [if_pos e, if_pos hm, if_pos e]
  · rw [if_neg e, if_neg e, h]
theorem Cn.step {Cs : List Int} {o i : Int} {k m : Nat} (h : Cn Cs o i k) (hm : m < 10) : ∃ x, Cs[m]? = some x ∧ 0 ≤ x ∧ x ≤ k ∧ Cn (Cs.set m (x + 1)) (o + dO m) (i + dI m) (k + 1) := by
  obtain ⟨hl, hb, c6, c7, c8, c9, h6, h7, h8, h9, ho, hi⟩ := h
  obtain ⟨x, hx⟩ : ∃ x, Cs[m]? = some x := ⟨_, List.getElem?_eq_getElem (by omega)⟩
  obtain ⟨x0, x1⟩ := hb m x hx
  have hml : m < Cs.length := by omega
  refine ⟨x, hx, x0, x1, by rw [List.length_set]; exact hl, fun j y hj => ?_, _, _, _, _, set_at h6 hml, set_at h7 hml, set_at h8 hml, set_at h9 hml, ?_, ?_⟩
  · rw [List.getElem?_set] at hj
    by_cases e : m = j
    · rw [if_pos e, if_pos hml] at hj
      obtain rfl := Option.some.inj hj
      omega
    · rw [if_neg e] at hj
      have := hb j y hj
      omega
  · have key : ∀ j y, Cs[j]? = some y → m = j → y = x := fun j y hy e => by rw [← e, hx] at hy; exact (Option.some.inj hy).symm
    have k6 := key 6 c6 h6
    have k7 := key 7 c7 h7
    unfold dO
    by_cases e6 : m = 6
    · have := k6 e6
      subst e6
      simp
      omega
    · by_cases e7 : m = 7
      · have := k7 e7
        subst e7
        simp
        omega
      · rw [if_neg e6, if_neg e7, if_neg (by omega), if_neg (by omega)]; omega
  · have key : ∀ j y, Cs[j]? = some y → m = j → y = x := fun j y hy e => by rw [← e, hx] at hy; exact (Option.some.inj hy).symm
    have k8 := key 8 c8 h8
    have k9 := key 9 c9 h9
    unfold dI
    by_cases e8 : m = 8
    · have := k8 e8
      subst e8
      simp
      omega
    · by_cases e9 : m = 9
      · have := k9 e9
        subst e9
        simp
        omega
      · rw [if_neg e8, if_neg e9, if_neg (by omega), if_neg (by omega)]; omega
/-- The array. -/
structure Ca (w0 : World) (g : Nat) (Cs : List Int) (w : World) : Prop where
  row : w.ownsRow w0.heap.size 61 1 (.slice (some ⟨g, 0, none⟩) 10 10) 10 (Cs.map iv)
  bel : Below w0.heap.size w0 w
theorem Ca.start (w : World) : Ca w w.heap.size noC (w.alloc (.cells #[.int .i64 0, .int .i64 0, .int .i64 0, .int .i64 0, .int .i64 0, .int .i64 0, .int .i64 0, .int .i64 0, .int .i64 0, .int .i64 0] 61)) :=
  ⟨⟨rfl, .inr ⟨w.heap.size, 10, _, rfl, Nat.le_refl _, heap_alloc_new w _, Nat.le_refl _, by unfold maxLen; omega, by simp, rfl⟩⟩, bel_alloc (Below.refl _ _) _⟩
theorem Ca.below {w0 w w' : World} {g : Nat} {Cs : List Int} (h : Ca w0 g Cs w) (b : Below w.heap.size w w') : Ca w0 g Cs w' := ⟨row_below h.row b, bel_trans h.bel b⟩
theorem Ca.at {w0 w : World} {g : Nat} {Cs : List Int} (h : Ca w0 g Cs w) {j : Nat} {x : Int} (hj : Cs[j]? = some x) : w.cell? ⟨g, j, none⟩ = some (.int .i64 x) ∧ w.frozen? ⟨g, j, none⟩ = false := by
  refine ⟨?_, h.row.frozenAt j⟩
  have := h.row.cells (g := g) rfl j (iv x) (by simp [hj])
  simpa [Addr.add_lit, iv] using this
theorem Ca.set {w0 w : World} {g : Nat} {Cs : List Int} (h : Ca w0 g Cs w) (j : Nat) (x : Int) : Ca w0 g (Cs.set j x) (w.setCell ⟨g, j, none⟩ (.int .i64 x)) :=
  ⟨by have := (h.row.stored j (iv x)).1; rwa [← List.map_set] at this, h.bel.setCell (h.row.lt g rfl).1 _⟩

set_option maxHeartbeats 2000000 in
theorem mmay_any {w : World} {A : Option Addr} {n c : Nat} {bs : List Bq} {r : Bool} (hr : mayL bs = r) (hA : Br w A bs) (hn : bs.length = n) (hz : n ≤ 100000) :
    Calls Tryz.prog 20 #[.slice A n c] w fun e w' => e = .returned (.bool r) ∧ Below w.heap.size w w' := by
  by_cases h4 : 4000 < n
  · have e : r = false := by rw [← hr, mayL, decide_eq_false (by omega)]; rfl
    subst e
    have q1 : (4000 : Int) < (n : Int) := by omega
    clear hr hA hn h4
    go_enter Tryz.func20, Tryz.ntmps20
    go_wp2
    go_ret
    exact ⟨rfl, Below.refl _ _⟩
  have q1 : ¬ (4000 : Int) < (n : Int) := by omega
  rw [mayL_is (by omega)] at hr
  have HA := Lib.hid hA
  have HN := Lib.hid hn
  have HR := Lib.hid hr
  have HS := Lib.hid (Ca.start w)
  clear hA hn hr
  go_enter Tryz.func20, Tryz.ntmps20
  go_wp2
  go_loopw [11] (fun i wr => ∃ (k : Nat) (o q : Int) (Cs : List Int), i = .int .i64 k ∧ k ≤ n ∧ 0 ≤ o ∧ 0 ≤ q ∧ Hid (Ca w w.heap.size Cs wr) ∧ Hid (Cn Cs o q k) ∧ Hid (mayF o q (bs.drop k) = r)) (fun i _ => n - (intOf i).toNat)
  case atStart => exact ⟨0, 0, 0, noC, rfl, Nat.zero_le _, Int.le_refl _, Int.le_refl _, HS, Lib.hid Cn.start, Lib.hid (by rw [List.drop_zero]; exact HR.out)⟩
  case round =>
    obtain ⟨k, o, q, Cs, rfl, hk, ho, hq, hca, hcn, hr⟩ := hrel
    have hsz := hca.out.bel.size
    by_cases hlt : k < n
    · obtain ⟨t, ht⟩ : ∃ t, bs[k]? = some t := ⟨_, List.getElem?_eq_getElem (by rw [HN.out]; exact hlt)⟩
      obtain ⟨b, o', rfl, c0, c1⟩ := (HA.out.below hca.out.bel) k t ht
      have lb := World.block_lt_of_cell? _ _ c0
      have hdr := drop_consM ht
      have hr2 := hr.out
      rw [hdr] at hr2
      have HR2 := Lib.hid hr2
      obtain ⟨tm, tv⟩ := t
      dsimp only at c0 c1
      obtain ⟨ok, hok⟩ : ∃ ok, okB ⟨tm, tv⟩ = ok := ⟨_, rfl⟩
      have r1 := fun w => mst_any hok w
      have HK := Lib.hid hok
      have HC1 := Lib.hid (hca.out.below (bel_alloc (Below.refl _ _) (.cells #[.int .i64 tm, .string tv] 47)))
      have hbx := heap_alloc_new wr (.cells #[.int .i64 tm, .string tv] 47)
      have HBX := Lib.hid hbx
      clear ht hdr hr2 hok hbx hr
      go_wp2_with fail
      ((with_reducible refine (r1 _).mono ?_))
      rintro e w5 ⟨rfl, hb5⟩
      have HC5 := Lib.hid (HC1.out.below hb5)
      cases ok with
      | false =>
        have e : r = false := by rw [← HR2.out]; exact mayF_bad _ _ _ HK.out
        subst e
        have HBB := Lib.hid HC5.out.bel
        clear hb5 r1
        go_wp2
        go_ret
        exact ⟨rfl, HBB.out⟩
      | true =>
        obtain ⟨hm0, hm1⟩ : 0 ≤ tm ∧ tm < 10 := by
          have := HK.out
          rw [okB, Bool.and_eq_true, Bool.and_eq_true, decide_eq_true_eq, decide_eq_true_eq] at this
          exact this.1
        obtain ⟨m, rfl⟩ := Int.eq_ofNat_of_zero_le hm0
        obtain ⟨x, hx, x0, x1, hcn2⟩ := hcn.out.step (m := m) (by omega)
        obtain ⟨d0, f0⟩ := HC5.out.at hx
        have b0 := (bel_cell hb5 (show (wr.alloc (.cells #[.int .i64 (m : Int), .string tv] 47)).cell? ⟨wr.heap.size, 0, none⟩ = some (.int .i64 (m : Int)) by rw [World.cell?, HBX.out]; rfl))
        have lw := World.block_lt_of_cell? _ _ b0
        have hca2 := HC5.out.set m (x + 1)
        obtain ⟨hl2, hbd, c6, c7, c8, c9, h6, h7, h8, h9, e6, e8⟩ := hcn2
        have d6 := (hca2.at h6).1
        have d7 := (hca2.at h7).1
        have d8 := (hca2.at h8).1
        have d9 := (hca2.at h9).1
        have HCN := Lib.hid (show Cn (Cs.set m (x + 1)) (o + dO m) (q + dI m) (k + 1) from ⟨hl2, hbd, c6, c7, c8, c9, h6, h7, h8, h9, e6, e8⟩)
        have HCA := Lib.hid hca2
        clear hb5 r1 hca2 hbd h6 h7 h8 h9 hx hcn hl2
        have hm10 : m < 10 := by omega
        by_cases hov : 0 ≤ o + dO m ∧ 0 ≤ q + dI m
        · have p1 : ¬ c6 < c7 := by omega
          have p2 : ¬ c8 < c9 := by omega
          have HR3 := Lib.hid ((mayF_on _ HK.out hov.1 hov.2).symm.trans HR2.out)
          go_wp2
          go_roundw
          case rel => exact ⟨k + 1, o + dO m, q + dI m, Cs.set m (x + 1), by go_num, by omega, hov.1, hov.2, HCA, HCN, HR3⟩
          case measure => simp [intOf]; omega
        · have e : r = false := by rw [← HR2.out]; exact mayF_over _ hov
          subst e
          have HBB := Lib.hid HCA.out.bel
          by_cases p1 : c6 < c7
          · clear hov
            go_wp2
            go_ret
            exact ⟨rfl, HBB.out⟩
          · have p2 : c8 < c9 := by omega
            clear hov
            go_wp2
            go_ret
            exact ⟨rfl, HBB.out⟩
    · obtain rfl : k = n := by omega
      have hr2 := hr.out
      rw [List.drop_eq_nil_of_le (by rw [HN.out]; exact Nat.le_refl _), mayF] at hr2
      obtain ⟨hl2, hbd, c6, c7, c8, c9, h6, h7, h8, h9, e6, e8⟩ := hcn.out
      have d6 := (hca.out.at h6).1
      have d7 := (hca.out.at h7).1
      have d8 := (hca.out.at h8).1
      have d9 := (hca.out.at h9).1
      have HBB := Lib.hid hca.out.bel
      have HRR := Lib.hid hr2
      clear hr2 hr hca hcn hl2 hbd h6 h7 h8 h9
      by_cases p1 : c6 = c7
      · by_cases p2 : c8 = c9
        · have e : r = true := by
            rw [← HRR.out, show o = 0 by omega, show q = 0 by omega]; rfl
          have q1 : (c6 == c7) = true := by simpa using p1
          have q2 : (c8 == c9) = true := by simpa using p2
          subst e
          clear p1 p2
          go_wp2
          go_ret
          exact ⟨rfl, HBB.out⟩
        · have e : r = false := by
            rw [← HRR.out, beq_false_of_ne (show q ≠ 0 by omega)]; simp
          have q1 : (c6 == c7) = true := by simpa using p1
          have q2 : (c8 == c9) = false := by simpa using p2
          subst e
          clear p1 p2
          go_wp2
          go_ret
          exact ⟨rfl, HBB.out⟩
      · have e : r = false := by
          rw [← HRR.out, beq_false_of_ne (show o ≠ 0 by omega)]; rfl
        have q1 : (c6 == c7) = false := by simpa using p1
        subst e
        clear p1
        go_wp2
        go_ret
        exact ⟨rfl, HBB.out⟩
end Go.Proofs.YtpcijjdlppoblaaGreatDoor

/- Stage 16's common beginning: the chapter's example (awake); FewToks. -/
namespace Go.Proofs.YtpcijjdlppoblaaGreatDoor
open Go.RowKit
set_option linter.unusedVariables false
set_option maxRecDepth 100000

theorem below_drewNM' {B : Nat} {a w : World} (h : Below B a w) (n : Nat) : Below B a (w.drewN n) := ⟨h.os, h.tape, h.output, h.size, h.block⟩
/-- How FewToks ends, and what it tells of the texts. -/
def FewF (n : Nat) (ts : List Tq) (w : World) (e : Ending) (w' : World) : Prop := ∃ b, e = .returned (.bool b) ∧ (b = true → n ≤ 100 ∧ ∀ t ∈ ts, t.v.size ≤ 600) ∧ w = w'
set_option maxHeartbeats 1000000 in
theorem fewF_any {w : World} {A : Option Addr} {n c : Nat} {ts : List Tq} (ha : Tr w A ts) (hn : ts.length = n) (hz : n ≤ 9223372036854775807) (hv : ∀ t ∈ ts, t.v.size ≤ 9223372036854775807) :
    Calls Tryz.prog 10 #[.slice A n c] w fun e w' => FewF n ts w e w' := by
  have HN := Lib.hid hn
  have HA := Lib.hid ha
  have HV := Lib.hid hv
  clear hn ha hv
  go_enter Tryz.func10, Tryz.ntmps10
  go_wp2
  go_loop [3] (fun i => ∃ k : Nat, i = .int .i64 k ∧ k ≤ n ∧ k ≤ 101 ∧ ∀ t ∈ ts.take k, t.v.size ≤ 600) (fun i => n - (intOf i).toNat)
  case atStart => exact ⟨0, rfl, Nat.zero_le _, by decide, fun t ht => by simp at ht⟩
  case round =>
    obtain ⟨k, rfl, hk, hk2, hsz⟩ := hrel
    have HS := Lib.hid hsz
    clear hsz
    by_cases hlt : k < n
    · by_cases hl2 : k ≤ 100
      · obtain ⟨t, ht⟩ : ∃ t, ts[k]? = some t := ⟨_, List.getElem?_eq_getElem (by rw [HN.out]; exact hlt)⟩
        obtain ⟨b, o, rfl, c0, c1, c2, c3⟩ := HA.out k t ht
        have hvv := HV.out t (List.mem_of_getElem? ht)
        have HT := Lib.hid ht
        clear ht
        by_cases h6 : 600 < t.v.size
        · have g6 : (600 : Int) < (t.v.size : Int) := by omega
          have gk : (k : Int) ≤ 100 := by omega
          go_wp2
          go_ret
          exact ⟨false, rfl, fun e => (by cases e), rfl⟩
        · have g6 : ¬ (600 : Int) < (t.v.size : Int) := by omega
          have gk : (k : Int) ≤ 100 := by omega
          go_wp2
          go_round
          case rel =>
            refine ⟨k + 1, by go_num, by omega, by omega, fun u hu => ?_⟩
            rw [List.take_add_one, HT.out, Option.toList_some, List.mem_append, List.mem_singleton] at hu
            rcases hu with hu | rfl
            · exact HS.out u hu
            · omega
          case measure => simp [intOf]; omega
      · have gk : ¬ (k : Int) ≤ 100 := by omega
        have gn : ¬ (n : Int) ≤ 100 := by omega
        go_wp2
        go_ret
        exact ⟨false, rfl, fun e => (by cases e), rfl⟩
    · obtain rfl : k = n := by omega
      have HS2 := Lib.hid (fun t ht => HS.out t (by rw [List.take_of_length_le (by rw [HN.out]; exact Nat.le_refl _)]; exact ht))
      by_cases hl2 : k ≤ 100
      · have gk : (k : Int) ≤ 100 := by omega
        go_wp2
        go_ret
        exact ⟨true, rfl, fun _ => ⟨hl2, HS2.out⟩, rfl⟩
      · have gk : ¬ (k : Int) ≤ 100 := by omega
        go_wp2
        go_ret
        exact ⟨false, rfl, fun e => (by cases e), rfl⟩

theorem lex_cap {s : ByteArray} {Y : List Yl} (hs : s.size ≤ 1000000) (hm : thru s.data.toList = s.data.toList.length) (hY : ylds s.data.toList 0 = Y) (ho : allOk Y = true) (w : World) :
    Calls Tryz.prog 24 #[.string s] w fun e w' => ∃ A c, e = .returned (.tuple #[.slice A Y.length c, .int .i64 0, .int .i64 s.size]) ∧ Below w.heap.size w w' ∧ Tr w' A (Y.map Yl.q) ∧ Y.length ≤ c := by
  refine (lex_in s hs w (badI_all' hm)).mono ?_
  rintro e w' ⟨v, er, p, rfl, hb, ⟨h1, rfl, rfl, h4⟩ | ⟨h1, _⟩⟩
  · rw [hY] at h4
    obtain ⟨A, n, c, rfl, hc⟩ := own_slB h4
    obtain ⟨e1, e2⟩ := tr_row h4
    subst e1
    exact ⟨A, c, rfl, hb, e2, hc⟩
  · rw [hY, ho] at h1; cases h1

/-! ### The example -/
def exA : List Yl := [⟨⟨1, [123], 1, 0⟩, 0⟩, ⟨⟨2, [97], 1, 0⟩, 1⟩, ⟨⟨1, [125], 1, 0⟩, 2⟩]
theorem exA_thru : thru [123, 97, 125] = 3 := by
  rw [thru_asc _ (by decide) (by decide), thru_asc _ (by decide) (by decide), thru_asc _ (by decide) (by decide), thru_stop (by rw [nxt_nil])]
theorem exA_ylds : ylds [123, 97, 125] 0 = exA := by
  unfold exA
  rw [ylds_step (t := ⟨1, [123], 1, 0⟩) 0 (by decide +kernel) (by decide) (by kernel_rfl) rfl]
  show _ :: ylds [97, 125] 1 = _
  rw [ylds_step (t := ⟨2, [97], 1, 0⟩) 1 (by decide +kernel) (by decide) (by kernel_rfl) rfl]
  show _ :: _ :: ylds [125] 2 = _
  rw [ylds_step (t := ⟨1, [125], 1, 0⟩) 2 (by decide +kernel) (by decide) (by kernel_rfl) rfl]
  show _ :: _ :: _ :: ylds [] 3 = _
  rw [ylds_stop 3 (by decide)]
def exT : List Tq := exA.map Yl.q
theorem exT_te : exT.map teQ = [12, 18, 14] := by decide +kernel
/-- The symbols of the example. -/
def docX : List Sq := match derF 60 docS docR with
  | some (o, _, _) => o
  | none => []
def docC : Bool := match derF 60 docS docR with
  | some (o, Z, f) => f && Z.isEmpty
  | none => false
theorem docC_eq : docC = true := by decide +kernel
theorem ful_docX : Ful docR docX true := by
  have h := docC_eq
  unfold docC at h
  unfold docX
  cases e : derF 60 docS docR with
  | none => rw [e] at h; cases h
  | some y =>
    obtain ⟨o, Z, f⟩ := y
    rw [e] at h
    simp only [Bool.and_eq_true, List.isEmpty_iff] at h
    obtain ⟨rfl, rfl⟩ := h
    exact Ful.of (derF_der _ _ _ e)
theorem der_docX : derB true docX [12, 18, 14] = true := by decide +kernel
def exBi : List Bq := [⟨0, mkb [123]⟩, ⟨8, noV⟩, ⟨5, noV⟩, ⟨0, mkb [97]⟩, ⟨9, noV⟩, ⟨5, noV⟩, ⟨0, mkb [125]⟩]
theorem bt_docX : btF docX exT = some exBi := by kernel_rfl
theorem may_exBi : mayL exBi = true := by decide +kernel
theorem may_exI : mayL [⟨8, noV⟩] = false := by decide +kernel
theorem sh_x : shQ ⟨5, ⟨#[120]⟩, 0, 0⟩ = some ⟨#[34, 120, 34]⟩ := by
  have h : qtA [120] = some [120] := by
    have := qtA_go (c := 120) (.inr (by rw [srcB_iff]; omega)) []
    rw [enc1 (by decide)] at this
    simpa [qtA_nil] using this
  rw [shQ, if_pos rfl]
  show (qtA [120]).map _ = _
  rw [h]; rfl
/-- How Lex, Parse, Bits end at the example. -/
def ExL (w : World) (e : Ending) (w' : World) : Prop := ∃ A c, e = .returned (.tuple #[.slice A 3 c, .int .i64 0, .int .i64 3]) ∧ Below w.heap.size w w' ∧ Tr w' A exT ∧ 3 ≤ c
theorem lex_ex (w : World) : Calls Tryz.prog 24 #[.string ⟨#[123, 97, 125]⟩] w fun e w' => ExL w e w' :=
  lex_cap (s := ⟨#[123, 97, 125]⟩) (Y := exA) (by decide) exA_thru exA_ylds rfl w
def ExP (w : World) (e : Ending) (w' : World) : Prop := ∃ A c, e = .returned (.tuple #[.slice A 10 c, .int .i64 (-1)]) ∧ Below w.heap.size w w' ∧ Ri w' A docR ∧ 10 ≤ c
theorem parse_ex {w : World} {A : Option Addr} {c : Nat} (hA : Ri w A [12, 18, 14]) (ht : TabR w) : Calls Tryz.prog 21 #[.slice A 3 c] w fun e w' => ExP w e w' := by
  refine (parse_any (n := 3) (c := c) (ful_par ful_docX der_docX) (R' := docR) (m := 10) (at' := -1) (by decide) rfl (by decide) rfl (by decide) hA ht).mono ?_
  rintro e w' ⟨B, d, rfl, hb, hs, -, hc⟩
  exact ⟨B, d, rfl, hb, hs, hc⟩
def ExB (w : World) (e : Ending) (w' : World) : Prop := ∃ g o c, e = .returned (.tuple #[.slice (some ⟨g, o, none⟩) 7 (c + 7), .bool true]) ∧ Below w.heap.size w w' ∧ Br w' (some ⟨g, o, none⟩) exBi
theorem bits_ex {w : World} {A A2 : Option Addr} {c c2 : Nat} (hA : Ri w A docR) (hc : 10 ≤ c) (hA2 : Tr w A2 exT) (hc2 : 3 ≤ c2) (ht : TabR w) (hk : TabK w) (hq : Tab w) :
    Calls Tryz.prog 11 #[.slice A 10 c, .slice A2 3 c2] w fun e w' => ExB w e w' := by
  refine (bits_any (n := 10) (n2 := 3) (m := 7) (c := c) (c2 := c2) (r := true) (o := true) (O := some exBi) (bs := exBi) ful_docX exT_te der_docX bt_docX rfl rfl rfl rfl hc (by decide) hA rfl hc2 (by decide) (by decide) hA2 ht hk hq).mono ?_
  rintro e w' ⟨B, d, rfl, hb, hs, -, hc⟩
  obtain ⟨g, o, rfl, -⟩ := hs 0 _ rfl
  obtain ⟨d', rfl⟩ : ∃ d', d = d' + 7 := ⟨d - 7, by omega⟩
  exact ⟨g, o, d', rfl, hb, hs⟩
theorem br_drop {w : World} {g o : Nat} {l : List Bq} (h : Br w (some ⟨g, o, none⟩) l) (k : Nat) : Br w (some ⟨g, o + k * 2, none⟩) (l.drop k) := fun j t hj => by
  rw [List.getElem?_drop] at hj
  obtain ⟨b', o', e, c0, c1⟩ := h (k + j) t hj
  injection e with e
  injection e with e1 e2
  subst e1 e2
  refine ⟨g, o + k * 2, rfl, ?_, ?_⟩
  · rw [show o + k * 2 + j * 2 = o + (k + j) * 2 by omega]; exact c0
  · rw [show o + k * 2 + j * 2 + 1 = o + (k + j) * 2 + 1 by omega]; exact c1
theorem Br.take {w : World} {A : Option Addr} {l : List Bq} (h : Br w A l) (k : Nat) : Br w A (l.take k) := fun j t hj => by
  rw [List.getElem?_take] at hj
  by_cases e : j < k
  · rw [if_pos e] at hj; exact h j t hj
  · rw [if_neg e] at hj; cases hj
set_option maxHeartbeats 4000000 in
theorem awm_any (w : World) (ht : TabR w) (hk : TabK w) (hq : Tab w) : Calls Tryz.prog 9 #[] w fun e w' => e = .returned (.bool true) ∧ Below w.heap.size w w' := by
  have HTR := Lib.hid ht
  have HTK := Lib.hid hk
  have HTQ := Lib.hid hq
  have r2 := fun w A c h h' => kall_any (w := w) (A := A) (c := c) (n := 3) (L := [12, 18, 14]) (ts := exT) exT_te h h' rfl (by decide)
  have r5 := fun w h => msh_any (k := 5) (v := ⟨#[120]⟩) (a := 0) (z := 0) (S := ⟨#[34, 120, 34]⟩) (is := true) (w := w) (by rw [sh_x]; rfl) (by rw [sh_x]; rfl) (by decide) h
  have r6 := fun w A c h => mtxt_any (w := w) (A := A) (c := c) (n := 7) (bs := exBi) (m := 3) rfl rfl h rfl (by decide)
  have r7 := fun w A c h => mmay_any (w := w) (A := A) (c := c) (n := 7) (bs := exBi) may_exBi h rfl (by decide)
  have r8 := fun w A c h => mmay_any (w := w) (A := A) (c := c) (n := 1) (bs := [⟨8, noV⟩]) may_exI h rfl (by decide)
  clear ht hk hq
  go_enter Tryz.func9, Tryz.ntmps9
  go_wp2_with fail
  ((with_reducible refine (lex_ex _).mono ?_))
  rintro e w1 ⟨A1, d1, rfl, hb1, ht1, hc1⟩
  have HB1 := Lib.hid hb1
  have HT1 := Lib.hid ht1
  clear hb1 ht1
  go_wp2_with fail
  ((with_reducible refine (r2 _ _ _ (HTK.out.below HB1.out) HT1.out).mono ?_))
  rintro e w2 ⟨A2, d2, rfl, hb2, hr2, -⟩
  have HB2 := Lib.hid (bel_trans HB1.out hb2)
  have HT2 := Lib.hid (HT1.out.below hb2)
  have HR2 := Lib.hid hr2
  clear hb2 hr2 HT1
  go_wp2_with fail
  ((with_reducible refine (parse_ex HR2.out (HTR.out.below HB2.out)).mono ?_))
  rintro e w3 ⟨A3, d3, rfl, hb3, hr3, hc3⟩
  have HB3 := Lib.hid (bel_trans HB2.out hb3)
  have HT3 := Lib.hid (HT2.out.below hb3)
  have HR3 := Lib.hid hr3
  clear hb3 hr3 HT2 HR2
  go_wp2_with fail
  ((with_reducible refine (bits_ex HR3.out hc3 HT3.out hc1 (HTR.out.below HB3.out) (HTK.out.below HB3.out) (HTQ.out.below HB3.out)).mono ?_))
  rintro e w4 ⟨g, o, c, rfl, hb4, hs4⟩
  have HB4 := Lib.hid (bel_trans HB3.out hb4)
  have HS4 := Lib.hid hs4
  clear hb4 hs4 HT3 HR3
  go_wp2_with fail
  ((with_reducible refine (r5 _ (HTQ.out.below HB4.out)).mono ?_))
  rintro e w5 ⟨rfl, hb5⟩
  have HB5 := Lib.hid (bel_trans HB4.out hb5)
  have hs5 := HS4.out.below hb5
  obtain ⟨_, _, e1, c1, -⟩ := hs5 1 ⟨8, noV⟩ rfl
  injection e1 with e1; injection e1 with e1 e2; subst e1 e2
  obtain ⟨_, _, e1, -, c3⟩ := hs5 3 ⟨0, mkb [97]⟩ rfl
  injection e1 with e1; injection e1 with e1 e2; subst e1 e2
  have HS5 := Lib.hid hs5
  have c3' : w5.cell? ⟨g, o + 7, none⟩ = some (.string ⟨#[97]⟩) := c3
  have c1' : w5.cell? ⟨g, o + 2, none⟩ = some (.int .i64 8) := c1
  clear hb5 hs5 HS4 c1 c3
  go_wp2_with fail
  ((with_reducible refine (r6 _ _ _ HS5.out).mono ?_))
  rintro e w6 ⟨A6, d6, rfl, hb6, -, -⟩
  have HB6 := Lib.hid (bel_trans HB5.out hb6)
  have HS6 := Lib.hid (HS5.out.below hb6)
  clear hb6
  go_wp2_with fail
  ((with_reducible refine (r7 _ _ _ HS6.out).mono ?_))
  rintro e w7 ⟨rfl, hb7⟩
  have HB7 := Lib.hid (bel_trans HB6.out hb7)
  have HS7 := Lib.hid (show Br w7 (some ⟨g, o + 2, none⟩) [⟨8, noV⟩] from (br_drop (HS6.out.below hb7) 1).take 1)
  clear hb7
  go_wp2_with fail
  ((with_reducible refine (r8 _ _ _ HS7.out).mono ?_))
  rintro e w8 ⟨rfl, hb8⟩
  have HB8 := Lib.hid (bel_trans HB7.out hb8)
  clear hb8
  go_wp2_with fail
  go_ret
  exact ⟨by simp, HB8.out⟩
end Go.Proofs.YtpcijjdlppoblaaGreatDoor
