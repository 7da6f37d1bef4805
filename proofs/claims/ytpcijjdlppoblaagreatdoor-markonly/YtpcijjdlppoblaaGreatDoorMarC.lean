/- Contracts of package mark: stands, Show, turns and its closure. -/
import Derived.Test.YtpcijjdlppoblaaGreatDoorTxtR
import Derived.Test.YtpcijjdlppoblaaGreatDoorQuoC
import Derived.Deep.RegionLaw
import Derived.Test.YtpcijjdlppoblaaGreatDoorKinI
import Derived.Test.YtpcijjdlppoblaaGreatDoorYieF
import Derived.Test.YtpcijjdlppoblaaGreatDoorSliI
namespace Go.Proofs.YtpcijjdlppoblaaGreatDoor
open Go.RowKit
set_option linter.unusedVariables false
set_option maxRecDepth 100000

set_option maxHeartbeats 1000000 in
theorem mst_any {m : Int} {v : ByteArray} {r : Bool} (hr : okB ⟨m, v⟩ = r) (w : World) :
    Calls Tryz.prog 32 #[.agg #[.int .i64 m, .string v]] w fun e w' => e = .returned (.bool r) ∧ Below w.heap.size w w' := by
  have hb := bel_alloc (Below.refl _ w) (.cells #[.int .i64 m, .string v] 47)
  by_cases h0 : 0 ≤ m
  · by_cases h1 : m < 10
    · by_cases h2 : v.size = 0
      · obtain rfl : v = ⟨#[]⟩ := by
          obtain ⟨⟨l⟩⟩ := v
          cases l with
          | nil => rfl
          | cons a l => cases h2
        have e : r = true := by rw [← hr, okB, decide_eq_true h0, decide_eq_true h1]; rfl
        clear hr h2
        go_enter Tryz.func32, Tryz.ntmps32
        go_wp2
        go_ret
        exact ⟨by rw [e]; rfl, hb⟩
      · by_cases h3 : m = 0
        · have e : r = true := by rw [← hr, h3]; simp [okB]
          subst h3
          have q2 : (v.toList == []) = false := by
            obtain ⟨⟨l⟩⟩ := v
            cases l with
            | nil => exact absurd rfl h2
            | cons a l => rw [Lib.toList_data]; rfl
          clear hr h2
          go_enter Tryz.func32, Tryz.ntmps32
          go_wp2
          go_ret
          exact ⟨by rw [e]; simp, hb⟩
        · have e : r = false := by
            rw [← hr, okB]
            rw [decide_eq_false (show ¬ (⟨m, v⟩ : Bq).v.size = 0 from h2), decide_eq_false (show ¬ (⟨m, v⟩ : Bq).m = 0 from h3)]
            simp
          have q2 : (v.toList == []) = false := by
            obtain ⟨⟨l⟩⟩ := v
            cases l with
            | nil => exact absurd rfl h2
            | cons a l => rw [Lib.toList_data]; rfl
          have q3 : (m == 0) = false := by simpa using h3
          clear hr h2 h3
          go_enter Tryz.func32, Tryz.ntmps32
          go_wp2
          go_ret
          exact ⟨by rw [e]; simp, hb⟩
    · have e : r = false := by rw [← hr, okB, decide_eq_false (show ¬ (⟨m, v⟩ : Bq).m < 10 from h1)]; simp
      clear hr
      go_enter Tryz.func32, Tryz.ntmps32
      go_wp2
      go_ret
      exact ⟨rfl, hb⟩
  · have e : r = false := by rw [← hr, okB, decide_eq_false (show ¬ 0 ≤ (⟨m, v⟩ : Bq).m from h0)]; simp
    clear hr
    go_enter Tryz.func32, Tryz.ntmps32
    go_wp2
    go_ret
    exact ⟨rfl, hb⟩

/-- What Show answers, and whether. -/
def shV (o : Option ByteArray) : ByteArray := o.getD noV
theorem msh_any {k a z : Int} {v S : ByteArray} {is : Bool} (hS : shV (shQ ⟨k, v, a, z⟩) = S) (hi : (shQ ⟨k, v, a, z⟩).isSome = is) (hz : v.size ≤ 1000000) {w : World} (ht : Tab w) :
    Calls Tryz.prog 13 #[.agg #[.int .i64 k, .string v, .int .i64 a, .int .i64 z]] w fun e w' => e = .returned (.tuple #[.string S, .bool is]) ∧ Below w.heap.size w w' := by
  have hb := Lib.hid (bel_alloc (Below.refl _ w) (.cells #[.int .i64 k, .string v, .int .i64 a, .int .i64 z] 25))
  have HT := Lib.hid (ht.below hb.out)
  by_cases h5 : k = 5
  · have r1 := fun w h => quote_any v w hz h
    have e1 : mkb ((qtA v.data.toList).elim [] quo) = S := by
      rw [← hS, shQ, if_pos h5]
      cases qtA v.data.toList <;> rfl
    have e2 : (qtA v.data.toList).isSome = is := by
      rw [← hi, shQ, if_pos h5]
      cases qtA v.data.toList <;> rfl
    rw [e1, e2] at r1
    subst h5
    clear hS hi ht e1 e2 hz
    go_enter Tryz.func13, Tryz.ntmps13
    go_wp2_with fail
    ((with_reducible refine (r1 _ HT.out).mono ?_))
    rintro e w1 ⟨rfl, hb1⟩
    have HB1 := Lib.hid (bel_trans hb.out hb1)
    clear hb1
    go_wp2_with fail
    go_ret2
    exact ⟨rfl, HB1.out⟩
  · have e1 : v = S := by rw [← hS, shQ, if_neg h5]; rfl
    have e2 : true = is := by rw [← hi, shQ, if_neg h5]; rfl
    subst e1 e2
    have q1 : (k == 5) = false := by simpa using h5
    clear hS hi ht hz h5
    go_enter Tryz.func13, Tryz.ntmps13
    go_wp2_with fail
    go_ret2
    exact ⟨rfl, hb.out⟩

theorem mtu_any (A : Option Addr) (n c : Nat) (w : World) :
    Calls Tryz.prog 26 #[.slice A n c] w fun e w' => e = .returned (.func (.func 41) #[] #[.pointer (some ⟨w.heap.size, 0, none⟩)]) ∧ w' = w.alloc (.cells #[.slice A n c] 23) := by
  have hmf : ∀ (fn : Fn) (first cap : Array Value) (w : World), (Instr.makeFunc fn first cap).run Tryz.prog w = .ok (.func fn first cap) w := fun _ _ _ _ => rfl
  go_enter Tryz.func26, Tryz.ntmps26
  go_wp2_with fail
  go_ret
  exact ⟨rfl, rfl⟩
end Go.Proofs.YtpcijjdlppoblaaGreatDoor

/- Package mark: the closure that tells the token whose turn it is; Bits. -/
namespace Go.Proofs.YtpcijjdlppoblaaGreatDoor
open Go.RowKit
set_option linter.unusedVariables false
set_option maxRecDepth 100000

theorem tr_tail {w : World} {b o : Nat} {t : Tq} {S : List Tq} (h : Tr w (some ⟨b, o, none⟩) (t :: S)) : Tr w (some ⟨b, o + 4, none⟩) S := fun j x hj => by
  obtain ⟨b', o', e, c0, c1, c2, c3⟩ := h (j + 1) x (by simpa using hj)
  injection e with e
  injection e with e1 e2
  subst e1 e2
  refine ⟨b, o + 4, rfl, ?_, ?_, ?_, ?_⟩
  · rw [show o + 4 + j * 4 = o + (j + 1) * 4 by omega]; exact c0
  · rw [show o + 4 + j * 4 + 1 = o + (j + 1) * 4 + 1 by omega]; exact c1
  · rw [show o + 4 + j * 4 + 2 = o + (j + 1) * 4 + 2 by omega]; exact c2
  · rw [show o + 4 + j * 4 + 3 = o + (j + 1) * 4 + 3 by omega]; exact c3
/-- No bit yet. -/
def zrB (m : Nat) : List Bq := List.replicate m ⟨0, noV⟩
theorem made_bits (m : Nat) : madeCells #[.int .i64 0, .string ⟨#[]⟩] (m * 2) = (clb (zrB m)).toArray := by
  apply Array.ext
  · rw [size_madeCells, List.size_toArray, clb_len, zrB, List.length_replicate]
  · intro j h1 h2
    rw [size_madeCells] at h1
    have hz : (zrB m)[j / 2]? = some ⟨0, noV⟩ := by rw [zrB, List.getElem?_replicate, if_pos (by omega)]
    obtain ⟨e0, e1⟩ := clb_at hz
    have hl : j < (clb (zrB m)).length := by rw [clb_len, zrB, List.length_replicate]; omega
    have hm : j % 2 = 0 ∨ j % 2 = 1 := by omega
    have key : ∀ v, (clb (zrB m))[j]? = some v → (clb (zrB m)).toArray[j] = v := fun v hv => by
      rw [List.getElem_toArray]
      exact Option.some.inj ((List.getElem?_eq_getElem hl).symm.trans hv)
    simp only [madeCells, Array.getElem_map, Array.getElem_range]
    rcases hm with hm | hm
    · rw [key _ (by rw [show j = j / 2 * 2 by omega]; exact e0), show (#[Value.int .i64 0, Value.string ⟨#[]⟩] : Array Value).size = 2 from rfl, hm]; rfl
    · rw [key _ (by rw [show j = j / 2 * 2 + 1 by omega]; exact e1), show (#[Value.int .i64 0, Value.string ⟨#[]⟩] : Array Value).size = 2 from rfl, hm]; rfl
theorem clb_setm (pre : List Bq) (b : Bq) (r : List Bq) (m : Int) : (clb (pre ++ b :: r)).set (pre.length * 2) (.int .i64 m) = clb (pre ++ ⟨m, b.v⟩ :: r) := by
  rw [clb_append, clb_append, List.set_append_right _ _ (by rw [clb_len]; exact Nat.le_refl _), clb_len, Nat.sub_self]; rfl
theorem clb_setv (pre : List Bq) (b : Bq) (r : List Bq) (v : ByteArray) : (clb (pre ++ b :: r)).set (pre.length * 2 + 1) (.string v) = clb (pre ++ ⟨b.m, v⟩ :: r) := by
  rw [clb_append, clb_append, List.set_append_right _ _ (by rw [clb_len]; omega), clb_len, Nat.add_sub_cancel_left]; rfl
/-- A block of bits, as a row of the call's own. -/
theorem own_bits (w : World) (base : Nat) (hb : base ≤ w.heap.size) (l : List Bq) {m : Nat} (hm : l.length = m) (h : m ≤ 1000000) : (w.alloc (.cells (clb l).toArray 47)).ownsRow base 47 2 (.slice (some ⟨w.heap.size, 0, none⟩) m m) m (clb l) := by
  subst hm
  exact ⟨by rw [clb_len], .inr ⟨w.heap.size, l.length, (clb l).toArray, rfl, hb, heap_alloc_new w _, Nat.le_refl _, by unfold maxLen; omega, by simp [clb_len], by rw [List.take_of_length_le (by simp [clb_len])]⟩⟩
/-- Bits in their block at g, and the box at p with the tokens that are left; all else is as it was in w0. -/
structure Mk (w0 : World) (g p m : Nat) (bs : List Bq) (A : Option Addr) (n c : Nat) (ts : List Tq) (w : World) : Prop where
  row : w.ownsRow w0.heap.size 47 2 (.slice (some ⟨g, 0, none⟩) m m) m (clb bs)
  box : w.heap[p]? = some (.cells #[.slice A n c] 23 (0, 0))
  hp : w0.heap.size ≤ p
  tr : Tr w0 A ts
  len : ts.length = n
  cap : n ≤ c
  bel : Below w0.heap.size w0 w
section
variable {w0 : World} {g p m : Nat} {bs : List Bq} {A : Option Addr} {n c : Nat} {ts : List Tq} {w : World}
theorem Mk.hg (h : Mk w0 g p m bs A n c ts w) : w0.heap.size ≤ g := (h.row.lt g rfl).1
theorem Mk.ne (h : Mk w0 g p m bs A n c ts w) : g ≠ p := fun e => row_box h.row h.box (by decide) (by rw [e]; rfl)
theorem Mk.below (h : Mk w0 g p m bs A n c ts w) {w' : World} (b : Below w.heap.size w w') : Mk w0 g p m bs A n c ts w' :=
  { h with
    row := row_below h.row b
    box := (b.block p (lt_of_block h.box)).trans h.box
    bel := bel_trans h.bel b }
theorem Mk.start1 (hA : Tr w0 A ts) (hl : ts.length = n) (hc : n ≤ c) (hb : Below w0.heap.size w0 w) {m : Nat} (h : m ≤ 1000000) {MC : Array Value} (hm : MC = (clb (zrB m)).toArray) :
    Mk w0 w.heap.size (w.heap.size + 1) m (zrB m) A n c ts ((w.alloc (.cells MC 47)).alloc (.cells #[.slice A n c] 23)) := by
  subst hm
  exact ⟨(own_bits w _ hb.size (zrB m) List.length_replicate h).alloc _, heap_alloc2_new _ _ _, by have := hb.size; omega, hA, hl, hc, bel_alloc (bel_alloc hb _) _⟩
theorem Mk.start2 (hA : Tr w0 A ts) (hl : ts.length = n) (hc : n ≤ c) (hb : Below w0.heap.size w0 w) {m : Nat} (h : m ≤ 1000000) {MC : Array Value} (hm : MC = (clb (zrB m)).toArray) :
    Mk w0 (w.heap.size + 1) w.heap.size m (zrB m) A n c ts ((w.alloc (.cells #[.slice A n c] 23)).alloc (.cells MC 47)) := by
  subst hm
  have h1 := own_bits (w.alloc (.cells #[.slice A n c] 23)) w0.heap.size (by rw [World.size_alloc]; have := hb.size; omega) (zrB m) List.length_replicate h
  rw [World.size_alloc] at h1
  exact ⟨h1, heap_alloc2_old _ _ _, hb.size, hA, hl, hc, bel_alloc (bel_alloc hb _) _⟩
/-- The next token's turn. -/
theorem Mk.turn (h : Mk w0 g p m bs A n c ts w) {A' : Option Addr} {n' c' : Nat} {ts' : List Tq} (hA : Tr w0 A' ts') (hl : ts'.length = n') (hc : n' ≤ c') : Mk w0 g p m bs A' n' c' ts' (w.setCell ⟨p, 0, none⟩ (.slice A' n' c')) :=
  { row := ownsRow_setCell_other h.row (row_box h.row h.box (by decide)) _
    box := one_setCell h.box
    hp := h.hp
    tr := hA
    len := hl
    cap := hc
    bel := h.bel.setCell h.hp _ }
theorem Mk.at {pre r : List Bq} {b : Bq} (h : Mk w0 g p m (pre ++ b :: r) A n c ts w) {k : Nat} (hk : pre.length = k) :
    w.cell? ⟨g, k * 2, none⟩ = some (.int .i64 b.m) ∧ w.cell? ⟨g, k * 2 + 1, none⟩ = some (.string b.v) ∧ w.frozen? ⟨g, k * 2, none⟩ = false ∧ w.frozen? ⟨g, k * 2 + 1, none⟩ = false := by
  obtain ⟨e0, e1⟩ := clb_at (bs := pre ++ b :: r) (j := k) (t := b) (by rw [List.getElem?_append_right (by omega), hk, Nat.sub_self]; rfl)
  have h0 := h.row.cells (g := g) rfl _ _ e0
  have h1 := h.row.cells (g := g) rfl _ _ e1
  rw [Addr.add_lit] at h0 h1
  rw [Nat.zero_add] at h0 h1
  exact ⟨h0, h1, h.row.frozenAt _, h.row.frozenAt _⟩
theorem Mk.other (h : Mk w0 g p m bs A n c ts w) (j : Nat) (v : Value) : (w.setCell ⟨g, j, none⟩ v).heap[p]? = some (.cells #[.slice A n c] 23 (0, 0)) := (Below.heap_setCell _ _ _ _ (Ne.symm h.ne)).trans h.box
theorem Mk.mark {pre r : List Bq} {b : Bq} (h : Mk w0 g p m (pre ++ b :: r) A n c ts w) {k : Nat} (hk : pre.length = k) (x : Int) : Mk w0 g p m (pre ++ ⟨x, b.v⟩ :: r) A n c ts (w.setCell ⟨g, k * 2, none⟩ (.int .i64 x)) :=
  { h with
    row := by
      have := (h.row.stored (k * 2) (.int .i64 x)).1
      subst hk
      rwa [clb_setm] at this
    box := h.other _ _
    bel := h.bel.setCell h.hg _ }
theorem Mk.text {pre r : List Bq} {b : Bq} (h : Mk w0 g p m (pre ++ b :: r) A n c ts w) {k : Nat} (hk : pre.length = k) (x : Int) (v : ByteArray) : Mk w0 g p m (pre ++ ⟨x, v⟩ :: r) A n c ts ((w.setCell ⟨g, k * 2, none⟩ (.int .i64 x)).setCell ⟨g, k * 2 + 1, none⟩ (.string v)) :=
  have h2 := h.mark hk x
  { h2 with
    row := by
      have := (h2.row.stored (k * 2 + 1) (.string v)).1
      subst hk
      rwa [clb_setv] at this
    box := h2.other _ _
    bel := h2.bel.setCell h.hg _ }
end

theorem cap_orM (N c : Nat) (h : N + 1 ≤ c) : (c = 1 ∧ N = 0) ∨ ∃ c', c = c' + 2 := by
  by_cases e : c = 1
  · exact .inl ⟨e, by omega⟩
  · exact .inr ⟨c - 2, by omega⟩
/-- How the closure ends. -/
def TuE (w0 : World) (g p m : Nat) (bs : List Bq) (n : Nat) (t : Tq) (ts : List Tq) (e : Ending) (w' : World) : Prop :=
  e = .returned (.agg #[.int .i64 t.k, .string t.v, .int .i64 t.a, .int .i64 t.z]) ∧ ∃ A c, Mk w0 g p m bs A n c ts w'
set_option maxHeartbeats 1000000 in
theorem turn_any {w0 : World} {g p m : Nat} {bs : List Bq} {A : Option Addr} {n c : Nat} {t : Tq} {ts : List Tq} {w : World} (h : Mk w0 g p m bs A (n + 1) c (t :: ts) w) :
    Calls Tryz.prog 41 #[.pointer (some ⟨p, 0, none⟩)] w fun e w' => TuE w0 g p m bs n t ts e w' := by
  obtain ⟨b, o, rfl, c0, c1, c2, c3⟩ := h.tr.below h.bel 0 t rfl
  have hl : ts.length = n := by have := h.len; simpa using this
  have cb := cell_of_one h.box
  have lb := lt_of_block h.box
  have la := World.block_lt_of_cell? _ _ c0
  have ltr := Lib.hid (tr_tail h.tr)
  have fb := free_of_one h.box
  rw [Nat.zero_mul, Nat.add_zero] at c0 c1 c2 c3
  have hcap := h.cap
  have hp0 := h.hp
  obtain ⟨k, v, a, z⟩ := t
  dsimp only at c0 c1 c2 c3
  have HM := Lib.hid h
  have HL := Lib.hid hl
  have HE := fun {A' n' c'} (h : Mk w0 g p m bs A' n' c' ts (w.setCell ⟨p, 0, none⟩ (.slice A' n' c'))) => Lib.hid (h.below (bel_alloc (bel_alloc (Below.refl _ _) (.cells #[.int .i64 k, .string v, .int .i64 a, .int .i64 z] 25)) (.cells #[.int .i64 k, .string v, .int .i64 a, .int .i64 z] 25)))
  rcases cap_orM n c hcap with ⟨rfl, rfl⟩ | ⟨c', rfl⟩
  · have h2 := HE (h.turn (A' := some ⟨b, o, none⟩) (n' := 0) (c' := 0) (ts' := ts) (by obtain rfl := List.length_eq_zero_iff.1 hl; exact Tr.nil _ _) hl (Nat.le_refl _))
    clear h hl ltr HE HM
    go_enter Tryz.func41, Tryz.ntmps41
    go_wp2
    go_returns
    exact ⟨rfl, _, _, h2.out⟩
  · have h2 := HE (h.turn (A' := some ⟨b, o + 4, none⟩) (n' := n) (c' := c' + 1) (ts' := ts) ltr.out hl (by omega))
    clear h hl ltr HE HM
    go_enter Tryz.func41, Tryz.ntmps41
    go_wp2
    go_returns
    exact ⟨rfl, _, _, h2.out⟩
end Go.Proofs.YtpcijjdlppoblaaGreatDoor

/- Package mark: Bits. -/
namespace Go.Proofs.YtpcijjdlppoblaaGreatDoor
open Go.RowKit
set_option linter.unusedVariables false
set_option maxRecDepth 100000

/-- How Bits ends. -/
def BiE (o : Bool) (m : Nat) (bs : List Bq) (w : World) (e : Ending) (w' : World) : Prop :=
  ∃ A c, e = .returned (.tuple #[.slice A m c, .bool o]) ∧ Below w.heap.size w w' ∧ Br w' A bs ∧ (A = none → m = 0 ∧ c = 0) ∧ m ≤ c
theorem zrB_cons {m k : Nat} (h : k < m) : zrB (m - k) = ⟨0, noV⟩ :: zrB (m - (k + 1)) := by
  rw [show m - k = (m - (k + 1)) + 1 by omega]; rfl
theorem map_map_app {o : Option (List Bq)} {pre : List Bq} {b : Bq} {q : Option (List Bq)} (h : q = (o.map (b :: ·)).map (pre ++ ·)) : q = o.map ((pre ++ [b]) ++ ·) := by
  rw [h]; cases o <;> simp

set_option maxHeartbeats 4000000 in
theorem bits_yes {w : World} {A A2 : Option Addr} {n c n2 c2 mX m : Nat} {R L : List Int} {ts : List Tq} {X : List Sq} {O : Option (List Bq)} {o : Bool} {bs : List Bq}
    (hf : Ful R X true) (hL : ts.map teQ = L) (hr : derB true X L = true) (hO : btF X ts = O) (ho : O.isSome = o) (hbs : O.getD [] = bs) (hm : bs.length = m) (hmX : X.length = mX)
    (hl : R.length = n) (hc : n ≤ c) (hn : n ≤ 2000) (hA : Ri w A R) (hl2 : ts.length = n2) (hc2 : n2 ≤ c2) (hn2 : n2 ≤ 1000) (hz : ∀ t ∈ ts, t.v.size ≤ 1000000) (hA2 : Tr w A2 ts) (ht : TabR w) (hk : TabK w) (hq : Tab w) :
    Calls Tryz.prog 11 #[.slice A n c, .slice A2 n2 c2] w fun e w' => BiE o m bs w e w' := by
  have hLn : L.length = n2 := by rw [← hL, List.length_map, hl2]
  have hmX2 : mX ≤ 20001 := by have := ful_len hf; omega
  have hpl : (plS X).length = ts.length := by
    rw [derB, Bool.and_eq_true, Bool.and_eq_true, decide_eq_true_eq] at hr
    rw [hr.1.2, hLn, hl2]
  have r1 := fun w h h' => kall_any (w := w) (A := A2) (c := c2) hL h h' hl2 (by omega)
  have r2 := fun w A2 c2 h h' h'' => derives_any (w := w) (A := A) (A2 := A2) (c := c) (c2 := c2) hf hr hl hc hn h hLn hn2 h' h''
  have r3 := fun w h h' => full_any (w := w) (A := A) (c := c) hf hmX hl hc hn h h'
  have r4 := fun w => mtu_any A2 n2 c2 w
  obtain ⟨i0, hi, hz0, hz1, hz2⟩ := info_parts infoBit
  obtain ⟨MC, hMC⟩ : ∃ MC, madeCells #[.int .i64 0, .string ⟨#[]⟩] (mX * 2) = MC := ⟨_, rfl⟩
  have hmk : ∀ w : World, (Instr.makeSlice 26 (.int .i64 (mX : Int)) (.int .i64 (mX : Int))).run Tryz.prog w = .ok (.slice (some ⟨w.heap.size, 0, none⟩) mX mX) (w.alloc (.cells MC 47)) := fun w => by
    have := run_make (P := Tryz.prog) w 26 47 i0 (.agg #[.int .i64 0, .string ⟨#[]⟩]) Tryz.underlying26 hi hz0 .i64 .i64 (mX : Int) (mX : Int) (by omega) (Int.le_refl _) (by rw [hz2]; omega) (by omega)
    rw [Int.toNat_natCast, hz1] at this
    rw [← hMC]; exact this
  have hMC2 := Lib.hid (hMC.symm.trans (made_bits mX))
  have HA := Lib.hid hA
  have HA2 := Lib.hid hA2
  have HTR := Lib.hid ht
  have HTK := Lib.hid hk
  have HTQ := Lib.hid hq
  have HZ := Lib.hid hz
  have HO := Lib.hid hO
  have Ho := Lib.hid ho
  have Hbs := Lib.hid hbs
  have Hm := Lib.hid hm
  have HX := Lib.hid hmX
  have HP := Lib.hid hpl
  have HL2 := Lib.hid hl2
  clear hA hA2 ht hk hq hz hO ho hbs hm hmX hl hl2 hpl hf hr hL hLn hi hz0 hz1 hz2 hMC
  go_enter Tryz.func11, Tryz.ntmps11
  go_wp2_with fail
  ((with_reducible refine (r1 _ HTK.out HA2.out).mono ?_))
  rintro e w1 ⟨B1, d1, rfl, hb1, hri1, -⟩
  have HB1 := Lib.hid hb1
  have HR1 := Lib.hid hri1
  clear hb1 hri1
  go_wp2_with fail
  ((with_reducible refine (r2 _ _ _ (HA.out.below HB1.out) HR1.out (HTR.out.below HB1.out)).mono ?_))
  rintro e w2 ⟨rfl, hb2⟩
  have HB2 := Lib.hid (bel_trans HB1.out hb2)
  clear hb2 HR1
  go_wp2_with fail
  ((with_reducible refine (r3 _ (HA.out.below HB2.out) (HTR.out.below HB2.out)).mono ?_))
  rintro e w3 ⟨B3, d3, rfl, hb3, hs3, -⟩
  have HB3 := Lib.hid (bel_trans HB2.out hb3)
  have HS3 := Lib.hid hs3
  clear hb3 hs3 r1 r2 r3
  go_wp2_with fail
  go_region_law (first | (go_simp; go_at_call 26; refine (r4 _).mono ?_; rintro e w4 ⟨rfl, rfl⟩))
  have HK := Lib.hid ((Mk.start1 (w0 := w3) (w := w3) (HA2.out.below HB3.out) HL2.out hc2 (Below.refl _ _) (show mX ≤ 1000000 by omega) hMC2.out).below (Below.refl _ _).drew)
  generalize ((w3.alloc (.cells MC 47)).alloc (.cells #[.slice A2 n2 c2] 23)).drew = W4 at HK ⊢
  generalize w3.heap.size + 1 = p at HK ⊢
  generalize w3.heap.size = g at HK ⊢
  rotate_left
  have HK := Lib.hid ((Mk.start2 (w0 := w3) (w := w3) (HA2.out.below HB3.out) HL2.out hc2 (Below.refl _ _) (show mX ≤ 1000000 by omega) hMC2.out).below (Below.refl _ _).drew)
  generalize ((w3.alloc (.cells #[.slice A2 n2 c2] 23)).alloc (.cells MC 47)).drew = W4 at HK ⊢
  generalize w3.heap.size + 1 = g at HK ⊢
  generalize w3.heap.size = p at HK ⊢
  all_goals
    clear hmk hMC2 r4
    go_wp2_with fail
    go_loopw [31] (fun i wr => ∃ (k n' c' : Nat) (A' : Option Addr) (pre : List Bq) (T : List Tq), i = .int .i64 k ∧ k ≤ mX ∧ pre.length = k ∧ Hid (Mk w3 g p mX (pre ++ zrB (mX - k)) A' n' c' T wr) ∧ Hid (O = (btF (X.drop k) T).map (pre ++ ·)) ∧ Hid ((plS (X.drop k)).length = n') ∧ Hid (∀ t ∈ T, t.v.size ≤ 1000000)) (fun i _ => mX - (intOf i).toNat)
    case atStart => exact ⟨0, n2, c2, A2, [], ts, rfl, Nat.zero_le _, rfl, HK, Lib.hid (by rw [List.drop_zero, HO.out]; cases O <;> simp), Lib.hid (by rw [List.drop_zero, HP.out, HL2.out]), HZ⟩
    case round =>
      obtain ⟨k, n', c', A', pre, T, rfl, hk, hpre, hm, ho, hp, hz⟩ := hrel
      have hbel := Lib.hid hm.out.bel
      by_cases hlt : k < mX
      · obtain ⟨s, hs⟩ : ∃ s, X[k]? = some s := ⟨_, List.getElem?_eq_getElem (by rw [HX.out]; exact hlt)⟩
        obtain ⟨b, o', rfl, c0, c1⟩ := (HS3.out.below hbel.out) k s hs
        have lb := World.block_lt_of_cell? _ _ c0
        have hdr := Lib.hid (drop_consM hs)
        have hm1 := hm.out
        rw [zrB_cons hlt] at hm1
        have HM1 := Lib.hid hm1
        obtain ⟨sk, sn⟩ := s
        dsimp only at c0 c1
        by_cases h3 : sk = 3
        · subst h3
          obtain ⟨e0, e1, f0, f1⟩ := hm1.at hpre
          have lg := World.block_lt_of_cell? _ _ e0
          have HM2 := Lib.hid ((hm1.mark hpre sn).below (bel_alloc (Below.refl _ _) (.cells #[.int .i64 3, .int .i64 sn] 59)))
          clear hm1 hm HM1 hs e1 f1
          go_wp2
          go_roundw
          case rel =>
            refine ⟨k + 1, n', c', A', pre ++ [⟨sn, noV⟩], T, by go_num, by omega, by rw [List.length_append, hpre]; rfl, Lib.hid ?_, Lib.hid ?_, Lib.hid ?_, hz⟩
            · rw [List.append_assoc]; exact HM2.out
            · refine map_map_app ?_
              rw [ho.out, hdr.out, btF_mark _ _ rfl]
            · have := hp.out
              rw [hdr.out, plS_mark _ rfl] at this
              exact this
          case measure => simp [intOf]; omega
        · have hpl : (plS (X.drop k)).length = n' := hp.out
          rw [hdr.out, plS_cons _ h3, List.length_cons] at hpl
          subst hpl
          obtain ⟨t, T', rfl⟩ : ∃ t T', T = t :: T' := by
            have := hm1.len
            cases T with
            | nil => cases this
            | cons t T' => exact ⟨_, _, rfl⟩
          have q3 : (sk == 3) = false := by simpa using h3
          have HM2 := Lib.hid (hm1.below (bel_alloc (Below.refl _ _) (.cells #[.int .i64 sk, .int .i64 sn] 59)))
          have HZT := Lib.hid (fun u hu => hz.out u (List.mem_cons_of_mem _ hu))
          have hzt := hz.out t List.mem_cons_self
          clear hm1 hm HM1 hs
          go_wp2_with fail
          ((with_reducible refine (turn_any HM2.out).mono ?_))
          rintro e w5 ⟨rfl, A5, c5, hm5⟩
          have HM5 := Lib.hid hm5
          clear HM2 hm5
          obtain ⟨S, hS⟩ : ∃ S, shV (shQ t) = S := ⟨_, rfl⟩
          obtain ⟨i, hi⟩ : ∃ i, (shQ t).isSome = i := ⟨_, rfl⟩
          have r5 := fun w h => msh_any (k := t.k) (a := t.a) (z := t.z) (w := w) hS hi hzt h
          have HSS := Lib.hid hS
          have HSI := Lib.hid hi
          clear hS hi hzt
          go_wp2_with fail
          ((with_reducible refine (r5 _ (HTQ.out.below (bel_trans HB3.out HM5.out.bel))).mono ?_))
          rintro e w6 ⟨rfl, hb6⟩
          have HM6 := Lib.hid (HM5.out.below hb6)
          clear HM5 hb6 r5
          cases i with
          | true =>
            obtain ⟨e0, e1, f0, f1⟩ := HM6.out.at hpre
            have lg := World.block_lt_of_cell? _ _ e0
            have HM7 := Lib.hid (HM6.out.text hpre 0 S)
            have hsh : shQ t = some S := by
              have h1 := HSI.out
              have h2 := HSS.out
              cases hq : shQ t with
              | none => rw [hq] at h1; cases h1
              | some x => rw [hq] at h2; rw [← h2]; rfl
            have HSH := Lib.hid hsh
            clear HM6 hsh
            go_wp2
            go_roundw
            case rel =>
              refine ⟨k + 1, _, c5, A5, pre ++ [⟨0, S⟩], T', by go_num, by omega, by rw [List.length_append, hpre]; rfl, Lib.hid ?_, Lib.hid ?_, Lib.hid rfl, HZT⟩
              · rw [List.append_assoc]; exact HM7.out
              · refine map_map_app ?_
                rw [ho.out, hdr.out, btF_text _ _ h3 HSH.out]
            case measure => simp [intOf]; omega
          | false =>
            have hO : O = none := by
              have hq : shQ t = none := by
                have h1 := HSI.out
                cases hq : shQ t with
                | none => rfl
                | some x => rw [hq] at h1; cases h1
              rw [ho.out, hdr.out, btF_none _ _ h3 hq]; rfl
            have HOO := Lib.hid hO
            have HBB := Lib.hid (bel_trans HB3.out HM6.out.bel)
            clear hO
            go_wp2
            go_ret2
            have e1 := Ho.out
            have e2 := Hbs.out
            have e3 := Hm.out
            rw [HOO.out] at e1 e2
            subst e1
            subst e2
            subst e3
            exact ⟨none, 0, rfl, HBB.out, Br.nil _ _, fun _ => ⟨rfl, rfl⟩, Nat.le_refl _⟩
      · obtain rfl : k = mX := by omega
        have hx : X.drop k = [] := List.drop_eq_nil_of_le (by rw [HX.out]; exact Nat.le_refl _)
        have hO : O = some pre := by rw [ho.out, hx]; simp [btF]
        have HOO := Lib.hid hO
        have HBB := Lib.hid (bel_trans HB3.out hbel.out)
        have hrow := hm.out.row
        rw [Nat.sub_self, show zrB 0 = [] from rfl, List.append_nil] at hrow
        have hb3 := Lib.hid (br_row (bs := pre) (by rw [hpre]; exact hrow)).2.1
        clear hx hO hrow
        go_wp2
        go_ret2
        have e1 := Ho.out
        have e2 := Hbs.out
        have e3 := Hm.out
        rw [HOO.out] at e1 e2
        have e2' : pre = bs := e2
        subst e1
        subst e2'
        rw [hpre] at e3
        subst e3
        exact ⟨_, _, rfl, HBB.out, hb3.out, fun e => (by cases e), Nat.le_refl _⟩
theorem bits_any {w : World} {A A2 : Option Addr} {n c n2 c2 m : Nat} {R L : List Int} {ts : List Tq} {X : List Sq} {O : Option (List Bq)} {is r o : Bool} {bs : List Bq}
    (hf : Ful R X is) (hL : ts.map teQ = L) (hr : derB is X L = r) (hO : biL r X ts = O) (ho : O.isSome = o) (hbs : O.getD [] = bs) (hm : bs.length = m)
    (hl : R.length = n) (hc : n ≤ c) (hn : n ≤ 2000) (hA : Ri w A R) (hl2 : ts.length = n2) (hc2 : n2 ≤ c2) (hn2 : n2 ≤ 1000) (hz : ∀ t ∈ ts, t.v.size ≤ 1000000) (hA2 : Tr w A2 ts) (ht : TabR w) (hk : TabK w) (hq : Tab w) :
    Calls Tryz.prog 11 #[.slice A n c, .slice A2 n2 c2] w fun e w' => BiE o m bs w e w' := by
  cases r with
  | true =>
    obtain rfl : is = true := by rw [derB] at hr; cases is <;> simp_all
    exact bits_yes hf hL hr hO ho hbs hm rfl hl hc hn hA hl2 hc2 hn2 hz hA2 ht hk hq
  | false =>
    have hLn : L.length = n2 := by rw [← hL, List.length_map, hl2]
    have r1 := fun w h h' => kall_any (w := w) (A := A2) (c := c2) hL h h' hl2 (by omega)
    have r2 := fun w A2 c2 h h' h'' => derives_any (w := w) (A := A) (A2 := A2) (c := c) (c2 := c2) hf hr hl hc hn h hLn hn2 h' h''
    have HA := Lib.hid hA
    have HA2 := Lib.hid hA2
    have HTR := Lib.hid ht
    have HTK := Lib.hid hk
    obtain rfl : none = O := hO
    subst ho
    subst hbs
    subst hm
    clear hA hA2 ht hk hq hz hl hl2 hf hr hL hLn
    go_enter Tryz.func11, Tryz.ntmps11
    go_wp2_with fail
    ((with_reducible refine (r1 _ HTK.out HA2.out).mono ?_))
    rintro e w1 ⟨B1, d1, rfl, hb1, hri1, -⟩
    have HB1 := Lib.hid hb1
    have HR1 := Lib.hid hri1
    clear hb1 hri1
    go_wp2_with fail
    ((with_reducible refine (r2 _ _ _ (HA.out.below HB1.out) HR1.out (HTR.out.below HB1.out)).mono ?_))
    rintro e w2 ⟨rfl, hb2⟩
    have HB2 := Lib.hid (bel_trans HB1.out hb2)
    clear hb2 HR1
    go_wp2_with fail
    go_ret2
    exact ⟨none, 0, rfl, HB2.out, Br.nil _ _, fun _ => ⟨rfl, rfl⟩, Nat.le_refl _⟩
end Go.Proofs.YtpcijjdlppoblaaGreatDoor
