/- Contracts of package depth's functions: the map of brackets, what hands the beginnings on. -/
import Derived.RangeFuncBox
import Derived.RangeFuncFrom
import Derived.RangeFuncNested
import Derived.RangeFuncBound
import Derived.RangeFuncCalls
import Derived.RangeFuncLeaves
import Derived.Shelf.Abstract
import Derived.Shelf.RegionOpen
import Derived.OwnWalkIn
import Derived.TacticsInMore
import Derived.LoopNIn
import Derived.LoopIn
import Derived.Maps.OwnIn
import Derived.Maps.Views
import Derived.Test.YtfgmojnohienfaaDoorDepM
namespace Go.Proofs.YtfgmojnohienfaaDoor
open Go.RowKit Go.Shelf Go.Maps
set_option linter.unusedVariables false

theorem lawI : Keyed Tryd.prog 3 := int_keyed Tryd.underlying3
theorem zeroI (w : World) : (zeroValue 3).run Tryd.prog w = .ok (.int .i64 0) w := by kernel_rfl
/-- What the map reads as. -/
def dn (x : Int) : DataW Unit := .lit (.int .i64 x)
def brM : DataW Unit := ((((((DataW.map []).put (.int .i64 4) (dn 1)).put (.int .i64 10) (dn 1)).put (.int .i64 12) (dn 1)).put (.int .i64 5) (dn (-1))).put (.int .i64 11) (dn (-1))).put (.int .i64 14) (dn (-1))
theorem keyI (a : Int) : WideAt.IsKeyLit (.int .i64 a) := by simp [WideAt.IsKeyLit]
theorem neI {a b : Int} (h : a ≠ b) : (Lit.int .i64 a) ≠ .int .i64 b := fun e => h (by injection e)
theorem brM_at (t : Int) : brM.atKey (.int .i64 t) (dn 0) = dn (adD t) := by
  have m0 : IsMap (.map [] : DataW Unit) := isMap_empty
  have m1 := m0.put (.int .i64 4) (dn 1)
  have m2 := m1.put (.int .i64 10) (dn 1)
  have m3 := m2.put (.int .i64 12) (dn 1)
  have m4 := m3.put (.int .i64 5) (dn (-1))
  have m5 := m4.put (.int .i64 11) (dn (-1))
  unfold brM
  by_cases h14 : t = 14
  · subst h14; exact atKey_put_same m5 (keyI _) _ _
  rw [atKey_put_other (neI h14)]
  by_cases h11 : t = 11
  · subst h11; exact atKey_put_same m4 (keyI _) _ _
  rw [atKey_put_other (neI h11)]
  by_cases h5 : t = 5
  · subst h5; exact atKey_put_same m3 (keyI _) _ _
  rw [atKey_put_other (neI h5)]
  by_cases h12 : t = 12
  · subst h12; exact atKey_put_same m2 (keyI _) _ _
  rw [atKey_put_other (neI h12)]
  by_cases h10 : t = 10
  · subst h10; exact atKey_put_same m1 (keyI _) _ _
  rw [atKey_put_other (neI h10)]
  by_cases h4 : t = 4
  · subst h4; exact atKey_put_same m0 (keyI _) _ _
  rw [atKey_put_other (neI h4)]
  rw [adD_none (by simp [opD, h4, h10, h12]) (by simp [clD, h5, h11, h14])]
  rfl
/-- The map of brackets lies in block b. -/
def OwnM (w : World) (b n : Nat) (D : DataW Unit) : Prop := w.ownsMap Tryd.prog 3 (plainElem (H := Unit) Tryd.prog 3) b n D
theorem ownM_walks {w w' : World} {b n : Nat} {D : DataW Unit} (h : OwnM w b n D) (hk : KeepsWalks w w') : OwnM w' b n D := by
  obtain ⟨es, clock, hb, F, hs, hD⟩ := h
  exact ⟨es, clock, hk.same _ _ hb rfl, F, hs, hD⟩
theorem keyI_at {t : Int} (h : (Lit.int .i64 t).wf = true) : keyOf Tryd.prog 3 (.int .i64 t) = some (.int .i64 t) := keyOf_int_mk Tryd.underlying3 h
/-- An entry of a map's literal. -/
theorem insert_own (w : World) {ops : Array Oper} {rest : List Oper} {o : Oper} {a : Act} {Q : Exit → Act → World → Prop}
    (hg : o.guard = none) (m : Operand) (key val : Int) (hop : o.op = Op.insert 41 m (.const (.int .i64 key)) (.const (.int .i64 val))) (b n : Nat) (D : DataW Unit)
    (hm : a.eval m = .map (some b)) (hown : OwnM w b n D) (hn : n < 100) (hk : (Lit.int .i64 key).wf = true) (hv : (Lit.int .i64 val).wf = true)
    (hK : ∀ w', OwnM w' b (n + 1) (D.put (.int .i64 key) (dn val)) → w.grownBy w' (some b) → wpList Tryd.prog ops Q rest (a.put o.dst undef) w') :
    wpList Tryd.prog ops Q (o :: rest) a w := by
  refine wpList_plain hg fun K' hK' => ?_
  obtain ⟨w', hrun, r1, r2⟩ := World.ownsMap.update hown lawI Tryd.underlying41 (by unfold maxLen; omega) (keyI_at hk) (plainElem_int Tryd.underlying3 hv)
  unfold Oper.wp
  have e1 : ∀ v : Value, a.eval (.const v) = v := fun _ => rfl
  simp [execOp, hop, hm, e1, hrun, Result.andThen]
  exact hK' _ _ (hK w' r1 r2)
theorem grown_none {w w' : World} {o : Obj} (h : (w.alloc o).grownBy w' (some w.heap.size)) : w.grownBy w' none :=
  ⟨h.os, h.tape, h.output, by have := h.size; simp at this; omega, fun k hk _ => by
    rw [h.block k (by simp; omega) (fun e => by cases e; omega)]
    exact (World.grownBy_alloc w o none).block k hk (by simp)⟩
set_option maxRecDepth 100000 in
set_option maxHeartbeats 1000000 in
theorem brackets_any (w : World) :
    Calls Tryd.prog 16 #[] w fun e w' => e = .returned (.map (some w.heap.size)) ∧ OwnM w' w.heap.size 6 brM ∧ w.grownBy w' none := by
  have hmm := @run_makeMap Tryd.prog
  have h0 : OwnM (w.alloc (.map #[] 0)) w.heap.size 0 (.map []) := World.ownsMap_made _ _ _ _
  have g0 : (w.alloc (.map #[] 0)).grownBy (w.alloc (.map #[] 0)) (some w.heap.size) := grown_refl _ _
  go_enter Tryd.func16, Tryd.ntmps16
  go_wp2_with (refine insert_own _ rfl _ _ _ rfl _ _ _ rfl h0 (by omega) (by decide) (by decide) ?_; intro w1 h1 g1; replace h0 := h1; replace g0 := g0.trans g1)
  go_ret
  exact ⟨rfl, h0, grown_none g0⟩
theorem wpIn_lookup_br {F : Fence} {nF : Nat} (w : World) {ops : Array Oper} {rest : List Oper} {o : Oper} {a : Act} {Q : Exit → Act → World → Prop}
    (hg : o.guard = none) (m x : Operand) (hop : o.op = Op.lookup 41 m x false) (b : Nat)
    (hm : a.eval m = .map (some b)) (hown : OwnM w b 6 brM) (t : Int) (hx : a.eval x = .int .i64 t) (hwf : (Lit.int .i64 t).wf = true) (d : Int) (hd : adD t = d)
    (hK : wpListIn F nF Tryd.prog ops Q rest (a.put o.dst (.int .i64 d)) w) :
    wpListIn F nF Tryd.prog ops Q (o :: rest) a w := by
  refine wpListIn_lookup_own_int w hg m x 41 hop 3 3 .i64 lawI Tryd.underlying41 Tryd.underlying3 (zeroI _) b 6 brM hm hown _ _ hx (keyI_at hwf) ?_
  intro c hat hwc
  have h := brM_at t
  rw [show dn 0 = (.lit (.int .i64 0) : DataW Unit) from rfl, hat] at h
  have : c = adD t := by
    simp only [dn] at h
    injection h with h
    injection h
  rw [this, hd]; exact hK
/-- All within int. -/
def wfL (ts : List Int) : Prop := ∀ t ∈ ts, (Lit.int .i64 t).wf = true
/-- What a round of the caller keeps: all below n₀, the box Bn, and maps. -/
def KpD (n₀ Bn : Nat) (W W' : World) : Prop := Below n₀ W W' ∧ (∀ v, W.cell? ⟨Bn, 0, none⟩ = some v → W'.cell? ⟨Bn, 0, none⟩ = some v) ∧ KeepsWalks W W'
theorem kpD_t {n₀ Bn : Nat} {A B C : World} (h : KpD n₀ Bn A B) (k : KpD n₀ Bn B C) : KpD n₀ Bn A C := ⟨h.1.trans k.1, fun v hv => k.2.1 v (h.2.1 v hv), h.2.2.trans k.2.2⟩
theorem kpD_b {n₀ Bn : Nat} {w : World} (hn : n₀ ≤ w.heap.size) (W : World) (l : Nat) (o o' : Obj) (hl : w.heap.size ≤ l) (h : W.heap[l]? = some o) (hc : o.isCells = false) (hw : o.isWalk = false) : KpD n₀ Bn W (W.putObj l o') :=
  ⟨belowK_b hn W l o o' hl h hc hw, fun v hv => cell_kept hv (grownBy_putObj' W l o') (fun r e => by cases e; exact ⟨o, h, hc⟩), KeepsWalks.putObj _ h hw⟩
/-- Two loop variables. -/
def enc2 (x : Nat × Int) : Array Value := #[.int .i64 (x.1 : Int), .int .i64 x.2]

section
attribute [local go_sem] Oper.semAt_some
set_option maxRecDepth 100000 in
set_option maxHeartbeats 2000000 in
theorem beg1_in (n : Nat) (hn : 1 ≤ n) (l Bn n₀ : Nat) {A : Option Addr} {N c : Nat} {ts : List Int} (hl : ts.length = N) (hN : N ≤ 1000000) (hwf : wfL ts) (J Jx : List (Nat × Int) → World → Prop) (W : World)
    (hR : ∀ W', Below n₀ W W' → Ri W' A ts) (hn₀ : n₀ ≤ W.heap.size) (hJa : AbidesFrom W.heap.size J)
    (hY : ∀ pre x W1, J pre W1 → pre.length < N → YieldAt Fence.wide (n - 1) Tryd.prog l (enc2 x) W1 fun e W' =>
      (e = .returned (.bool true) ∧ J (pre ++ [x]) W' ∧ KpD n₀ Bn W1 W') ∨ (e = .returned (.bool false) ∧ Jx (pre ++ [x]) W'))
    (hBl : Bn < W.heap.size) (hBn : W.cell? ⟨Bn, 0, none⟩ = some (.slice A N c)) (h0 : J [] W) :
    CallsIn Fence.wide n Tryd.prog 15 #[.func (.yield l) #[] #[], .pointer (some ⟨Bn, 0, none⟩)] W fun e W' => (∃ v, e = .returned v) ∧
      ((∃ ys, ys = begs ts N ∧ J ys W') ∨ (∃ pre, (∃ k, k ≤ N ∧ pre = begs ts k) ∧ Jx pre W')) := by
  have HL := Lib.hid hl
  have HW := Lib.hid hwf
  have HR := Lib.hid hR
  clear hl hwf hR
  refine callsIn_of_wp Tryd.func15 rfl trivial ?_ rfl
  simp only [Tryd.ntmps15, List.size_toArray, List.length_cons, List.length_nil, Nat.reduceAdd, Nat.reduceSub, Array.replicate_succ, Array.replicate_zero, List.push_toArray, List.append_toArray, List.nil_append, List.cons_append]
  gi_wp2_with fail
  refine ⟨trivial, ?_⟩
  refine (callsIn_wide.2 (brackets_any _)).mono ?_
  rintro e W1 ⟨rfl, hM, hg1⟩
  have hBn1 : W1.cell? ⟨Bn, 0, none⟩ = some (.slice A N c) := (World.cell?_of_block (hg1.block Bn hBl (by simp))).trans hBn
  have hb1 : Below n₀ W W1 := (Below.refl _ W).grown hg1 hn₀ (fun j hj => by cases hj)
  have h1 : J [] W1 := hJa _ _ _ _ h0 hg1 (fun r e => by cases e)
  clear hBn h0 hg1 hJa
  gi_wp2
  gi_loopw [4, 10] (fun e i wr => ∃ k : Nat, k ≤ N ∧ i = .int .i64 k ∧ e = .int .i64 (endD (ts.take k)) ∧ J (begs ts k) wr ∧ Below n₀ W wr ∧ OwnM wr W.heap.size 6 brM)
    (fun _ i _ => N - (intOf i).toNat)
  case atStart => exact ⟨0, Nat.zero_le _, rfl, rfl, h1, hb1, hM⟩
  case round =>
    obtain ⟨k, hk, rfl, rfl, hJs, hB, hMs⟩ := hrel
    by_cases hlt : k < N
    · obtain ⟨t, ht⟩ : ∃ t, ts[k]? = some t := ⟨_, List.getElem?_eq_getElem (by rw [HL.out]; exact hlt)⟩
      obtain ⟨b, o, rfl, c0⟩ := HR.out wr hB k t ht
      have hwt : (Lit.int .i64 t).wf = true := HW.out t (List.mem_of_getElem? ht)
      have e1 := endD_take ht
      have e2 := endD_takes ts k
      have e3 := adD_range t
      have HE := Lib.hid (begs_succ ts k)
      obtain ⟨fn, tmps, assign, body, hy, hRn⟩ := hY _ (k, endD (ts.take (k + 1))) wr hJs (by rw [begs_len]; exact hlt)
      dsimp only [enc2] at hy
      generalize endD (ts.take k) = E at e1 e2
      obtain ⟨a, ha⟩ : ∃ a, adD t = a := ⟨_, rfl⟩
      rw [ha] at e1 e3
      rw [e1] at hy
      have HX := Lib.hid e1
      clear ht e1
      gi_wp2_with (first
        | (gi_at_lookup; refine wpIn_lookup_br _ rfl _ _ rfl _ rfl hMs _ rfl hwt _ ha ?_)
        | fail)
      refine hRn.mono ?_
      rintro e W3 (⟨rfl, hJ3, hk3⟩ | ⟨rfl, hJx3⟩)
      · gi_wp2
        go_roundw
        case rel => exact ⟨k + 1, by omega, by go_num, by rw [HX.out], by rw [HE.out]; exact hJ3, hB.trans hk3.1, ownM_walks hMs hk3.2.2⟩
        case measure => simp [intOf]; omega
      · gi_wp2
        refine bodyPost_ret (results_none rfl _ _ _) rfl ?_
        exact ⟨⟨_, rfl⟩, .inr ⟨_, ⟨k + 1, by omega, HE.out.symm⟩, hJx3⟩⟩
    · obtain rfl : k = N := by omega
      gi_wp2
      go_end0
      exact ⟨⟨_, rfl⟩, .inl ⟨_, rfl, hJs⟩⟩
end
theorem beg_stops (n : Nat) (hn : 1 ≤ n) (Bn n₀ : Nat) {A : Option Addr} {N c : Nat} {ts : List Int} (hl : ts.length = N) (hN : N ≤ 1000000) (hwf : wfL ts) (w : World)
    (hR : ∀ W', Below n₀ w W' → Ri W' A ts) (hn₀ : n₀ ≤ w.heap.size) (hlt : Bn < w.heap.size) (hBn : w.cell? ⟨Bn, 0, none⟩ = some (.slice A N c)) :
    SeqStopsK Fence.wide n Tryd.prog 15 #[.pointer (some ⟨Bn, 0, none⟩)] enc2 (KpD n₀ Bn) (fun ys => ys = begs ts N) (fun pre => ∃ k, k ≤ N ∧ pre = begs ts k) N w :=
  fun l J Jx W hb hJ _ hY h0 => beg1_in n hn l Bn n₀ hl hN hwf J Jx W (fun W' h => hR W' ((hb.mono hn₀).trans h)) (Nat.le_trans hn₀ hb.size) hJ hY (Nat.lt_of_lt_of_le hlt hb.size) ((hb.cell (p := ⟨Bn, 0, none⟩) hlt).trans hBn) h0
set_option maxHeartbeats 400000 in
theorem beg0_any (A : Option Addr) (N c : Nat) (w : World) :
    Calls Tryd.prog 10 #[.slice A N c] w fun e w' => e = .returned (.func (.func 15) #[] #[.pointer (some ⟨w.heap.size, 0, none⟩)]) ∧ w' = w.alloc (.cells #[.slice A N c] 22) := by
  go_enter Tryd.func10, Tryd.ntmps10
  go_wp2
  go_ret
  exact ⟨rfl, rfl⟩
end Go.Proofs.YtfgmojnohienfaaDoor
