/- Contracts of package flow: next, over slices.Backward. -/
import Derived.Test.YtfcjihfnimefhaaFloE
namespace Go.Proofs.Ytfcjihfnimefhaa
open Go.RowKit Go.Shelf Go.Maps
set_option linter.unusedVariables false

/-! ### From behind -/
/-- A bit of these, by its place. -/
structure Bp (us : List Bz) where
  p : Nat
  h : p < us.length
/-- The bit. -/
def Bp.u {us : List Bz} (x : Bp us) : Bz := us[x.p]'x.h
theorem Bp.at' {us : List Bz} (x : Bp us) : us[x.p]? = some x.u := List.getElem?_eq_getElem x.h
/-- The two loop variables. -/
def encP {us : List Bz} (x : Bp us) : Array Value := #[.int .i64 (x.p : Int), .agg #[.int .i64 x.u.b.m, .string x.u.b.v]]
/-- The last k, the last one first. -/
def rvS (us : List Bz) : Nat → List (Bp us)
  | 0 => []
  | k + 1 => rvS us k ++ (if h : us.length - 1 - k < us.length then [⟨us.length - 1 - k, h⟩] else [])
theorem rvS_next {us : List Bz} {k : Nat} (h : us.length - 1 - k < us.length) : rvS us (k + 1) = rvS us k ++ [⟨us.length - 1 - k, h⟩] := by rw [rvS, dif_pos h]
theorem rvS_len {us : List Bz} (k : Nat) (h : k ≤ us.length) : (rvS us k).length = k := by
  induction k with
  | zero => rfl
  | succ k ih => rw [rvS_next (by omega), List.length_append, ih (by omega)]; rfl
/-- The last one of them. -/
theorem rvS_last {us : List Bz} {k : Nat} {pre : List (Bp us)} {x : Bp us} (hk : k ≤ us.length) (h : pre ++ [x] = rvS us k) : ∃ k', k = k' + 1 ∧ pre = rvS us k' ∧ x.p = us.length - 1 - k' := by
  cases k with
  | zero => have := congrArg List.length h; simp [rvS] at this
  | succ k' =>
    rw [rvS_next (by omega)] at h
    obtain ⟨h1, h2⟩ := List.append_inj' h rfl
    injection h2 with h2 _
    exact ⟨k', rfl, h1, by rw [h2]⟩
theorem kp_setj {W : World} {n0 Bn b j : Nat} (hn : n0 ≤ b) (hb : Bn ≠ b) (v : Value) : KpD n0 Bn W (W.setCell ⟨b, j, none⟩ v) :=
  ⟨(Below.refl n0 W).setCell (p := ⟨b, j, none⟩) hn _, fun u hu => by rw [World.cell?_setCell_far _ _ _ _ (by show b ≠ Bn; exact fun e => hb e.symm)]; exact hu, KeepsWalks.setCell _ _ _⟩
section
attribute [local go_sem] Oper.semAt_some
set_option maxRecDepth 100000 in
set_option maxHeartbeats 2000000 in
theorem back_in (n : Nat) (hn : 1 ≤ n) (l Bn n₀ : Nat) {A : Option Addr} {N c : Nat} {us : List Bz} (hl : us.length = N) (hN : N ≤ 1000000) (J Jx : List (Bp us) → World → Prop) (W : World)
    (hR : ∀ W', Below n₀ W W' → Br W' A (us.map (·.b))) (hn₀ : n₀ ≤ W.heap.size)
    (hY : ∀ pre x W1, J pre W1 → pre.length < N → YieldAt Fence.wide (n - 1) Try.prog l (encP x) W1 fun e W' =>
      (e = .returned (.bool true) ∧ J (pre ++ [x]) W' ∧ KpD n₀ Bn W1 W') ∨ (e = .returned (.bool false) ∧ Jx (pre ++ [x]) W'))
    (hBn : W.cell? ⟨Bn, 0, none⟩ = some (.slice A N c)) (h0 : J [] W) :
    CallsIn Fence.wide n Try.prog 88 #[.func (.yield l) #[] #[], .pointer (some ⟨Bn, 0, none⟩)] W fun e W' => (∃ v, e = .returned v) ∧
      ((∃ ys, ys = rvS us N ∧ J ys W') ∨ (∃ pre, (∃ k, k ≤ N ∧ pre = rvS us k) ∧ Jx pre W')) := by
  have HL := Lib.hid hl
  have HR := Lib.hid hR
  have q0 : IntKind.i64.wrap ((N : Int) - 1) = (N : Int) - 1 := IntWalk.i64_in _ (by omega)
  clear hl hR
  refine callsIn_of_wp Try.func88 rfl trivial ?_ rfl
  simp only [Try.ntmps88, List.size_toArray, List.length_cons, List.length_nil, Nat.reduceAdd, Nat.reduceSub, Array.replicate_succ, Array.replicate_zero, List.push_toArray, List.append_toArray, List.nil_append, List.cons_append]
  gi_wp2
  gi_loopw [3] (fun i wr => ∃ k : Nat, k ≤ N ∧ i = .int .i64 ((N : Int) - 1 - (k : Int)) ∧ J (rvS us k) wr ∧ Below n₀ W wr ∧ wr.cell? ⟨Bn, 0, none⟩ = some (.slice A N c))
    (fun i _ => (intOf i + 1).toNat)
  case atStart => exact ⟨0, Nat.zero_le _, by simp, h0, Below.refl _ _, hBn⟩
  case round =>
    obtain ⟨k, hk, rfl, hJs, hB, hcn⟩ := hrel
    by_cases hlt : k < N
    · have hlen := rvS_len (us := us) k (by rw [HL.out]; exact hk)
      have hps : us.length - 1 - k < us.length := by rw [HL.out]; omega
      have HE := Lib.hid (rvS_next hps)
      obtain ⟨x, hx⟩ : ∃ x : Bp us, (⟨us.length - 1 - k, hps⟩ : Bp us) = x := ⟨_, rfl⟩
      have hxp : us.length - 1 - k = x.p := by rw [← hx]
      rw [hx] at HE
      have hpk : (N : Int) - 1 - (k : Int) = (x.p : Int) := by have := HL.out; omega
      have hpN : x.p < N := by have := HL.out; omega
      obtain ⟨b, o, rfl, c0, c1⟩ := HR.out wr hB x.p x.u.b (by rw [List.getElem?_map, x.at']; rfl)
      obtain ⟨fn, tmps, assign, body, hy, hRn⟩ := hY _ x wr hJs (by rw [hlen]; exact hlt)
      dsimp only [encP] at hy
      generalize x.p = p at hpk hpN c0 c1 hy
      have HP := Lib.hid hpk
      have q1 : IntKind.i64.wrap ((p : Int) - 1) = (p : Int) - 1 := IntWalk.i64_in _ (by omega)
      clear hx hxp hBn h0 hn₀ hlen hps
      simp only [hpk]
      clear hpk
      gi_wp2_with fail
      refine hRn.mono ?_
      rintro e W3 (⟨rfl, hJ3, hk3⟩ | ⟨rfl, hJx3⟩)
      · gi_wp2
        go_roundw
        case rel => exact ⟨k + 1, by omega, by have := HP.out; congr 1; omega, by rw [HE.out]; exact hJ3, hB.trans hk3.1, hk3.2.1 _ hcn⟩
        case measure => simp [intOf]
      · gi_wp2
        refine bodyPost_ret (results_none rfl _ _ _) rfl ?_
        exact ⟨⟨_, rfl⟩, .inr ⟨_, ⟨k + 1, by omega, HE.out.symm⟩, hJx3⟩⟩
    · obtain rfl : k = N := by omega
      have q1 : (k : Int) - 1 - (k : Int) = -1 := by omega
      rw [q1]
      gi_wp2
      go_end0
      exact ⟨⟨_, rfl⟩, .inl ⟨_, rfl, hJs⟩⟩
end
theorem back_stops (n : Nat) (hn : 1 ≤ n) (Bn n₀ : Nat) {A : Option Addr} {N c : Nat} {us : List Bz} (hl : us.length = N) (hN : N ≤ 1000000) (w : World)
    (hR : ∀ W', Below n₀ w W' → Br W' A (us.map (·.b))) (hn₀ : n₀ ≤ w.heap.size) (hlt : Bn < w.heap.size) (hBn : w.cell? ⟨Bn, 0, none⟩ = some (.slice A N c)) :
    SeqStopsK Fence.wide n Try.prog 88 #[.pointer (some ⟨Bn, 0, none⟩)] (encP (us := us)) (KpD n₀ Bn) (fun ys => ys = rvS us N) (fun pre => ∃ k, k ≤ N ∧ pre = rvS us k) N w :=
  fun l J Jx W hb hJ _ hY h0 => back_in n hn l Bn n₀ hl hN J Jx W (fun W' h => hR W' ((hb.mono hn₀).trans h)) (Nat.le_trans hn₀ hb.size) hY ((hb.cell (p := ⟨Bn, 0, none⟩) hlt).trans hBn) h0
set_option maxHeartbeats 400000 in
theorem back0_any (A : Option Addr) (N c : Nat) (w : World) (k : Nat) (hk : w.heap.size = k) :
    Calls Try.prog 75 #[.slice A N c] w fun e w' => e = .returned (.func (.func 88) #[] #[.pointer (some ⟨k, 0, none⟩)]) ∧ w' = w.alloc (.cells #[.slice A N c] 22) := by
  subst hk
  go_enter Try.func75, Try.ntmps75
  go_wp2
  go_ret
  exact ⟨rfl, rfl⟩
end Go.Proofs.Ytfcjihfnimefhaa
