/- Contracts of package span's functions: what hands the bits on. -/
import Derived.Test.YtfcjihfnimefhaaSpaA
namespace Go.Proofs.Ytfcjihfnimefhaa
open Go.RowKit Go.Shelf Go.Maps
set_option linter.unusedVariables false

/-- A bit whose mark is within int, and whose text is within the machine's reach. -/
structure Bz where
  b : Bq
  wf : (Lit.int .i64 b.m).wf = true
  sz : b.v.size ≤ 140737488351232
theorem bz_ex : ∀ ts : List Bq, (∀ t ∈ ts, (Lit.int .i64 t.m).wf = true) → SzB ts → ∃ us : List Bz, us.map (·.b) = ts
  | [], _, _ => ⟨[], rfl⟩
  | t :: ts, h, k => by
    obtain ⟨us, e⟩ := bz_ex ts (fun x hx => h x (List.mem_cons_of_mem _ hx)) (fun x hx => k x (List.mem_cons_of_mem _ hx))
    exact ⟨⟨t, h t (List.mem_cons_self ..), k t (List.mem_cons_self ..)⟩ :: us, by rw [List.map_cons, e]⟩
/-- What is handed on: k bits from i on. -/
def itS (us : List Bz) (i : Nat) : Nat → List (Nat × Bz)
  | 0 => []
  | k + 1 => itS us i k ++ (match us[i + k]? with | some u => [(i + k, u)] | none => [])
theorem itS_next {us : List Bz} {i k : Nat} {u : Bz} (h : us[i + k]? = some u) : itS us i (k + 1) = itS us i k ++ [(i + k, u)] := by rw [itS, h]
theorem itS_len (us : List Bz) (i k : Nat) : (itS us i k).length ≤ k := by
  induction k with
  | zero => exact Nat.le_refl _
  | succ k ih =>
    rw [itS, List.length_append]
    split
    · rw [List.length_singleton]; omega
    · rw [List.length_nil]; omega
/-- The bits alone. -/
def bqs (pre : List (Nat × Bz)) : List Bq := pre.map (·.2.b)
theorem bqs_snoc (pre : List (Nat × Bz)) (x : Nat × Bz) : bqs (pre ++ [x]) = bqs pre ++ [x.2.b] := by simp [bqs]
theorem bqs_len (pre : List (Nat × Bz)) : (bqs pre).length = pre.length := by simp [bqs]
theorem bqs_sz (pre : List (Nat × Bz)) : SzB (bqs pre) := fun b hb => by
  obtain ⟨x, _, rfl⟩ := List.mem_map.1 hb
  exact x.2.sz
theorem bqs_it (us : List Bz) (i k : Nat) : bqs (itS us i k) = ((us.map (·.b)).drop i).take k := by
  induction k with
  | zero => rfl
  | succ k ih =>
    cases h : us[i + k]? with
    | none =>
      rw [itS, h, List.append_nil, ih]
      have := List.getElem?_eq_none_iff.1 h
      rw [List.take_of_length_le (by simp; omega), List.take_of_length_le (by simp; omega)]
    | some u =>
      rw [itS_next h, bqs_snoc, ih, List.take_add_one]
      congr 1
      rw [List.getElem?_drop, List.getElem?_map, h]; rfl
/-- The two loop variables. -/
def encB (x : Nat × Bz) : Array Value := #[.int .i64 (x.1 : Int), .agg #[.int .i64 x.2.b.m, .string x.2.b.v]]

/-- How many, where so many are there. -/
theorem itS_eq {us : List Bz} {i k : Nat} (h : i + k ≤ us.length) : (itS us i k).length = k := by
  have := congrArg List.length (bqs_it us i k)
  rw [bqs_len, List.length_take, List.length_drop, List.length_map] at this
  omega
/-- The last one. -/
theorem itS_last {us : List Bz} {i k : Nat} {ini : List (Nat × Bz)} {x : Nat × Bz} (hk : i + k ≤ us.length) (h : itS us i k = ini ++ [x]) : ∃ k', k = k' + 1 ∧ ini = itS us i k' ∧ x.1 = i + k' := by
  cases k with
  | zero => have := congrArg List.length h; simp [itS] at this
  | succ k' =>
    obtain ⟨u, hu⟩ : ∃ u, us[i + k']? = some u := ⟨_, List.getElem?_eq_getElem (by omega)⟩
    rw [itS_next hu] at h
    obtain ⟨h1, h2⟩ := List.append_inj' h rfl
    injection h2 with h2 _
    exact ⟨k', rfl, h1.symm, by rw [← h2]⟩
/-- What a round leaves: a box, a map, and what was there. -/
theorem bx_kept {X Y : World} {row : Option Nat} {B b : Nat} {t : TypeId} {v : Value} (h : Boxed X b t v) (hg : X.grownBy Y row) (hr : ∀ r, row = some r → B ≤ r ∧ ∃ o : Obj, X.heap[r]? = some o ∧ o.isCells = false) : Boxed Y b t v :=
  h.kept hg (fun e' => by obtain ⟨o, ho, hc⟩ := (hr b e'.symm).2; rw [show X.heap[b]? = _ from h] at ho; cases ho; cases hc)
theorem mp_kept {X Y : World} {row : Option Nat} {B b n : Nat} {e : TypeId} {D : DataW Unit} (h : OwnE X e b n D) (hb : b < B) (hg : X.grownBy Y row) (hr : ∀ r, row = some r → B ≤ r ∧ ∃ o : Obj, X.heap[r]? = some o ∧ o.isCells = false) : OwnE Y e b n D :=
  World.ownsMap.kept h hg (fun e' => by have := (hr b e'.symm).1; omega)
theorem bl_kept {w0 X Y : World} {row : Option Nat} {n0 B : Nat} (h : Below n0 w0 X) (hn : n0 ≤ w0.heap.size) (hB : n0 ≤ B) (hg : X.grownBy Y row) (hr : ∀ r, row = some r → B ≤ r ∧ ∃ o : Obj, X.heap[r]? = some o ∧ o.isCells = false) : Below n0 w0 Y :=
  h.grown hg (Nat.le_trans hn h.size) (fun k e => Nat.le_trans hB (hr k e).1)
theorem bx_below {X Y : World} {b : Nat} {t : TypeId} {v : Value} (h : Boxed X b t v) (hb : Below X.heap.size X Y) : Boxed Y b t v := (hb.block b h.lt).trans h
theorem mp_lt {X : World} {b n : Nat} {e : TypeId} {D : DataW Unit} (h : OwnE X e b n D) : b < X.heap.size := by
  obtain ⟨es, clock, hb, -⟩ := h
  exact (Array.getElem?_eq_some_iff.1 hb).1
theorem mp_below {X Y : World} {b n : Nat} {e : TypeId} {D : DataW Unit} (h : OwnE X e b n D) (hb : Below X.heap.size X Y) : OwnE Y e b n D := by
  have hl := mp_lt h
  obtain ⟨es, clock, h1, h2⟩ := h
  exact ⟨es, clock, (hb.block b hl).trans h1, h2⟩
theorem ko_below {X Y : World} (hb : Below X.heap.size X Y) : KeepsOthers X Y := ⟨hb.size, fun k o hk _ => (hb.block k (Array.getElem?_eq_some_iff.1 hk).1).trans hk⟩
theorem kp_below {X Y : World} {n0 Bn : Nat} (hn : n0 ≤ X.heap.size) (hb : Below X.heap.size X Y) : KpD n0 Bn X Y :=
  ⟨hb.mono hn, fun v hv => (hb.cell (p := ⟨Bn, 0, none⟩) (World.block_lt_of_cell? _ _ hv)).trans hv, (ko_below hb).walks⟩
theorem kp_set {W : World} {n0 Bn b : Nat} (hn : n0 ≤ b) (hb : Bn ≠ b) (v : Value) : KpD n0 Bn W (W.setCell ⟨b, 0, none⟩ v) :=
  ⟨(Below.refl n0 W).setCell (p := ⟨b, 0, none⟩) hn _, fun u hu => by rw [World.cell?_setCell_far _ _ _ _ (by show b ≠ Bn; exact fun e => hb e.symm)]; exact hu, KeepsWalks.setCell _ _ _⟩
theorem mp_set {X : World} {b n : Nat} {e : TypeId} {D : DataW Unit} (h : OwnE X e b n D) (a : Addr) (v : Value) : OwnE (X.setCell a v) e b n D := ownE_walks h (KeepsWalks.setCell _ _ _)

section
attribute [local go_sem] Oper.semAt_some
set_option maxRecDepth 100000 in
set_option maxHeartbeats 2000000 in
theorem bits1_in (n : Nat) (hn : 1 ≤ n) (l Bi Bn n₀ : Nat) {A : Option Addr} {N c i0 : Nat} {us : List Bz} (hl : us.length = N) (hi : i0 ≤ N) (hN : N ≤ 1000000) (J Jx : List (Nat × Bz) → World → Prop) (W : World)
    (hR : ∀ W', Below n₀ W W' → Br W' A (us.map (·.b))) (hn₀ : n₀ ≤ W.heap.size)
    (hY : ∀ pre x W1, J pre W1 → pre.length < N → YieldAt Fence.wide (n - 1) Try.prog l (encB x) W1 fun e W' =>
      (e = .returned (.bool true) ∧ J (pre ++ [x]) W' ∧ KpD n₀ Bn W1 W') ∨ (e = .returned (.bool false) ∧ Jx (pre ++ [x]) W'))
    (hBn : W.cell? ⟨Bn, 0, none⟩ = some (.slice A N c)) (hBi : W.cell? ⟨Bi, 0, none⟩ = some (.int .i64 (i0 : Int))) (h0 : J [] W) :
    CallsIn Fence.wide n Try.prog 86 #[.func (.yield l) #[] #[], .pointer (some ⟨Bi, 0, none⟩), .pointer (some ⟨Bn, 0, none⟩)] W fun e W' => (∃ v, e = .returned v) ∧
      ((∃ ys, ys = itS us i0 (N - i0) ∧ J ys W') ∨ (∃ pre, (∃ k, i0 + k ≤ N ∧ pre = itS us i0 k) ∧ Jx pre W')) := by
  have HL := Lib.hid hl
  have HR := Lib.hid hR
  clear hl hR
  refine callsIn_of_wp Try.func86 rfl trivial ?_ rfl
  simp only [Try.ntmps86, List.size_toArray, List.length_cons, List.length_nil, Nat.reduceAdd, Nat.reduceSub, Array.replicate_succ, Array.replicate_zero, List.push_toArray, List.append_toArray, List.nil_append, List.cons_append]
  gi_wp2
  gi_loopw [4] (fun i wr => ∃ k : Nat, i0 + k ≤ N ∧ i = .int .i64 ((i0 + k : Nat) : Int) ∧ J (itS us i0 k) wr ∧ Below n₀ W wr ∧ wr.cell? ⟨Bn, 0, none⟩ = some (.slice A N c))
    (fun i _ => N - (intOf i).toNat)
  case atStart => exact ⟨0, hi, rfl, h0, Below.refl _ _, hBn⟩
  case round =>
    obtain ⟨k, hk, rfl, hJs, hB, hcn⟩ := hrel
    by_cases hlt : i0 + k < N
    · obtain ⟨u, hu⟩ : ∃ u, us[i0 + k]? = some u := ⟨_, List.getElem?_eq_getElem (by rw [HL.out]; exact hlt)⟩
      obtain ⟨b, o, rfl, c0, c1⟩ := HR.out wr hB (i0 + k) u.b (by rw [List.getElem?_map, hu]; rfl)
      have HE := Lib.hid (itS_next hu)
      obtain ⟨fn, tmps, assign, body, hy, hRn⟩ := hY _ (i0 + k, u) wr hJs (by have := itS_len us i0 k; omega)
      dsimp only [encB] at hy
      obtain ⟨p, hp⟩ : ∃ p, i0 + k = p := ⟨_, rfl⟩
      rw [hp] at hlt hk c0 c1 hy hRn HE
      have HP := Lib.hid hp
      clear hu hBn hBi h0 hn₀ hi
      simp only [hp]
      gi_wp2_with fail
      refine hRn.mono ?_
      rintro e W3 (⟨rfl, hJ3, hk3⟩ | ⟨rfl, hJx3⟩)
      · gi_wp2
        go_roundw
        case rel => exact ⟨k + 1, by have := HP.out; omega, by have := HP.out; go_num, by rw [HE.out]; exact hJ3, hB.trans hk3.1, hk3.2.1 _ hcn⟩
        case measure => simp [intOf]; omega
      · gi_wp2
        refine bodyPost_ret (results_none rfl _ _ _) rfl ?_
        exact ⟨⟨_, rfl⟩, .inr ⟨_, ⟨k + 1, by have := HP.out; omega, HE.out.symm⟩, hJx3⟩⟩
    · obtain rfl : k = N - i0 := by omega
      have q1 : ((i0 + (N - i0) : Nat) : Int) = (N : Int) := by omega
      rw [q1]
      gi_wp2
      go_end0
      exact ⟨⟨_, rfl⟩, .inl ⟨_, rfl, hJs⟩⟩
end
theorem bits_stops (n : Nat) (hn : 1 ≤ n) (Bi Bn n₀ : Nat) {A : Option Addr} {N c i0 : Nat} {us : List Bz} (hl : us.length = N) (hi : i0 ≤ N) (hN : N ≤ 1000000) (w : World)
    (hR : ∀ W', Below n₀ w W' → Br W' A (us.map (·.b))) (hn₀ : n₀ ≤ w.heap.size) (hlt : Bn < w.heap.size) (hlt2 : Bi < w.heap.size) (hBn : w.cell? ⟨Bn, 0, none⟩ = some (.slice A N c)) (hBi : w.cell? ⟨Bi, 0, none⟩ = some (.int .i64 (i0 : Int))) :
    SeqStopsK Fence.wide n Try.prog 86 #[.pointer (some ⟨Bi, 0, none⟩), .pointer (some ⟨Bn, 0, none⟩)] encB (KpD n₀ Bn) (fun ys => ys = itS us i0 (N - i0)) (fun pre => ∃ k, i0 + k ≤ N ∧ pre = itS us i0 k) N w :=
  fun l J Jx W hb hJ _ hY h0 => bits1_in n hn l Bi Bn n₀ hl hi hN J Jx W (fun W' h => hR W' ((hb.mono hn₀).trans h)) (Nat.le_trans hn₀ hb.size) hY ((hb.cell (p := ⟨Bn, 0, none⟩) hlt).trans hBn) ((hb.cell (p := ⟨Bi, 0, none⟩) hlt2).trans hBi) h0
set_option maxHeartbeats 400000 in
theorem bits0_any (A : Option Addr) (N c : Nat) (i : Int) (w : World) (k : Nat) (hk : w.heap.size = k) :
    Calls Try.prog 73 #[.slice A N c, .int .i64 i] w fun e w' => e = .returned (.func (.func 86) #[] #[.pointer (some ⟨k + 1, 0, none⟩), .pointer (some ⟨k, 0, none⟩)]) ∧ w' = (w.alloc (.cells #[.slice A N c] 22)).alloc (.cells #[.int .i64 i] 3) := by
  subst hk
  go_enter Try.func73, Try.ntmps73
  go_wp2
  go_ret
  exact ⟨rfl, rfl⟩
end Go.Proofs.Ytfcjihfnimefhaa
