/- Package utf's iterator (characters), Bad and May: contracts. -/
import Derived.RangeFuncFrom
import Derived.RangeFuncNested
import Derived.RangeFuncBound
import Derived.RangeFuncCalls
import Derived.RangeFuncLeaves
import Derived.Shelf.Abstract
import Derived.Shelf.RegionOpen
import Derived.OwnWalkIn
import Derived.TacticsInMore
import Derived.LoopNIn
import Derived.LoopIn
import Derived.Test.YtmknjhmfgapejaaUtfA
namespace Go.Proofs.Ytmknjhmfgapejaa
open Go.RowKit Go.Shelf
attribute [local go_sem] Oper.semAt_some

/-- Where the characters of l from place i on begin, and how many bytes each has. -/
def prs (l : List UInt8) (i : Nat) : List (Nat × Nat) :=
  if _h : (nxt (l.drop i)).2 = 0 then [] else (i, (nxt (l.drop i)).2) :: prs l (i + (nxt (l.drop i)).2)
termination_by l.length - i
decreasing_by have := (nxt_le (l.drop i)).1; simp at this; omega

theorem prs_stop {l : List UInt8} {i : Nat} (h : (nxt (l.drop i)).2 = 0) : prs l i = [] := by rw [prs, dif_pos h]
theorem prs_go {l : List UInt8} {i : Nat} (h : (nxt (l.drop i)).2 ≠ 0) : prs l i = (i, (nxt (l.drop i)).2) :: prs l (i + (nxt (l.drop i)).2) := by rw [prs, dif_neg h]

def lastEnd (a : Nat) (xs : List (Nat × Nat)) : Nat := xs.foldl (fun _ x => x.1 + x.2) a
theorem lastEnd_snoc (a : Nat) (xs : List (Nat × Nat)) (x : Nat × Nat) : lastEnd a (xs ++ [x]) = x.1 + x.2 := by simp [lastEnd]
theorem lastEnd_prs (l : List UInt8) (i : Nat) : lastEnd i (prs l i) = i + thru (l.drop i) := by
  induction hn : l.length - i using Nat.strongRecOn generalizing i with
  | _ n ih =>
    subst hn
    by_cases h : (nxt (l.drop i)).2 = 0
    · rw [prs_stop h, thru_stop h]; rfl
    · have hle := (nxt_le (l.drop i)).1
      simp at hle
      rw [prs_go h, thru_go h]
      have := ih (l.length - (i + (nxt (l.drop i)).2)) (by omega) (i + (nxt (l.drop i)).2) rfl
      rw [List.drop_drop]
      simp only [lastEnd, List.foldl_cons] at this ⊢
      rw [this]; omega

/-- A place and a number of bytes, both small. -/
abbrev Pr := { x : Nat × Nat // x.1 + x.2 ≤ 1000000000 }
def raw (xs : List Pr) : List (Nat × Nat) := xs.map (·.1)
theorem raw_snoc (xs : List Pr) (x : Pr) : raw (xs ++ [x]) = raw xs ++ [x.1] := by simp [raw]
theorem raw_len (xs : List Pr) : (raw xs).length = xs.length := by simp [raw]

theorem cell_new_l (W : World) (v : Value) (t : TypeId) : (W.alloc (.cells #[v] t)).cell? ⟨W.heap.size, 0, none⟩ = some v ∧ (W.alloc (.cells #[v] t)).frozen? ⟨W.heap.size, 0, none⟩ = false := by
  simp [go_sem]
theorem cell_alloc_l {W : World} {a : Addr} {v : Value} (o : Obj) (h : W.cell? a = some v) : (W.alloc o).cell? a = some v := cell_kept h (World.grownBy_alloc W o none) (fun r e => by cases e)
theorem frozen_alloc_l {W : World} {a : Addr} {v : Value} (o : Obj) (h : W.cell? a = some v) (hf : W.frozen? a = false) : (W.alloc o).frozen? a = false := (frozen_kept h (World.grownBy_alloc W o none) (fun r e => by cases e)).trans hf

/-- What a round of the caller keeps: all below n₀, and the box Bn. -/
def KpS (n₀ Bn : Nat) (W W' : World) : Prop := Below n₀ W W' ∧ ∀ v, W.cell? ⟨Bn, 0, none⟩ = some v → W'.cell? ⟨Bn, 0, none⟩ = some v
theorem kpS_t {n₀ Bn : Nat} {A B C : World} (h : KpS n₀ Bn A B) (k : KpS n₀ Bn B C) : KpS n₀ Bn A C := ⟨h.1.trans k.1, fun v hv => k.2 v (h.2 v hv)⟩
theorem kpS_b {n₀ Bn : Nat} {w : World} (hn : n₀ ≤ w.heap.size) (W : World) (l : Nat) (o o' : Obj) (hl : w.heap.size ≤ l) (h : W.heap[l]? = some o) (hc : o.isCells = false) (hw : o.isWalk = false) : KpS n₀ Bn W (W.putObj l o') :=
  ⟨belowK_b hn W l o o' hl h hc hw, fun v hv => cell_kept hv (grownBy_putObj' W l o') (fun r e => by cases e; exact ⟨o, h, hc⟩)⟩

theorem Grew.cell {W W' : World} (h : Grew W W') {a : Addr} {v : Value} (hv : W.cell? a = some v) : W'.cell? a = some v := by
  rcases h with rfl | ⟨o, rfl⟩
  · exact hv
  · exact cell_kept hv (World.grownBy_alloc W o none) (fun r e => by cases e)
theorem Grew.abides {β : Type} {B : Nat} {J : β → World → Prop} (hJ : AbidesFrom B J) {s : β} {W W' : World} (h : Grew W W') (hs : J s W) : J s W' := by
  rcases h with rfl | ⟨o, rfl⟩
  · exact hs
  · exact hJ s W _ none hs (World.grownBy_alloc W o none) (fun r e => by cases e)
theorem Grew.kpS {n₀ Bn : Nat} {W W' : World} (h : Grew W W') (hn : n₀ ≤ W.heap.size) : KpS n₀ Bn W W' := ⟨h.below.mono hn, fun _ hv => h.cell hv⟩

theorem nxtN_at (s : ByteArray) (k : Nat) (hk : k ≤ s.size) : nxtN s k = ((nxt (s.data.toList.drop k)).2 : Int) := by
  unfold nxtN
  by_cases h : k < s.size
  · simp [h]
  · have e : s.data.toList.drop k = [] := by apply List.drop_eq_nil_of_le; rw [← Lib.size_eq]; omega
    rw [e, nxt_nil, if_neg (by omega)]; rfl

set_option maxRecDepth 100000 in
set_option maxHeartbeats 2000000 in
theorem chars1_in (n : Nat) (hn : 1 ≤ n) (l Bn n₀ : Nat) (s : ByteArray) (hs : s.size ≤ 1000000000) (J Jx : List Pr → World → Prop) (W : World) (hJ : AbidesFrom W.heap.size J)
    (hY : ∀ pre x W1, J pre W1 → pre.length < (prs s.data.toList 0).length → YieldAt Fence.wide (n - 1) Try.prog l #[.int .i64 (x.1.1 : Nat), .int .i64 (x.1.2 : Nat)] W1 fun e W' =>
      (e = .returned (.bool true) ∧ J (pre ++ [x]) W' ∧ KpS n₀ Bn W1 W') ∨ (e = .returned (.bool false) ∧ Jx (pre ++ [x]) W'))
    (hBn : W.cell? ⟨Bn, 0, none⟩ = some (.string s)) (h0 : J [] W) :
    CallsIn Fence.wide n Try.prog 44 #[.func (.yield l) #[] #[], .pointer (some ⟨Bn, 0, none⟩)] W fun e W' => (∃ v, e = .returned v) ∧
      ((∃ ys, raw ys = prs s.data.toList 0 ∧ J ys W') ∨ (∃ pre, True ∧ Jx pre W')) := by
  refine callsIn_of_wp Try.func44 rfl trivial ?_ rfl
  simp only [Try.ntmps44, List.size_toArray, List.length_cons, List.length_nil, Nat.reduceAdd, Nat.reduceSub, Array.replicate_succ, Array.replicate_zero, List.push_toArray, List.append_toArray, List.nil_append, List.cons_append]
  gi_wp2
  gi_loopw [3] (fun i wr => ∃ (k : Nat) (pre : List Pr), k ≤ s.size ∧ i = .int .i64 k ∧ raw pre ++ prs s.data.toList k = prs s.data.toList 0 ∧ J pre wr ∧ wr.cell? ⟨Bn, 0, none⟩ = some (.string s))
    (fun i _ => s.size - (intOf i).toNat)
  case atStart => exact ⟨0, [], Nat.zero_le _, rfl, by simp [raw], h0, hBn⟩
  case round =>
    obtain ⟨k, pre, hk, rfl, hpre, hJs, hc⟩ := hrel
    have hN := nxtN_at s k hk
    obtain ⟨m, hm⟩ : ∃ m, (nxt (s.data.toList.drop k)).2 = m := ⟨_, rfl⟩
    have hle := (nxt_le (s.data.toList.drop k)).1
    have hlen : s.data.toList.length = s.size := (Lib.size_eq s).symm
    rw [hm] at hN
    rw [List.length_drop, hlen, hm] at hle
    have HP := Lib.hid hpre
    have HM := Lib.hid hm
    clear hpre hm hlen
    gi_wp2_with fail
    refine ⟨trivial, ?_⟩
    refine (callsIn_wide.2 (next_any s k wr)).mono ?_
    rintro e W1 ⟨rfl, hg⟩
    have hJ1 := hg.abides hJ hJs
    have hc1 := hg.cell hc
    by_cases h0m : m = 0
    · have hz : nxtN s k = 0 := by rw [hN, h0m]; rfl
      clear hN
      gi_wp2
      refine ⟨fun _ h => (by cases h), ?_⟩
      gi_wp2
      refine bodyPost_ret (results_none rfl _ _ _) rfl ?_
      refine ⟨⟨_, rfl⟩, .inl ⟨pre, ?_, hJ1⟩⟩
      rw [← HP.out, prs_stop (by rw [HM.out]; exact h0m)]; simp
    · have hpr : prs s.data.toList k = (k, m) :: prs s.data.toList (k + m) := by
        have := prs_go (l := s.data.toList) (i := k) (by rw [HM.out]; exact h0m)
        rwa [HM.out] at this
      have hl2 : pre.length < (prs s.data.toList 0).length := by rw [← HP.out, hpr]; simp [raw_len]
      have HPR := Lib.hid hpr; clear hpr
      obtain ⟨fn, tmps, assign, body, hy, hR⟩ := hY pre ⟨(k, m), by dsimp only; omega⟩ W1 hJ1 hl2
      dsimp only at hy
      have hz : ((m : Int) == 0) = false := by simp [h0m]
      gi_wp2
      refine hR.mono ?_
      rintro e W3 (⟨rfl, hJ3, hk3⟩ | ⟨rfl, hJx3⟩)
      · gi_wp2
        go_roundw
        case rel => exact ⟨k + m, pre ++ [⟨(k, m), by dsimp only; omega⟩], by omega, by simp, by rw [← HP.out, HPR.out, raw_snoc]; simp, hJ3, hk3.2 _ hc1⟩
        case measure => simp [intOf]; omega
      · gi_wp2
        refine bodyPost_ret (results_none rfl _ _ _) rfl ?_
        exact ⟨⟨_, rfl⟩, .inr ⟨_, trivial, hJx3⟩⟩

theorem chars_stops (n : Nat) (hn : 1 ≤ n) (Bn n₀ : Nat) (s : ByteArray) (hs : s.size ≤ 1000000000) (w : World) (hlt : Bn < w.heap.size) (hBn : w.cell? ⟨Bn, 0, none⟩ = some (.string s)) :
    SeqStopsK Fence.wide n Try.prog 44 #[.pointer (some ⟨Bn, 0, none⟩)] (fun x : Pr => #[.int .i64 (x.1.1 : Nat), .int .i64 (x.1.2 : Nat)]) (KpS n₀ Bn) (fun ys => raw ys = prs s.data.toList 0) (fun _ => True) (prs s.data.toList 0).length w :=
  fun l J Jx W hb hJ _ hY h0 => chars1_in n hn l Bn n₀ s hs J Jx W hJ hY ((hb.cell (p := ⟨Bn, 0, none⟩) hlt).trans hBn) h0

set_option maxHeartbeats 400000 in
theorem chars_any (s : ByteArray) (w : World) :
    Calls Try.prog 41 #[.string s] w fun e w' => e = .returned (.func (.func 44) #[] #[.pointer (some ⟨w.heap.size, 0, none⟩)]) ∧ w' = w.alloc (.cells #[.string s] 9) := by
  go_enter Try.func41, Try.ntmps41
  go_wp2
  go_ret
  exact ⟨rfl, rfl⟩

end Go.Proofs.Ytmknjhmfgapejaa
