/- Contracts of package span's functions: its maps and what they are asked, what a bit is on one line, columns. -/
import Derived.RangeFuncBox
import Derived.RangeFuncFrom
import Derived.RangeFuncNested
import Derived.RangeFuncBound
import Derived.RangeFuncCalls
import Derived.RangeFuncLeaves
import Derived.Shelf.Abstract
import Derived.Shelf.RegionOpen
import Derived.OwnWalkIn
import Derived.TacticsInMore
import Derived.LoopNIn
import Derived.LoopIn
import Derived.Maps.OwnIn
import Derived.Maps.OwnSet
import Derived.Maps.Views
import Derived.Maps.StringElems
import Derived.Deep.RegionLaw
import Derived.Test.YtfcjihfnimefhaaMapI
import Derived.Test.YtfcjihfnimefhaaSpaM
import Derived.Test.YtfcjihfnimefhaaBitR
import Derived.Test.YtfcjihfnimefhaaUtfR
namespace Go.Proofs.Ytfcjihfnimefhaa
open Go.RowKit Go.Shelf Go.Maps
set_option linter.unusedVariables false
set_option maxRecDepth 100000

/-- A map's literal, its last entry first. -/
def mapOf : List (Int × DataW Unit) → DataW Unit
  | [] => .map []
  | p :: ps => (mapOf ps).put (.int .i64 p.1) p.2
def findP : List (Int × DataW Unit) → Int → Option (DataW Unit)
  | [], _ => none
  | p :: ps, t => if t = p.1 then some p.2 else findP ps t
theorem mapOf_is (ps : List (Int × DataW Unit)) : IsMap (mapOf ps) := by
  induction ps with
  | nil => exact isMap_empty
  | cons p ps ih => exact ih.put _ _
theorem mapOf_at (ps : List (Int × DataW Unit)) (t : Int) (z : DataW Unit) : (mapOf ps).atKey (.int .i64 t) z = (findP ps t).getD z := by
  induction ps with
  | nil => rfl
  | cons p ps ih =>
    by_cases h : t = p.1
    · rw [findP, if_pos h, mapOf, ← h]; exact atKey_put_same (mapOf_is ps) (keyI _) _ _
    · rw [findP, if_neg h, mapOf, atKey_put_other (neI h)]; exact ih
/-- A map of ints lies in block b. -/
def OwnE (w : World) (e : TypeId) (b n : Nat) (D : DataW Unit) : Prop := w.ownsMap Try.prog 3 (plainElem (H := Unit) Try.prog e) b n D
theorem ownE_walks {w w' : World} {e : TypeId} {b n : Nat} {D : DataW Unit} (h : OwnE w e b n D) (hk : KeepsWalks w w') : OwnE w' e b n D := by
  obtain ⟨es, clock, hb, F, hs, hD⟩ := h
  exact ⟨es, clock, hk.same _ _ hb rfl, F, hs, hD⟩
theorem ownE_alloc {w : World} {e : TypeId} {b n : Nat} {D : DataW Unit} (h : OwnE w e b n D) (o : Obj) : OwnE (w.alloc o) e b n D := World.ownsMap.alloc h o
/-- An entry of a map's literal. -/
theorem insert_ownE (w : World) (e tm : TypeId) (htm : Try.prog.underlying tm = some (.map 3 e)) {ops : Array Oper} {rest : List Oper} {o : Oper} {a : Act} {Q : Exit → Act → World → Prop}
    (hg : o.guard = none) (m : Operand) (key : Int) (val : Value) (hop : o.op = Op.insert tm m (.const (.int .i64 key)) (.const val)) (d : DataW Unit) (hv : plainElem (H := Unit) Try.prog e val = some (d, [])) (b n : Nat) (D : DataW Unit)
    (hm : a.eval m = .map (some b)) (hown : OwnE w e b n D) (hn : n < 100) (hk : (Lit.int .i64 key).wf = true)
    (hK : ∀ w', OwnE w' e b (n + 1) (D.put (.int .i64 key) d) → w.grownBy w' (some b) → wpList Try.prog ops Q rest (a.put o.dst undef) w') :
    wpList Try.prog ops Q (o :: rest) a w := by
  refine wpList_plain hg fun K' hK' => ?_
  obtain ⟨w', hrun, r1, r2⟩ := World.ownsMap.update hown lawI htm (by unfold maxLen; omega) (keyI_at hk) hv
  unfold Oper.wp
  have e1 : ∀ v : Value, a.eval (.const v) = v := fun _ => rfl
  simp [execOp, hop, hm, e1, hrun, Result.andThen]
  exact hK' _ _ (hK w' r1 r2)
theorem grown_below {w w' : World} (h : w.grownBy w' none) : Below w.heap.size w w' := (Below.refl _ w).grown h (Nat.le_refl _) (fun k e => by cases e)

/-! ### The three maps -/
def dS (v : ByteArray) : DataW Unit := .lit (.string v.data.toList)
def dB (x : Bool) : DataW Unit := .lit (.bool x)
def dN (x : Int) : DataW Unit := .lit (.int .i64 x)
def flP : List (Int × DataW Unit) := [(9, dS noV), (8, dS noV), (7, dS noV), (6, dS noV), (4, dS cmK), (3, dS noV), (2, dS blK), (1, dS blK)]
def brP : List (Int × DataW Unit) := [(5, dB true), (4, dB true), (3, dB true), (2, dB true)]
def grP : List (Int × DataW Unit) := [(7, dN (-1)), (6, dN 1)]
theorem elS (v : ByteArray) (h : v.size ≤ maxLen) : plainElem (H := Unit) Try.prog 9 (.string v) = some (dS v, []) := plainElem_string Try.underlying9 h
theorem elB (x : Bool) : plainElem (H := Unit) Try.prog 4 (.bool x) = some (dB x, []) := plainElem_bool Try.underlying4 x
theorem elN (x : Int) (h : (Lit.int .i64 x).wf = true) : plainElem (H := Unit) Try.prog 3 (.int .i64 x) = some (dN x, []) := plainElem_int Try.underlying3 h
set_option maxHeartbeats 1000000 in
theorem flats_any (w : World) (n : Nat) (hn : w.heap.size = n) :
    Calls Try.prog 30 #[] w fun e w' => e = .returned (.map (some n)) ∧ OwnE w' 9 n 8 (mapOf flP) ∧ w.grownBy w' none := by
  subst hn
  have hmm := @run_makeMap Try.prog
  have h0 : OwnE (w.alloc (.map #[] 0)) 9 w.heap.size 0 (.map []) := World.ownsMap_made _ _ _ _
  have g0 : (w.alloc (.map #[] 0)).grownBy (w.alloc (.map #[] 0)) (some w.heap.size) := grown_refl _ _
  go_enter Try.func30, Try.ntmps30
  go_wp2_with (refine insert_ownE _ 9 50 Try.underlying50 rfl _ _ _ rfl _ (elS _ (by decide)) _ _ _ rfl h0 (by omega) (by decide) ?_; intro w1 h1 g1; replace h0 := h1; replace g0 := g0.trans g1)
  go_ret
  exact ⟨rfl, h0, grown_none g0⟩
set_option maxHeartbeats 1000000 in
theorem breaks_any (w : World) (n : Nat) (hn : w.heap.size = n) :
    Calls Try.prog 33 #[] w fun e w' => e = .returned (.map (some n)) ∧ OwnE w' 4 n 4 (mapOf brP) ∧ w.grownBy w' none := by
  subst hn
  have hmm := @run_makeMap Try.prog
  have h0 : OwnE (w.alloc (.map #[] 0)) 4 w.heap.size 0 (.map []) := World.ownsMap_made _ _ _ _
  have g0 : (w.alloc (.map #[] 0)).grownBy (w.alloc (.map #[] 0)) (some w.heap.size) := grown_refl _ _
  go_enter Try.func33, Try.ntmps33
  go_wp2_with (refine insert_ownE _ 4 54 Try.underlying54 rfl _ _ _ rfl _ (elB _) _ _ _ rfl h0 (by omega) (by decide) ?_; intro w1 h1 g1; replace h0 := h1; replace g0 := g0.trans g1)
  go_ret
  exact ⟨rfl, h0, grown_none g0⟩
set_option maxHeartbeats 1000000 in
theorem groups_any (w : World) (n : Nat) (hn : w.heap.size = n) :
    Calls Try.prog 72 #[] w fun e w' => e = .returned (.map (some n)) ∧ OwnE w' 3 n 2 (mapOf grP) ∧ w.grownBy w' none := by
  subst hn
  have hmm := @run_makeMap Try.prog
  have h0 : OwnE (w.alloc (.map #[] 0)) 3 w.heap.size 0 (.map []) := World.ownsMap_made _ _ _ _
  have g0 : (w.alloc (.map #[] 0)).grownBy (w.alloc (.map #[] 0)) (some w.heap.size) := grown_refl _ _
  go_enter Try.func72, Try.ntmps72
  go_wp2_with (refine insert_ownE _ 3 94 Try.underlying94 rfl _ _ _ rfl _ (elN _ (by decide)) _ _ _ rfl h0 (by omega) (by decide) ?_; intro w1 h1 g1; replace h0 := h1; replace g0 := g0.trans g1)
  go_ret
  exact ⟨rfl, h0, grown_none g0⟩
/-! ### What they answer -/
theorem flP_at (t : Int) (v : ByteArray) (h : t ≠ 0) : findP flP t = (flF ⟨t, v⟩).map dS := by
  unfold flF flP
  simp only [findP]
  rw [if_neg h]
  by_cases h9 : t = 9
  · subst h9; rfl
  by_cases h8 : t = 8
  · subst h8; rfl
  by_cases h7 : t = 7
  · subst h7; rfl
  by_cases h6 : t = 6
  · subst h6; rfl
  by_cases h4 : t = 4
  · subst h4; rfl
  by_cases h3 : t = 3
  · subst h3; rfl
  by_cases h2 : t = 2
  · subst h2; rfl
  by_cases h1 : t = 1
  · subst h1; rfl
  rw [if_neg h9, if_neg h8, if_neg h7, if_neg h6, if_neg h4, if_neg h3, if_neg h2, if_neg h1, if_neg (by omega), if_neg h4, if_neg (by omega)]
  rfl
theorem brP_at (t : Int) : (findP brP t).getD (dB false) = dB (brF t) := by
  unfold brF brP
  simp only [findP]
  by_cases h5 : t = 5
  · subst h5; rfl
  by_cases h4 : t = 4
  · subst h4; rfl
  by_cases h3 : t = 3
  · subst h3; rfl
  by_cases h2 : t = 2
  · subst h2; rfl
  rw [if_neg h5, if_neg h4, if_neg h3, if_neg h2, decide_eq_false (by omega)]
  rfl
theorem grP_at (t : Int) : (findP grP t).getD (dN 0) = dN (dO t) := by
  unfold dO grP
  simp only [findP]
  by_cases h7 : t = 7
  · subst h7; rfl
  by_cases h6 : t = 6
  · subst h6; rfl
  rw [if_neg h7, if_neg h6, if_neg h6, if_neg h7]
  rfl
theorem elB_inv {v : Value} {z : DataW Unit × List MemPlace} (h : plainElem Try.prog 4 v = some z) : ∃ x, v = .bool x ∧ z = (dB x, []) := by
  unfold plainElem at h
  rw [Try.underlying4] at h
  cases v <;> simp at h
  exact ⟨_, rfl, h.symm⟩
theorem lk_fl {w : World} {b : Nat} {t : Int} {v S : ByteArray} {is : Bool} (h : OwnE w 9 b 8 (mapOf flP)) (hwf : (Lit.int .i64 t).wf = true) (h0 : t ≠ 0) (hS : flV ⟨t, v⟩ = S) (hi : flI ⟨t, v⟩ = is) :
    (Instr.lookup 50 (.map (some b)) (.int .i64 t) true).run Try.prog w = .ok (.tuple #[.string S, .bool is]) w := by
  have hz : (zeroValue 9).run Try.prog w = .ok (.string ⟨#[]⟩) w := by kernel_rfl
  obtain ⟨x, ps, hrun, hx⟩ := World.ownsMap.look_ok h lawI Try.underlying50 hz (elS ⟨#[]⟩ (by decide)) (keyI_at hwf)
  obtain ⟨s, rfl, hs, -⟩ := plainElem_string_inv Try.underlying9 hx
  have hat := fun z => mapOf_at flP t z
  rw [flP_at t v h0] at hat
  injection hs with hs _
  rw [hat] at hs
  cases hf : flF ⟨t, v⟩ with
  | none =>
    rw [hf] at hs hat
    have e1 : Maps.has (mapOf flP) (.int .i64 t) = false := has_false_of_atKey hat
    have e2 : s = S := by
      rw [← hS, flV, hf]
      simp only [Option.map_none, Option.getD_none, dS] at hs
      injection hs with hs
      injection hs with hs
      obtain ⟨⟨l⟩⟩ := s
      rw [show l = [] from hs.symm]; rfl
    rw [hrun, e1, e2, ← hi, flI, hf]; rfl
  | some u =>
    rw [hf] at hs hat
    have e1 : Maps.has (mapOf flP) (.int .i64 t) = true := has_true_of_atKey (y := dS u) hat
    have e2 : s = S := by
      rw [← hS, flV, hf]
      simp only [Option.map_some, Option.getD_some, dS] at hs
      injection hs with hs
      injection hs with hs
      obtain ⟨⟨l⟩⟩ := s
      obtain ⟨⟨l'⟩⟩ := u
      rw [show l = l' from hs.symm]; rfl
    rw [hrun, e1, e2, ← hi, flI, hf]; rfl
theorem lk_br {w : World} {b : Nat} {t : Int} {r : Bool} (h : OwnE w 4 b 4 (mapOf brP)) (hwf : (Lit.int .i64 t).wf = true) (hr : brF t = r) :
    (Instr.lookup 54 (.map (some b)) (.int .i64 t) false).run Try.prog w = .ok (.bool r) w := by
  have hz : (zeroValue 4).run Try.prog w = .ok (.bool false) w := by kernel_rfl
  obtain ⟨x, ps, hrun, hx⟩ := World.ownsMap.lookup h lawI Try.underlying54 hz (elB false) (keyI_at hwf)
  obtain ⟨y, rfl, hy⟩ := elB_inv hx
  injection hy with hy _
  rw [mapOf_at, brP_at, hr] at hy
  unfold dB at hy
  injection hy with hy
  injection hy with hy
  rw [hrun, hy]
theorem lk_gr {w : World} {b : Nat} {t d : Int} (h : OwnE w 3 b 2 (mapOf grP)) (hwf : (Lit.int .i64 t).wf = true) (hd : dO t = d) :
    (Instr.lookup 94 (.map (some b)) (.int .i64 t) false).run Try.prog w = .ok (.int .i64 d) w := by
  have hz : (zeroValue 3).run Try.prog w = .ok (.int .i64 0) w := by kernel_rfl
  obtain ⟨c, hrun, hat, -⟩ := World.ownsMap.lookup_int h lawI Try.underlying94 Try.underlying3 hz (keyI_at hwf)
  have h2 := mapOf_at grP t (dN 0)
  rw [grP_at, hd, show dN 0 = (.lit (.int .i64 0) : DataW Unit) from rfl, hat] at h2
  unfold dN at h2
  injection h2 with h2
  injection h2 with _ h2
  rw [hrun, h2]

/-! ### On one line -/
set_option maxHeartbeats 1000000 in
theorem of_any {w : World} {b : Nat} {t : Int} {v S : ByteArray} {is : Bool} (h : OwnE w 9 b 8 (mapOf flP)) (hwf : (Lit.int .i64 t).wf = true) (hS : flV ⟨t, v⟩ = S) (hi : flI ⟨t, v⟩ = is) :
    Calls Try.prog 31 #[.map (some b), .agg #[.int .i64 t, .string v]] w fun e w' => e = .returned (.tuple #[.string S, .bool is]) ∧ w' = w.alloc (.cells #[.int .i64 t, .string v] 34) := by
  by_cases h0 : t = 0
  · subst h0
    obtain rfl : v = S := hS
    obtain rfl : true = is := hi
    go_enter Try.func31, Try.ntmps31
    go_wp2
    go_ret2
    exact ⟨rfl, rfl⟩
  · have hlk := lk_fl (ownE_alloc h (.cells #[.int .i64 t, .string v] 34)) hwf h0 hS hi
    have q0 : (t == 0) = false := by simpa using h0
    clear hS hi h h0
    go_enter Try.func31, Try.ntmps31
    go_wp2
    go_ret2
    exact ⟨rfl, rfl⟩
set_option maxHeartbeats 1000000 in
theorem sflat_any {w : World} {t : Int} {v S : ByteArray} {is : Bool} (hwf : (Lit.int .i64 t).wf = true) (hS : flV ⟨t, v⟩ = S) (hi : flI ⟨t, v⟩ = is) :
    Calls Try.prog 18 #[.agg #[.int .i64 t, .string v]] w fun e w' => e = .returned (.tuple #[.string S, .bool is]) ∧ Below w.heap.size w w' := by
  have HS := Lib.hid hS
  have HI := Lib.hid hi
  have HW := Lib.hid hwf
  clear hS hi hwf
  go_enter Try.func18, Try.ntmps18
  go_wp2_with fail
  go_region_law (first
    | (go_simp; go_at_call 30; refine (flats_any _ (w.heap.size + 1) (by simp)).mono ?_; rintro e w1 ⟨rfl, hM, hg⟩; have hM1 := hM; have hb1 := bel_trans (bel_alloc (Below.refl _ w) (.cells #[.int .i64 t, .string v] 34)).drew (grown_below hg); have hc0 := bel_cell (grown_below hg) (show (w.alloc (.cells #[.int .i64 t, .string v] 34)).drew.cell? ⟨w.heap.size, 0, none⟩ = some (.int .i64 t) by simp [go_sem]); have hc1 := bel_cell (grown_below hg) (show (w.alloc (.cells #[.int .i64 t, .string v] 34)).drew.cell? ⟨w.heap.size, 1, none⟩ = some (.string v) by simp [go_sem]))
    | (go_simp; go_at_call 31; refine (of_any hM1 HW.out HS.out HI.out).mono ?_; rintro e w2 ⟨rfl, rfl⟩))
  all_goals go_wp2
  all_goals go_ret2
  all_goals exact ⟨rfl, bel_alloc hb1 _⟩
set_option maxHeartbeats 1000000 in
theorem sbreaks_any {w : World} {t : Int} {v : ByteArray} {r : Bool} (hwf : (Lit.int .i64 t).wf = true) (hr : brF t = r) :
    Calls Try.prog 20 #[.agg #[.int .i64 t, .string v]] w fun e w' => e = .returned (.bool r) ∧ Below w.heap.size w w' := by
  have HR := Lib.hid hr
  have HW := Lib.hid hwf
  clear hr hwf
  go_enter Try.func20, Try.ntmps20
  go_wp2_with fail
  go_region_law (first
    | (go_simp; go_at_call 33; refine (breaks_any _ (w.heap.size + 1) (by simp)).mono ?_; rintro e w1 ⟨rfl, hM, hg⟩; have hlk := lk_br hM HW.out HR.out; have hb1 := bel_trans (bel_alloc (Below.refl _ w) (.cells #[.int .i64 t, .string v] 34)).drew (grown_below hg); have hc0 := bel_cell (grown_below hg) (show (w.alloc (.cells #[.int .i64 t, .string v] 34)).drew.cell? ⟨w.heap.size, 0, none⟩ = some (.int .i64 t) by simp [go_sem])))
  all_goals go_wp2
  all_goals go_ret
  all_goals exact ⟨rfl, hb1⟩

/-! ### Columns -/
set_option maxHeartbeats 2000000 in
theorem scols_any (s : ByteArray) (hz : s.size ≤ 9223372036854775807) {n : Nat} (hn : cols s.data.toList = n) (w : World) :
    Calls Try.prog 19 #[.string s] w fun e w' => e = .returned (.int .i64 n) ∧ Below w.heap.size w w' := by
  have hle := cols_le s.data.toList
  rw [← size_list, hn] at hle
  have HN := Lib.hid hn
  clear hn
  go_enter Try.func19, Try.ntmps19
  go_wp2
  go_loopw [3, 4] (fun c i wr => ∃ j k : Nat, c = .int .i64 j ∧ i = .int .i64 k ∧ k ≤ s.size ∧ Hid (j + cols (s.data.toList.drop k) = n) ∧ Hid (Below w.heap.size w wr)) (fun c i _ => s.size - (intOf i).toNat)
  case atStart => exact ⟨0, 0, rfl, rfl, Nat.zero_le _, Lib.hid (by rw [List.drop_zero, HN.out, Nat.zero_add]), Lib.hid (Below.refl _ _)⟩
  case round =>
    obtain ⟨j, k, rfl, rfl, hk, hj, hB⟩ := hrel
    by_cases hlt : k < s.size
    · obtain ⟨m, hm1, hm2, hm3⟩ := nxtN_bd s k hk
      obtain ⟨z, hz2⟩ : ∃ z, max m 1 = z := ⟨_, rfl⟩
      obtain ⟨b1, b2⟩ := cols_step (l := s.data.toList) (k := k) (n := z) (by rw [← size_list]; exact hlt) (by rw [hm2, hz2])
      rw [← size_list] at b1
      have hj2 := hj.out
      rw [b2] at hj2
      have hjn : j + 1 ≤ n := by omega
      have HJ := Lib.hid (show j + 1 + cols (s.data.toList.drop (k + z)) = n by omega)
      have r1 := fun w => next_any s k w
      rw [hm1] at r1
      clear hm1 hm2 b2 hj2 hj
      by_cases h0 : m = 0
      · subst h0
        obtain rfl : z = 1 := hz2.symm
        clear hz2
        go_wp2_with fail
        ((with_reducible refine (r1 _).mono ?_))
        rintro e w2 ⟨rfl, hg⟩
        have HB2 := Lib.hid (bel_trans hB.out hg.below)
        clear r1 hg
        go_wp2
        go_roundw
        case rel => exact ⟨j + 1, k + 1, by go_num, by go_num, b1, HJ, HB2⟩
        case measure => simp [intOf]; omega
      · obtain rfl : z = m := by omega
        have q1 : ¬ (z : Int) < 1 := by omega
        clear hz2
        go_wp2_with fail
        ((with_reducible refine (r1 _).mono ?_))
        rintro e w2 ⟨rfl, hg⟩
        have HB2 := Lib.hid (bel_trans hB.out hg.below)
        clear r1 hg
        go_wp2
        go_roundw
        case rel => exact ⟨j + 1, k + z, by go_num, by go_num, b1, HJ, HB2⟩
        case measure => simp [intOf]; omega
    · obtain rfl : k = s.size := by omega
      have hj2 := hj.out
      rw [size_list, List.drop_length, cols_nil, Nat.add_zero] at hj2
      subst hj2
      clear hj
      go_wp2
      go_ret
      exact ⟨rfl, hB.out⟩
end Go.Proofs.Ytfcjihfnimefhaa
