/- Contracts of package wide: slices.Clone of bits; cut, fits. -/
import Derived.Test.YtfcjihfnimefhaaWidM
import Derived.Test.YtfcjihfnimefhaaSpaE
import Derived.Test.YtfcjihfnimefhaaBitH
import Derived.Laws.OwnMore
import Derived.Maps.AppendAt
import Derived.Lib.SliceRun
namespace Go.Proofs.Ytfcjihfnimefhaa
open Go.RowKit
set_option linter.unusedVariables false
set_option maxRecDepth 100000

/-! ### What still is wider -/
def cutV (W : Nat) (v : ByteArray) : ByteArray := v.extract 0 (min v.size ((W + 1) * 4))
def cutB (W : Nat) (b : Bq) : Bq := ⟨b.m, cutV W b.v⟩
def cutL (W : Nat) (l : List Bq) : List Bq := l.map (cutB W)
theorem cutV_size (W : Nat) (v : ByteArray) : (cutV W v).size = min v.size ((W + 1) * 4) := by
  rw [cutV, ByteArray.size_extract]; omega
theorem cutV_list (W : Nat) (v : ByteArray) : (cutV W v).data.toList = v.data.toList.take ((W + 1) * 4) := by
  rw [cutV, ByteArray.data_extract, Array.toList_extract, List.extract_eq_take_drop, List.drop_zero, Nat.sub_zero, size_list, List.take_eq_take_iff]
  omega
theorem cols_ge (l : List UInt8) : l.length ≤ 4 * cols l := by
  induction hn : l.length using Nat.strongRecOn generalizing l with
  | _ n ih =>
    subst hn
    by_cases h : l = []
    · rw [h]; exact Nat.zero_le _
    · have hp := List.length_pos_iff.2 h
      have h4 := (nxt_le l).2
      have := ih (l.drop (max (nxt l).2 1)).length (by simp; omega) _ rfl
      rw [cols_go h]
      simp at this
      omega
theorem colB_cut (W : Nat) (b : Bq) : min (colB (cutB W b)) (W + 1) = min (colB b) (W + 1) := by
  by_cases h0 : b.m = 0
  · have e1 : flV b = b.v := by rw [flV, flF, if_pos h0]; rfl
    have e2 : flV (cutB W b) = cutV W b.v := by rw [flV, flF, if_pos (show (cutB W b).m = 0 from h0)]; rfl
    rw [colB, colB, e1, e2, cutV_list]
    by_cases h : b.v.data.toList.length ≤ (W + 1) * 4
    · rw [List.take_of_length_le h]
    · have g1 := cols_ge b.v.data.toList
      have g2 := cols_ge (b.v.data.toList.take ((W + 1) * 4))
      rw [List.length_take, Nat.min_eq_left (by omega)] at g2
      omega
  · have e : flV (cutB W b) = flV b := by
      unfold flV flF
      rw [if_neg (show ¬ (cutB W b).m = 0 from h0), if_neg h0]; rfl
    rw [colB, colB, e]
theorem colS_cut (W : Nat) (l : List Bq) : min (colS (cutL W l)) (W + 1) = min (colS l) (W + 1) := by
  induction l with
  | nil => rfl
  | cons b l ih =>
    have := colB_cut W b
    rw [cutL, List.map_cons, colS, colS]
    rw [cutL] at ih
    omega
theorem beF_cutL (W : Nat) (l : List Bq) : min (beF (cutL W l)) (W + 1) = min (beF l) (W + 1) := by
  induction l with
  | nil => rfl
  | cons b l ih =>
    have := colB_cut W b
    rw [cutL, List.map_cons, beF, beF]
    rw [cutL] at ih
    have e : brF (cutB W b).m = brF b.m := rfl
    rw [e]
    split
    · rfl
    · omega
theorem oS_cut (W : Nat) (l : List Bq) : oS (cutL W l) = oS l := by
  induction l with
  | nil => rfl
  | cons b l ih => rw [cutL, List.map_cons, oS, oS]; rw [cutL] at ih; rw [ih]; rfl
theorem cutL_take (W k : Nat) (l : List Bq) : (cutL W l).take k = cutL W (l.take k) := (List.map_take ..).symm
theorem cutL_drop (W k : Nat) (l : List Bq) : (cutL W l).drop k = cutL W (l.drop k) := (List.map_drop ..).symm
theorem cutL_len (W : Nat) (l : List Bq) : (cutL W l).length = l.length := List.length_map ..
theorem cutL_at (W : Nat) (l : List Bq) (k : Nat) : (cutL W l)[k]? = (l[k]?).map (cutB W) := List.getElem?_map ..
theorem mt_cut {W : Nat} {l : List Bq} {i m : Nat} (h : Mt l i m) : Mt (cutL W l) i m := by
  obtain ⟨⟨a, ha, h6⟩, h2, ⟨c, hc, h7⟩, h4, h5⟩ := h
  refine ⟨⟨cutB W a, by rw [cutL_at, ha]; rfl, h6⟩, h2, ⟨cutB W c, by rw [cutL_at, hc]; rfl, h7⟩, ?_, fun j j1 j2 => ?_⟩
  · rw [cutL_take, cutL_take, oS_cut, oS_cut]; exact h4
  · rw [cutL_take, cutL_take, oS_cut, oS_cut]; exact h5 j j1 j2
theorem flI_cut (W : Nat) (b : Bq) : flI (cutB W b) = flI b := by
  obtain ⟨m, v⟩ := b
  show flI ⟨m, cutV W v⟩ = flI ⟨m, v⟩
  unfold flI flF
  dsimp only
  by_cases h0 : m = 0
  · rw [if_pos h0, if_pos h0]; rfl
  · rw [if_neg h0, if_neg h0]
theorem ndF_cut (W : Nat) (l : List Bq) (i m : Nat) (c : Int) (hc : c ≤ W) : (0 ≤ ndF (cutL W l) i m ∧ ndF (cutL W l) i m ≤ c) ↔ (0 ≤ ndF l i m ∧ ndF l i m ≤ c) := by
  have eb : bet (cutL W l) i m = cutL W (bet l i m) := by rw [bet, cutL_take, cutL_drop]; rfl
  have ea : (bet (cutL W l) i m).all flI = (bet l i m).all flI := by
    rw [eb, cutL, List.all_map]
    refine List.all_congr rfl fun b => ?_
    exact flI_cut W b
  have h1 := colS_cut W (bet l i m)
  have h2 := beF_cutL W (l.drop (m + 1))
  cases h : (bet l i m).all flI
  · rw [ndF_no h, ndF_no (ea.trans h)]
  · rw [ndF_yes h, ndF_yes (ea.trans h), eb, cutL_drop]
    omega
theorem szB_cut {W : Nat} {l : List Bq} (h : SzB l) : SzB (cutL W l) := fun b hb => by
  obtain ⟨x, hx, rfl⟩ := List.mem_map.1 hb
  have := h x hx
  show (cutV W x.v).size ≤ _
  rw [cutV_size]; omega

/-! ### slices.Clone -/
set_option maxHeartbeats 1000000 in
theorem clone_any {w : World} {A : Option Addr} {n c : Nat} {bs : List Bq} (hA : Br w A bs) (hn : bs.length = n) (h0 : A = none → n = 0 ∧ c = 0) (hz : n ≤ 1000) :
    Calls Try.prog 70 #[.slice A n c] w fun e w' => ∃ v', e = .returned v' ∧ Bn w bs v' w' := by
  have q22 : ∀ (w : World) (a : Option Addr) (n c n' c' : Nat), (binOp .eql 22 (.slice a n c) (.slice none n' c')).run Try.prog w = .ok (.bool a.isNone) w := fun w a n c n' c' => Lib.run_eql_slice_nil w _ _ a n c n' c' Try.underlying22
  cases A with
  | none =>
    obtain ⟨rfl, rfl⟩ := h0 rfl
    obtain rfl : bs = [] := List.length_eq_zero_iff.1 hn
    clear hA hn h0
    go_enter Try.func70, Try.ntmps70
    go_wp2
    go_ret
    exact ⟨_, rfl, Bn.start w⟩
  | some ad =>
    have HA := Lib.hid hA
    have HL := Lib.hid hn
    have H0 := Lib.hid h0
    have HB := Lib.hid (bn_blk w (ts := []) (cs := #[]) (n := 0) rfl rfl (Nat.zero_le _))
    clear hA hn h0
    go_enter Try.func70, Try.ntmps70
    go_wp2_with (at_builtin; refine app_bns rfl _ _ rfl _ [] rfl HB.out rfl (HA.out.below (bel_alloc (Below.refl _ _) _)) HL.out H0.out (by simp; omega) ?_)
    intro v1 w1 h1
    have H1 := Lib.hid h1
    clear h1
    go_wp2
    go_ret
    exact ⟨_, rfl, by simpa using H1.out⟩
/-- A text in a row of bits of the call's own written anew. -/
theorem Bn.setv {w0 w : World} {g n c : Nat} {pre r : List Bq} {b : Bq} (h : Bn w0 (pre ++ b :: r) (.slice (some ⟨g, 0, none⟩) n c) w) (hn : (pre ++ b :: r).length = n) {k : Nat} (hk : pre.length = k) (v : ByteArray) : Bn w0 (pre ++ ⟨b.m, v⟩ :: r) (.slice (some ⟨g, 0, none⟩) n c) (w.setCell ⟨g, k * 2 + 1, none⟩ (.string v)) := by
  subst hk
  obtain ⟨h1, h2⟩ := h
  have hl : (pre ++ ⟨b.m, v⟩ :: r).length = (pre ++ b :: r).length := by simp
  rw [hn] at h1
  have h3 := (h1.stored (pre.length * 2 + 1) (.string v)).1
  have e : (clb (pre ++ b :: r)).set (pre.length * 2 + 1) (.string v) = clb (pre ++ ⟨b.m, v⟩ :: r) := by
    rw [clb_append, clb_append, List.set_append_right _ _ (by rw [clb_len]; omega), clb_len, Nat.add_sub_cancel_left]; rfl
  rw [e] at h3
  exact ⟨by rw [hl, hn]; exact h3, h2.setCell (h1.lt g rfl).1 _⟩
theorem Bn.frozen {w0 w : World} {g n c : Nat} {X : List Bq} (h : Bn w0 X (.slice (some ⟨g, 0, none⟩) n c) w) (hn : X.length = n) (j : Nat) : w.frozen? ⟨g, j, none⟩ = false := by
  have h1 := h.own
  rw [hn] at h1
  exact h1.frozenAt j
end Go.Proofs.Ytfcjihfnimefhaa
