/- Contracts of package scan's functions: standing, end, Name, Digits, HasPrefix, Blank. -/
import Derived.Test.YtjfhcgolgabkkaaDoorScanA
namespace Go.Proofs.YtjfhcgolgabkkaaDoor.Sc
open Go.RowKit
set_option linter.unusedVariables false

theorem sd_go {p : Int → Bool} {l : List UInt8} {i j : Int} (h1 : i ≤ j) (h2 : j < atE (rn p) l i) : sd p l j = true ∧ 0 ≤ j ∧ j < l.length := by
  by_cases h : 0 ≤ i ∧ i ≤ l.length
  · obtain ⟨a, rfl⟩ := Int.eq_ofNat_of_zero_le h.1
    obtain ⟨k, rfl⟩ : ∃ k : Nat, j = ((a + k : Nat) : Int) := ⟨(j - a).toNat, by omega⟩
    rw [atE_in (by omega)] at h2
    obtain ⟨h3, h4⟩ := rn_lt (n := k) (p := p) (l := l.drop a) (by omega)
    rw [List.length_drop] at h3
    rw [List.getElem_drop] at h4
    refine ⟨?_, by omega, by omega⟩
    unfold sd
    rw [decide_eq_true (by omega), Bool.true_and, Int.toNat_natCast, List.getD_eq_getElem?_getD, List.getElem?_eq_getElem (by omega)]
    exact h4
  · rw [atE_out (by omega)] at h2; omega
theorem sd_stop (p : Int → Bool) (l : List UInt8) (i : Int) : sd p l (atE (rn p) l i) = false := by
  by_cases h : 0 ≤ i ∧ i ≤ l.length
  · obtain ⟨a, rfl⟩ := Int.eq_ofNat_of_zero_le h.1
    rw [atE_in (by omega)]
    unfold sd
    by_cases hl : a + rn p (l.drop a) < l.length
    · have h4 := rn_stop (p := p) (l := l.drop a) (by rw [List.length_drop]; omega)
      rw [List.getElem_drop] at h4
      rw [show ((a : Int) + (rn p (l.drop a) : Int)) = ((a + rn p (l.drop a) : Nat) : Int) by omega]
      rw [Int.toNat_natCast, List.getD_eq_getElem?_getD, List.getElem?_eq_getElem hl]
      rw [show ((some (l[a + rn p (l.drop a)])).getD 0) = l[a + rn p (l.drop a)] from rfl, h4, Bool.and_false]
    · rw [decide_eq_false (by omega), Bool.false_and]
  · rw [atE_out (by omega)]
    unfold sd
    rw [decide_eq_false (by omega), Bool.false_and]
theorem atE_ge (f : List UInt8 → Nat) (l : List UInt8) (i : Int) : i ≤ atE f l i := by unfold atE; split <;> omega

set_option maxHeartbeats 400000 in
theorem standing_any (s : ByteArray) (f : Nat) (w : World) :
    Calls Tryd.prog 34 #[.string s, .func (.func f) #[] #[]] w fun e w' => e = .returned (.func (.func 45) #[] #[.pointer (some ⟨w.heap.size, 0, none⟩), .pointer (some ⟨w.heap.size + 1, 0, none⟩)]) ∧
      w' = (w.alloc (.cells #[.string s] 9)).alloc (.cells #[.func (.func f) #[] #[]] 62) := by
  have hmf : ∀ (fn : Fn) (first cap : Array Value) (w : World), (Instr.makeFunc fn first cap).run Tryd.prog w = .ok (.func fn first cap) w := fun _ _ _ _ => rfl
  go_enter Tryd.func34, Tryd.ntmps34
  go_wp2
  go_ret
  exact ⟨rfl, rfl⟩

/-- The closure's two variables. -/
structure Sv (s : ByteArray) (f b1 b2 : Nat) (w : World) : Prop where
  c1 : w.cell? ⟨b1, 0, none⟩ = some (.string s)
  c2 : w.cell? ⟨b2, 0, none⟩ = some (.func (.func f) #[] #[])
theorem sv_start (s : ByteArray) (f : Nat) (w : World) : Sv s f w.heap.size (w.heap.size + 1) ((w.alloc (.cells #[.string s] 9)).alloc (.cells #[.func (.func f) #[] #[]] 62)) := by
  refine ⟨?_, ?_⟩ <;> simp [go_sem]
theorem Sv.draws {s : ByteArray} {f b1 b2 : Nat} {w : World} (h : Sv s f b1 b2 w) (n : Nat) : Sv s f b1 b2 (w.drewN n) := by
  obtain ⟨h1, h2⟩ := h
  refine ⟨?_, ?_⟩ <;> simp [go_sem, h1, h2]
/-- The closure as a value. -/
def clo (b1 b2 : Nat) : Value := .func (.func 45) #[] #[.pointer (some ⟨b1, 0, none⟩), .pointer (some ⟨b2, 0, none⟩)]

set_option maxHeartbeats 400000 in
theorem end_any {p : Int → Bool} {f : Nat} (hf : Tells p f) (s : ByteArray) (hs : s.size ≤ 9223372036854775807) (i : Int) (b1 b2 : Nat) (w : World) (hw : Sv s f b1 b2 w) :
    Calls Tryd.prog 36 #[.int .i64 i, .func (.func 45) #[] #[.pointer (some ⟨b1, 0, none⟩), .pointer (some ⟨b2, 0, none⟩)]] w fun e w' =>
      e = .returned (.int .i64 (atE (rn p) s.data.toList i)) ∧ ∃ n, w' = w.drewN n := by
  have hsz : s.data.toList.length = s.size := (Lib.size_eq s).symm
  have hgo := fun j => @sd_go p s.data.toList i j
  have hst := sd_stop p s.data.toList i
  have hge := atE_ge (rn p) s.data.toList i
  rw [hsz] at hgo
  generalize atE (rn p) s.data.toList i = N at hgo hst hge ⊢
  have HG := Lib.hid hgo
  have HS := Lib.hid hst
  have HW := Lib.hid hw
  have HF := Lib.hid hf
  clear hgo hst hsz hf hw
  go_enter Tryd.func36, Tryd.ntmps36
  go_wp2_with fail
  go_loopw [0] (fun v wr => ∃ j : Int, i ≤ j ∧ j ≤ N ∧ v = .int .i64 j ∧ ∃ n, wr = w.drewN n) (fun v _ => (N - intOf v).toNat)
  case atStart => exact ⟨i, Int.le_refl _, hge, rfl, 0, rfl⟩
  case round =>
    obtain ⟨j, h1, h2, rfl, n, rfl⟩ := hrel
    by_cases hlt : j < N
    · obtain ⟨e1, e2, e3⟩ := HG.out j h1 hlt
      have E1 := Lib.hid e1
      clear e1
      go_wp2_with fail
      (with_reducible refine (standing1_any p f HF.out s j b1 b2 _ (HW.out.draws n).c1 (HW.out.draws n).c2).mono ?_)
      rintro e w1 ⟨rfl, m, rfl⟩
      rw [E1.out]
      go_wp2_with fail
      go_roundw
      case rel => exact ⟨j + 1, by omega, by omega, rfl, _, rfl⟩
      case measure => simp [intOf]; omega
    · obtain rfl : j = N := by omega
      go_wp2_with fail
      (with_reducible refine (standing1_any p f HF.out s j b1 b2 _ (HW.out.draws n).c1 (HW.out.draws n).c2).mono ?_)
      rintro e w1 ⟨rfl, m, rfl⟩
      rw [HS.out]
      go_wp2_with fail
      go_ret
      exact ⟨rfl, _, rfl⟩

theorem bel_new {w : World} {o1 o2 : Obj} {n : Nat} : Below w.heap.size w (((w.alloc o1).alloc o2).drewN n) := below_drewN (bel_alloc (bel_alloc (Below.refl _ _) _) _) _

set_option maxHeartbeats 400000 in
theorem digits_any (s : ByteArray) (i : Int) (w : World) (hs : s.size ≤ 9223372036854775807) :
    Calls Tryd.prog 58 #[.string s, .int .i64 i] w fun e w' => e = .returned (.int .i64 (atE (rn dgI) s.data.toList i)) ∧ Below w.heap.size w w' := by
  go_enter Tryd.func58, Tryd.ntmps58
  go_wp2_with fail
  (with_reducible refine (standing_any s 54 _).mono ?_)
  rintro e w1 ⟨rfl, rfl⟩
  go_wp2_with fail
  (with_reducible refine (end_any digit_tells s hs i _ _ _ (sv_start s _ w)).mono ?_)
  rintro e w1 ⟨rfl, n, rfl⟩
  go_wp2_with fail
  go_ret
  exact ⟨rfl, bel_new⟩

theorem nmT_at {l : List UInt8} {i : Int} : atE nmT l i = if sd bgI l i = true then atE (rn nmI) l i else i := by
  by_cases h : 0 ≤ i ∧ i ≤ l.length
  · obtain ⟨a, rfl⟩ := Int.eq_ofNat_of_zero_le h.1
    rw [atE_in (by omega), atE_in (by omega)]
    unfold sd
    by_cases ha : a < l.length
    · rw [List.drop_eq_getElem_cons ha, nmT_cons, decide_eq_true (by omega), Bool.true_and, Int.toNat_natCast, List.getD_eq_getElem?_getD, List.getElem?_eq_getElem ha]
      rw [show ((some (l[a])).getD 0) = l[a] from rfl]
      split <;> simp
    · rw [List.drop_eq_nil_of_le (by omega), decide_eq_false (by omega)]
      simp [nmT]
  · rw [atE_out (by omega), atE_out (by omega)]
    split <;> rfl

set_option maxHeartbeats 400000 in
theorem name_any (s : ByteArray) (i : Int) (w : World) (hs : s.size ≤ 9223372036854775807) :
    Calls Tryd.prog 41 #[.string s, .int .i64 i] w fun e w' => e = .returned (.int .i64 (atE nmT s.data.toList i)) ∧ Below w.heap.size w w' := by
  rw [nmT_at]
  cases hb : sd bgI s.data.toList i
  · rw [if_neg (by decide)]
    have HB := Lib.hid hb
    clear hb
    go_enter Tryd.func41, Tryd.ntmps41
    go_wp2_with fail
    (with_reducible refine (standing_any s 40 _).mono ?_)
    rintro e w1 ⟨rfl, rfl⟩
    go_wp2_with fail
    (with_reducible refine (standing1_any _ _ begins_tells s i _ _ _ (sv_start s _ w).c1 (sv_start s _ w).c2).mono ?_)
    rintro e w1 ⟨rfl, n, rfl⟩
    rw [HB.out]
    go_wp2_with fail
    go_ret
    exact ⟨rfl, bel_new⟩
  · rw [if_pos rfl]
    have HB := Lib.hid hb
    clear hb
    go_enter Tryd.func41, Tryd.ntmps41
    go_wp2_with fail
    (with_reducible refine (standing_any s 40 _).mono ?_)
    rintro e w1 ⟨rfl, rfl⟩
    go_wp2_with fail
    (with_reducible refine (standing1_any _ _ begins_tells s i _ _ _ (sv_start s _ w).c1 (sv_start s _ w).c2).mono ?_)
    rintro e w1 ⟨rfl, n, hw1⟩
    have hbel : Below w.heap.size w w1 := by rw [hw1]; exact bel_new
    clear hw1
    rw [HB.out]
    go_wp2_with fail
    (with_reducible refine (standing_any s 48 _).mono ?_)
    rintro e w2 ⟨rfl, rfl⟩
    go_wp2_with fail
    (with_reducible refine (end_any inName_tells s hs i _ _ _ (sv_start s _ w1)).mono ?_)
    rintro e w2 ⟨rfl, m, rfl⟩
    go_wp2_with fail
    go_ret
    exact ⟨rfl, bel_trans hbel bel_new⟩

set_option maxHeartbeats 400000 in
theorem hp0_any (s p : ByteArray) (w : World) :
    Calls Tryd.prog 46 #[.string s, .string p] w fun e w' => e = .returned (.bool (Lib.hasPrefix s.data.toList p.data.toList)) ∧ w = w' := by
  rw [← Lib.hasPrefix_of_take, ← Lib.size_eq, ← Lib.size_eq]
  go_enter Tryd.func46, Tryd.ntmps46
  go_wp2
  · rename_i h
    go_ret
    refine ⟨?_, rfl⟩
    show Ending.returned (Value.bool ((s.extract 0 p.size).toList == p.toList)) = _
    rw [Lib.extract_toList, Lib.toList_data]
    simp [h]
  · rename_i h
    go_ret
    refine ⟨?_, rfl⟩
    show Ending.returned (Value.bool false) = _
    simp [h]
set_option maxHeartbeats 400000 in
theorem hp_any (s p : ByteArray) (w : World) :
    Calls Tryd.prog 37 #[.string s, .string p] w fun e w' => e = .returned (.bool (Lib.hasPrefix s.data.toList p.data.toList)) ∧ w = w' := by
  go_enter Tryd.func37, Tryd.ntmps37
  go_wp2_with (go_at_call 46; refine (hp0_any _ _ _).mono ?_; rintro e w' ⟨rfl, rfl⟩)
  go_ret
  exact ⟨rfl, rfl⟩
end Go.Proofs.YtjfhcgolgabkkaaDoor.Sc
