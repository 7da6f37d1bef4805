/- Contracts of package num's functions: stands, goesOn, and the two closures of Number. -/
import Derived.Test.YtjfhcgolgabkkaaDoorNumM
import Derived.Lib.Bytealg
import Derived.Laws.Externs
import Derived.OwnWalk
import Derived.ScopeJumps
import Derived.WalkMore
import Derived.RegionTactic
namespace Go.Proofs.YtjfhcgolgabkkaaDoor.Sc
open Go.RowKit
set_option linter.unusedVariables false

/-- A scope that is left by a jump forward to one label. -/
theorem wp_scope_forward {P : Program} {a : Act} {w : World} {Q : Exit → Act → World → Prop} {c rest : Code} (l : Nat) (hf : findLabel c l = some rest)
    (first : ∀ J : Act → World → Prop, (∀ a w, rest.wp P (Exit.noGoto Q) a w → J a w) → c.wp P (Exit.jump l J Q) a w) : (Code.scope c).wp P Q a w := by
  refine wp_scope_jumps l (fun a w => rest.wp P (Exit.noGoto Q) a w) (fun _ _ => 0) hf (first _ (fun _ _ h => h)) (fun a w h => ?_)
  refine Code.wp_mono ?_ h
  intro e a w hq
  cases e with
  | goto l => exact hq.elim
  | _ => exact hq
theorem jump_ret {l : Nat} {J : Act → World → Prop} {Q : Exit → Act → World → Prop} {a : Act} {w : World} : Exit.jump l J Q .ret a w = Q .ret a w := rfl

theorem bel_trans2 {n : Nat} {a b c : World} (h : Below n a b) (hn : n ≤ b.heap.size) (k : Below b.heap.size b c) : Below n a c := h.trans (k.mono hn)

theorem idx_nonneg (l : List UInt8) (c : UInt8) : (0 ≤ Lib.indexByte l c) ↔ l.contains c = true := by
  induction l with
  | nil => simp [Lib.indexByte]
  | cons b l ih =>
    have hg := Lib.indexByte_ge l c
    unfold Lib.indexByte
    by_cases hb : b = c
    · subst hb; simp
    · have hb' : (b == c) = false := by simpa using hb
      have hc : ((b :: l).contains c) = l.contains c := by
        have : (c == b) = false := beq_false_of_ne (fun e => hb e.symm)
        rw [List.contains_cons, this, Bool.false_or]
      rw [hb', hc, ← ih]
      simp only [Bool.false_eq_true, if_false]
      split
      · rename_i h; have : Lib.indexByte l c = -1 := by simpa using h
        omega
      · rename_i h; have : ¬ Lib.indexByte l c = -1 := by simpa using h
        omega
theorem inS_contains (S : List UInt8) (c : UInt8) : inS S c.toNat = S.contains c := by
  induction S with
  | nil => rfl
  | cons b S ih =>
    have e : inS (b :: S) c.toNat = (((b.toNat : Int) == (c.toNat : Int)) || inS S c.toNat) := rfl
    rw [e, ih, List.contains_cons]
    congr 1
    rw [Bool.eq_iff_iff, beq_iff_eq, beq_iff_eq]
    exact ⟨fun h => (UInt8.toNat_inj.1 (by omega)), fun h => by rw [h]⟩
theorem idx_inS (S : List UInt8) (c : UInt8) : decide (0 ≤ Lib.indexByte S c) = inS S c.toNat := by
  rw [inS_contains, Bool.eq_iff_iff, decide_eq_true_iff]; exact idx_nonneg S c

theorem indexByteString_run (s : ByteArray) (c : Int) (w : World) : (callFunc 53 #[.string s, .int .u8 c]).run Tryd.prog w = .ok (.value (.int .i64 (Lib.indexByte s.data.toList c.toNat.toUInt8))) w := by
  rw [run_callFunc_extern (e := Extern.BytealgIndexByte.indexByte) Tryd.func53 (by kernel_rfl) (by kernel_rfl) (by kernel_rfl) (by kernel_rfl) _ w, Lib.run_indexByteString]
  rfl
set_option maxHeartbeats 400000 in
theorem index0_any (s : ByteArray) (c : UInt8) (w : World) :
    Calls Tryd.prog 47 #[.string s, .int .u8 c.toNat] w fun e w' => e = .returned (.int .i64 (Lib.indexByte s.data.toList c)) ∧ w = w' := by
  have h := indexByteString_run s c.toNat
  simp only [Int.toNat_natCast, UInt8.ofNat_toNat, Nat.toUInt8_eq] at h
  go_enter Tryd.func47, Tryd.ntmps47
  go_wp2
  go_ret
  exact ⟨rfl, rfl⟩
set_option maxHeartbeats 400000 in
theorem index_any (s : ByteArray) (c : UInt8) (w : World) :
    Calls Tryd.prog 38 #[.string s, .int .u8 c.toNat] w fun e w' => e = .returned (.int .i64 (Lib.indexByte s.data.toList c)) ∧ w = w' := by
  go_enter Tryd.func38, Tryd.ntmps38
  go_wp2_with (go_at_call 47; refine (index0_any _ _ _).mono ?_; rintro e w' ⟨rfl, rfl⟩)
  go_ret
  exact ⟨rfl, rfl⟩

theorem sd_in {p : Int → Bool} {s : ByteArray} {k : Nat} (h : k < s.size) : sd p s.data.toList k = p ((s[k]).toNat : Int) := by
  have hsz : s.data.toList.length = s.size := (Lib.size_eq s).symm
  unfold sd
  rw [decide_eq_true (by omega), Bool.true_and, Int.toNat_natCast, List.getD_eq_getElem?_getD, List.getElem?_eq_getElem (by omega)]
  rfl

set_option maxHeartbeats 400000 in
theorem stands_any (s set : ByteArray) (i : Int) (w : World) :
    Calls Tryd.prog 56 #[.string s, .int .i64 i, .string set] w fun e w' => e = .returned (.bool (sd (inS set.data.toList) s.data.toList i)) ∧ w = w' := by
  have hsz : s.data.toList.length = s.size := (Lib.size_eq s).symm
  by_cases h0 : 0 ≤ i
  · obtain ⟨k, rfl⟩ := Int.eq_ofNat_of_zero_le h0
    by_cases h1 : k < s.size
    · rw [sd_in h1, ← idx_inS]
      clear hsz
      have d0 : decide ((0 : Int) ≤ (k : Int)) = true := by simp
      have d1 : decide ((k : Int) < (s.size : Int)) = true := by simp [h1]
      go_enter Tryd.func56, Tryd.ntmps56
      go_wp2_with fail
      (with_reducible refine (index_any _ _ _).mono ?_)
      rintro e w' ⟨rfl, rfl⟩
      go_wp2
      go_ret
      exact ⟨rfl, rfl⟩
    · rw [sd_out (.inr (by omega))]
      clear hsz
      have d0 : decide ((0 : Int) ≤ (k : Int)) = true := by simp
      have d1 : decide ((k : Int) < (s.size : Int)) = false := by simp; omega
      go_enter Tryd.func56, Tryd.ntmps56
      go_wp2
      go_ret
      exact ⟨rfl, rfl⟩
  · rw [sd_out (.inl (by omega))]
    clear hsz
    have d0 : decide ((0 : Int) ≤ i) = false := by simp; omega
    go_enter Tryd.func56, Tryd.ntmps56
    go_wp2
    go_ret
    exact ⟨rfl, rfl⟩

set_option maxHeartbeats 400000 in
theorem goesOn_any (s : ByteArray) (i : Int) (w : World) (h0 : 0 ≤ i) :
    Calls Tryd.prog 59 #[.string s, .int .i64 i] w fun e w' => e = .returned (.bool (sd moreI s.data.toList i)) ∧ w = w' := by
  have hsz : s.data.toList.length = s.size := (Lib.size_eq s).symm
  obtain ⟨k, rfl⟩ := Int.eq_ofNat_of_zero_le h0
  by_cases h1 : k < s.size
  · have e : sd moreI s.data.toList k = (sd (inS moreB) s.data.toList k || bgI ((s[k]).toNat : Int)) := by
      rw [← sd_in (p := bgI) h1, ← sd_or]; rfl
    rw [e]; clear e hsz
    have d1 : decide ((k : Int) < (s.size : Int)) = true := by simp [h1]
    have hst := fun w => stands_any s ⟨#[48, 49, 50, 51, 52, 53, 54, 55, 56, 57, 46]⟩ k w
    have eb : (⟨#[48, 49, 50, 51, 52, 53, 54, 55, 56, 57, 46]⟩ : ByteArray).data.toList = moreB := rfl
    rw [eb] at hst
    have hbg := begins_any ((s[k]).toNat : Int)
    clear eb
    generalize bgI ((s[k]).toNat : Int) = q at hbg ⊢
    cases hv : sd (inS moreB) s.data.toList k
    all_goals
      rw [hv] at hst
      clear hv
      go_enter Tryd.func59, Tryd.ntmps59
      go_wp2_with (first | (go_at_call 56; (with_reducible refine (hst _).mono ?_); rintro e w' ⟨rfl, rfl⟩) | (go_at_call 40; (with_reducible refine (hbg _).mono ?_); rintro e w' ⟨rfl, rfl⟩))
      go_ret
      exact ⟨by simp, rfl⟩
  · rw [sd_out (.inr (by omega))]
    clear hsz
    have d1 : decide ((k : Int) < (s.size : Int)) = false := by simp; omega
    go_enter Tryd.func59, Tryd.ntmps59
    go_wp2
    go_ret
    exact ⟨rfl, rfl⟩

/-- What stands while a number is read: the text, and where it is. -/
structure Nv (w0 : World) (s : ByteArray) (b1 b2 : Nat) (j : Int) (w : World) : Prop where
  c1 : w.cell? ⟨b1, 0, none⟩ = some (.string s)
  c2 : w.cell? ⟨b2, 0, none⟩ = some (.int .i64 j)
  f2 : w.frozen? ⟨b2, 0, none⟩ = false
  o2 : w0.heap.size ≤ b2
  l1 : b1 < w.heap.size
  l2 : b2 < w.heap.size
  n12 : b1 ≠ b2
  bel : Below w0.heap.size w0 w
theorem Nv.put {w0 : World} {s : ByteArray} {b1 b2 : Nat} {j : Int} {w : World} (h : Nv w0 s b1 b2 j w) (k : Int) : Nv w0 s b1 b2 k (w.setCell ⟨b2, 0, none⟩ (.int .i64 k)) := by
  obtain ⟨c1, c2, f2, o2, l1, l2, n12, bel⟩ := h
  refine ⟨?_, ?_, ?_, o2, ?_, ?_, n12, bel.setCell o2 _⟩ <;> simp [go_sem, *]
theorem Nv.below {w0 : World} {s : ByteArray} {b1 b2 : Nat} {j : Int} {w w' : World} (h : Nv w0 s b1 b2 j w) (k : Below w.heap.size w w') : Nv w0 s b1 b2 j w' := by
  obtain ⟨c1, c2, f2, o2, l1, l2, n12, bel⟩ := h
  have hz := k.size
  refine ⟨?_, ?_, ?_, o2, by omega, by omega, n12, bel_trans2 bel bel.size k⟩
  · rw [k.cell (p := ⟨b1, 0, none⟩) l1]; exact c1
  · rw [k.cell (p := ⟨b2, 0, none⟩) l2]; exact c2
  · rw [k.frozen (p := ⟨b2, 0, none⟩) l2]; exact f2

set_option maxHeartbeats 400000 in
theorem take_any (w0 : World) (s set : ByteArray) (b1 b2 : Nat) (j : Int) (w : World) (h : Nv w0 s b1 b2 j w) (hs : s.size ≤ 9223372036854775807) (hj : j ≤ 9223372036854775807) (hj0 : -9223372036854775808 ≤ j) :
    Calls Tryd.prog 55 #[.string set, .pointer (some ⟨b1, 0, none⟩), .pointer (some ⟨b2, 0, none⟩)] w fun e w' =>
      e = .returned (.bool (sd (inS set.data.toList) s.data.toList j)) ∧ Nv w0 s b1 b2 (adv (sd (inS set.data.toList) s.data.toList j) j) w' := by
  have hsz : s.data.toList.length = s.size := (Lib.size_eq s).symm
  have H := Lib.hid h
  obtain ⟨c1, c2, f2, o2, l1, l2, n12, bel⟩ := h
  have hst := stands_any s set j
  cases hv : sd (inS set.data.toList) s.data.toList j
  · rw [hv] at hst
    clear hv hsz
    go_enter Tryd.func55, Tryd.ntmps55
    go_wp2_with fail
    (with_reducible refine (hst _).mono ?_)
    rintro e w' ⟨rfl, rfl⟩
    go_wp2
    go_ret
    exact ⟨rfl, H.out⟩
  · have hin := sd_true.1 hv
    have g1 : 0 ≤ j := hin.1
    have g2 : j + 1 ≤ 9223372036854775807 := by have := hin.2.1; omega
    rw [hv] at hst
    clear hv hsz hin
    go_enter Tryd.func55, Tryd.ntmps55
    go_wp2_with fail
    (with_reducible refine (hst _).mono ?_)
    rintro e w' ⟨rfl, rfl⟩
    go_wp2
    go_ret
    exact ⟨rfl, H.out.put _⟩

set_option maxHeartbeats 400000 in
theorem digs_any (w0 : World) (s : ByteArray) (b1 b2 : Nat) (j : Int) (w : World) (h : Nv w0 s b1 b2 j w) (hs : s.size ≤ 9223372036854775807) :
    Calls Tryd.prog 57 #[.pointer (some ⟨b2, 0, none⟩), .pointer (some ⟨b1, 0, none⟩)] w fun e w' =>
      e = .returned (.bool (sd dgI s.data.toList j)) ∧ Nv w0 s b1 b2 (dgE s.data.toList j) w' := by
  have H := Lib.hid h
  obtain ⟨c1, c2, f2, o2, l1, l2, n12, bel⟩ := h
  rw [← dgE_dec]
  have hd := fun w => digits_any s j w hs
  have ed : atE (rn dgI) s.data.toList j = dgE s.data.toList j := rfl
  rw [ed] at hd
  clear ed
  generalize dgE s.data.toList j = D at hd ⊢
  go_enter Tryd.func57, Tryd.ntmps57
  go_wp2_with fail
  (with_reducible refine (hd _).mono ?_)
  rintro e w1 ⟨rfl, hb⟩
  have H1 := Lib.hid (H.out.below hb)
  have k1 := H1.out.c1
  have k2 := H1.out.c2
  have k3 := H1.out.f2
  have k4 := H1.out.l2
  go_wp2
  go_ret
  exact ⟨rfl, H1.out.put _⟩
end Go.Proofs.YtjfhcgolgabkkaaDoor.Sc
