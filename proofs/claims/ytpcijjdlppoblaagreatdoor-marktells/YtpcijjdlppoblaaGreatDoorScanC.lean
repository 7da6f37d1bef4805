/- Plain mathematics of layer 4: where names, digits and blanks end. No program. -/
import Derived.Lib.Strings
import Derived.Lib.TrimByte
import Derived.Test.YtpcijjdlppoblaaGreatDoorRows
import Derived.WalkKit
import Derived.WalkSpells
import Derived.StillTactics
import Derived.Laws.Pointers
import Derived.Laws.RangeAny
import Derived.Deep.RegionHeld3
import Derived.Deep.QuietTactic
import Derived.BigQuiet
import Derived.Below
import Derived.IntWalk
import Derived.Lib.Hide
import Derived.WalkSmall
import Derived.LoopN
import Derived.Handy
import Derived.WalkMore
namespace Go.Proofs.YtpcijjdlppoblaaGreatDoor.Sc
set_option linter.unusedVariables false

/-- Does a name begin with it; is it a digit; does a name, a comment go on with it; is it a blank? -/
def bgI (x : Int) : Bool := decide ((97 ≤ x ∧ x ≤ 122) ∨ (65 ≤ x ∧ x ≤ 90) ∨ x = 95)
def dgI (x : Int) : Bool := decide (48 ≤ x ∧ x ≤ 57)
def nmI (x : Int) : Bool := bgI x || dgI x
def cmI (x : Int) : Bool := decide (x ≠ 10 ∧ x ≠ 13)
def wsI (x : Int) : Bool := decide (x = 9 ∨ x = 10 ∨ x = 13 ∨ x = 32 ∨ x = 44)

/-- How many bytes at the front keep p. -/
def rn (p : Int → Bool) (l : List UInt8) : Nat := (l.takeWhile (fun c => p c.toNat)).length
theorem rn_nil (p : Int → Bool) : rn p [] = 0 := rfl
theorem rn_yes {p : Int → Bool} {c : UInt8} (t : List UInt8) (h : p c.toNat = true) : rn p (c :: t) = rn p t + 1 := by simp [rn, h]
theorem rn_no {p : Int → Bool} {c : UInt8} (t : List UInt8) (h : p c.toNat = false) : rn p (c :: t) = 0 := by simp [rn, h]
theorem rn_le (p : Int → Bool) (l : List UInt8) : rn p l ≤ l.length := (List.takeWhile_sublist _).length_le
theorem rn_lt {p : Int → Bool} {l : List UInt8} {n : Nat} (h : n < rn p l) : ∃ hl : n < l.length, p (l[n]).toNat = true := by
  induction l generalizing n with
  | nil => simp [rn] at h
  | cons a l ih =>
    cases ha : p a.toNat with
    | true =>
      rw [rn_yes l ha] at h
      cases n with
      | zero => exact ⟨by simp, ha⟩
      | succ n =>
        obtain ⟨h1, h2⟩ := ih (n := n) (by omega)
        exact ⟨by simp; omega, h2⟩
    | false => rw [rn_no l ha] at h; omega
theorem rn_stop {p : Int → Bool} {l : List UInt8} (hl : rn p l < l.length) : p (l[rn p l]'hl).toNat = false := by
  induction l with
  | nil => simp at hl
  | cons a l ih =>
    cases ha : p a.toNat with
    | true =>
      have e := rn_yes l ha
      simp only [e, List.length_cons] at hl ⊢
      exact ih (by omega)
    | false =>
      have e := rn_no l ha
      simp only [e]
      exact ha
theorem rn_drop {p : Int → Bool} {l : List UInt8} {k : Nat} (h : k ≤ rn p l) : rn p (l.drop k) = rn p l - k := by
  induction l generalizing k with
  | nil => simp [rn] at h ⊢
  | cons a l ih =>
    cases k with
    | zero => simp
    | succ k =>
      cases ha : p a.toNat with
      | true => rw [rn_yes l ha] at h ⊢; rw [List.drop_succ_cons, ih (by omega)]; omega
      | false => rw [rn_no l ha] at h; omega
theorem rn_end (p : Int → Bool) (l : List UInt8) : rn p (l.drop (rn p l)) = 0 := by rw [rn_drop (Nat.le_refl _)]; omega
theorem rn_full {p : Int → Bool} {a : List UInt8} (b : List UInt8) (h : rn p a = a.length) : rn p (a ++ b) = a.length + rn p b := by
  induction a with
  | nil => simp
  | cons c a ih =>
    cases hc : p c.toNat with
    | true => rw [rn_yes a hc] at h; rw [List.cons_append, rn_yes _ hc, ih (by simpa using h)]; simp; omega
    | false => rw [rn_no a hc] at h; simp at h
theorem rn_part {p : Int → Bool} {a : List UInt8} (b : List UInt8) (h : rn p a < a.length) : rn p (a ++ b) = rn p a := by
  induction a with
  | nil => simp at h
  | cons c a ih =>
    cases hc : p c.toNat with
    | true => rw [rn_yes a hc] at h ⊢; rw [List.cons_append, rn_yes _ hc, ih (by simpa using h)]
    | false => rw [rn_no a hc, List.cons_append, rn_no _ hc]
theorem rn_halt {p : Int → Bool} {c : UInt8} (a b : List UInt8) (h : p c.toNat = false) : rn p (a ++ c :: b) = rn p a := by
  rcases Nat.lt_or_ge (rn p a) a.length with k | k
  · exact rn_part _ k
  · have e : rn p a = a.length := Nat.le_antisymm (rn_le p a) k
    rw [rn_full _ e, rn_no _ h, e]; rfl
theorem rn_all {p : Int → Bool} {a : List UInt8} (h : ∀ c ∈ a, p c.toNat = true) : rn p a = a.length := by
  induction a with
  | nil => rfl
  | cons c a ih => rw [rn_yes a (h c (by simp)), ih (fun d hd => h d (by simp [hd]))]; rfl

/-- A name at the front. -/
def nmT : List UInt8 → Nat
  | [] => 0
  | c :: t => if bgI c.toNat = true then rn nmI (c :: t) else 0
theorem nmT_cons (c : UInt8) (t : List UInt8) : nmT (c :: t) = if bgI c.toNat = true then rn nmI (c :: t) else 0 := rfl
theorem nmT_le (l : List UInt8) : nmT l ≤ l.length := by
  cases l with
  | nil => simp [nmT]
  | cons c t => rw [nmT_cons]; split; exact rn_le _ _; simp

/-- One thing that counts for nothing at the front: how many bytes. -/
def mkL : List UInt8 := [239, 187, 191]
def st : List UInt8 → Nat
  | [] => 0
  | c :: t => if wsI c.toNat = true then 1 else if c = 35 then rn cmI (c :: t) else if mkL.isPrefixOf (c :: t) = true then 3 else 0
theorem st_cons (c : UInt8) (t : List UInt8) : st (c :: t) = if wsI c.toNat = true then 1 else if c = 35 then rn cmI (c :: t) else if mkL.isPrefixOf (c :: t) = true then 3 else 0 := rfl
theorem st_le (l : List UInt8) : st l ≤ l.length := by
  cases l with
  | nil => simp [st]
  | cons c t =>
    rw [st_cons]
    split
    · simp
    · split
      · exact rn_le _ _
      · split
        · rename_i h; have := (List.isPrefixOf_iff_prefix.1 h).length_le; exact this
        · simp
/-- All that counts for nothing at the front. -/
def blT (l : List UInt8) : Nat := if h : st l = 0 then 0 else st l + blT (l.drop (st l))
termination_by l.length
decreasing_by
  have := st_le l
  rw [List.length_drop]
  omega
theorem blT_stop {l : List UInt8} (h : st l = 0) : blT l = 0 := by rw [blT]; simp [h]
theorem blT_go {l : List UInt8} {n : Nat} (h : st l = n) (hn : n ≠ 0) : blT l = n + blT (l.drop n) := by
  subst h; rw [blT]; simp [hn]
theorem blT_nil : blT [] = 0 := blT_stop rfl
theorem blT_le (l : List UInt8) : blT l ≤ l.length := by
  rcases Nat.eq_zero_or_pos (st l) with h | h
  · rw [blT_stop h]; omega
  · have h1 := st_le l
    have hd : (l.drop (st l)).length = l.length - st l := by simp
    have h2 := blT_le (l.drop (st l))
    rw [blT_go rfl (by omega)]; omega
termination_by l.length
theorem blT_end (l : List UInt8) : st (l.drop (blT l)) = 0 := by
  rcases Nat.eq_zero_or_pos (st l) with h | h
  · rw [blT_stop h]; exact h
  · have h1 := st_le l
    have hd : (l.drop (st l)).length = l.length - st l := by simp
    have h2 := blT_end (l.drop (st l))
    rw [List.drop_drop] at h2
    rw [blT_go rfl (by omega)]; exact h2
termination_by l.length

/-- Where something ends that begins at place i. -/
def atE (f : List UInt8 → Nat) (l : List UInt8) (i : Int) : Int := if 0 ≤ i ∧ i ≤ l.length then i + f (l.drop i.toNat) else i
theorem atE_in {f : List UInt8 → Nat} {l : List UInt8} {k : Nat} (h : k ≤ l.length) : atE f l k = k + f (l.drop k) := by
  unfold atE; rw [if_pos (by omega)]; simp
theorem atE_out {f : List UInt8 → Nat} {l : List UInt8} {i : Int} (h : i < 0 ∨ (l.length : Int) < i) : atE f l i = i := by
  unfold atE; rw [if_neg (by omega)]
theorem atE_zero {f : List UInt8 → Nat} {l : List UInt8} : atE f l 0 = f l := by
  have := atE_in (f := f) (l := l) (k := 0) (by omega)
  simpa using this
end Go.Proofs.YtpcijjdlppoblaaGreatDoor.Sc

/- Contracts of package scan's functions: Begins, isDigit, inName, inComment, the closure, end. -/
namespace Go.Proofs.YtpcijjdlppoblaaGreatDoor.Sc
open Go.RowKit
set_option linter.unusedVariables false

theorem bel_trans {a b c : World} (h : Below a.heap.size a b) (k : Below b.heap.size b c) : Below a.heap.size a c := h.trans (k.mono h.size)
theorem bel_alloc {a b : World} (h : Below a.heap.size a b) (o : Obj) : Below a.heap.size a (b.alloc o) := h.alloc h.size o

set_option maxHeartbeats 400000 in
theorem begins_any (x : Int) (w : World) :
    Calls Tryz.prog 89 #[.int .u8 x] w fun e w' => e = .returned (.bool (bgI x)) ∧ w = w' := by
  by_cases h5 : x = 95
  · subst h5
    go_enter Tryz.func89, Tryz.ntmps89
    go_wp2
    go_ret
    exact ⟨rfl, rfl⟩
  have e5 : (x == 95) = false := by simp [h5]
  by_cases h1 : 97 ≤ x <;> by_cases h2 : x ≤ 122 <;> by_cases h3 : 65 ≤ x <;> by_cases h4 : x ≤ 90
  all_goals
    go_enter Tryz.func89, Tryz.ntmps89
    go_wp2
    go_ret
    exact ⟨by simp [bgI, h1, h2, h3, h4, h5], rfl⟩

set_option maxHeartbeats 400000 in
theorem digit_any (x : Int) (w : World) :
    Calls Tryz.prog 118 #[.int .u8 x] w fun e w' => e = .returned (.bool (dgI x)) ∧ w = w' := by
  by_cases h1 : 48 ≤ x <;> by_cases h2 : x ≤ 57
  all_goals
    go_enter Tryz.func118, Tryz.ntmps118
    go_wp2
    go_ret
    exact ⟨by simp [dgI, h1, h2], rfl⟩

set_option maxHeartbeats 400000 in
theorem inName_any (x : Int) (w : World) :
    Calls Tryz.prog 108 #[.int .u8 x] w fun e w' => e = .returned (.bool (nmI x)) ∧ w = w' := by
  have e : nmI x = (bgI x || dgI x) := rfl
  rw [e]; clear e
  have hb := begins_any x
  have hd := digit_any x
  generalize bgI x = p at hb ⊢
  generalize dgI x = q at hd ⊢
  cases p
  all_goals
    go_enter Tryz.func108, Tryz.ntmps108
    go_wp2_with (first | (go_at_call 89; refine (hb _).mono ?_; rintro e w' ⟨rfl, rfl⟩) | (go_at_call 118; refine (hd _).mono ?_; rintro e w' ⟨rfl, rfl⟩))
    go_ret
    exact ⟨rfl, rfl⟩

set_option maxHeartbeats 400000 in
theorem inComment_any (x : Int) (w : World) :
    Calls Tryz.prog 84 #[.int .u8 x] w fun e w' => e = .returned (.bool (cmI x)) ∧ w = w' := by
  by_cases h1 : x = 10
  · subst h1
    go_enter Tryz.func84, Tryz.ntmps84
    go_wp2
    go_ret
    exact ⟨rfl, rfl⟩
  by_cases h2 : x = 13
  · subst h2
    go_enter Tryz.func84, Tryz.ntmps84
    go_wp2
    go_ret
    exact ⟨rfl, rfl⟩
  have e1 : (x != 10) = true := by simp [h1]
  have e2 : (x != 13) = true := by simp [h2]
  have e : cmI x = true := by simp [cmI, h1, h2]
  rw [e]; clear e
  go_enter Tryz.func84, Tryz.ntmps84
  go_wp2
  go_ret
  exact ⟨rfl, rfl⟩

/-- Does the closure say yes? -/
def sd (p : Int → Bool) (l : List UInt8) (i : Int) : Bool := decide (0 ≤ i ∧ i < l.length) && p ((l.getD i.toNat 0).toNat : Int)

/-- A function value that tells p of a byte. -/
structure Tells (p : Int → Bool) (f : Nat) : Prop where
  goes : ∀ (args : Array Value) (w : World), (callFunc f args).run Tryz.prog w = .ok (.enter f args) w
  says : ∀ (x : Int) (w : World), Calls Tryz.prog f #[.int .u8 x] w fun e w' => e = .returned (.bool (p x)) ∧ w = w'
theorem begins_tells : Tells bgI 89 := ⟨fun args w => by simp [go_sem], begins_any⟩
theorem digit_tells : Tells dgI 118 := ⟨fun args w => by simp [go_sem], digit_any⟩
theorem inName_tells : Tells nmI 108 := ⟨fun args w => by simp [go_sem], inName_any⟩
theorem inComment_tells : Tells cmI 84 := ⟨fun args w => by simp [go_sem], inComment_any⟩

set_option maxHeartbeats 400000 in
theorem standing1_any (p : Int → Bool) (f : Nat) (hf : Tells p f) (s : ByteArray) (i : Int) (b1 b2 : Nat) (w : World)
    (c1 : w.cell? ⟨b1, 0, none⟩ = some (.string s)) (c2 : w.cell? ⟨b2, 0, none⟩ = some (.func (.func f) #[] #[])) :
    Calls Tryz.prog 105 #[.int .i64 i, .pointer (some ⟨b1, 0, none⟩), .pointer (some ⟨b2, 0, none⟩)] w fun e w' =>
      e = .returned (.bool (sd p s.data.toList i)) ∧ ∃ n, w' = w.drewN n := by
  have hsz : s.data.toList.length = s.size := (Lib.size_eq s).symm
  by_cases h0 : 0 ≤ i
  · obtain ⟨k, rfl⟩ := Int.eq_ofNat_of_zero_le h0
    by_cases h1 : k < s.size
    · have e : sd p s.data.toList k = p ((s[k]).toNat : Int) := by
        unfold sd
        rw [decide_eq_true (by omega), Bool.true_and, Int.toNat_natCast, List.getD_eq_getElem?_getD, List.getElem?_eq_getElem (by omega)]
        rfl
      rw [e]; clear e hsz
      have d0 : decide ((0 : Int) ≤ (k : Int)) = true := by simp
      have d1 : decide ((k : Int) < (s.size : Int)) = true := by simp [h1]
      have hx : ∀ w : World, Calls Tryz.prog f #[.int .u8 ((s[k]).toNat : Int)] w fun e w' => e = .returned (.bool (p ((s[k]).toNat : Int))) ∧ w' = w := fun w => (hf.says _ w).mono fun _ _ h => ⟨h.1, h.2.symm⟩
      generalize p ((s[k]).toNat : Int) = v at hx ⊢
      have hgo := hf.goes
      go_enter Tryz.func105, Tryz.ntmps105
      go_wp2_with fail
      go_quiet (exact Calls.quiet_of_same (hx _))
      go_wp2
      go_ret
      exact ⟨rfl, _, rfl⟩
    · have e : sd p s.data.toList k = false := by unfold sd; rw [decide_eq_false (by omega)]; rfl
      rw [e]; clear e hsz
      have d0 : decide ((0 : Int) ≤ (k : Int)) = true := by simp
      have d1 : decide ((k : Int) < (s.size : Int)) = false := by simp; omega
      go_enter Tryz.func105, Tryz.ntmps105
      go_wp2_with fail
      go_quiet (fail)
      go_wp2
      go_ret
      exact ⟨rfl, _, rfl⟩
  · have e : sd p s.data.toList i = false := by unfold sd; rw [decide_eq_false (by omega)]; rfl
    rw [e]; clear e hsz
    have d0 : decide ((0 : Int) ≤ i) = false := by simp; omega
    go_enter Tryz.func105, Tryz.ntmps105
    go_wp2_with fail
    go_quiet (fail)
    go_wp2
    go_ret
    exact ⟨rfl, _, rfl⟩
end Go.Proofs.YtpcijjdlppoblaaGreatDoor.Sc

/- Contracts of package scan's functions: standing, end, Name, Digits, HasPrefix, Blank. -/
namespace Go.Proofs.YtpcijjdlppoblaaGreatDoor.Sc
open Go.RowKit
set_option linter.unusedVariables false

theorem sd_go {p : Int → Bool} {l : List UInt8} {i j : Int} (h1 : i ≤ j) (h2 : j < atE (rn p) l i) : sd p l j = true ∧ 0 ≤ j ∧ j < l.length := by
  by_cases h : 0 ≤ i ∧ i ≤ l.length
  · obtain ⟨a, rfl⟩ := Int.eq_ofNat_of_zero_le h.1
    obtain ⟨k, rfl⟩ : ∃ k : Nat, j = ((a + k : Nat) : Int) := ⟨(j - a).toNat, by omega⟩
    rw [atE_in (by omega)] at h2
    obtain ⟨h3, h4⟩ := rn_lt (n := k) (p := p) (l := l.drop a) (by omega)
    rw [List.length_drop] at h3
    rw [List.getElem_drop] at h4
    refine ⟨?_, by omega, by omega⟩
    unfold sd
    rw [decide_eq_true (by omega), Bool.true_and, Int.toNat_natCast, List.getD_eq_getElem?_getD, List.getElem?_eq_getElem (by omega)]
    exact h4
  · rw [atE_out (by omega)] at h2; omega
theorem sd_stop (p : Int → Bool) (l : List UInt8) (i : Int) : sd p l (atE (rn p) l i) = false := by
  by_cases h : 0 ≤ i ∧ i ≤ l.length
  · obtain ⟨a, rfl⟩ := Int.eq_ofNat_of_zero_le h.1
    rw [atE_in (by omega)]
    unfold sd
    by_cases hl : a + rn p (l.drop a) < l.length
    · have h4 := rn_stop (p := p) (l := l.drop a) (by rw [List.length_drop]; omega)
      rw [List.getElem_drop] at h4
      rw [show ((a : Int) + (rn p (l.drop a) : Int)) = ((a + rn p (l.drop a) : Nat) : Int) by omega]
      rw [Int.toNat_natCast, List.getD_eq_getElem?_getD, List.getElem?_eq_getElem hl]
      rw [show ((some (l[a + rn p (l.drop a)])).getD 0) = l[a + rn p (l.drop a)] from rfl, h4, Bool.and_false]
    · rw [decide_eq_false (by omega), Bool.false_and]
  · rw [atE_out (by omega)]
    unfold sd
    rw [decide_eq_false (by omega), Bool.false_and]
theorem atE_ge (f : List UInt8 → Nat) (l : List UInt8) (i : Int) : i ≤ atE f l i := by unfold atE; split <;> omega

set_option maxHeartbeats 400000 in
theorem standing_any (s : ByteArray) (f : Nat) (w : World) :
    Calls Tryz.prog 83 #[.string s, .func (.func f) #[] #[]] w fun e w' => e = .returned (.func (.func 105) #[] #[.pointer (some ⟨w.heap.size, 0, none⟩), .pointer (some ⟨w.heap.size + 1, 0, none⟩)]) ∧
      w' = (w.alloc (.cells #[.string s] 9)).alloc (.cells #[.func (.func f) #[] #[]] 114) := by
  have hmf : ∀ (fn : Fn) (first cap : Array Value) (w : World), (Instr.makeFunc fn first cap).run Tryz.prog w = .ok (.func fn first cap) w := fun _ _ _ _ => rfl
  go_enter Tryz.func83, Tryz.ntmps83
  go_wp2
  go_ret
  exact ⟨rfl, rfl⟩

/-- The closure's two variables. -/
structure Sv (s : ByteArray) (f b1 b2 : Nat) (w : World) : Prop where
  c1 : w.cell? ⟨b1, 0, none⟩ = some (.string s)
  c2 : w.cell? ⟨b2, 0, none⟩ = some (.func (.func f) #[] #[])
theorem sv_start (s : ByteArray) (f : Nat) (w : World) : Sv s f w.heap.size (w.heap.size + 1) ((w.alloc (.cells #[.string s] 9)).alloc (.cells #[.func (.func f) #[] #[]] 114)) := by
  refine ⟨?_, ?_⟩ <;> simp [go_sem]
theorem Sv.draws {s : ByteArray} {f b1 b2 : Nat} {w : World} (h : Sv s f b1 b2 w) (n : Nat) : Sv s f b1 b2 (w.drewN n) := by
  obtain ⟨h1, h2⟩ := h
  refine ⟨?_, ?_⟩ <;> simp [go_sem, h1, h2]
/-- The closure as a value. -/
def clo (b1 b2 : Nat) : Value := .func (.func 105) #[] #[.pointer (some ⟨b1, 0, none⟩), .pointer (some ⟨b2, 0, none⟩)]

set_option maxHeartbeats 400000 in
theorem end_any {p : Int → Bool} {f : Nat} (hf : Tells p f) (s : ByteArray) (hs : s.size ≤ 9223372036854775807) (i : Int) (b1 b2 : Nat) (w : World) (hw : Sv s f b1 b2 w) :
    Calls Tryz.prog 85 #[.int .i64 i, .func (.func 105) #[] #[.pointer (some ⟨b1, 0, none⟩), .pointer (some ⟨b2, 0, none⟩)]] w fun e w' =>
      e = .returned (.int .i64 (atE (rn p) s.data.toList i)) ∧ ∃ n, w' = w.drewN n := by
  have hsz : s.data.toList.length = s.size := (Lib.size_eq s).symm
  have hgo := fun j => @sd_go p s.data.toList i j
  have hst := sd_stop p s.data.toList i
  have hge := atE_ge (rn p) s.data.toList i
  rw [hsz] at hgo
  generalize atE (rn p) s.data.toList i = N at hgo hst hge ⊢
  have HG := Lib.hid hgo
  have HS := Lib.hid hst
  have HW := Lib.hid hw
  have HF := Lib.hid hf
  clear hgo hst hsz hf hw
  go_enter Tryz.func85, Tryz.ntmps85
  go_wp2_with fail
  go_loopw [0] (fun v wr => ∃ j : Int, i ≤ j ∧ j ≤ N ∧ v = .int .i64 j ∧ ∃ n, wr = w.drewN n) (fun v _ => (N - intOf v).toNat)
  case atStart => exact ⟨i, Int.le_refl _, hge, rfl, 0, rfl⟩
  case round =>
    obtain ⟨j, h1, h2, rfl, n, rfl⟩ := hrel
    by_cases hlt : j < N
    · obtain ⟨e1, e2, e3⟩ := HG.out j h1 hlt
      have E1 := Lib.hid e1
      clear e1
      go_wp2_with fail
      (with_reducible refine (standing1_any p f HF.out s j b1 b2 _ (HW.out.draws n).c1 (HW.out.draws n).c2).mono ?_)
      rintro e w1 ⟨rfl, m, rfl⟩
      rw [E1.out]
      go_wp2_with fail
      go_roundw
      case rel => exact ⟨j + 1, by omega, by omega, rfl, _, rfl⟩
      case measure => simp [intOf]; omega
    · obtain rfl : j = N := by omega
      go_wp2_with fail
      (with_reducible refine (standing1_any p f HF.out s j b1 b2 _ (HW.out.draws n).c1 (HW.out.draws n).c2).mono ?_)
      rintro e w1 ⟨rfl, m, rfl⟩
      rw [HS.out]
      go_wp2_with fail
      go_ret
      exact ⟨rfl, _, rfl⟩

theorem bel_new {w : World} {o1 o2 : Obj} {n : Nat} : Below w.heap.size w (((w.alloc o1).alloc o2).drewN n) := below_drewN (bel_alloc (bel_alloc (Below.refl _ _) _) _) _

set_option maxHeartbeats 400000 in
theorem digits_any (s : ByteArray) (i : Int) (w : World) (hs : s.size ≤ 9223372036854775807) :
    Calls Tryz.prog 122 #[.string s, .int .i64 i] w fun e w' => e = .returned (.int .i64 (atE (rn dgI) s.data.toList i)) ∧ Below w.heap.size w w' := by
  go_enter Tryz.func122, Tryz.ntmps122
  go_wp2_with fail
  (with_reducible refine (standing_any s 118 _).mono ?_)
  rintro e w1 ⟨rfl, rfl⟩
  go_wp2_with fail
  (with_reducible refine (end_any digit_tells s hs i _ _ _ (sv_start s _ w)).mono ?_)
  rintro e w1 ⟨rfl, n, rfl⟩
  go_wp2_with fail
  go_ret
  exact ⟨rfl, bel_new⟩

theorem nmT_at {l : List UInt8} {i : Int} : atE nmT l i = if sd bgI l i = true then atE (rn nmI) l i else i := by
  by_cases h : 0 ≤ i ∧ i ≤ l.length
  · obtain ⟨a, rfl⟩ := Int.eq_ofNat_of_zero_le h.1
    rw [atE_in (by omega), atE_in (by omega)]
    unfold sd
    by_cases ha : a < l.length
    · rw [List.drop_eq_getElem_cons ha, nmT_cons, decide_eq_true (by omega), Bool.true_and, Int.toNat_natCast, List.getD_eq_getElem?_getD, List.getElem?_eq_getElem ha]
      rw [show ((some (l[a])).getD 0) = l[a] from rfl]
      split <;> simp
    · rw [List.drop_eq_nil_of_le (by omega), decide_eq_false (by omega)]
      simp [nmT]
  · rw [atE_out (by omega), atE_out (by omega)]
    split <;> rfl

set_option maxHeartbeats 400000 in
theorem name_any (s : ByteArray) (i : Int) (w : World) (hs : s.size ≤ 9223372036854775807) :
    Calls Tryz.prog 90 #[.string s, .int .i64 i] w fun e w' => e = .returned (.int .i64 (atE nmT s.data.toList i)) ∧ Below w.heap.size w w' := by
  rw [nmT_at]
  cases hb : sd bgI s.data.toList i
  · rw [if_neg (by decide)]
    have HB := Lib.hid hb
    clear hb
    go_enter Tryz.func90, Tryz.ntmps90
    go_wp2_with fail
    (with_reducible refine (standing_any s 89 _).mono ?_)
    rintro e w1 ⟨rfl, rfl⟩
    go_wp2_with fail
    (with_reducible refine (standing1_any _ _ begins_tells s i _ _ _ (sv_start s _ w).c1 (sv_start s _ w).c2).mono ?_)
    rintro e w1 ⟨rfl, n, rfl⟩
    rw [HB.out]
    go_wp2_with fail
    go_ret
    exact ⟨rfl, bel_new⟩
  · rw [if_pos rfl]
    have HB := Lib.hid hb
    clear hb
    go_enter Tryz.func90, Tryz.ntmps90
    go_wp2_with fail
    (with_reducible refine (standing_any s 89 _).mono ?_)
    rintro e w1 ⟨rfl, rfl⟩
    go_wp2_with fail
    (with_reducible refine (standing1_any _ _ begins_tells s i _ _ _ (sv_start s _ w).c1 (sv_start s _ w).c2).mono ?_)
    rintro e w1 ⟨rfl, n, hw1⟩
    have hbel : Below w.heap.size w w1 := by rw [hw1]; exact bel_new
    clear hw1
    rw [HB.out]
    go_wp2_with fail
    (with_reducible refine (standing_any s 108 _).mono ?_)
    rintro e w2 ⟨rfl, rfl⟩
    go_wp2_with fail
    (with_reducible refine (end_any inName_tells s hs i _ _ _ (sv_start s _ w1)).mono ?_)
    rintro e w2 ⟨rfl, m, rfl⟩
    go_wp2_with fail
    go_ret
    exact ⟨rfl, bel_trans hbel bel_new⟩

set_option maxHeartbeats 400000 in
theorem hp0_any (s p : ByteArray) (w : World) :
    Calls Tryz.prog 106 #[.string s, .string p] w fun e w' => e = .returned (.bool (Lib.hasPrefix s.data.toList p.data.toList)) ∧ w = w' := by
  rw [← Lib.hasPrefix_of_take, ← Lib.size_eq, ← Lib.size_eq]
  go_enter Tryz.func106, Tryz.ntmps106
  go_wp2
  · rename_i h
    go_ret
    refine ⟨?_, rfl⟩
    show Ending.returned (Value.bool ((s.extract 0 p.size).toList == p.toList)) = _
    rw [Lib.extract_toList, Lib.toList_data]
    simp [h]
  · rename_i h
    go_ret
    refine ⟨?_, rfl⟩
    show Ending.returned (Value.bool false) = _
    simp [h]
set_option maxHeartbeats 400000 in
theorem hp_any (s p : ByteArray) (w : World) :
    Calls Tryz.prog 86 #[.string s, .string p] w fun e w' => e = .returned (.bool (Lib.hasPrefix s.data.toList p.data.toList)) ∧ w = w' := by
  go_enter Tryz.func86, Tryz.ntmps86
  go_wp2_with (go_at_call 106; refine (hp0_any _ _ _).mono ?_; rintro e w' ⟨rfl, rfl⟩)
  go_ret
  exact ⟨rfl, rfl⟩
end Go.Proofs.YtpcijjdlppoblaaGreatDoor.Sc

/- Contract of package scan's Blank. -/
namespace Go.Proofs.YtpcijjdlppoblaaGreatDoor.Sc
open Go.RowKit
set_option linter.unusedVariables false

theorem st_ws {l : List UInt8} {k : Nat} (hk : k < l.length) (h : wsI (l[k]).toNat = true) : st (l.drop k) = 1 := by
  rw [List.drop_eq_getElem_cons hk, st_cons, if_pos h]
theorem st_cm {l : List UInt8} {k : Nat} (hk : k < l.length) (h : ((l[k]).toNat : Int) = 35) : st (l.drop k) = rn cmI (l.drop k) ∧ 0 < rn cmI (l.drop k) := by
  have h2 : l[k] = 35 := UInt8.toNat_inj.1 (by rw [show (35 : UInt8).toNat = 35 from rfl]; omega)
  rw [List.drop_eq_getElem_cons hk, st_cons, if_neg (by rw [h]; decide), if_pos h2]
  refine ⟨rfl, ?_⟩
  rw [rn_yes _ (by rw [h]; decide)]; omega
theorem st_else {l : List UInt8} {k : Nat} (hk : k < l.length) (h1 : wsI (l[k]).toNat = false) (h2 : ¬ ((l[k]).toNat : Int) = 35) : st (l.drop k) = if mkL.isPrefixOf (l.drop k) = true then 3 else 0 := by
  have h3 : ¬ l[k] = 35 := fun e => h2 (by rw [e]; rfl)
  rw [List.drop_eq_getElem_cons hk, st_cons, if_neg (by rw [h1]; decide), if_neg h3]
theorem hp_mk (s : ByteArray) (k : Nat) : Lib.hasPrefix (s.extract k s.size).data.toList [239, 187, 191] = mkL.isPrefixOf (s.data.toList.drop k) := by
  rw [← Lib.toList_data, Lib.extract_toList, List.take_of_length_le (by rw [List.length_drop, ← Lib.size_eq]; omega)]
  rfl

set_option maxHeartbeats 1000000 in
theorem blank_any (s : ByteArray) (i : Int) (w : World) (hs : s.size ≤ 9223372036854775807) :
    Calls Tryz.prog 59 #[.string s, .int .i64 i] w fun e w' => e = .returned (.int .i64 (atE blT s.data.toList i)) ∧ Below w.heap.size w w' := by
  have hsz : s.data.toList.length = s.size := (Lib.size_eq s).symm
  by_cases h0 : i < 0
  · rw [atE_out (.inl h0)]
    clear hsz
    go_enter Tryz.func59, Tryz.ntmps59
    go_wp2_with fail
    go_step3
    go_wp2_with fail
    rw [Exit.noGoto_ret]
    go_ret
    exact ⟨rfl, Below.refl _ _⟩
  obtain ⟨a, rfl⟩ := Int.eq_ofNat_of_zero_le (a := i) (by omega)
  by_cases h1 : s.size < a
  · rw [atE_out (.inr (by omega))]
    clear hsz
    go_enter Tryz.func59, Tryz.ntmps59
    go_wp2_with fail
    go_step3
    go_wp2_with fail
    (with_reducible refine (standing_any s 84 _).mono ?_)
    rintro e w1 ⟨rfl, rfl⟩
    go_wp2_with fail
    go_step3
    go_wp2_with fail
    go_loopw [1] (fun v wr => v = .int .i64 (a : Int) ∧ wr = (w.alloc (.cells #[.string s] 9)).alloc (.cells #[.func (.func 84) #[] #[]] 114)) (fun _ _ => 0)
    case atStart => exact ⟨rfl, rfl⟩
    case round =>
      obtain ⟨rfl, rfl⟩ := hrel
      go_wp2_with fail
      rw [Exit.noGoto_ret]
      go_ret
      exact ⟨rfl, bel_alloc (bel_alloc (Below.refl _ _) _) _⟩
  have ha : a ≤ s.size := by omega
  rw [atE_in (by omega)]
  obtain ⟨N, hN⟩ : ∃ N : Nat, N = a + blT (s.data.toList.drop a) := ⟨_, rfl⟩
  rw [show ((a : Int) + (blT (s.data.toList.drop a) : Int)) = (N : Int) by omega]
  have HN := Lib.hid hN
  clear hN
  have HSZ := Lib.hid hsz
  clear hsz
  go_enter Tryz.func59, Tryz.ntmps59
  go_wp2_with fail
  go_step3
  go_wp2_with fail
  (with_reducible refine (standing_any s 84 _).mono ?_)
  rintro e w1 ⟨rfl, hw1⟩
  have hbel : Below w.heap.size w w1 := by rw [hw1]; exact bel_alloc (bel_alloc (Below.refl _ _) _) _
  have hsv : Sv s 84 w.heap.size (w.heap.size + 1) w1 := by rw [hw1]; exact sv_start s _ w
  have HV := Lib.hid hsv
  clear hw1 hsv
  go_wp2_with fail
  go_step3
  go_wp2_with fail
  go_loopw [1] (fun v wr => ∃ k : Nat, k ≤ s.size ∧ Hid (k + blT (s.data.toList.drop k) = N) ∧ v = .int .i64 (k : Int) ∧ ∃ n, wr = w1.drewN n) (fun v _ => s.size - (intOf v).toNat)
  case atStart => exact ⟨a, ha, Lib.hid HN.out.symm, rfl, 0, rfl⟩
  case round =>
    obtain ⟨k, hk, HI, rfl, n, rfl⟩ := hrel
    by_cases hlt : k < s.size
    · have hkl : k < s.data.toList.length := by rw [HSZ.out]; exact hlt
      have hx : s[k]'hlt = (s.data.toList)[k] := rfl
      by_cases hw : wsI (s[k]'hlt).toNat = true
      · have hst := st_ws hkl hw
        have hnx := blT_go hst (by omega)
        rw [List.drop_drop] at hnx
        have hI2 : (k + 1) + blT (s.data.toList.drop (k + 1)) = N := by have := HI.out; omega
        have HI2 := Lib.hid hI2
        clear hst hnx hI2 hx HI hkl
        have hc : ((s[k]'hlt).toNat : Int) = 9 ∨ ((s[k]'hlt).toNat : Int) = 10 ∨ ((s[k]'hlt).toNat : Int) = 13 ∨ ((s[k]'hlt).toNat : Int) = 32 ∨ ((s[k]'hlt).toNat : Int) = 44 := by simpa [wsI] using hw
        clear hw
        rcases hc with hc | hc | hc | hc | hc
        all_goals
          go_wp2_with fail
          go_roundw
          case rel => exact ⟨k + 1, by omega, HI2, by go_num, _, rfl⟩
          case measure => simp [intOf]; omega
      · have hw2 : wsI (s[k]'hlt).toNat = false := by simpa using hw
        have q : ¬ ((s[k]'hlt).toNat : Int) = 9 ∧ ¬ ((s[k]'hlt).toNat : Int) = 10 ∧ ¬ ((s[k]'hlt).toNat : Int) = 13 ∧ ¬ ((s[k]'hlt).toNat : Int) = 32 ∧ ¬ ((s[k]'hlt).toNat : Int) = 44 := by simpa [wsI] using hw
        obtain ⟨q1, q2, q3, q4, q5⟩ := q
        have b1 := beq_false_of_ne q1
        have b2 := beq_false_of_ne q2
        have b3 := beq_false_of_ne q3
        have b4 := beq_false_of_ne q4
        have b5 := beq_false_of_ne q5
        clear hw q1 q2 q3 q4 q5
        by_cases h35 : ((s[k]'hlt).toNat : Int) = 35
        · obtain ⟨hst, hpos⟩ := st_cm hkl h35
          have hnx := blT_go hst (by omega)
          rw [List.drop_drop] at hnx
          have hle := rn_le cmI (s.data.toList.drop k)
          rw [List.length_drop, HSZ.out] at hle
          have he := atE_in (f := rn cmI) (l := s.data.toList) (k := k) (by omega)
          have hI := HI.out
          generalize rn cmI (s.data.toList.drop k) = m at *
          have HI2 := Lib.hid (show (k + m) + blT (s.data.toList.drop (k + m)) = N by omega)
          have HE := Lib.hid he
          clear hst hnx hI he hx hkl hw2 HI
          go_wp2_with fail
          (with_reducible refine (end_any inComment_tells s hs k _ _ _ (HV.out.draws n)).mono ?_)
          rintro e w2 ⟨rfl, r, rfl⟩
          rw [HE.out]
          go_wp2_with fail
          go_roundw
          case rel => exact ⟨k + m, by omega, HI2, by go_num, _, rfl⟩
          case measure => simp [intOf]; omega
        · have b6 := beq_false_of_ne h35
          have hst := st_else hkl hw2 h35
          have hp := hp_mk s k
          have HP := Lib.hid hp
          clear h35 hw2 hx hp
          cases hm : mkL.isPrefixOf (s.data.toList.drop k)
          · rw [hm, if_neg (by decide)] at hst
            have hI := HI.out
            rw [blT_stop hst] at hI
            have HM := Lib.hid hm
            obtain rfl : k = N := by omega
            clear hst hm hI HI hkl
            go_wp2_with fail
            (with_reducible refine (hp_any _ _ _).mono ?_)
            rintro e w2 ⟨rfl, rfl⟩
            rw [HP.out, HM.out]
            go_wp2_with fail
            rw [Exit.noGoto_ret]
            go_ret
            exact ⟨rfl, below_drewN hbel _⟩
          · rw [hm, if_pos rfl] at hst
            have hnx := blT_go hst (by omega)
            rw [List.drop_drop] at hnx
            have hle : 3 ≤ s.size - k := by have := st_le (s.data.toList.drop k); rw [List.length_drop, HSZ.out] at this; omega
            have hI := HI.out
            have HI2 := Lib.hid (show (k + 3) + blT (s.data.toList.drop (k + 3)) = N by omega)
            have HM := Lib.hid hm
            clear hst hnx hI hm HI hkl
            go_wp2_with fail
            (with_reducible refine (hp_any _ _ _).mono ?_)
            rintro e w2 ⟨rfl, rfl⟩
            rw [HP.out, HM.out]
            go_wp2_with fail
            go_roundw
            case rel => exact ⟨k + 3, by omega, HI2, by go_num, _, rfl⟩
            case measure => simp [intOf]; omega
    · have hI := HI.out
      rw [List.drop_eq_nil_of_le (by rw [HSZ.out]; omega), blT_nil] at hI
      obtain rfl : k = N := by omega
      clear hI HI
      go_wp2_with fail
      rw [Exit.noGoto_ret]
      go_ret
      exact ⟨rfl, below_drewN hbel _⟩
end Go.Proofs.YtpcijjdlppoblaaGreatDoor.Sc
