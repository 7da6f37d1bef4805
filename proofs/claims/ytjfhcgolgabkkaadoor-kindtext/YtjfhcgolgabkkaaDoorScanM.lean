/- Plain mathematics of layer 4: where names, digits and blanks end. No program. -/
import Derived.Lib.Strings
import Derived.Lib.TrimByte
namespace Go.Proofs.YtjfhcgolgabkkaaDoor.Sc
set_option linter.unusedVariables false

/-- Does a name begin with it; is it a digit; does a name, a comment go on with it; is it a blank? -/
def bgI (x : Int) : Bool := decide ((97 ≤ x ∧ x ≤ 122) ∨ (65 ≤ x ∧ x ≤ 90) ∨ x = 95)
def dgI (x : Int) : Bool := decide (48 ≤ x ∧ x ≤ 57)
def nmI (x : Int) : Bool := bgI x || dgI x
def cmI (x : Int) : Bool := decide (x ≠ 10 ∧ x ≠ 13)
def wsI (x : Int) : Bool := decide (x = 9 ∨ x = 10 ∨ x = 13 ∨ x = 32 ∨ x = 44)

/-- How many bytes at the front keep p. -/
def rn (p : Int → Bool) (l : List UInt8) : Nat := (l.takeWhile (fun c => p c.toNat)).length
theorem rn_nil (p : Int → Bool) : rn p [] = 0 := rfl
theorem rn_yes {p : Int → Bool} {c : UInt8} (t : List UInt8) (h : p c.toNat = true) : rn p (c :: t) = rn p t + 1 := by simp [rn, h]
theorem rn_no {p : Int → Bool} {c : UInt8} (t : List UInt8) (h : p c.toNat = false) : rn p (c :: t) = 0 := by simp [rn, h]
theorem rn_le (p : Int → Bool) (l : List UInt8) : rn p l ≤ l.length := (List.takeWhile_sublist _).length_le
theorem rn_lt {p : Int → Bool} {l : List UInt8} {n : Nat} (h : n < rn p l) : ∃ hl : n < l.length, p (l[n]).toNat = true := by
  induction l generalizing n with
  | nil => simp [rn] at h
  | cons a l ih =>
    cases ha : p a.toNat with
    | true =>
      rw [rn_yes l ha] at h
      cases n with
      | zero => exact ⟨by simp, ha⟩
      | succ n =>
        obtain ⟨h1, h2⟩ := ih (n := n) (by omega)
        exact ⟨by simp; omega, h2⟩
    | false => rw [rn_no l ha] at h; omega
theorem rn_stop {p : Int → Bool} {l : List UInt8} (hl : rn p l < l.length) : p (l[rn p l]'hl).toNat = false := by
  induction l with
  | nil => simp at hl
  | cons a l ih =>
    cases ha : p a.toNat with
    | true =>
      have e := rn_yes l ha
      simp only [e, List.length_cons] at hl ⊢
      exact ih (by omega)
    | false =>
      have e := rn_no l ha
      simp only [e]
      exact ha
theorem rn_drop {p : Int → Bool} {l : List UInt8} {k : Nat} (h : k ≤ rn p l) : rn p (l.drop k) = rn p l - k := by
  induction l generalizing k with
  | nil => simp [rn] at h ⊢
  | cons a l ih =>
    cases k with
    | zero => simp
    | succ k =>
      cases ha : p a.toNat with
      | true => rw [rn_yes l ha] at h ⊢; rw [List.drop_succ_cons, ih (by omega)]; omega
      | false => rw [rn_no l ha] at h; omega
theorem rn_end (p : Int → Bool) (l : List UInt8) : rn p (l.drop (rn p l)) = 0 := by rw [rn_drop (Nat.le_refl _)]; omega
theorem rn_full {p : Int → Bool} {a : List UInt8} (b : List UInt8) (h : rn p a = a.length) : rn p (a ++ b) = a.length + rn p b := by
  induction a with
  | nil => simp
  | cons c a ih =>
    cases hc : p c.toNat with
    | true => rw [rn_yes a hc] at h; rw [List.cons_append, rn_yes _ hc, ih (by simpa using h)]; simp; omega
    | false => rw [rn_no a hc] at h; simp at h
theorem rn_part {p : Int → Bool} {a : List UInt8} (b : List UInt8) (h : rn p a < a.length) : rn p (a ++ b) = rn p a := by
  induction a with
  | nil => simp at h
  | cons c a ih =>
    cases hc : p c.toNat with
    | true => rw [rn_yes a hc] at h ⊢; rw [List.cons_append, rn_yes _ hc, ih (by simpa using h)]
    | false => rw [rn_no a hc, List.cons_append, rn_no _ hc]
theorem rn_halt {p : Int → Bool} {c : UInt8} (a b : List UInt8) (h : p c.toNat = false) : rn p (a ++ c :: b) = rn p a := by
  rcases Nat.lt_or_ge (rn p a) a.length with k | k
  · exact rn_part _ k
  · have e : rn p a = a.length := Nat.le_antisymm (rn_le p a) k
    rw [rn_full _ e, rn_no _ h, e]; rfl
theorem rn_all {p : Int → Bool} {a : List UInt8} (h : ∀ c ∈ a, p c.toNat = true) : rn p a = a.length := by
  induction a with
  | nil => rfl
  | cons c a ih => rw [rn_yes a (h c (by simp)), ih (fun d hd => h d (by simp [hd]))]; rfl

/-- A name at the front. -/
def nmT : List UInt8 → Nat
  | [] => 0
  | c :: t => if bgI c.toNat = true then rn nmI (c :: t) else 0
theorem nmT_cons (c : UInt8) (t : List UInt8) : nmT (c :: t) = if bgI c.toNat = true then rn nmI (c :: t) else 0 := rfl
theorem nmT_le (l : List UInt8) : nmT l ≤ l.length := by
  cases l with
  | nil => simp [nmT]
  | cons c t => rw [nmT_cons]; split; exact rn_le _ _; simp

/-- One thing that counts for nothing at the front: how many bytes. -/
def mkL : List UInt8 := [239, 187, 191]
def st : List UInt8 → Nat
  | [] => 0
  | c :: t => if wsI c.toNat = true then 1 else if c = 35 then rn cmI (c :: t) else if mkL.isPrefixOf (c :: t) = true then 3 else 0
theorem st_cons (c : UInt8) (t : List UInt8) : st (c :: t) = if wsI c.toNat = true then 1 else if c = 35 then rn cmI (c :: t) else if mkL.isPrefixOf (c :: t) = true then 3 else 0 := rfl
theorem st_le (l : List UInt8) : st l ≤ l.length := by
  cases l with
  | nil => simp [st]
  | cons c t =>
    rw [st_cons]
    split
    · simp
    · split
      · exact rn_le _ _
      · split
        · rename_i h; have := (List.isPrefixOf_iff_prefix.1 h).length_le; exact this
        · simp
/-- All that counts for nothing at the front. -/
def blT (l : List UInt8) : Nat := if h : st l = 0 then 0 else st l + blT (l.drop (st l))
termination_by l.length
decreasing_by
  have := st_le l
  rw [List.length_drop]
  omega
theorem blT_stop {l : List UInt8} (h : st l = 0) : blT l = 0 := by rw [blT]; simp [h]
theorem blT_go {l : List UInt8} {n : Nat} (h : st l = n) (hn : n ≠ 0) : blT l = n + blT (l.drop n) := by
  subst h; rw [blT]; simp [hn]
theorem blT_nil : blT [] = 0 := blT_stop rfl
theorem blT_le (l : List UInt8) : blT l ≤ l.length := by
  rcases Nat.eq_zero_or_pos (st l) with h | h
  · rw [blT_stop h]; omega
  · have h1 := st_le l
    have hd : (l.drop (st l)).length = l.length - st l := by simp
    have h2 := blT_le (l.drop (st l))
    rw [blT_go rfl (by omega)]; omega
termination_by l.length
theorem blT_end (l : List UInt8) : st (l.drop (blT l)) = 0 := by
  rcases Nat.eq_zero_or_pos (st l) with h | h
  · rw [blT_stop h]; exact h
  · have h1 := st_le l
    have hd : (l.drop (st l)).length = l.length - st l := by simp
    have h2 := blT_end (l.drop (st l))
    rw [List.drop_drop] at h2
    rw [blT_go rfl (by omega)]; exact h2
termination_by l.length

/-- Where something ends that begins at place i. -/
def atE (f : List UInt8 → Nat) (l : List UInt8) (i : Int) : Int := if 0 ≤ i ∧ i ≤ l.length then i + f (l.drop i.toNat) else i
theorem atE_in {f : List UInt8 → Nat} {l : List UInt8} {k : Nat} (h : k ≤ l.length) : atE f l k = k + f (l.drop k) := by
  unfold atE; rw [if_pos (by omega)]; simp
theorem atE_out {f : List UInt8 → Nat} {l : List UInt8} {i : Int} (h : i < 0 ∨ (l.length : Int) < i) : atE f l i = i := by
  unfold atE; rw [if_neg (by omega)]
theorem atE_zero {f : List UInt8 → Nat} {l : List UInt8} : atE f l 0 = f l := by
  have := atE_in (f := f) (l := l) (k := 0) (by omega)
  simpa using this
end Go.Proofs.YtjfhcgolgabkkaaDoor.Sc
