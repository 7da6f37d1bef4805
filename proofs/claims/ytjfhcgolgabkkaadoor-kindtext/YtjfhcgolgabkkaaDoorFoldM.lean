/- Plain mathematics of layer 7: raw texts, lines, indents, folding. No program. -/
import Derived.Test.YtjfhcgolgabkkaaDoorUtfM
import Derived.Lib.Join
namespace Go.Proofs.YtjfhcgolgabkkaaDoor.Fo
set_option linter.unusedVariables false

/-! ### Raw texts -/
/-- Does p stand at place i of l? -/
def stB (l : List UInt8) (i : Int) (p : List UInt8) : Bool := decide (0 ≤ i ∧ i ≤ l.length) && p.isPrefixOf (l.drop i.toNat)
theorem stB_at {l : List UInt8} {k : Nat} (h : k ≤ l.length) (p : List UInt8) : stB l k p = p.isPrefixOf (l.drop k) := by
  unfold stB; rw [decide_eq_true (by omega), Bool.true_and]; rfl
theorem stB_out {l : List UInt8} {i : Int} (h : i < 0 ∨ (l.length : Int) < i) (p : List UInt8) : stB l i p = false := by
  unfold stB; rw [decide_eq_false (by omega), Bool.false_and]
theorem pre_take {p l : List UInt8} : p.isPrefixOf l = true ↔ l.take p.length = p := by
  rw [List.isPrefixOf_iff_prefix, List.prefix_iff_eq_take]; exact eq_comm
theorem pre_len {p l : List UInt8} (h : p.isPrefixOf l = true) : p.length ≤ l.length := (List.isPrefixOf_iff_prefix.1 h).length_le
theorem pre_cut {p l x : List UInt8} {n : Nat} (hp : p.length ≤ n) (hn : n ≤ l.length) : p.isPrefixOf (l.take n ++ x) = p.isPrefixOf l := by
  rw [Bool.eq_iff_iff, pre_take, pre_take, List.take_append_of_le_length (by rw [List.length_take]; omega), List.take_take, Nat.min_eq_left hp]
theorem stB_in {l : List UInt8} {i : Int} {p : List UInt8} (h : stB l i p = true) : 0 ≤ i ∧ i + p.length ≤ l.length := by
  unfold stB at h
  rw [Bool.and_eq_true, decide_eq_true_iff] at h
  have := pre_len h.2
  simp at this; omega

def q3 : List UInt8 := [34, 34, 34]
def b3 : List UInt8 := [92, 34, 34, 34]
theorem q3_len : q3.length = 3 := rfl
theorem b3_len : b3.length = 4 := rfl

/-- What stands next, that is no three quotes. -/
def pcR (l : List UInt8) : Option (List UInt8 × Nat) :=
  if b3.isPrefixOf l = true then some (q3, 4) else if (nxt l).2 = 0 then none else some (l.take (nxt l).2, (nxt l).2)
theorem pcR_b {l : List UInt8} (h : b3.isPrefixOf l = true) : pcR l = some (q3, 4) := by unfold pcR; rw [if_pos h]
theorem pcR_n {l : List UInt8} (h : b3.isPrefixOf l = false) (h0 : (nxt l).2 = 0) : pcR l = none := by unfold pcR; rw [if_neg (by simp [h]), if_pos h0]
theorem pcR_c {l : List UInt8} (h : b3.isPrefixOf l = false) (h0 : (nxt l).2 ≠ 0) : pcR l = some (l.take (nxt l).2, (nxt l).2) := by unfold pcR; rw [if_neg (by simp [h]), if_neg h0]
theorem pcR_bd {l t : List UInt8} {k : Nat} (h : pcR l = some (t, k)) : 1 ≤ k ∧ k ≤ l.length ∧ t.length ≤ k := by
  unfold pcR at h
  split at h
  · rename_i hb; cases h; have := pre_len hb; rw [b3_len] at this; exact ⟨by omega, this, by simp [q3]⟩
  · split at h
    · cases h
    · rename_i h0; cases h; have := nxt_le l; exact ⟨by omega, this.1, by simp; omega⟩

/-- A raw text, how many bytes it takes, and whether there is one. -/
structure Rw where
  v : List UInt8
  n : Nat
  b : Bool

/-- t and k bytes ahead of r. -/
def cmb (t : List UInt8) (k : Nat) (r : Rw) : Rw := ⟨if r.b = true then t ++ r.v else [], k + r.n, r.b⟩
theorem cmb_cmb (t u : List UInt8) (k m : Nat) (r : Rw) : cmb t k (cmb u m r) = cmb (t ++ u) (k + m) r := by
  unfold cmb; cases r.b <;> simp [Nat.add_assoc]

def rwF : Nat → List UInt8 → Rw
  | 0, _ => ⟨[], 0, false⟩
  | f + 1, l =>
    if q3.isPrefixOf l = true then ⟨[], 3, true⟩
    else match pcR l with
      | none => ⟨[], 0, false⟩
      | some (t, k) => cmb t k (rwF f (l.drop k))
/-- What is told behind the first three quotes. -/
def rwB (l : List UInt8) : Rw := rwF (l.length + 1) l
theorem rwF_more {f g : Nat} {l : List UInt8} (hf : l.length < f) (hg : l.length < g) : rwF f l = rwF g l := by
  induction f generalizing g l with
  | zero => omega
  | succ f ih =>
    cases g with
    | zero => omega
    | succ g =>
      unfold rwF
      split
      · rfl
      · cases hp : pcR l with
        | none => rfl
        | some q =>
          obtain ⟨t, k⟩ := q
          have := pcR_bd hp
          simp only
          rw [ih (g := g) (l := l.drop k) (by simp; omega) (by simp; omega)]
theorem rwB_q {l : List UInt8} (h : q3.isPrefixOf l = true) : rwB l = ⟨[], 3, true⟩ := by unfold rwB rwF; rw [if_pos h]
theorem rwB_n {l : List UInt8} (h : q3.isPrefixOf l = false) (hp : pcR l = none) : rwB l = ⟨[], 0, false⟩ := by unfold rwB rwF; rw [if_neg (by simp [h]), hp]
theorem rwB_s {l t : List UInt8} {k : Nat} (h : q3.isPrefixOf l = false) (hp : pcR l = some (t, k)) : rwB l = cmb t k (rwB (l.drop k)) := by
  have hb := pcR_bd hp
  have e : rwF l.length (l.drop k) = rwB (l.drop k) := rwF_more (by simp; omega) (by simp)
  conv => lhs; unfold rwB rwF
  rw [if_neg (by simp [h]), hp]
  simp only [e]

theorem rwB_bd (l : List UInt8) : (rwB l).n ≤ l.length ∧ ((rwB l).b = true → 3 ≤ (rwB l).n) ∧ (rwB l).v.length ≤ (rwB l).n ∧ ((rwB l).b = false → (rwB l).v = []) := by
  induction hn : l.length using Nat.strongRecOn generalizing l with
  | _ m ih =>
    subst hn
    cases h : q3.isPrefixOf l
    · cases hp : pcR l with
      | none => rw [rwB_n h hp]; simp
      | some r =>
        obtain ⟨t, k⟩ := r
        have hb := pcR_bd hp
        have := ih (l.drop k).length (by simp; omega) _ rfl
        rw [rwB_s h hp]
        obtain ⟨i1, i2, i3, i4⟩ := this
        simp at i1
        refine ⟨by simp only [cmb]; omega, fun hb' => ?_, ?_, fun hb' => ?_⟩
        · have := i2 hb'; simp only [cmb]; omega
        · simp only [cmb]; split <;> simp <;> omega
        · simp only [cmb] at hb' ⊢; rw [if_neg (by simp [hb'])]
    · rw [rwB_q h]; have := pre_len h; rw [q3_len] at this; simpa using this

/-- What ends is told so, whatever stands behind. -/
theorem rwB_stay {l : List UInt8} (hb : (rwB l).b = true) (x : List UInt8) : rwB (l.take (rwB l).n ++ x) = rwB l := by
  induction hn : l.length using Nat.strongRecOn generalizing l with
  | _ m ih =>
    subst hn
    have hbd := rwB_bd l
    cases h : q3.isPrefixOf l
    · cases hp : pcR l with
      | none => rw [rwB_n h hp] at hb; cases hb
      | some r =>
        obtain ⟨t, k⟩ := r
        have hk := pcR_bd hp
        have e := rwB_s h hp
        have hb2 : (rwB (l.drop k)).b = true := by rw [e] at hb; exact hb
        have hr := ih (l.drop k).length (by simp; omega) hb2 rfl
        have hd := rwB_bd (l.drop k)
        have h3 := hd.2.1 hb2
        have hn2 : (rwB l).n = k + (rwB (l.drop k)).n := by rw [e]; rfl
        have hle := hbd.1
        have hc1 : q3.isPrefixOf (l.take (rwB l).n ++ x) = false := by rw [pre_cut (by rw [q3_len]; omega) hle]; exact h
        have hc2 : b3.isPrefixOf (l.take (rwB l).n ++ x) = b3.isPrefixOf l := pre_cut (by rw [b3_len]; omega) hle
        have hdr : (l.take (rwB l).n ++ x).drop k = (l.drop k).take (rwB (l.drop k)).n ++ x := by
          rw [List.drop_append_of_le_length (by rw [List.length_take]; omega), List.drop_take, hn2, Nat.add_sub_cancel_left]
        have hp2 : pcR (l.take (rwB l).n ++ x) = some (t, k) := by
          cases hb3 : b3.isPrefixOf l
          · have h0 : (nxt l).2 ≠ 0 := by intro h0; rw [pcR_n hb3 h0] at hp; cases hp
            rw [pcR_c hb3 h0] at hp
            injection hp with hp; injection hp with ht hk2
            have hx : nxt (l.take (rwB l).n ++ x) = nxt l := by
              rcases nxt_cases l with ⟨c, hc, e1⟩ | ⟨_, e1⟩
              · rw [e1]
                rw [e1] at hk2
                refine nxt_is ⟨hc.1, ?_⟩
                refine List.IsPrefix.trans ?_ (List.prefix_append _ _)
                rw [List.prefix_take_iff]
                exact ⟨hc.2, by simp only at hk2; omega⟩
              · rw [e1] at h0; exact absurd rfl h0
            rw [pcR_c (by rw [hc2]; exact hb3) (by rw [hx]; exact h0), hx]
            congr 2
            rw [hk2, List.take_append_of_le_length (by rw [List.length_take]; omega), List.take_take, Nat.min_eq_left (by omega), ← ht, hk2]
          · rw [pcR_b (by rw [hc2]; exact hb3), ← hp, pcR_b hb3]
        rw [rwB_s hc1 hp2, hdr, hr, ← e]
    · have h3 := pre_len h
      rw [rwB_q h]
      rw [q3_len] at h3
      exact rwB_q (by rw [pre_cut (Nat.le_refl 3) h3]; exact h)
theorem rwB_end {l : List UInt8} (hb : (rwB l).b = true) : (l.take (rwB l).n).drop ((rwB l).n - 3) = q3 := by
  induction hn : l.length using Nat.strongRecOn generalizing l with
  | _ m ih =>
    subst hn
    cases h : q3.isPrefixOf l
    · cases hp : pcR l with
      | none => rw [rwB_n h hp] at hb; cases hb
      | some r =>
        obtain ⟨t, k⟩ := r
        have hk := pcR_bd hp
        have e := rwB_s h hp
        have hb2 : (rwB (l.drop k)).b = true := by rw [e] at hb; exact hb
        have hr := ih (l.drop k).length (by simp; omega) hb2 rfl
        have h3 := (rwB_bd (l.drop k)).2.1 hb2
        rw [e]
        show (l.take (k + (rwB (l.drop k)).n)).drop (k + (rwB (l.drop k)).n - 3) = q3
        rw [← hr, List.drop_take, List.drop_take, List.drop_drop]
        congr 1
        · omega
        · congr 1; omega
    · rw [rwB_q h]; exact pre_take.1 h

/-- What Raw answers: the place is i and n. -/
def rawA (l : List UInt8) (i : Int) : Rw := if stB l i q3 = true then ⟨(rwB (l.drop (i.toNat + 3))).v, 3 + (rwB (l.drop (i.toNat + 3))).n, (rwB (l.drop (i.toNat + 3))).b⟩ else ⟨[], 0, false⟩
theorem rawA_no {l : List UInt8} {i : Int} (h : stB l i q3 = false) : rawA l i = ⟨[], 0, false⟩ := by unfold rawA; rw [if_neg (by simp [h])]
theorem rawA_at {l : List UInt8} {k : Nat} (h : stB l k q3 = true) : rawA l k = ⟨(rwB (l.drop (k + 3))).v, 3 + (rwB (l.drop (k + 3))).n, (rwB (l.drop (k + 3))).b⟩ := by unfold rawA; rw [if_pos h]; rfl
theorem rawA_n (l : List UInt8) (i : Int) : (rawA l i).n ≤ l.length ∧ ((rawA l i).b = true → 0 ≤ i ∧ 6 ≤ (rawA l i).n ∧ stB l i q3 = true) ∧ (0 < (rawA l i).n → 0 ≤ i ∧ i + (rawA l i).n ≤ l.length) ∧ ((rawA l i).b = false → (rawA l i).v = []) ∧ (rawA l i).v.length ≤ l.length := by
  cases h : stB l i q3
  · rw [rawA_no h]; simp
  · have hi := stB_in h
    rw [q3_len] at hi
    obtain ⟨k, rfl⟩ := Int.eq_ofNat_of_zero_le hi.1
    rw [rawA_at h]
    have hb := rwB_bd (l.drop (k + 3))
    simp at hb
    refine ⟨by dsimp only; omega, fun h2 => ⟨by omega, ?_, rfl⟩, fun _ => ⟨by omega, by dsimp only; omega⟩, fun h2 => hb.2.2.2 h2, by dsimp only; omega⟩
    have := hb.2.1 h2; dsimp only; omega
/-- A raw text alone, and whatever stands behind. -/
theorem rawA_stay {l : List UInt8} {k : Nat} (hb : (rawA l k).b = true) (x : List UInt8) : rawA ((l.drop k).take (rawA l k).n ++ x) 0 = rawA l k := by
  have h := ((rawA_n l k).2.1 hb).2.2
  have hi := stB_in h
  rw [q3_len] at hi
  rw [rawA_at h] at hb ⊢
  have hd := rwB_bd (l.drop (k + 3))
  simp only [List.length_drop] at hd
  have hq : q3.isPrefixOf (l.drop k) = true := by rw [← stB_at (by omega)]; exact h
  have hs : stB ((l.drop k).take (3 + (rwB (l.drop (k + 3))).n) ++ x) (0 : Nat) q3 = true := by
    rw [stB_at (by omega), List.drop_zero, pre_cut (by rw [q3_len]; omega) (by simp; omega)]; exact hq
  have hdr : ((l.drop k).take (3 + (rwB (l.drop (k + 3))).n) ++ x).drop (0 + 3) = (l.drop (k + 3)).take (rwB (l.drop (k + 3))).n ++ x := by
    rw [Nat.zero_add, List.drop_append_of_le_length (by rw [List.length_take, List.length_drop]; omega), List.drop_take, List.drop_drop, Nat.add_sub_cancel_left]
  have := rawA_at hs
  rw [hdr, rwB_stay hb] at this
  exact this
theorem rawA_ends {l : List UInt8} {k : Nat} (hb : (rawA l k).b = true) : ((l.drop k).take (rawA l k).n).take 3 = q3 ∧ ((l.drop k).take (rawA l k).n).drop ((rawA l k).n - 3) = q3 := by
  have h := ((rawA_n l k).2.1 hb).2.2
  have hi := stB_in h
  rw [q3_len] at hi
  rw [rawA_at h] at hb ⊢
  have h3 := (rwB_bd (l.drop (k + 3))).2.1 hb
  have hq : q3.isPrefixOf (l.drop k) = true := by rw [← stB_at (by omega)]; exact h
  refine ⟨?_, ?_⟩
  · rw [List.take_take, Nat.min_eq_left (by dsimp only; omega)]; exact pre_take.1 hq
  · have := rwB_end hb
    rw [← this, List.drop_take, List.drop_take, List.drop_drop, List.drop_drop]
    dsimp only
    congr 1
    · omega
    · congr 1; omega
end Go.Proofs.YtjfhcgolgabkkaaDoor.Fo
