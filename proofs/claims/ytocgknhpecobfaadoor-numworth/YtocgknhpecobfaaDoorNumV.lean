/- What a number's text is worth: plain mathematics of NumWorth. -/
import Derived.Test.YtocgknhpecobfaaDoorNumC
import Derived.Test.YtocgknhpecobfaaDoorRealL
import Derived.Test.YtocgknhpecobfaaDoorRealR
namespace Go.Proofs.YtocgknhpecobfaaDoor.Sc
open Go.RowKit
set_option linter.unusedVariables false

/-- Behind the whole part no digit stands. -/
theorem frac_nodg {l : List UInt8} {j : Int} (h : (fracA l j).b = true) : sd dgI l j = false := by
  cases e : sd dgI l j
  · rfl
  · rw [fracA_n (sd_not (p := dgI) (fun x hx hm => by rw [dg_iff] at hx; rw [dot_iff] at hm; omega) e),
      expA_n (sd_not (p := dgI) (fun x hx hm => by rw [dg_iff] at hx; rw [e_iff] at hm; omega) e),
      finA_t (sd_imp (p := dgI) (fun x hx => by rw [dg_iff] at hx; rw [more_iff]; omega) e)] at h
    cases h
/-- The whole part ends where the digits do. -/
theorem body_frac {l : List UInt8} {i : Int} (h : (bodyA l i).b = true) : bodyA l i = fracA l (dgE l i) ∧ sd dgI l i = true ∧ (sd (inS zeroB) l i = true → dgE l i = i + 1) := by
  cases e : sd (inS zeroB) l i
  · cases d : sd dgI l i
    · rw [bodyA_w e d] at h; cases h
    · exact ⟨bodyA_y e d, rfl, fun h => by cases h⟩
  · rw [bodyA_z e] at h
    have h1 := frac_nodg h
    have hd : sd dgI l i = true := sd_imp (p := inS zeroB) (fun x hx => by rw [zero_iff] at hx; rw [dg_iff]; omega) e
    have he : dgE l i = i + 1 := dgE_uniq (by omega) (fun k a b => by rw [show k = i by omega]; exact hd) h1
    rw [he]
    exact ⟨bodyA_z e, hd, fun _ => rfl⟩
/-- A whole number has digits alone. -/
theorem frac_kind {l : List UInt8} {d k : Int} (hd : d ≤ l.length) (h : fracA l d = ⟨k, l.length, true⟩) : (k = 3 ∧ d = l.length) ∨ (k = 4 ∧ ¬ d = l.length) := by
  cases e : sd (inS dotB) l d
  · rw [fracA_n e] at h
    cases x : sd (inS eB) l d
    · rw [expA_n x] at h
      cases m : sd moreI l d
      · rw [finA_f m] at h
        have := Nm.mk.inj h
        exact .inl ⟨this.1.symm, this.2.1⟩
      · rw [finA_t m] at h; exact Bool.noConfusion (congrArg Nm.b h : false = true)
    · have hx := (sd_true.1 x).2.1
      cases g : sd dgI l (signA l (d + 1))
      · rw [expA_w x g] at h; exact Bool.noConfusion (congrArg Nm.b h : false = true)
      · rw [expA_y x g] at h
        cases m : sd moreI l (dgE l (signA l (d + 1)))
        · rw [finA_f m] at h
          exact .inr ⟨(Nm.mk.inj h).1.symm, by omega⟩
        · rw [finA_t m] at h; exact Bool.noConfusion (congrArg Nm.b h : false = true)
  · have hx := (sd_true.1 e).2.1
    refine .inr ⟨?_, by omega⟩
    cases g : sd dgI l (d + 1)
    · rw [fracA_w e g] at h; exact Bool.noConfusion (congrArg Nm.b h : false = true)
    · rw [fracA_y e g] at h
      cases x : sd (inS eB) l (dgE l (d + 1))
      · rw [expA_n x] at h
        cases m : sd moreI l (dgE l (d + 1))
        · rw [finA_f m] at h; exact (Nm.mk.inj h).1.symm
        · rw [finA_t m] at h; exact Bool.noConfusion (congrArg Nm.b h : false = true)
      · cases g2 : sd dgI l (signA l (dgE l (d + 1) + 1))
        · rw [expA_w x g2] at h; exact Bool.noConfusion (congrArg Nm.b h : false = true)
        · rw [expA_y x g2] at h
          cases m : sd moreI l (dgE l (signA l (dgE l (d + 1) + 1)))
          · rw [finA_f m] at h; exact (Nm.mk.inj h).1.symm
          · rw [finA_t m] at h; exact Bool.noConfusion (congrArg Nm.b h : false = true)

/-- What a text's value says of its minus, if it has one. -/
theorem worth_neg {l : List UInt8} {m : Bool} (hm : (∃ t, l = 45 :: t ∧ m = true) ∨ ((∀ t, l ≠ 45 :: t) ∧ m = false)) (hs : ¬ sortv (rv l) = 0) : negv (rv l) = m := by
  have hnan : nanB (rv l) = false := by
    cases e : nanB (rv l)
    · rfl
    · exact absurd (by unfold sortv; rw [e]; rfl) hs
  cases hn : num l with
  | none =>
    have : rv l = 9221120237041090561 := by unfold rv; rw [hn]; rfl
    rw [this] at hnan
    exact absurd hnan (by decide +kernel)
  | some q =>
    obtain ⟨m', d, x⟩ := q
    have hmm : m' = m := by
      rcases hm with ⟨t, rfl, rfl⟩ | ⟨h, rfl⟩
      · rw [num_minus] at hn
        cases hp : plainD t with
        | none => rw [hp] at hn; cases hn
        | some y => rw [hp] at hn; exact (Prod.mk.inj (Option.some.inj hn)).1.symm
      · rw [num_plain l h] at hn
        cases hp : plainD l with
        | none => rw [hp] at hn; cases hn
        | some y => rw [hp] at hn; exact (Prod.mk.inj (Option.some.inj hn)).1.symm
    subst hmm
    have hall := tz_all (num_ok hn).1
    have hv : nanB (valB (tz d) x) = false := by
      cases e : nanB (valB (tz d) x)
      · rfl
      · have : rv l = valB (tz d) x := by unfold rv; rw [hn]; simp [rvo, e]
        rw [this, e] at hnan; cases hnan
    have hp : valB (tz d) x < 9223372036854775808 := by
      rcases valB_half (tz d) hall x with h | h
      · rw [h] at hv; cases hv
      · exact h
    rw [rv_of hn hv hp]
    exact sgw_neg hp hv
/-- What at most 15 digits are worth. -/
theorem worth_whole {ds : List UInt8} (m : Bool) (hd : ds.all isD = true) (hne : ds ≠ []) (h15 : ds.length ≤ 15) : 2 ≤ sortv (rv ((if m then [45] else []) ++ ds)) := by
  have hp : plainD ds = some (ds, 0) := by
    have := plainD_B hd hne (ep := []) (.inl rfl)
    rw [List.append_nil, expoD_nil] at this
    exact this
  have hnm := not_minus (r := []) hd hne
  rw [List.append_nil] at hnm
  have hn : num ((if m then [45] else []) ++ ds) = some (m, ds, 0) := by rw [num_signed m ds hnm, hp]; rfl
  have hb : dval ds < 9007199254740992 := by have := dval_lt15 ds hd h15; omega
  obtain ⟨w1, w2⟩ := W_ok hb
  obtain ⟨w3, w4, w5⟩ := W_fin hb
  rw [rv_of hn (by rw [val0 hd h15]; exact w1) (by rw [val0 hd h15]; exact w2), val0 hd h15, sgw_sort w2]
  unfold sortv
  rw [w1]
  simp only [Bool.false_eq_true, if_false]
  rw [if_neg (by omega)]
  split <;> decide
theorem isD_of {c : UInt8} (h : dgI c.toNat = true) : isD c = true := by
  rw [dg_iff] at h; unfold isD; simp; omega
theorem all_isD {l : List UInt8} {i : Nat} (h : ∀ j : Int, i ≤ j → j < l.length → sd dgI l j = true) : (l.drop i).all isD = true := by
  rw [List.all_eq_true]
  intro c hc
  obtain ⟨k, hk, rfl⟩ := List.getElem_of_mem hc
  rw [List.length_drop] at hk
  have := (sd_true.1 (h ((i + k : Nat) : Int) (by omega) (by omega))).2.2
  rw [Int.toNat_natCast, List.getD_eq_getElem?_getD, List.getElem?_eq_getElem (by omega)] at this
  rw [List.getElem_drop]
  exact isD_of this

/-- All that NumWorth asks of a number's text, at its place behind a minus. -/
structure Wo (l : List UInt8) (k : Int) (i d : Nat) : Prop where
  lo : i < d
  hi : d ≤ l.length
  dg : dgE l i = d
  kind : (k = 3 ∧ d = l.length) ∨ (k = 4 ∧ ¬ d = l.length)
  zero : sd (inS zeroB) l i = true → d = i + 1
  neg : ¬ sortv (rv l) = 0 → negv (rv l) = decide (i = 1)
  fin : k = 3 → l.length - i ≤ 15 → 2 ≤ sortv (rv l)
theorem head_cases {l : List UInt8} : (sd (inS minusB) l 0 = true ∧ ∃ t, l = 45 :: t) ∨ (sd (inS minusB) l 0 = false ∧ ∀ t, l ≠ 45 :: t) := by
  cases l with
  | nil => exact .inr ⟨rfl, fun t e => by cases e⟩
  | cons c t =>
    rw [sd_0]
    by_cases h : c = 45
    · subst h; exact .inl ⟨rfl, t, rfl⟩
    · refine .inr ⟨?_, fun u e => h (List.cons.inj e).1⟩
      cases e : inS minusB c.toNat
      · rfl
      · rw [minus_iff] at e
        exact absurd (UInt8.toNat_inj.1 (by rw [show (45 : UInt8).toNat = 45 from rfl]; omega)) h
theorem wo_of {l : List UInt8} {k : Int} (h : numA l 0 = ⟨k, l.length, true⟩) : ∃ i d, Wo l k i d ∧ ((i = 1 ∧ sd (inS minusB) l 0 = true) ∨ (i = 0 ∧ sd (inS minusB) l 0 = false)) := by
  have key : ∀ i : Nat, i ≤ l.length → bodyA l i = ⟨k, l.length, true⟩ → (∀ m, m = decide (i = 1) → ((∃ t, l = 45 :: t ∧ m = true) ∨ ((∀ t, l ≠ 45 :: t) ∧ m = false))) →
      (l = (if decide (i = 1) = true then [45] else []) ++ l.drop i) → ∃ d, Wo l k i d := by
    intro i hi hb hm hl
    obtain ⟨h1, h2, h3⟩ := body_frac (l := l) (i := i) (by rw [hb])
    have h4 := dgE_lt.2 h2
    have h5 := dgE_le (l := l) (j := i) (by omega)
    obtain ⟨d, hd⟩ := Int.eq_ofNat_of_zero_le (a := dgE l i) (by omega)
    rw [hd] at h1 h3 h4 h5
    have hk := frac_kind (l := l) (d := d) (k := k) h5 (h1.symm.trans hb)
    refine ⟨d, ⟨by omega, by omega, hd, by omega, fun h => by have := h3 h; omega, worth_neg (hm _ rfl), fun hk3 h15 => ?_⟩⟩
    have hdl : d = l.length := by omega
    have hall := all_isD (l := l) (i := i) (fun j a b => dgE_go a (by rw [hd, hdl]; exact b))
    have hne : l.drop i ≠ [] := by
      intro e
      have := congrArg List.length e
      rw [List.length_drop] at this; simp at this; omega
    have := worth_whole (decide (i = 1)) hall hne (by rw [List.length_drop]; exact h15)
    rw [← hl] at this
    exact this
  rcases head_cases (l := l) with ⟨a, t, rfl⟩ | ⟨a, b⟩
  · rw [minus_yes a] at h
    obtain ⟨d, hd⟩ := key 1 (by simp) h (fun m hm => .inl ⟨t, rfl, by rw [hm]; rfl⟩) (by simp)
    exact ⟨1, d, hd, .inl ⟨rfl, a⟩⟩
  · rw [minus_no a] at h
    obtain ⟨d, hd⟩ := key 0 (by omega) h (fun m hm => .inr ⟨b, by rw [hm]; rfl⟩) (by simp)
    exact ⟨0, d, hd, .inr ⟨rfl, a⟩⟩
end Go.Proofs.YtocgknhpecobfaaDoor.Sc
