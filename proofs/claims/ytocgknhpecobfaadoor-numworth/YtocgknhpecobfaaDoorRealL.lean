/- The walk of RealMinus. -/
import Derived.Test.YtocgknhpecobfaaDoorRealI
namespace Go.Proofs.YtocgknhpecobfaaDoor
open Go.RowKit
set_option linter.unusedVariables false

/-- Products and quotients of numbers that are not negative are not. -/
theorem nearest_pos (m : Nat) (p : Int) : Ieee.double.nearest false m p < 9223372036854775808 := by
  unfold Ieee.Format.nearest
  split
  · decide
  · simp only [Ieee.Format.word, Bool.false_eq_true, if_false]
    have : Ieee.double.infRung = 9218868437227405312 := d_inf
    omega
theorem mul_pos {a b : Nat} (ha : a < 18446744073709551616) (hb : b < 18446744073709551616) (h1 : rg a < 9218868437227405312) (h2 : rg b < 9218868437227405312) (s1 : sg a = false) (s2 : sg b = false) : ∃ r, Ieee.double.mul a b = some r ∧ r < 9223372036854775808 := by
  obtain ⟨m, p, e, _⟩ := read_fin ha h1
  obtain ⟨n, q, f, _⟩ := read_fin hb h2
  unfold Ieee.Format.mul
  rw [e, f, s1, s2]
  exact ⟨_, rfl, nearest_pos _ _⟩
theorem div_pos {a b : Nat} (ha : a < 18446744073709551616) (hb : b < 18446744073709551616) (h1 : rg a < 9218868437227405312) (h2 : rg b < 9218868437227405312) (h3 : rg b ≠ 0) (s1 : sg a = false) (s2 : sg b = false) : ∃ r, Ieee.double.div a b = some r ∧ r < 9223372036854775808 := by
  obtain ⟨m, p, e, _⟩ := read_fin ha h1
  obtain ⟨n, q, f, hz, _⟩ := read_fin hb h2
  have hn : n ≠ 0 := fun k => h3 (hz.1 k)
  unfold Ieee.Format.div
  rw [e, f, s1, s2]
  simp only [Ieee.Datum.quotient, if_neg hn]
  exact ⟨_, rfl, nearest_pos _ _⟩
theorem tenB_sg : ∀ k, k < 23 → sg (tenB k) = false := by decide +kernel

theorem valB_half (l : List UInt8) (hl : l.all isD = true) (x : Int) : nanB (valB l x) = true ∨ valB l x < 9223372036854775808 := by
  unfold valB
  split
  · right; omega
  · split
    · right; omega
    · split
      · right; omega
      · split
        · left; decide +kernel
        · rename_i h0 h1 h2 h3
          have hd := dval_lt15 l hl (by omega)
          obtain ⟨w1, w2, w3⟩ := W_fin (n := dval l) (by omega)
          have sW : sg (W (dval l)) = false := by unfold sg; simp; omega
          split
          · obtain ⟨t1, t2, t3⟩ := tenB_fin (-x).toNat (by omega)
            have sT := tenB_sg (-x).toNat (by omega)
            obtain ⟨r, hr, hp⟩ := div_pos w1 t1 w2 t2 t3 sW sT
            rw [hr]; exact .inr hp
          · obtain ⟨t1, t2, t3⟩ := tenB_fin x.toNat (by omega)
            have sT := tenB_sg x.toNat (by omega)
            obtain ⟨r, hr, hp⟩ := mul_pos w1 t1 w2 t2 sW sT
            rw [hr]; exact .inr hp

end Go.Proofs.YtocgknhpecobfaaDoor
