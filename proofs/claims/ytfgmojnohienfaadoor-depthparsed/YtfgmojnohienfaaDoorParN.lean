/- What the laws say of the parser (plain mathematics). -/
import Derived.Test.YtfgmojnohienfaaDoorParM
namespace Go.Proofs.YtfgmojnohienfaaDoor
open Go.RowKit
set_option linter.unusedVariables false
set_option maxRecDepth 100000

/-- Is the list parsed? -/
def yesB (L : List Int) (z : Nat) (f : Bool) : Bool := f && decide (z = L.length)
/-- What Parse tells: the rules, and the place. -/
def outR (L R : List Int) (z : Nat) (f : Bool) : List Int := if yesB L z f then R else []
def outZ (L : List Int) (z : Nat) (f : Bool) : Int := if yesB L z f then -1 else (z : Int)
theorem outZ_no {L : List Int} {z : Nat} {f : Bool} (h : z < L.length) : outZ L z f = (z : Int) := by
  rw [outZ, yesB, decide_eq_false (by omega), Bool.and_false, if_neg (by simp)]
theorem outZ_yes {L : List Int} {z : Nat} {f : Bool} (h : outZ L z f = -1) : f = true ∧ z = L.length := by
  rw [outZ] at h
  cases hy : yesB L z f
  · rw [hy, if_neg (by simp)] at h; omega
  · rw [yesB, Bool.and_eq_true, decide_eq_true_eq] at hy; exact hy
theorem outZ_or (L : List Int) (z : Nat) (f : Bool) : outZ L z f = -1 ∨ outZ L z f = (z : Int) := by
  rw [outZ]; split
  · exact .inl rfl
  · exact .inr rfl
theorem outZ_ok {L : List Int} {z : Nat} (h : z = L.length) : outZ L z true = -1 := by
  rw [outZ, yesB, decide_eq_true h]; rfl
theorem outR_ok {L R : List Int} {z : Nat} (h : z = L.length) : outR L R z true = R := by
  rw [outR, yesB, decide_eq_true h]; rfl
theorem Par.congr {L L' R : List Int} {z : Nat} {f : Bool} (h : Par L R z f) (e : ∀ j, j ≤ z → hdL L j = hdL L' j) : Par L' R z f := Run.congr h fun j _ hj => e j hj
/-- Where it fails does not hang on what stands behind. -/
theorem first_math {L R R' : List Int} {z z' j : Nat} {f f' : Bool} (hp : Par L R z f) (hq : Par (L.take j) R' z' f') (hj : j ≤ L.length) {p p' : Int} (ep : outZ L z f = p) (ep' : outZ (L.take j) z' f' = p') :
    -1 ≤ p ∧ p ≤ (L.length : Int) ∧ -1 ≤ p' ∧ p' ≤ (j : Int) ∧ ((0 ≤ p ∧ p < (j : Int)) → p' = p) ∧ (¬ (0 ≤ p ∧ p < (j : Int)) → p' = -1 ∨ p' = (j : Int)) := by
  have hz := hp.within
  have hz' := hq.within
  have hlen : (L.take j).length = j := by rw [List.length_take]; omega
  rw [hlen] at hz'
  have o1 := outZ_or L z f
  have o2 := outZ_or (L.take j) z' f'
  rw [ep] at o1
  rw [ep'] at o2
  refine ⟨by omega, by omega, by omega, by omega, fun h => ?_, fun h => ?_⟩
  · have e : p = (z : Int) := by omega
    have hzj : z < j := by omega
    obtain ⟨-, h2, h3⟩ := (hp.congr (L' := L.take j) fun i hi => (hdL_take (by omega)).symm).det hq
    subst h2 h3
    rw [← ep', outZ_no (by rw [hlen]; exact hzj), e]
  · rcases o2 with o2 | o2
    · exact .inl o2
    · by_cases hzj : z' < j
      · exfalso
        obtain ⟨-, h2, h3⟩ := (hq.congr (L' := L) fun i hi => hdL_take (by omega)).det hp
        subst h2 h3
        rw [outZ_no (by omega)] at ep
        omega
      · right; omega
/-- Does the terminal at hand fit, behind rules that it asks for? -/
def eatB (te : Int) : Nat → List Sq → Bool
  | 0, _ => false
  | _ + 1, [] => false
  | n + 1, t :: S => if t.k = 1 then decide (0 ≤ pickK te t.n) && eatB te n (plR (pickK te t.n) ++ S) else fitK te t
theorem eat_run {h : Nat → Int} {a : Nat} : ∀ {n : Nat} {S : List Sq} {rs : List Int} {z : Nat} {f : Bool}, eatB (h a) n S = true → Run h S a rs z f → a < z := by
  intro n
  induction n with
  | zero => intro S rs z f e; cases e
  | succ n ih =>
    intro S rs z f e r
    cases S with
    | nil => cases e
    | cons t S =>
      rw [eatB] at e
      cases r with
      | term hk _ r => have := r.le; omega
      | miss hk hf => rw [if_neg hk, hf] at e; cases e
      | var hk hp h0 r =>
        rw [if_pos hk, Bool.and_eq_true, hp] at e
        exact ih e.2 r
      | stop hk hp =>
        rw [if_pos hk, Bool.and_eq_true, decide_eq_true_eq] at e
        omega
/-- The terminals that a definition can begin with. -/
def bgB (te : Int) : Bool := te == 12 || te == 17 || (decide (19 ≤ te) && decide (te ≤ 22)) || (decide (24 ≤ te) && decide (te ≤ 29))
theorem eat_dec : ∀ te, te < 31 → bgB (te : Nat) = true → eatB (te : Nat) 6 docS = true := by decide +kernel
theorem stop_dec : ∀ te, te < 31 → bgB (te : Nat) = false → pickK (te : Nat) 0 = -1 := by decide +kernel
theorem bg_range {te : Int} (h : bgB te = true) : 0 ≤ te ∧ te < 31 := by
  simp only [bgB, Bool.or_eq_true, Bool.and_eq_true, beq_iff_eq, decide_eq_true_eq] at h
  omega
theorem pick_out {te v : Int} (h : te ≤ 0 ∨ 31 ≤ te) : pickK te v = empR v := by
  have := begN_ge te v
  rw [fstK_out h v] at this
  rw [pickK, if_neg (by simpa using this)]
theorem stop_all {te : Int} (h : bgB te = false) : pickK te 0 < 0 := by
  by_cases hr : 0 ≤ te ∧ te < 31
  · obtain ⟨a, rfl⟩ := Int.eq_ofNat_of_zero_le hr.1
    have := stop_dec a (by omega) h
    omega
  · rw [pick_out (by omega)]; decide +kernel
/-- What a list fails at, that begins so. -/
theorem none_math {L R : List Int} {z : Nat} {f : Bool} {te : Int} (hp : Par L R z f) (h0 : hdL L 0 = te) : bgB te = !(outZ L z f == 0) := by
  cases hb : bgB te
  · have hst := stop_all hb
    cases hp with
    | term h1 _ _ => exact absurd rfl h1
    | miss h1 _ => exact absurd rfl h1
    | var _ h1 h2 _ => rw [h0] at h1; change pickK te 0 = _ at h1; omega
    | stop _ _ => rfl
  · have hr := bg_range hb
    obtain ⟨a, rfl⟩ := Int.eq_ofNat_of_zero_le hr.1
    have he := eat_dec a (by omega) hb
    rw [← h0] at he
    have := eat_run he hp
    rcases outZ_or L z f with o | o <;> rw [o]
    · rfl
    · have h1 : ¬ ((z : Int) = 0) := by omega
      rw [beq_eq_false_iff_ne.2 h1]; rfl
theorem none_nil {R : List Int} {z : Nat} {f : Bool} (hp : Par [] R z f) : outR [] R z f = [] ∧ outZ [] z f = 0 := by
  have hst : pickK 0 0 < 0 := by decide +kernel
  cases hp with
  | term h1 _ _ => exact absurd rfl h1
  | miss h1 _ => exact absurd rfl h1
  | var _ h1 h2 _ => change pickK 0 0 = _ at h1; omega
  | stop _ _ => exact ⟨rfl, rfl⟩
end Go.Proofs.YtfgmojnohienfaaDoor
