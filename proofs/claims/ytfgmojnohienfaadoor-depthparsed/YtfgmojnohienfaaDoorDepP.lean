/- What is parsed has as many that open as close (plain mathematics). -/
import Derived.Test.YtfgmojnohienfaaDoorDepM
import Derived.Test.YtfgmojnohienfaaDoorParN
namespace Go.Proofs.YtfgmojnohienfaaDoor
open Go.RowKit
set_option linter.unusedVariables false
set_option maxRecDepth 100000

/-- What the first k hands add. -/
def sumH (h : Nat → Int) : Nat → Int
  | 0 => 0
  | k + 1 => sumH h k + adD (h k)
theorem sumH_take (l : List Int) : ∀ k, k ≤ l.length → sumH (hdL l) k = endD (l.take k)
  | 0, _ => rfl
  | k + 1, h => by
    obtain ⟨t, ht⟩ : ∃ t, l[k]? = some t := ⟨_, List.getElem?_eq_getElem (by omega)⟩
    rw [sumH, sumH_take l k (by omega), endD_take ht, hdL_some ht]
/-- What a symbol adds; what symbols add; how low they go. -/
def ad1 (t : Sq) : Int := if t.k = 0 then adD t.n else 0
def adS : List Sq → Int
  | [] => 0
  | t :: S => ad1 t + adS S
def loS : List Sq → Int
  | [] => 0
  | t :: S => min 0 (ad1 t + loS S)
theorem loS_le : ∀ S, loS S ≤ 0
  | [] => Int.le_refl _
  | t :: S => by unfold loS; omega
theorem adS_app (B : List Sq) : ∀ A, adS (A ++ B) = adS A + adS B
  | [] => by simp [adS]
  | t :: A => by simp only [List.cons_append, adS, adS_app B A]; omega
theorem loS_app (B : List Sq) : ∀ A, loS (A ++ B) = min (loS A) (adS A + loS B)
  | [] => by have := loS_le B; simp [adS, loS]; omega
  | t :: A => by
    have h1 := loS_app B A
    simp only [List.cons_append, loS, adS, h1]; omega
/-- Each rule opens as many as it closes, and never closes more. -/
theorem bal_dec : ∀ i, i < 90 → adS (plS (symR i)) = 0 ∧ loS (plS (symR i)) = 0 := by decide +kernel
theorem bal_rule {te v i : Int} (h : pickK te v = i) (h0 : 0 ≤ i) : adS (plR i) = 0 ∧ loS (plR i) = 0 := by
  obtain ⟨a, rfl, h1, -⟩ := pick_rule h h0
  have e : plR (a : Int) = plS (symR a) := by rw [plR, symI, if_pos (by omega)]; rfl
  rw [e]; exact bal_dec a h1
theorem fit_adds {te : Int} {t : Sq} (hk : t.k ≠ 1) (h : fitK te t = true) : adD te = ad1 t := by
  obtain ⟨k, n⟩ := t
  change k ≠ 1 at hk
  by_cases h0 : k = 0
  · subst h0
    rw [fitK_term, Bool.and_eq_true, beq_iff_eq] at h
    rw [h.1]; rfl
  · by_cases h2 : k = 2
    · subst h2
      rw [fitK_class] at h
      have h3 : 18 ≤ te := by
        simp only [inK, Bool.or_eq_true, Bool.and_eq_true, beq_iff_eq, decide_eq_true_eq] at h
        omega
      have e1 : opD te = false := by
        unfold opD; simp only [Bool.or_eq_false_iff, beq_eq_false_iff_ne]; omega
      have e2 : clD te = false := by
        unfold clD; simp only [Bool.or_eq_false_iff, beq_eq_false_iff_ne]; omega
      rw [adD_none e1 e2]; rfl
    · rw [fitK_other te h0 hk h2] at h; cases h
theorem run_bal {h : Nat → Int} {S : List Sq} {a z : Nat} {rs : List Int} {f : Bool} (r : Run h S a rs z f) : f = true →
    sumH h z = sumH h a + adS S ∧ ∀ k, a ≤ k → k ≤ z → sumH h a + loS S ≤ sumH h k := by
  induction r with
  | nil =>
    intro _
    refine ⟨by simp [adS], fun k h1 h2 => ?_⟩
    obtain rfl := Nat.le_antisymm h1 h2
    simp [loS]
  | @term t S a z rs f hk hf _ ih =>
    intro hb
    obtain ⟨h1, h2⟩ := ih hb
    have e := fit_adds hk hf
    rw [sumH, e] at h1
    refine ⟨by rw [h1, adS]; omega, fun k ha hz => ?_⟩
    have := loS_le (t :: S)
    by_cases c : k = a
    · subst c; omega
    · have h3 := h2 k (by omega) hz
      rw [sumH, e] at h3
      unfold loS; omega
  | miss _ _ => intro hb; cases hb
  | @var t S a z i rs f hk hp h0 _ ih =>
    intro hb
    obtain ⟨h1, h2⟩ := ih hb
    obtain ⟨e1, e2⟩ := bal_rule hp h0
    have e3 : ad1 t = 0 := by unfold ad1; rw [if_neg (by omega)]
    rw [adS_app, e1] at h1
    refine ⟨by rw [h1, adS, e3], fun k ha hz => ?_⟩
    have h3 := h2 k ha hz
    rw [loS_app, e1, e2] at h3
    unfold loS; omega
  | stop _ _ => intro hb; cases hb
/-- The law of what is parsed. -/
theorem par_bal {l R : List Int} {z : Nat} {f : Bool} (hp : Par l R z f) (h : outZ l z f = -1) :
    endD l = 0 ∧ 2 * depD l ≤ l.length ∧ ∀ k, k ≤ l.length → 0 ≤ endD (l.take k) := by
  obtain ⟨rfl, rfl⟩ := outZ_yes h
  obtain ⟨h1, h2⟩ := run_bal hp rfl
  have e0 : endD l = 0 := by
    have h3 := sumH_take l l.length (Nat.le_refl _)
    rw [List.take_length] at h3
    rw [← h3, h1]; rfl
  refine ⟨e0, ?_, fun k hk => ?_⟩
  · obtain ⟨k, hk, e⟩ := depD_met l
    have h3 := endD_app (l.drop k) (l.take k)
    rw [List.take_append_drop, e0] at h3
    have h4 := endD_range (l.drop k)
    have h5 := endD_takes l k
    rw [List.length_drop] at h4
    omega
  · rw [← sumH_take l k hk]
    have := h2 k (Nat.zero_le _) hk
    exact this
end Go.Proofs.YtfgmojnohienfaaDoor
