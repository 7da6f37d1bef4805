/- A number alone (cut out of NumF). -/
import Derived.Test.YtpcijjdlppoblaaGreatDoorNumB
namespace Go.Proofs.YtpcijjdlppoblaaGreatDoor.Sc
set_option linter.unusedVariables false

theorem sd_fore {p : Int → Bool} {a t : List UInt8} {j : Int} (h : j < a.length) : sd p (a ++ t) j = sd p a j := by
  by_cases h0 : 0 ≤ j
  · obtain ⟨k, rfl⟩ := Int.eq_ofNat_of_zero_le h0
    unfold sd
    rw [Int.toNat_natCast, List.getD_eq_getElem?_getD, List.getD_eq_getElem?_getD, List.getElem?_append_left (by omega), List.length_append]
    congr 1
    exact decide_eq_decide.2 (by omega)
  · rw [sd_out (.inl (by omega)), sd_out (.inl (by omega))]
theorem sd_aft {p : Int → Bool} {a t : List UInt8} {j : Int} (h : 0 ≤ j) : sd p (a ++ t) (a.length + j) = sd p t j := by
  rw [Int.add_comm]; exact sh_app a t p j h

/-- A number's own bytes, and something behind them. -/
theorem own_ag {r t : List UInt8} {N : Nat} (hN : N ≤ r.length) (h1 : sd dgI t 0 = false) (h2 : sd (inS eB) t 0 = false) (h3 : sd dgI t 1 = false) : Ag r (r.take N ++ t) N := by
  have hl : (r.take N).length = N := by rw [List.length_take]; omega
  have e0 : ∀ p, sd p (r.take N ++ t) N = sd p t 0 := fun p => by
    have := sd_aft (p := p) (a := r.take N) (t := t) (j := 0) (Int.le_refl _)
    rw [hl, Int.add_zero] at this; exact this
  refine ⟨fun p j h0 hj => ?_, by rw [e0]; exact h1, by rw [e0]; exact h2, fun _ => ?_⟩
  · have a := sd_fore (p := p) (a := r.take N) (t := t) (j := j) (by rw [hl]; exact hj)
    have b := sd_fore (p := p) (a := r.take N) (t := r.drop N) (j := j) (by rw [hl]; exact hj)
    rw [List.take_append_drop] at b
    rw [a, b]
  · have := sd_aft (p := dgI) (a := r.take N) (t := t) (j := 1) (by decide)
    rw [hl] at this; rw [this]; exact h3
theorem own_yes {r t : List UInt8} {N : Nat} {k : Int} (hr : numA r 0 = ⟨k, N, true⟩) (h1 : sd moreI t 0 = false) (h3 : sd dgI t 1 = false) : numA (r.take N ++ t) 0 = ⟨k, N, true⟩ := by
  have hy := num_yes (l := r) (i := 0) (by rw [hr])
  rw [hr] at hy
  have hN : N ≤ r.length := by have := hy.2.2.1; simp at this; omega
  have hl : (r.take N).length = N := by rw [List.length_take]; omega
  have hA := own_ag hN (sd_less (p := dgI) (fun x hx => by rw [dg_iff] at hx; rw [more_iff]; omega) h1) (sd_less (p := inS eB) (fun x hx => by rw [e_iff] at hx; rw [more_iff]; omega) h1) h3
  have e0 : ∀ p, sd p (r.take N ++ t) N = sd p t 0 := fun p => by
    have := sd_aft (p := p) (a := r.take N) (t := t) (j := 0) (Int.le_refl _)
    rw [hl, Int.add_zero] at this; exact this
  rcases ag_num hA (by rw [hr]) (by rw [hr]) with h | ⟨h, _⟩
  · rw [h, finA_f (by rw [e0]; exact h1), hr]
  · rw [e0, sd_less (p := inS dotB) (fun x hx => by rw [dot_iff] at hx; rw [more_iff]; omega) h1] at h; cases h

end Go.Proofs.YtpcijjdlppoblaaGreatDoor.Sc
