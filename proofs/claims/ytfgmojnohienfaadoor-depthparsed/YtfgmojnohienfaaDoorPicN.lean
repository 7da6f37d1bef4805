/- What holds of all rules and terminals (plain mathematics). -/
import Derived.Test.YtfgmojnohienfaaDoorPicM
namespace Go.Proofs.YtfgmojnohienfaaDoor
open Go.RowKit
set_option linter.unusedVariables false
set_option maxRecDepth 100000

/-- What the first questions of a symbol come to: symbols of terminals, and classes. -/
def lfL (f : Sq → List Sq) : List Sq → List Sq
  | [] => []
  | t :: l => f t ++ (if mayN t then lfL f l else [])
def lfD : Nat → Sq → List Sq
  | d, t => if t.k = 0 then [t] else if t.k = 2 then [t] else if t.k = 1 then (match d with | 0 => [] | e + 1 => (ofR t.n).flatMap fun i => lfL (lfD e) (plR i)) else []
def hitB (te : Int) (t : Sq) : Bool := if t.k = 0 then t.n == te && te != 0 else inK t.n te
theorem lfL_hit {te : Int} {f : Sq → List Sq} {g : Sq → Bool} (h : ∀ t, (f t).any (hitB te) = g t) : ∀ l, (lfL f l).any (hitB te) = goB g l
  | [] => rfl
  | t :: l => by
    rw [lfL, List.any_append, h t, goB]
    cases mayN t
    · simp
    · simp [lfL_hit h l]
theorem lfD_hit {te : Int} : ∀ (d : Nat) (t : Sq), (lfD d t).any (hitB te) = fitD d te t := by
  intro d
  induction d with
  | zero =>
    intro t
    unfold lfD fitD
    by_cases h0 : t.k = 0
    · simp [h0, hitB]
    · by_cases h2 : t.k = 2
      · simp [h2, hitB]
      · simp [h0, h2]
  | succ d ih =>
    intro t
    unfold lfD fitD
    by_cases h0 : t.k = 0
    · simp [h0, hitB]
    · by_cases h2 : t.k = 2
      · simp [h2, hitB]
      · by_cases h1 : t.k = 1
        · simp only [h1, show ¬ (1 : Int) = 0 by decide, show ¬ (1 : Int) = 2 by decide, if_false, if_true]
          rw [List.any_flatMap]
          congr 1
          funext i
          exact lfL_hit ih (plR i)
        · simp [h0, h1, h2]
/-- What rule i can begin with. -/
def lfR (i : Int) : List Sq := lfL (lfD 6) (plR i)
theorem lfR_hit (te i : Int) : (lfR i).any (hitB te) = begK te i := lfL_hit (fun t => lfD_hit 6 t) (plR i)
/-- The same, written out. -/
def lfT : Nat → List (Nat × Nat)
  | 0 => [(0, 12), (2, 2), (0, 22), (0, 29), (0, 24), (0, 25), (0, 26), (0, 27), (0, 28), (0, 17)]
  | 2 => [(0, 12), (2, 2), (0, 22), (0, 29), (0, 24), (0, 25), (0, 26), (0, 27), (0, 28), (0, 17)]
  | 3 => [(0, 12)]
  | 4 => [(2, 2)]
  | 5 => [(0, 22)]
  | 6 => [(0, 29), (0, 24), (0, 25), (0, 26), (0, 27), (0, 28)]
  | 7 => [(0, 17)]
  | 9 => [(2, 0)]
  | 11 => [(0, 4)]
  | 13 => [(0, 2)]
  | 14 => [(0, 2)]
  | 16 => [(0, 8)]
  | 17 => [(2, 0)]
  | 18 => [(0, 10)]
  | 20 => [(0, 1)]
  | 22 => [(0, 9)]
  | 24 => [(0, 4)]
  | 26 => [(2, 0)]
  | 27 => [(2, 0)]
  | 28 => [(0, 2)]
  | 29 => [(0, 15)]
  | 30 => [(0, 16)]
  | 31 => [(0, 17)]
  | 32 => [(2, 0)]
  | 33 => [(0, 10)]
  | 34 => [(0, 12)]
  | 36 => [(0, 2), (0, 15), (0, 16), (0, 17), (2, 0), (0, 10), (0, 12)]
  | 38 => [(0, 2), (0, 15), (0, 16), (0, 17), (2, 0), (0, 10), (0, 12)]
  | 40 => [(2, 0)]
  | 41 => [(0, 12)]
  | 43 => [(2, 0), (0, 6)]
  | 44 => [(2, 0)]
  | 45 => [(0, 6)]
  | 47 => [(0, 7)]
  | 49 => [(0, 12)]
  | 50 => [(0, 23)]
  | 51 => [(2, 1)]
  | 52 => [(0, 9)]
  | 53 => [(0, 12)]
  | 54 => [(0, 29)]
  | 55 => [(0, 24)]
  | 56 => [(0, 25)]
  | 57 => [(0, 26)]
  | 58 => [(0, 27)]
  | 59 => [(0, 28)]
  | 61 => [(0, 30)]
  | 63 => [(0, 3)]
  | 65 => [(0, 3)]
  | 66 => [(0, 12)]
  | 68 => [(0, 17), (2, 0)]
  | 69 => [(0, 17), (2, 0)]
  | 71 => [(0, 17)]
  | 73 => [(0, 4)]
  | 75 => [(0, 17), (2, 0)]
  | 76 => [(0, 17), (2, 0)]
  | 77 => [(0, 12)]
  | 79 => [(0, 17), (2, 0)]
  | 80 => [(0, 17), (2, 0)]
  | 82 => [(0, 8)]
  | 84 => [(0, 13)]
  | 86 => [(0, 13)]
  | 87 => [(0, 12)]
  | 89 => [(0, 17), (2, 0)]
  | _ => []
def lfS (i : Nat) : List Sq := (lfT i).map fun p => ⟨p.1, p.2⟩
theorem lfT_eq : ∀ i, i < 90 → sameS (lfR (i : Nat)) (lfS i) = true := by decide +kernel
theorem sameS_eq : ∀ {a b : List Sq}, sameS a b = true → a = b
  | [], [], _ => rfl
  | [], _ :: _, h => by simp [sameS] at h
  | _ :: _, [], h => by simp [sameS] at h
  | ⟨k, n⟩ :: a, ⟨k', n'⟩ :: b, h => by
    simp only [sameS, Bool.and_eq_true, beq_iff_eq] at h
    rw [h.1.1, h.1.2, sameS_eq h.2]
def begT (te : Int) (i : Nat) : Bool := (lfS i).any (hitB te)
theorem begK_T (te : Int) {i : Nat} (h : i < 90) : begK te i = begT te i := by
  rw [← lfR_hit, sameS_eq (lfT_eq i h)]; rfl
end Go.Proofs.YtfgmojnohienfaaDoor
