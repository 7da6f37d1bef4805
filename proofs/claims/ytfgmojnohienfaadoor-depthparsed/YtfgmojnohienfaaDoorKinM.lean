/- The terminals' texts; which terminal a text asks for (plain mathematics). -/
import Derived.Test.YtfgmojnohienfaaDoorBytes
namespace Go.Proofs.YtfgmojnohienfaaDoor
open Go.RowKit
set_option linter.unusedVariables false

/-- A terminal's text; empty if it has none. -/
def stK : Nat → List UInt8
  | 1 => [33]
  | 2 => [36]
  | 3 => [38]
  | 4 => [40]
  | 5 => [41]
  | 6 => [46, 46, 46]
  | 7 => [58]
  | 8 => [61]
  | 9 => [64]
  | 10 => [91]
  | 11 => [93]
  | 12 => [123]
  | 13 => [124]
  | 14 => [125]
  | 19 => [113, 117, 101, 114, 121]
  | 20 => [109, 117, 116, 97, 116, 105, 111, 110]
  | 21 => [115, 117, 98, 115, 99, 114, 105, 112, 116, 105, 111, 110]
  | 22 => [102, 114, 97, 103, 109, 101, 110, 116]
  | 23 => [111, 110]
  | 24 => [116, 121, 112, 101]
  | 25 => [105, 110, 116, 101, 114, 102, 97, 99, 101]
  | 26 => [101, 110, 117, 109]
  | 27 => [117, 110, 105, 111, 110]
  | 28 => [105, 110, 112, 117, 116]
  | 29 => [115, 99, 97, 108, 97, 114]
  | 30 => [105, 109, 112, 108, 101, 109, 101, 110, 116, 115]
  | _ => []
/-- The first terminal from te on, of n, that has that text; else o. -/
def fndK (s : List UInt8) (o : Nat) : Nat → Nat → Nat
  | _, 0 => o
  | te, n + 1 => if stK te = s then te else fndK s o (te + 1) n
def punK (s : List UInt8) : Nat := fndK s 0 1 14
def namK (s : List UInt8) : Nat := fndK s 18 19 12
/-- The terminal of a token of kind k and text s. -/
def ofK (k : Int) (s : List UInt8) : Nat := if k = 1 then punK s else if k = 2 then namK s else if k = 3 then 15 else if k = 4 then 16 else if k = 5 then 17 else 0
theorem fndK_no {s : List UInt8} {o : Nat} : ∀ (n te : Nat), (∀ c, te ≤ c → c < te + n → stK c ≠ s) → fndK s o te n = o
  | 0, _, _ => rfl
  | n + 1, te, h => by
    rw [fndK, if_neg (h te (Nat.le_refl _) (by omega))]
    exact fndK_no n (te + 1) fun c h1 h2 => h c (by omega) (by omega)
theorem fndK_cases {s : List UInt8} {o : Nat} : ∀ (n te : Nat), (∃ c, te ≤ c ∧ c < te + n ∧ stK c = s ∧ fndK s o te n = c) ∨ ((∀ c, te ≤ c → c < te + n → stK c ≠ s) ∧ fndK s o te n = o)
  | 0, te => .inr ⟨fun c h1 h2 => by omega, rfl⟩
  | n + 1, te => by
    by_cases h : stK te = s
    · exact .inl ⟨te, Nat.le_refl _, by omega, h, by rw [fndK, if_pos h]⟩
    · rcases fndK_cases (s := s) (o := o) n (te + 1) with ⟨c, h1, h2, h3, h4⟩ | ⟨h1, h2⟩
      · exact .inl ⟨c, by omega, by omega, h3, by rw [fndK, if_neg h]; exact h4⟩
      · refine .inr ⟨fun c h3 h4 => ?_, by rw [fndK, if_neg h]; exact h2⟩
        by_cases hc : c = te
        · subst hc; exact h
        · exact h1 c (by omega) (by omega)
theorem pun_cases (s : List UInt8) : (∃ c, 1 ≤ c ∧ c ≤ 14 ∧ s = stK c ∧ punK s = c) ∨ ((∀ c, 1 ≤ c → c ≤ 14 → stK c ≠ s) ∧ punK s = 0) := by
  rcases fndK_cases (s := s) (o := 0) 14 1 with ⟨c, h1, h2, h3, h4⟩ | ⟨h1, h2⟩
  · exact .inl ⟨c, h1, by omega, h3.symm, h4⟩
  · exact .inr ⟨fun c h3 h4 => h1 c h3 (by omega), h2⟩
theorem nam_cases (s : List UInt8) : (∃ c, 19 ≤ c ∧ c ≤ 30 ∧ s = stK c ∧ namK s = c) ∨ ((∀ c, 19 ≤ c → c ≤ 30 → stK c ≠ s) ∧ namK s = 18) := by
  rcases fndK_cases (s := s) (o := 18) 12 19 with ⟨c, h1, h2, h3, h4⟩ | ⟨h1, h2⟩
  · exact .inl ⟨c, h1, by omega, h3.symm, h4⟩
  · exact .inr ⟨fun c h3 h4 => h1 c h3 (by omega), h2⟩
theorem pun_le (s : List UInt8) : punK s ≤ 14 := by
  rcases pun_cases s with ⟨c, _, h, _, e⟩ | ⟨_, e⟩ <;> omega
theorem nam_ge (s : List UInt8) : 18 ≤ namK s ∧ namK s ≤ 30 := by
  rcases nam_cases s with ⟨c, h1, h2, _, e⟩ | ⟨_, e⟩ <;> omega
theorem of_le (k : Int) (s : List UInt8) : ofK k s ≤ 30 := by
  have := pun_le s; have := nam_ge s
  unfold ofK; repeat' split
  all_goals omega
/-- Has a terminal a text? -/
def hasK (te : Int) : Bool := decide ((1 ≤ te ∧ te ≤ 14) ∨ (19 ≤ te ∧ te ≤ 30))
theorem stK_none : ∀ c : Nat, c < 31 → hasK c = false → stK c = [] := by decide +kernel
theorem stK_some : ∀ c : Nat, c < 31 → hasK c = true → stK c ≠ [] := by decide +kernel
theorem stK_short : ∀ c : Nat, c < 31 → (stK c).length ≤ 12 := by decide +kernel
/-- Is a terminal in a class? -/
def inK (cl te : Int) : Bool := (cl == 0 && decide (18 ≤ te ∧ te ≤ 30)) || (cl == 1 && decide (18 ≤ te ∧ te ≤ 30 ∧ te ≠ 23)) || (cl == 2 && decide (19 ≤ te ∧ te ≤ 21))
end Go.Proofs.YtfgmojnohienfaaDoor
