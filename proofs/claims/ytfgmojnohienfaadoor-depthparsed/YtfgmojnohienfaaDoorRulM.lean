/- The rules' codes, and what they stand for (plain mathematics). -/
import Derived.Test.YtfgmojnohienfaaDoorBytes
namespace Go.Proofs.YtfgmojnohienfaaDoor
open Go.RowKit
set_option linter.unusedVariables false

/-- The codes of rule i: its variable, and behind it the symbols. -/
def codR : Nat → List UInt8
  | 0 => [0, 2, 1]
  | 1 => [1]
  | 2 => [1, 103, 103, 2, 1]
  | 3 => [2, 18]
  | 4 => [2, 97, 3, 4, 10, 99, 18]
  | 5 => [2, 86, 99, 96, 99, 87, 99, 95, 10, 99, 18]
  | 6 => [2, 24]
  | 7 => [2, 81, 103, 24]
  | 8 => [3]
  | 9 => [3, 99, 95]
  | 10 => [4]
  | 11 => [4, 104, 68, 106, 101, 6, 5, 107, 101, 69, 105]
  | 12 => [5]
  | 13 => [5, 102, 6, 5]
  | 14 => [6, 66, 95, 71, 99, 8, 7, 10]
  | 15 => [7]
  | 16 => [7, 99, 72, 99, 14]
  | 17 => [8, 95, 9]
  | 18 => [8, 74, 8, 75, 9]
  | 19 => [9]
  | 20 => [9, 65]
  | 21 => [10]
  | 22 => [10, 99, 73, 95, 11, 10]
  | 23 => [11]
  | 24 => [11, 104, 68, 106, 101, 13, 12, 107, 101, 69, 105]
  | 25 => [12]
  | 26 => [12, 102, 13, 12]
  | 27 => [13, 95, 71, 99, 14]
  | 28 => [14, 66, 95]
  | 29 => [14, 79]
  | 30 => [14, 80]
  | 31 => [14, 81]
  | 32 => [14, 95]
  | 33 => [14, 104, 74, 15, 75, 105]
  | 34 => [14, 104, 76, 17, 78, 105]
  | 35 => [15]
  | 36 => [15, 106, 101, 14, 16, 107, 101]
  | 37 => [16]
  | 38 => [16, 102, 14, 16]
  | 39 => [17]
  | 40 => [17, 106, 100, 13, 12, 107, 100]
  | 41 => [18, 76, 106, 103, 20, 19, 107, 103, 78]
  | 42 => [19]
  | 43 => [19, 103, 20, 19]
  | 44 => [20, 95, 21, 11, 10, 22]
  | 45 => [20, 70, 23]
  | 46 => [21]
  | 47 => [21, 71, 99, 95]
  | 48 => [22]
  | 49 => [22, 99, 18]
  | 50 => [23, 99, 87, 99, 95, 10, 99, 18]
  | 51 => [23, 96, 10]
  | 52 => [23, 99, 73, 95, 11, 10, 99, 18]
  | 53 => [23, 99, 18]
  | 54 => [24, 93, 99, 95, 10]
  | 55 => [24, 88, 99, 95, 25, 10, 99, 28]
  | 56 => [24, 89, 99, 95, 25, 10, 99, 28]
  | 57 => [24, 90, 99, 95, 10, 99, 35]
  | 58 => [24, 91, 99, 95, 10, 38]
  | 59 => [24, 92, 99, 95, 10, 99, 41]
  | 60 => [25]
  | 61 => [25, 99, 94, 99, 26, 95, 27]
  | 62 => [26]
  | 63 => [26, 67, 99]
  | 64 => [27]
  | 65 => [27, 99, 67, 99, 95, 27]
  | 66 => [28, 76, 106, 103, 30, 29, 107, 103, 78]
  | 67 => [29]
  | 68 => [29, 103, 30, 29]
  | 69 => [30, 31, 95, 32, 71, 99, 8, 10]
  | 70 => [31]
  | 71 => [31, 81, 103]
  | 72 => [32]
  | 73 => [32, 104, 68, 106, 101, 34, 33, 107, 101, 69, 105]
  | 74 => [33]
  | 75 => [33, 102, 34, 33]
  | 76 => [34, 31, 95, 71, 99, 8, 7, 10]
  | 77 => [35, 76, 106, 103, 37, 36, 107, 103, 78]
  | 78 => [36]
  | 79 => [36, 103, 37, 36]
  | 80 => [37, 31, 95, 10]
  | 81 => [38]
  | 82 => [38, 99, 72, 99, 39, 95, 40]
  | 83 => [39]
  | 84 => [39, 77, 99]
  | 85 => [40]
  | 86 => [40, 99, 77, 99, 95, 40]
  | 87 => [41, 76, 106, 103, 34, 42, 107, 103, 78]
  | 88 => [42]
  | 89 => [42, 103, 34, 42]
  | _ => []
/-- A symbol as it lies in a row. -/
structure Sq where
  k : Int
  n : Int
/-- The symbol of a code. -/
def symZ (c : Int) : Sq := if 98 ≤ c then ⟨3, c - 98⟩ else if 95 ≤ c then ⟨2, c - 95⟩ else if 64 ≤ c then ⟨0, c - 64⟩ else ⟨1, c⟩
def symC (c : UInt8) : Sq := symZ (c.toNat : Int)
def varR (i : Nat) : Nat := ((codR i).headD 0).toNat
def tlR (i : Nat) : List UInt8 := (codR i).tail
def symR (i : Nat) : List Sq := (tlR i).map symC
theorem codR_eq : ∀ i, i < 90 → codR i = UInt8.ofNat (varR i) :: tlR i := by decide +kernel
theorem varR_lt : ∀ i, i < 90 → varR i < 43 := by decide +kernel
theorem tlR_len : ∀ i, i < 90 → (tlR i).length ≤ 10 := by decide +kernel
theorem tlR_low : ∀ i, i < 90 → ∀ c ∈ tlR i, c.toNat < 128 := by decide +kernel
theorem symR_len (i : Nat) : (symR i).length = (tlR i).length := by rw [symR, List.length_map]
/-- Are two rows of symbols the same? -/
def sameS : List Sq → List Sq → Bool
  | [], [] => true
  | a :: l, b :: m => (a.k == b.k && a.n == b.n) && sameS l m
  | _, _ => false
theorem sameS_refl : ∀ l, sameS l l = true
  | [] => rfl
  | a :: l => by simp [sameS, sameS_refl l]
theorem sameS_len : ∀ l m, l.length ≠ m.length → sameS l m = false
  | [], [], h => absurd rfl h
  | [], _ :: _, _ => rfl
  | _ :: _, [], _ => rfl
  | a :: l, b :: m, h => by
    have : l.length ≠ m.length := fun e => h (by simp [e])
    simp [sameS, sameS_len l m this]
/-- The symbols of a row that are no marks. -/
def plS (l : List Sq) : List Sq := l.filter fun t => !(t.k == 3)
theorem plS_le (l : List Sq) : (plS l).length ≤ l.length := List.length_filter_le _ _
theorem plS_twice (l : List Sq) : plS (plS l) = plS l := by simp [plS, List.filter_filter]
theorem plS_app (a b : List Sq) : plS (a ++ b) = plS a ++ plS b := by simp [plS]
theorem plS_mem {l : List Sq} {t : Sq} (h : t ∈ plS l) : t.k ≠ 3 := by
  have := (List.mem_filter.1 h).2
  simpa using this
theorem plS_take {l : List Sq} {k : Nat} {t : Sq} (h : l[k]? = some t) : plS (l.take (k + 1)) = plS (l.take k) ++ (if t.k = 3 then [] else [t]) := by
  rw [List.take_add_one, h, Option.toList_some, plS_app]
  by_cases h3 : t.k = 3 <;> simp [plS, h3]
/-- The numbers of the rules of variable v, of the first n. -/
def ofN (v : Int) (n : Nat) : List Int := ((List.range n).filter fun i => (varR i : Int) == v).map fun i : Nat => (i : Int)
def ofR (v : Int) : List Int := ofN v 90
theorem ofN_succ (v : Int) (n : Nat) : ofN v (n + 1) = ofN v n ++ (if (varR n : Int) = v then [(n : Int)] else []) := by
  unfold ofN
  rw [List.range_succ, List.filter_append, List.map_append]
  by_cases h : (varR n : Int) = v <;> simp [h]
theorem ofN_len (v : Int) (n : Nat) : (ofN v n).length ≤ n := by
  unfold ofN
  rw [List.length_map]
  exact Nat.le_trans (List.length_filter_le _ _) (by simp)
theorem ofR_mem {v x : Int} : x ∈ ofR v ↔ ∃ i : Nat, i < 90 ∧ (varR i : Int) = v ∧ x = (i : Int) := by
  unfold ofR ofN
  simp only [List.mem_map, List.mem_filter, List.mem_range, beq_iff_eq]
  constructor
  · rintro ⟨i, ⟨h1, h2⟩, rfl⟩; exact ⟨i, h1, h2, rfl⟩
  · rintro ⟨i, h1, h2, rfl⟩; exact ⟨i, ⟨h1, h2⟩, rfl⟩
theorem ofR_none {v : Int} (h : v < 0 ∨ 43 ≤ v) : ofR v = [] := by
  apply List.eq_nil_iff_forall_not_mem.2
  intro x hx
  obtain ⟨i, h1, h2, _⟩ := ofR_mem.1 hx
  have := varR_lt i h1
  omega
end Go.Proofs.YtfgmojnohienfaaDoor
