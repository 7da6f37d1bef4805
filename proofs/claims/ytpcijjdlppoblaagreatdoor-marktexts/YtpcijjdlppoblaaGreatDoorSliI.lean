/- The rules' codes, and what they stand for (plain mathematics). -/
import Derived.Test.YtpcijjdlppoblaaGreatDoorTokR
import Derived.Laws.AppendOwnNone
import Derived.Deep.Slices
import Derived.Deep.Fields
import Derived.ProofKit
import Derived.OpenShut
import Derived.Carry
namespace Go.Proofs.YtpcijjdlppoblaaGreatDoor
open Go.RowKit
set_option linter.unusedVariables false

/-- The codes of rule i: its variable, and behind it the symbols. -/
def codR : Nat → List UInt8
  | 0 => [0, 2, 1]
  | 1 => [1]
  | 2 => [1, 103, 103, 2, 1]
  | 3 => [2, 18]
  | 4 => [2, 97, 3, 4, 10, 99, 18]
  | 5 => [2, 86, 99, 96, 99, 87, 99, 95, 10, 99, 18]
  | 6 => [2, 24]
  | 7 => [2, 81, 103, 24]
  | 8 => [3]
  | 9 => [3, 99, 95]
  | 10 => [4]
  | 11 => [4, 104, 68, 106, 101, 6, 5, 107, 101, 69, 105]
  | 12 => [5]
  | 13 => [5, 102, 6, 5]
  | 14 => [6, 66, 95, 71, 99, 8, 7, 10]
  | 15 => [7]
  | 16 => [7, 99, 72, 99, 14]
  | 17 => [8, 95, 9]
  | 18 => [8, 74, 8, 75, 9]
  | 19 => [9]
  | 20 => [9, 65]
  | 21 => [10]
  | 22 => [10, 99, 73, 95, 11, 10]
  | 23 => [11]
  | 24 => [11, 104, 68, 106, 101, 13, 12, 107, 101, 69, 105]
  | 25 => [12]
  | 26 => [12, 102, 13, 12]
  | 27 => [13, 95, 71, 99, 14]
  | 28 => [14, 66, 95]
  | 29 => [14, 79]
  | 30 => [14, 80]
  | 31 => [14, 81]
  | 32 => [14, 95]
  | 33 => [14, 104, 74, 15, 75, 105]
  | 34 => [14, 104, 76, 17, 78, 105]
  | 35 => [15]
  | 36 => [15, 106, 101, 14, 16, 107, 101]
  | 37 => [16]
  | 38 => [16, 102, 14, 16]
  | 39 => [17]
  | 40 => [17, 106, 100, 13, 12, 107, 100]
  | 41 => [18, 76, 106, 103, 20, 19, 107, 103, 78]
  | 42 => [19]
  | 43 => [19, 103, 20, 19]
  | 44 => [20, 95, 21, 11, 10, 22]
  | 45 => [20, 70, 23]
  | 46 => [21]
  | 47 => [21, 71, 99, 95]
  | 48 => [22]
  | 49 => [22, 99, 18]
  | 50 => [23, 99, 87, 99, 95, 10, 99, 18]
  | 51 => [23, 96, 10]
  | 52 => [23, 99, 73, 95, 11, 10, 99, 18]
  | 53 => [23, 99, 18]
  | 54 => [24, 93, 99, 95, 10]
  | 55 => [24, 88, 99, 95, 25, 10, 99, 28]
  | 56 => [24, 89, 99, 95, 25, 10, 99, 28]
  | 57 => [24, 90, 99, 95, 10, 99, 35]
  | 58 => [24, 91, 99, 95, 10, 38]
  | 59 => [24, 92, 99, 95, 10, 99, 41]
  | 60 => [25]
  | 61 => [25, 99, 94, 99, 26, 95, 27]
  | 62 => [26]
  | 63 => [26, 67, 99]
  | 64 => [27]
  | 65 => [27, 99, 67, 99, 95, 27]
  | 66 => [28, 76, 106, 103, 30, 29, 107, 103, 78]
  | 67 => [29]
  | 68 => [29, 103, 30, 29]
  | 69 => [30, 31, 95, 32, 71, 99, 8, 10]
  | 70 => [31]
  | 71 => [31, 81, 103]
  | 72 => [32]
  | 73 => [32, 104, 68, 106, 101, 34, 33, 107, 101, 69, 105]
  | 74 => [33]
  | 75 => [33, 102, 34, 33]
  | 76 => [34, 31, 95, 71, 99, 8, 7, 10]
  | 77 => [35, 76, 106, 103, 37, 36, 107, 103, 78]
  | 78 => [36]
  | 79 => [36, 103, 37, 36]
  | 80 => [37, 31, 95, 10]
  | 81 => [38]
  | 82 => [38, 99, 72, 99, 39, 95, 40]
  | 83 => [39]
  | 84 => [39, 77, 99]
  | 85 => [40]
  | 86 => [40, 99, 77, 99, 95, 40]
  | 87 => [41, 76, 106, 103, 34, 42, 107, 103, 78]
  | 88 => [42]
  | 89 => [42, 103, 34, 42]
  | _ => []
/-- A symbol as it lies in a row. -/
structure Sq where
  k : Int
  n : Int
/-- The symbol of a code. -/
def symZ (c : Int) : Sq := if 98 ≤ c then ⟨3, c - 98⟩ else if 95 ≤ c then ⟨2, c - 95⟩ else if 64 ≤ c then ⟨0, c - 64⟩ else ⟨1, c⟩
def symC (c : UInt8) : Sq := symZ (c.toNat : Int)
def varR (i : Nat) : Nat := ((codR i).headD 0).toNat
def tlR (i : Nat) : List UInt8 := (codR i).tail
def symR (i : Nat) : List Sq := (tlR i).map symC
theorem codR_eq : ∀ i, i < 90 → codR i = UInt8.ofNat (varR i) :: tlR i := by decide +kernel
theorem varR_lt : ∀ i, i < 90 → varR i < 43 := by decide +kernel
theorem tlR_len : ∀ i, i < 90 → (tlR i).length ≤ 10 := by decide +kernel
theorem tlR_low : ∀ i, i < 90 → ∀ c ∈ tlR i, c.toNat < 128 := by decide +kernel
theorem symR_len (i : Nat) : (symR i).length = (tlR i).length := by rw [symR, List.length_map]
/-- Are two rows of symbols the same? -/
def sameS : List Sq → List Sq → Bool
  | [], [] => true
  | a :: l, b :: m => (a.k == b.k && a.n == b.n) && sameS l m
  | _, _ => false
theorem sameS_refl : ∀ l, sameS l l = true
  | [] => rfl
  | a :: l => by simp [sameS, sameS_refl l]
theorem sameS_len : ∀ l m, l.length ≠ m.length → sameS l m = false
  | [], [], h => absurd rfl h
  | [], _ :: _, _ => rfl
  | _ :: _, [], _ => rfl
  | a :: l, b :: m, h => by
    have : l.length ≠ m.length := fun e => h (by simp [e])
    simp [sameS, sameS_len l m this]
/-- The symbols of a row that are no marks. -/
def plS (l : List Sq) : List Sq := l.filter fun t => !(t.k == 3)
theorem plS_le (l : List Sq) : (plS l).length ≤ l.length := List.length_filter_le _ _
theorem plS_twice (l : List Sq) : plS (plS l) = plS l := by simp [plS, List.filter_filter]
theorem plS_app (a b : List Sq) : plS (a ++ b) = plS a ++ plS b := by simp [plS]
theorem plS_mem {l : List Sq} {t : Sq} (h : t ∈ plS l) : t.k ≠ 3 := by
  have := (List.mem_filter.1 h).2
  simpa using this
theorem plS_take {l : List Sq} {k : Nat} {t : Sq} (h : l[k]? = some t) : plS (l.take (k + 1)) = plS (l.take k) ++ (if t.k = 3 then [] else [t]) := by
  rw [List.take_add_one, h, Option.toList_some, plS_app]
  by_cases h3 : t.k = 3 <;> simp [plS, h3]
/-- The numbers of the rules of variable v, of the first n. -/
def ofN (v : Int) (n : Nat) : List Int := ((List.range n).filter fun i => (varR i : Int) == v).map fun i : Nat => (i : Int)
def ofR (v : Int) : List Int := ofN v 90
theorem ofN_succ (v : Int) (n : Nat) : ofN v (n + 1) = ofN v n ++ (if (varR n : Int) = v then [(n : Int)] else []) := by
  unfold ofN
  rw [List.range_succ, List.filter_append, List.map_append]
  by_cases h : (varR n : Int) = v <;> simp [h]
theorem ofN_len (v : Int) (n : Nat) : (ofN v n).length ≤ n := by
  unfold ofN
  rw [List.length_map]
  exact Nat.le_trans (List.length_filter_le _ _) (by simp)
theorem ofR_mem {v x : Int} : x ∈ ofR v ↔ ∃ i : Nat, i < 90 ∧ (varR i : Int) = v ∧ x = (i : Int) := by
  unfold ofR ofN
  simp only [List.mem_map, List.mem_filter, List.mem_range, beq_iff_eq]
  constructor
  · rintro ⟨i, ⟨h1, h2⟩, rfl⟩; exact ⟨i, h1, h2, rfl⟩
  · rintro ⟨i, h1, h2, rfl⟩; exact ⟨i, ⟨h1, h2⟩, rfl⟩
theorem ofR_none {v : Int} (h : v < 0 ∨ 43 ≤ v) : ofR v = [] := by
  apply List.eq_nil_iff_forall_not_mem.2
  intro x hx
  obtain ⟨i, h1, h2, _⟩ := ofR_mem.1 hx
  have := varR_lt i h1
  omega
end Go.Proofs.YtpcijjdlppoblaaGreatDoor

/- Rows of symbols. -/
namespace Go.Proofs.YtpcijjdlppoblaaGreatDoor
open Go.RowKit
set_option linter.unusedVariables false

/-- A row of symbols from A on. -/
def Sr (w : World) (A : Option Addr) (ts : List Sq) : Prop := ∀ j t, ts[j]? = some t → ∃ b o : Nat, A = some ⟨b, o, none⟩ ∧
  w.cell? ⟨b, o + j * 2, none⟩ = some (.int .i64 t.k) ∧ w.cell? ⟨b, o + j * 2 + 1, none⟩ = some (.int .i64 t.n)
theorem Sr.nil (w : World) (A : Option Addr) : Sr w A [] := fun j t h => by simp at h
theorem Sr.below {w w' : World} {A : Option Addr} {ts : List Sq} (h : Sr w A ts) (hb : Below w.heap.size w w') : Sr w' A ts := fun j t ht => by
  obtain ⟨b, o, h0, h1, h2⟩ := h j t ht
  exact ⟨b, o, h0, bel_cell hb h1, bel_cell hb h2⟩
theorem infoSym : (Tryz.prog.info? 59).map (fun i => (i.zero, i.size, i.bytes)) = some (some (.agg #[.int .i64 0, .int .i64 0]), 2, 16) := by kernel_rfl
/-- A row's cells. -/
def cly (ts : List Sq) : List Value := ts.flatMap fun t => [.int .i64 t.k, .int .i64 t.n]
theorem cly_len (ts : List Sq) : (cly ts).length = ts.length * 2 := by
  induction ts with
  | nil => rfl
  | cons t ts ih => rw [cly, List.flatMap_cons, List.length_append]; change 2 + (cly ts).length = _; rw [ih, List.length_cons]; omega
theorem cly_append (a b : List Sq) : cly (a ++ b) = cly a ++ cly b := by simp [cly]
theorem cly_one (ts : List Sq) : ∀ u ∈ cly ts, u.oneCell' = true := by
  intro u hu
  simp only [cly, List.mem_flatMap] at hu
  obtain ⟨t, _, hu⟩ := hu
  simp at hu
  rcases hu with rfl | rfl <;> rfl
theorem cly_at {ts : List Sq} {j : Nat} {t : Sq} (h : ts[j]? = some t) : (cly ts)[j * 2]? = some (.int .i64 t.k) ∧ (cly ts)[j * 2 + 1]? = some (.int .i64 t.n) := by
  induction ts generalizing j with
  | nil => simp at h
  | cons x ts ih =>
    have e : cly (x :: ts) = .int .i64 x.k :: .int .i64 x.n :: cly ts := rfl
    rw [e]
    cases j with
    | zero =>
      obtain rfl : x = t := by simpa using h
      exact ⟨rfl, rfl⟩
    | succ j =>
      have := ih (j := j) (by simpa using h)
      rw [show (j + 1) * 2 = j * 2 + 2 by omega]
      exact this
theorem sr_news {w : World} {ad : Addr} {ts : List Sq} (h : Sr w (some ad) ts) : ∀ j u, (cly ts)[j]? = some u → w.cell? (ad.add j) = some u := fun j u hj => by
  have hl := (List.getElem?_eq_some_iff.1 hj).1
  rw [cly_len] at hl
  have hd : j / 2 < ts.length := by omega
  obtain ⟨t, ht⟩ : ∃ t, ts[j / 2]? = some t := ⟨_, List.getElem?_eq_getElem hd⟩
  obtain ⟨b, o, e, c0, c1⟩ := h (j / 2) t ht
  obtain rfl : ad = ⟨b, o, none⟩ := Option.some.inj e
  obtain ⟨e0, e1⟩ := cly_at ht
  rw [Addr.add_lit]
  have hm : j % 2 = 0 ∨ j % 2 = 1 := by omega
  rcases hm with hm | hm
  · have ej : j = j / 2 * 2 := by omega
    rw [ej] at hj ⊢; rw [e0] at hj; rw [← hj]; exact c0
  · have ej : j = j / 2 * 2 + 1 := by omega
    rw [ej] at hj ⊢; rw [e1] at hj; rw [← hj, ← Nat.add_assoc]; exact c1
theorem sr_row {w : World} {base n c : Nat} {A : Option Addr} {ts : List Sq} (h : w.ownsRow base 59 2 (.slice A n c) ts.length (cly ts)) : n = ts.length ∧ Sr w A ts ∧ (A = none → n = 0 ∧ c = 0) := by
  obtain ⟨hl, ⟨h1, h2⟩ | ⟨g, cap, cur, h1, h3, h4, h5, h6, h7, h8⟩⟩ := h
  · injection h1 with h1 h1' h1''
    have hy : ts = [] := List.length_eq_zero_iff.1 h2
    subst hy
    exact ⟨by rw [h1', List.length_nil], Sr.nil _ _, fun _ => ⟨h1', h1''⟩⟩
  · injection h1 with h1 h1' h1''
    refine ⟨h1', fun j t ht => ?_, fun e => by rw [h1] at e; cases e⟩
    obtain ⟨e0, e1⟩ := cly_at ht
    have hj : j < ts.length := (List.getElem?_eq_some_iff.1 ht).1
    have key : ∀ (m : Nat) (v : Value), m < ts.length * 2 → (cly ts)[m]? = some v → w.cell? ⟨g, m, none⟩ = some v := by
      intro m v hm hv
      rw [← h8, List.getElem?_take_of_lt hm] at hv
      simp [World.cell?, h4]
      simpa using hv
    refine ⟨g, 0, h1, ?_, ?_⟩
    · rw [Nat.zero_add]; exact key _ _ (by omega) e0
    · rw [Nat.zero_add]; exact key _ _ (by omega) e1
/-- 'append(l, ts...)', l the call's own. -/
theorem app_syms {w : World} {ops : Array Oper} {rest : List Oper} {o : Oper} {a : Act} {Q : Exit → Act → World → Prop} (hgd : o.guard = none) (s x : Operand)
    (ho : o.op = .call { callee := .builtin .append, args := #[s, x], argTypes := #[42, 42] })
    (base : Nat) (v : Value) (n : Nat) (qs : List Sq) (hs : a.eval s = v) (hown : w.ownsRow base 59 2 v n (cly qs))
    {A : Option Addr} {m c : Nat} {ts : List Sq} (hx : a.eval x = .slice A m c) (htr : Sr w A ts) (hm : ts.length = m) (hA : A = none → m = 0 ∧ c = 0)
    (hb : n + m ≤ 1000000) (hbase : base ≤ w.heap.size)
    (h : ∀ v' w', w'.ownsRow base 59 2 v' (n + m) (cly (qs ++ ts)) → w.grownBy w' v.ownBlock → wpList Tryz.prog ops Q rest (a.put o.dst v') w') : wpList Tryz.prog ops Q (o :: rest) a w := by
  obtain ⟨i0, hi, hz0, hz1, hz2⟩ := info_parts infoSym
  cases A with
  | none =>
    obtain ⟨rfl, rfl⟩ := hA rfl
    have hts : ts = [] := List.length_eq_zero_iff.1 hm
    subst hts
    refine wpList_append_own_none hgd s x 42 ho base 59 i0 2 Tryz.underlying42 hi v n (cly qs) hs hown hx ?_
    exact h v w (by rw [List.append_nil]; exact hown) (grown_refl w _)
  | some ad =>
    refine wpList_append_own _ hgd s x 42 ho base 59 i0 (.agg #[.int .i64 0, .int .i64 0]) 2 16 Tryz.underlying42 hi hz0 hz1 hz2 rfl (by decide) v n (cly qs) hs hown ad m c (cly ts) hx (by rw [cly_len, hm]) (sr_news htr) (cly_one ts) (by unfold maxLen; omega) (by omega) hbase ?_
    intro v' w' h1 h2 _
    exact h v' w' (by rw [cly_append]; exact h1) h2
/-- A block of one symbol, as a row. -/
theorem sr_one {w : World} {g : Nat} {k n : Int} {t : TypeId} {fr : Nat × Nat} (h : w.heap[g]? = some (.cells #[.int .i64 k, .int .i64 n] t fr)) : Sr w (some ⟨g, 0, none⟩) [⟨k, n⟩] := fun j s hj => by
  cases j with
  | zero =>
    obtain rfl : (⟨k, n⟩ : Sq) = s := by simpa using hj
    refine ⟨g, 0, rfl, ?_, ?_⟩ <;> simp [World.cell?, h]
  | succ j => simp at hj
end Go.Proofs.YtpcijjdlppoblaaGreatDoor

/- Rows of ints. -/
namespace Go.Proofs.YtpcijjdlppoblaaGreatDoor
open Go.RowKit
set_option linter.unusedVariables false

theorem infoI : (Tryz.prog.info? 3).map (fun i => (i.zero, i.size, i.bytes)) = some (some (.int .i64 0), 1, 8) := by kernel_rfl
def iv (x : Int) : Value := .int .i64 x
/-- A row of ints from A on. -/
def Ri (w : World) (A : Option Addr) (l : List Int) : Prop := ∀ j x, l[j]? = some x → ∃ b o : Nat, A = some ⟨b, o, none⟩ ∧ w.cell? ⟨b, o + j, none⟩ = some (.int .i64 x)
theorem Ri.nil (w : World) (A : Option Addr) : Ri w A [] := fun j t h => by simp at h
theorem Ri.below {w w' : World} {A : Option Addr} {l : List Int} (h : Ri w A l) (hb : Below w.heap.size w w') : Ri w' A l := fun j t ht => by
  obtain ⟨b, o, h0, h1⟩ := h j t ht
  exact ⟨b, o, h0, bel_cell hb h1⟩
theorem ri_row {w : World} {base n c : Nat} {A : Option Addr} {l : List Int} (h : w.ownsRow base 3 1 (.slice A n c) l.length (l.map iv)) : n = l.length ∧ Ri w A l ∧ (A = none → n = 0 ∧ c = 0) := by
  obtain ⟨hl, ⟨h1, h2⟩ | ⟨g, cap, cur, h1, h3, h4, h5, h6, h7, h8⟩⟩ := h
  · injection h1 with h1 h1' h1''
    have hy : l = [] := List.length_eq_zero_iff.1 h2
    subst hy
    exact ⟨by rw [h1', List.length_nil], Ri.nil _ _, fun _ => ⟨h1', h1''⟩⟩
  · injection h1 with h1 h1' h1''
    refine ⟨h1', fun j x hx => ⟨g, 0, h1, ?_⟩, fun e => by rw [h1] at e; cases e⟩
    have hj : j < l.length := (List.getElem?_eq_some_iff.1 hx).1
    have hv : (l.map iv)[j]? = some (iv x) := by simp [hx]
    rw [← h8, List.getElem?_take_of_lt (by omega)] at hv
    rw [Nat.zero_add]
    simp [World.cell?, h4]
    simpa [iv] using hv
theorem ri_news {w : World} {ad : Addr} {l : List Int} (h : Ri w (some ad) l) : ∀ j u, (l.map iv)[j]? = some u → w.cell? (ad.add j) = some u := fun j u hj => by
  rw [List.getElem?_map, Option.map_eq_some_iff] at hj
  obtain ⟨x, hx, rfl⟩ := hj
  obtain ⟨b, o, e, c0⟩ := h j x hx
  obtain rfl : ad = ⟨b, o, none⟩ := Option.some.inj e
  rw [Addr.add_lit]; exact c0
theorem iv_one (l : List Int) : ∀ u ∈ l.map iv, u.oneCell' = true := by
  intro u hu
  obtain ⟨x, _, rfl⟩ := List.mem_map.1 hu
  rfl
/-- 'append(l, ts...)', l the call's own, ts ints. -/
theorem app_ints {w : World} {ops : Array Oper} {rest : List Oper} {o : Oper} {a : Act} {Q : Exit → Act → World → Prop} (hgd : o.guard = none) (s x : Operand)
    (ho : o.op = .call { callee := .builtin .append, args := #[s, x], argTypes := #[22, 22] })
    (base : Nat) (v : Value) (n : Nat) (qs : List Int) (hs : a.eval s = v) (hown : w.ownsRow base 3 1 v n (qs.map iv))
    {A : Option Addr} {m c : Nat} {ts : List Int} (hx : a.eval x = .slice A m c) (htr : Ri w A ts) (hm : ts.length = m) (hA : A = none → m = 0 ∧ c = 0)
    (hb : n + m ≤ 1000000) (hbase : base ≤ w.heap.size)
    (h : ∀ v' w', w'.ownsRow base 3 1 v' (n + m) ((qs ++ ts).map iv) → w.grownBy w' v.ownBlock → wpList Tryz.prog ops Q rest (a.put o.dst v') w') : wpList Tryz.prog ops Q (o :: rest) a w := by
  obtain ⟨i0, hi, hz0, hz1, hz2⟩ := info_parts infoI
  cases A with
  | none =>
    obtain ⟨rfl, rfl⟩ := hA rfl
    have hts : ts = [] := List.length_eq_zero_iff.1 hm
    subst hts
    refine wpList_append_own_none hgd s x 22 ho base 3 i0 1 Tryz.underlying22 hi v n (qs.map iv) hs hown hx ?_
    exact h v w (by rw [List.append_nil]; exact hown) (grown_refl w _)
  | some ad =>
    refine wpList_append_own _ hgd s x 22 ho base 3 i0 (.int .i64 0) 1 8 Tryz.underlying22 hi hz0 hz1 hz2 rfl (by decide) v n (qs.map iv) hs hown ad m c (ts.map iv) hx (by rw [List.length_map, hm, Nat.mul_one]) (ri_news htr) (iv_one ts) (by unfold maxLen; omega) (by omega) hbase ?_
    intro v' w' h1 h2 _
    exact h v' w' (by rw [List.map_append]; exact h1) h2
end Go.Proofs.YtpcijjdlppoblaaGreatDoor

/- A []int among the arguments, as a row of ints. -/
namespace Go.Proofs.YtpcijjdlppoblaaGreatDoor
open Go.ChangeShapes Go.WideShapes Go.ChangeAt Go.RowKit Go.Deep
set_option linter.unusedVariables false
set_option maxRecDepth 100000

theorem listed1 {α : Type} {M : Nat → α → Prop} (n : Nat) (h : ∀ i, i < n → ∃ t, M i t) : ∃ ts : List α, ts.length = n ∧ ∀ (j : Nat) (t : α), ts[j]? = some t → M j t := by
  induction n with
  | zero => exact ⟨[], rfl, fun j t ht => by simp at ht⟩
  | succ n ih =>
    obtain ⟨ts, hl, hts⟩ := ih fun i hi => h i (by omega)
    obtain ⟨t, ht⟩ := h n (by omega)
    refine ⟨ts ++ [t], by simp [hl], fun j u hu => ?_⟩
    by_cases hj : j < ts.length
    · rw [List.getElem?_append_left hj] at hu; exact hts j u hu
    · have hj2 : j = ts.length := by
        have := (List.getElem?_eq_some_iff.1 hu).1
        simp at this; omega
      subst hj2
      rw [List.getElem?_append_right (Nat.le_refl _), Nat.sub_self] at hu
      obtain rfl : t = u := by simpa using hu
      rw [hl]; exact ht
theorem cellsI1 : Tryz.prog.cellsOf 3 = 1 := by kernel_rfl
theorem spot_none1 {W : World} {a : Addr} {v : Value} (h : W.cell? a = some v) : a = ⟨a.block, a.off, none⟩ := by
  obtain ⟨b, o, s⟩ := a
  cases s with
  | none => rfl
  | some s =>
    unfold World.cell? at h
    dsimp only at h
    split at h <;> simp at h
theorem open_I {H : Type} {enc : TypeId × Value → H} {W : World} {base : Nat} {v : Value} {d : DataW H} {ps : List MemPlace} (hok : Value.okWide Tryz.prog W .any base 22 v)
    (h : DataW.Trod enc Tryz.prog W 0 (fun _ => true) true 22 v d ps) :
    ∃ (A : Option Addr) (n c : Nat) (ts : List Int), v = .slice A n c ∧ Ri W A ts ∧ ts.length = n ∧ n ≤ 9223372036854775807 ∧ (n ≤ c ∧ c ≤ 9223372036854775807) ∧ (A = none → n = 0 ∧ c = 0) := by
  obtain ⟨A, n, c, rfl⟩ := okWide_slice Tryz.underlying22 hok
  obtain ⟨fuel, hf⟩ := h
  rcases open_slice Tryz.underlying22 hf with ⟨hcs, hx⟩ | ⟨a, len, cap, m, n', D, Pl, hcs, hlc, hl, hm, hmm, hx, hi⟩
  · simp [Value.cells] at hcs
    obtain ⟨rfl, rfl, rfl⟩ := hcs
    exact ⟨none, 0, 0, [], rfl, Ri.nil _ _, rfl, by omega, by omega, fun _ => ⟨rfl, rfl⟩⟩
  · simp [Value.cells] at hcs
    obtain ⟨rfl, rfl, rfl⟩ := hcs
    simp only [if_true] at hmm
    subst hmm
    obtain ⟨ts, htl, hts⟩ := listed1 (M := fun i (t : Int) => W.cell? (a.add i) = some (.int .i64 t)) n (fun i hin => by
      obtain ⟨cs', hc, ht⟩ := hi i (by omega)
      rw [cellsI1] at hc
      obtain ⟨k, rfl, _, _⟩ := DataW.trod_int Tryz.underlying3 ht
      obtain ⟨_, _, hat⟩ := World.cells?_some hc
      refine ⟨k, ?_⟩
      have := hat 0 (by decide); rw [add_add, Nat.add_zero, Nat.mul_one] at this; exact this)
    refine ⟨some a, n, _, ts, rfl, ?_, htl, by unfold maxLen at hm; omega, by unfold maxLen at hm; omega, fun e => by cases e⟩
    intro j t hj
    have hjl := (List.getElem?_eq_some_iff.1 hj).1
    obtain ⟨t0, ht0⟩ : ∃ t0, ts[0]? = some t0 := ⟨_, List.getElem?_eq_getElem (by omega)⟩
    have hc0 := hts 0 t0 ht0
    rw [Addr.add_zero'] at hc0
    have ea := spot_none1 hc0
    have h1 := hts j t hj
    rw [ea, Addr.add_lit] at h1
    exact ⟨a.block, a.off, by rw [← ea], h1⟩
end Go.Proofs.YtpcijjdlppoblaaGreatDoor
