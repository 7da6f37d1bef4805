/- Contracts of package text's functions: stands, digit, Hex, isLow, isHigh, codeBehind, plain. -/
import Derived.Test.YtjfhcgolgabkkaaDoorTextM
import Derived.Test.YtjfhcgolgabkkaaDoorUtfD
import Derived.IntWalk
import Derived.WalkMore
namespace Go.Proofs.YtjfhcgolgabkkaaDoor
open Go.RowKit
set_option linter.unusedVariables false

/-- Does x stand at place i? -/
def stI (l : List UInt8) (i x : Int) : Bool := decide (0 ≤ i ∧ i < l.length) && (((l.getD i.toNat 0).toNat : Int) == x)
theorem stI_in {s : ByteArray} {k : Nat} (h : k < s.size) (x : Int) : stI s.data.toList k x = (((s[k]).toNat : Int) == x) := by
  have hsz : s.data.toList.length = s.size := (Lib.size_eq s).symm
  unfold stI
  rw [decide_eq_true (by omega), Bool.true_and, Int.toNat_natCast, List.getD_eq_getElem?_getD, List.getElem?_eq_getElem (by omega)]
  rfl
theorem stI_out {l : List UInt8} {i : Int} (h : i < 0 ∨ (l.length : Int) ≤ i) (x : Int) : stI l i x = false := by
  unfold stI; rw [decide_eq_false (by omega), Bool.false_and]
theorem stI_iff {l : List UInt8} {i : Int} {c : UInt8} : stI l i c.toNat = true ↔ 0 ≤ i ∧ l[i.toNat]? = some c := by
  unfold stI
  rw [Bool.and_eq_true, decide_eq_true_iff, beq_iff_eq]
  constructor
  · rintro ⟨⟨h0, h1⟩, h2⟩
    refine ⟨h0, ?_⟩
    have h3 : i.toNat < l.length := by omega
    rw [List.getD_eq_getElem?_getD, List.getElem?_eq_getElem h3] at h2
    rw [List.getElem?_eq_getElem h3]
    congr 1
    have h5 : ((l[i.toNat].toNat : Nat) : Int) = c.toNat := by simpa using h2
    exact UInt8.toNat_inj.1 (by omega)
  · rintro ⟨h0, h1⟩
    obtain ⟨h3, h4⟩ := List.getElem?_eq_some_iff.1 h1
    refine ⟨⟨h0, by omega⟩, ?_⟩
    rw [List.getD_eq_getElem?_getD, h1]; rfl
theorem stI_head {l : List UInt8} {k : Nat} {c : UInt8} : stI l k c.toNat = true ↔ (l.drop k).head? = some c := by
  rw [stI_iff, List.head?_drop]; simp
theorem stI_lt {l : List UInt8} {i x : Int} (h : stI l i x = true) : 0 ≤ i ∧ i < l.length := by
  unfold stI at h; rw [Bool.and_eq_true, decide_eq_true_iff] at h; exact h.1

set_option maxHeartbeats 400000 in
theorem stands_any (s : ByteArray) (i x : Int) (w : World) :
    Calls Tryd.prog 67 #[.string s, .int .i64 i, .int .u8 x] w fun e w' => e = .returned (.bool (stI s.data.toList i x)) ∧ w = w' := by
  have hsz : s.data.toList.length = s.size := (Lib.size_eq s).symm
  by_cases h0 : 0 ≤ i
  · obtain ⟨k, rfl⟩ := Int.eq_ofNat_of_zero_le h0
    by_cases h1 : k < s.size
    · rw [stI_in h1]
      clear hsz
      have d0 : decide ((0 : Int) ≤ (k : Int)) = true := by simp
      have d1 : decide ((k : Int) < (s.size : Int)) = true := by simp [h1]
      go_enter Tryd.func67, Tryd.ntmps67
      go_wp2
      go_ret
      exact ⟨rfl, rfl⟩
    · rw [stI_out (.inr (by omega))]
      clear hsz
      have d0 : decide ((0 : Int) ≤ (k : Int)) = true := by simp
      have d1 : decide ((k : Int) < (s.size : Int)) = false := by simp; omega
      go_enter Tryd.func67, Tryd.ntmps67
      go_wp2
      go_ret
      exact ⟨rfl, rfl⟩
  · rw [stI_out (.inl (by omega))]
    clear hsz
    have d0 : decide ((0 : Int) ≤ i) = false := by simp; omega
    go_enter Tryd.func67, Tryd.ntmps67
    go_wp2
    go_ret
    exact ⟨rfl, rfl⟩
theorem stands_b {s : ByteArray} {i x : Int} {v : Bool} (h : stI s.data.toList i x = v) (w : World) :
    Calls Tryd.prog 67 #[.string s, .int .i64 i, .int .u8 x] w fun e w' => e = .returned (.bool v) ∧ w = w' := h ▸ stands_any s i x w

/-- What a pair of a number and a yes tells of an optional one. -/
def optE (o : Option Nat) : Ending := .returned (.tuple #[.int .i64 ((o.getD 0 : Nat) : Int), .bool o.isSome])

set_option maxHeartbeats 400000 in
theorem digit_any (c : UInt8) (w : World) :
    Calls Tryd.prog 93 #[.int .u8 c.toNat] w fun e w' => e = optE (hxd c) ∧ w = w' := by
  have hlt : c.toNat < 256 := UInt8.toNat_lt c
  unfold hxd
  generalize c.toNat = x at *
  by_cases h1 : 48 ≤ x ∧ x ≤ 57
  · rw [if_pos h1]
    obtain ⟨h1, h2⟩ := h1
    have e1 : IntKind.u8.wrap ((x : Int) - 48) = ((x - 48 : Nat) : Int) := by unfold IntKind.wrap; simp [IntKind.bits, IntKind.signed]; omega
    have e2 : IntKind.i64.wrap (((x - 48 : Nat) : Int)) = ((x - 48 : Nat) : Int) := IntWalk.i64_in _ (by omega)
    go_enter Tryd.func93, Tryd.ntmps93
    go_wp2
    go_ret2
    exact ⟨rfl, rfl⟩
  rw [if_neg h1]
  by_cases h2 : 97 ≤ x ∧ x ≤ 102
  · rw [if_pos h2]
    obtain ⟨h2, h3⟩ := h2
    have h4 : ¬ x ≤ 57 := by omega
    have e1 : IntKind.u8.wrap ((x : Int) - 97) = ((x - 97 : Nat) : Int) := by unfold IntKind.wrap; simp [IntKind.bits, IntKind.signed]; omega
    have e2 : IntKind.i64.wrap (((x - 97 : Nat) : Int)) = ((x - 97 : Nat) : Int) := IntWalk.i64_in _ (by omega)
    have e3 : ((x - 87 : Nat) : Int) = ((x - 97 : Nat) : Int) + 10 := by omega
    have E3 := Lib.hid e3
    clear e3 h1
    go_enter Tryd.func93, Tryd.ntmps93
    go_wp2
    go_ret2
    exact ⟨by unfold optE; rw [Option.getD_some, E3.out]; rfl, rfl⟩
  rw [if_neg h2]
  by_cases h3 : 65 ≤ x ∧ x ≤ 70
  · rw [if_pos h3]
    obtain ⟨h3, h4⟩ := h3
    have h5 : ¬ x ≤ 57 := by omega
    have h6 : ¬ 97 ≤ x := by omega
    have e1 : IntKind.u8.wrap ((x : Int) - 65) = ((x - 65 : Nat) : Int) := by unfold IntKind.wrap; simp [IntKind.bits, IntKind.signed]; omega
    have e2 : IntKind.i64.wrap (((x - 65 : Nat) : Int)) = ((x - 65 : Nat) : Int) := IntWalk.i64_in _ (by omega)
    have e3 : ((x - 55 : Nat) : Int) = ((x - 65 : Nat) : Int) + 10 := by omega
    have E3 := Lib.hid e3
    clear e3 h1 h2
    go_enter Tryd.func93, Tryd.ntmps93
    go_wp2
    go_ret2
    exact ⟨by unfold optE; rw [Option.getD_some, E3.out]; rfl, rfl⟩
  rw [if_neg h3]
  have hall : x < 48 ∨ (57 < x ∧ x < 65) ∨ (70 < x ∧ x < 97) ∨ 102 < x := by omega
  clear h1 h2 h3
  rcases hall with h | ⟨h, h'⟩ | ⟨h, h'⟩ | h
  · have g1 : ¬ 48 ≤ x := by omega
    have g2 : ¬ 97 ≤ x := by omega
    have g3 : ¬ 65 ≤ x := by omega
    go_enter Tryd.func93, Tryd.ntmps93
    go_wp2
    go_ret2
    exact ⟨rfl, rfl⟩
  · have g1 : ¬ x ≤ 57 := by omega
    have g2 : ¬ 97 ≤ x := by omega
    have g3 : ¬ 65 ≤ x := by omega
    go_enter Tryd.func93, Tryd.ntmps93
    go_wp2
    go_ret2
    exact ⟨rfl, rfl⟩
  · have g1 : ¬ x ≤ 57 := by omega
    have g2 : ¬ 97 ≤ x := by omega
    have g3 : ¬ x ≤ 70 := by omega
    go_enter Tryd.func93, Tryd.ntmps93
    go_wp2
    go_ret2
    exact ⟨rfl, rfl⟩
  · have g1 : ¬ x ≤ 57 := by omega
    have g2 : ¬ x ≤ 102 := by omega
    have g3 : ¬ x ≤ 70 := by omega
    go_enter Tryd.func93, Tryd.ntmps93
    go_wp2
    go_ret2
    exact ⟨rfl, rfl⟩
theorem digit_y {c : UInt8} {n : Nat} (h : hxd c = some n) (w : World) :
    Calls Tryd.prog 93 #[.int .u8 c.toNat] w fun e w' => e = .returned (.tuple #[.int .i64 (n : Int), .bool true]) ∧ w = w' := by
  have := digit_any c w; rw [h] at this; exact this
theorem digit_n {c : UInt8} (h : hxd c = none) (w : World) :
    Calls Tryd.prog 93 #[.int .u8 c.toNat] w fun e w' => e = .returned (.tuple #[.int .i64 0, .bool false]) ∧ w = w' := by
  have := digit_any c w; rw [h] at this; exact this

theorem drop_four {s : ByteArray} {k : Nat} (h : k + 4 ≤ s.size) : s.data.toList.drop k = s[k] :: s[k + 1] :: s[k + 2] :: s[k + 3] :: s.data.toList.drop (k + 4) := by
  have hsz : s.data.toList.length = s.size := (Lib.size_eq s).symm
  rw [List.drop_eq_getElem_cons (by omega), List.drop_eq_getElem_cons (i := k + 1) (by omega), List.drop_eq_getElem_cons (i := k + 2) (by omega), List.drop_eq_getElem_cons (i := k + 3) (by omega)]
  rfl
theorem hexA_neg {l : List UInt8} {i : Int} (h : i < 0) : hexA l i = none := by unfold hexA; rw [if_neg (by omega)]
theorem hexA_nat {l : List UInt8} {k : Nat} : hexA l k = hx4 (l.drop k) := by unfold hexA; rw [if_pos (by omega)]; rfl
theorem hexA_out {l : List UInt8} {i : Int} (h : (l.length : Int) - 4 < i) : hexA l i = none := by
  unfold hexA
  split
  · exact hx4_short (by simp; omega)
  · rfl

set_option maxHeartbeats 1000000 in
theorem hex_any (s : ByteArray) (i : Int) (w : World) (hs : s.size ≤ 1000000) :
    Calls Tryd.prog 90 #[.string s, .int .i64 i] w fun e w' => e = optE (hexA s.data.toList i) ∧ w = w' := by
  have hsz : s.data.toList.length = s.size := (Lib.size_eq s).symm
  by_cases h0 : 0 ≤ i
  · obtain ⟨k, rfl⟩ := Int.eq_ofNat_of_zero_le h0
    by_cases h1 : k + 4 ≤ s.size
    · rw [hexA_nat, drop_four h1]
      have g1 : ¬ (s.size : Int) - 4 < (k : Int) := by omega
      have n1 : k + 1 < s.size := by omega
      have n2 : k + 2 < s.size := by omega
      have n3 : k + 3 < s.size := by omega
      have n0 : k < s.size := by omega
      clear hsz
      cases ha : hxd s[k] with
      | none =>
        have e : hx4 (s[k] :: s[k + 1] :: s[k + 2] :: s[k + 3] :: s.data.toList.drop (k + 4)) = none := by simp [hx4, ha]
        rw [e]; clear e
        have ra := digit_n ha
        clear ha
        go_enter Tryd.func90, Tryd.ntmps90
        go_wp2
        refine wp_loop_rounds 1 ?_
        rw [rounds_succ]
        go_wp2_with fail
        (with_reducible refine (ra _).mono ?_)
        rintro e w' ⟨rfl, rfl⟩
        go_wp2
        go_ret2
        exact ⟨rfl, rfl⟩
      | some x =>
        have ra := digit_y ha
        have bx1 := hxd_lt ha
        cases hb : hxd s[k + 1] with
        | none =>
          have e : hx4 (s[k] :: s[k + 1] :: s[k + 2] :: s[k + 3] :: s.data.toList.drop (k + 4)) = none := by simp [hx4, ha, hb]
          rw [e]; clear e
          have rb := digit_n hb
          clear ha hb
          go_enter Tryd.func90, Tryd.ntmps90
          go_wp2
          refine wp_loop_rounds 2 ?_
          rw [rounds_succ]
          go_wp2_with fail
          (with_reducible refine (ra _).mono ?_)
          rintro e w' ⟨rfl, rfl⟩
          go_wp2_with fail
          rw [rounds_succ]
          go_wp2_with fail
          (with_reducible refine (rb _).mono ?_)
          rintro e w' ⟨rfl, rfl⟩
          go_wp2
          go_ret2
          exact ⟨rfl, rfl⟩
        | some y =>
          have rb := digit_y hb
          have by1 := hxd_lt hb
          cases hc : hxd s[k + 2] with
          | none =>
            have e : hx4 (s[k] :: s[k + 1] :: s[k + 2] :: s[k + 3] :: s.data.toList.drop (k + 4)) = none := by simp [hx4, ha, hb, hc]
            rw [e]; clear e
            have rc := digit_n hc
            clear ha hb hc
            go_enter Tryd.func90, Tryd.ntmps90
            go_wp2
            refine wp_loop_rounds 3 ?_
            rw [rounds_succ]
            go_wp2_with fail
            (with_reducible refine (ra _).mono ?_)
            rintro e w' ⟨rfl, rfl⟩
            go_wp2_with fail
            rw [rounds_succ]
            go_wp2_with fail
            (with_reducible refine (rb _).mono ?_)
            rintro e w' ⟨rfl, rfl⟩
            go_wp2_with fail
            rw [rounds_succ]
            go_wp2_with fail
            (with_reducible refine (rc _).mono ?_)
            rintro e w' ⟨rfl, rfl⟩
            go_wp2
            go_ret2
            exact ⟨rfl, rfl⟩
          | some z =>
            have rc := digit_y hc
            have bz1 := hxd_lt hc
            cases hd : hxd s[k + 3] with
            | none =>
              have e : hx4 (s[k] :: s[k + 1] :: s[k + 2] :: s[k + 3] :: s.data.toList.drop (k + 4)) = none := by simp [hx4, ha, hb, hc, hd]
              rw [e]; clear e
              have rd := digit_n hd
              clear ha hb hc hd
              go_enter Tryd.func90, Tryd.ntmps90
              go_wp2
              refine wp_loop_rounds 4 ?_
              rw [rounds_succ]
              go_wp2_with fail
              (with_reducible refine (ra _).mono ?_)
              rintro e w' ⟨rfl, rfl⟩
              go_wp2_with fail
              rw [rounds_succ]
              go_wp2_with fail
              (with_reducible refine (rb _).mono ?_)
              rintro e w' ⟨rfl, rfl⟩
              go_wp2_with fail
              rw [rounds_succ]
              go_wp2_with fail
              (with_reducible refine (rc _).mono ?_)
              rintro e w' ⟨rfl, rfl⟩
              go_wp2_with fail
              rw [rounds_succ]
              go_wp2_with fail
              (with_reducible refine (rd _).mono ?_)
              rintro e w' ⟨rfl, rfl⟩
              go_wp2
              go_ret2
              exact ⟨rfl, rfl⟩
            | some u =>
              have rd := digit_y hd
              have bu1 := hxd_lt hd
              rw [hx4_of ha hb hc hd]
              have e : (((((x * 16 + y) * 16 + z) * 16 + u : Nat)) : Int) = (((x : Int) * 16 + y) * 16 + z) * 16 + u := by omega
              have E := Lib.hid e
              clear e ha hb hc hd
              go_enter Tryd.func90, Tryd.ntmps90
              go_wp2
              refine wp_loop_rounds 5 ?_
              rw [rounds_succ]
              go_wp2_with fail
              (with_reducible refine (ra _).mono ?_)
              rintro e w' ⟨rfl, rfl⟩
              go_wp2_with fail
              rw [rounds_succ]
              go_wp2_with fail
              (with_reducible refine (rb _).mono ?_)
              rintro e w' ⟨rfl, rfl⟩
              go_wp2_with fail
              rw [rounds_succ]
              go_wp2_with fail
              (with_reducible refine (rc _).mono ?_)
              rintro e w' ⟨rfl, rfl⟩
              go_wp2_with fail
              rw [rounds_succ]
              go_wp2_with fail
              (with_reducible refine (rd _).mono ?_)
              rintro e w' ⟨rfl, rfl⟩
              go_wp2_with fail
              rw [rounds_succ]
              go_wp2
              go_ret2
              exact ⟨by unfold optE; rw [Option.getD_some, E.out]; rfl, rfl⟩
    · rw [hexA_out (by omega)]
      have g1 : (s.size : Int) - 4 < (k : Int) := by omega
      clear hsz
      go_enter Tryd.func90, Tryd.ntmps90
      go_wp2
      go_ret2
      exact ⟨rfl, rfl⟩
  · rw [hexA_neg (by omega)]
    have g0 : i < 0 := by omega
    clear hsz
    go_enter Tryd.func90, Tryd.ntmps90
    go_wp2
    go_ret2
    exact ⟨rfl, rfl⟩
theorem hex_y {s : ByteArray} {i : Int} {n : Nat} (h : hexA s.data.toList i = some n) (hs : s.size ≤ 1000000) (w : World) :
    Calls Tryd.prog 90 #[.string s, .int .i64 i] w fun e w' => e = .returned (.tuple #[.int .i64 (n : Int), .bool true]) ∧ w = w' := by
  have := hex_any s i w hs; rw [h] at this; exact this
theorem hex_n {s : ByteArray} {i : Int} (h : hexA s.data.toList i = none) (hs : s.size ≤ 1000000) (w : World) :
    Calls Tryd.prog 90 #[.string s, .int .i64 i] w fun e w' => e = .returned (.tuple #[.int .i64 0, .bool false]) ∧ w = w' := by
  have := hex_any s i w hs; rw [h] at this; exact this

set_option maxHeartbeats 400000 in
theorem low_any (n : Nat) (w : World) :
    Calls Tryd.prog 85 #[.int .i64 n] w fun e w' => e = .returned (.bool (loB n)) ∧ w = w' := by
  have e : loB n = (decide (56320 ≤ (n : Int)) && decide ((n : Int) ≤ 57343)) := by
    unfold loB; rw [Bool.eq_iff_iff]; simp; omega
  rw [e]; clear e
  generalize (n : Int) = x
  by_cases h1 : 56320 ≤ x <;> by_cases h2 : x ≤ 57343
  all_goals
    go_enter Tryd.func85, Tryd.ntmps85
    go_wp2
    go_ret
    exact ⟨by simp [h1, h2], rfl⟩
theorem low_b {n : Nat} {v : Bool} (h : loB n = v) (w : World) : Calls Tryd.prog 85 #[.int .i64 n] w fun e w' => e = .returned (.bool v) ∧ w = w' := h ▸ low_any n w
set_option maxHeartbeats 400000 in
theorem high_any (n : Nat) (w : World) :
    Calls Tryd.prog 86 #[.int .i64 n] w fun e w' => e = .returned (.bool (hiB n)) ∧ w = w' := by
  have e : hiB n = (decide (55296 ≤ (n : Int)) && decide ((n : Int) < 56320)) := by
    unfold hiB; rw [Bool.eq_iff_iff]; simp; omega
  rw [e]; clear e
  generalize (n : Int) = x
  by_cases h1 : 55296 ≤ x <;> by_cases h2 : x < 56320
  all_goals
    go_enter Tryd.func86, Tryd.ntmps86
    go_wp2
    go_ret
    exact ⟨by simp [h1, h2], rfl⟩
theorem high_b {n : Nat} {v : Bool} (h : hiB n = v) (w : World) : Calls Tryd.prog 86 #[.int .i64 n] w fun e w' => e = .returned (.bool v) ∧ w = w' := h ▸ high_any n w

theorem drop_cons {l : List UInt8} {k : Nat} {c : UInt8} (h : (l.drop k).head? = some c) : l.drop k = c :: l.drop (k + 1) := by
  rw [List.head?_drop] at h
  obtain ⟨h1, h2⟩ := List.getElem?_eq_some_iff.1 h
  rw [List.drop_eq_getElem_cons h1, h2]
theorem cod_no {l : List UInt8} (h : l.head? ≠ some 92) : cod l = none := by
  cases e : cod l with
  | none => rfl
  | some n => obtain ⟨t, rfl, _⟩ := cod_some e; exact absurd rfl h
theorem cod_no2 {a : UInt8} {l : List UInt8} (h : l.head? ≠ some 117) : cod (a :: l) = none := by
  cases e : cod (a :: l) with
  | none => rfl
  | some n => obtain ⟨t, h2, _⟩ := cod_some e; injection h2 with _ h2; rw [h2] at h; exact absurd rfl h
theorem not_st {l : List UInt8} {k : Nat} {c : UInt8} (h : stI l k c.toNat = false) : (l.drop k).head? ≠ some c := by
  intro e; rw [← stI_head] at e; rw [h] at e; cases e

set_option maxHeartbeats 400000 in
theorem code_any (s : ByteArray) (k : Nat) (w : World) (hs : s.size ≤ 1000000) (hk : k ≤ 2000000) :
    Calls Tryd.prog 84 #[.string s, .int .i64 k] w fun e w' => e = optE (cod (s.data.toList.drop k)) ∧ w = w' := by
  cases h1 : stI s.data.toList k 92
  · rw [cod_no (not_st (c := 92) h1)]
    have r1 := stands_b h1
    clear h1
    go_enter Tryd.func84, Tryd.ntmps84
    go_wp2_with fail
    (with_reducible refine (r1 _).mono ?_)
    rintro e w' ⟨rfl, rfl⟩
    go_wp2
    go_ret2
    exact ⟨rfl, rfl⟩
  have d1 := drop_cons ((stI_head (c := 92)).1 h1)
  have r1 := stands_b h1
  clear h1
  have ek : ((k : Int) + 1) = ((k + 1 : Nat) : Int) := by omega
  cases h2 : stI s.data.toList ((k : Int) + 1) 117
  · have h3 := h2
    rw [ek] at h3
    rw [d1, cod_no2 (not_st (c := 117) h3)]
    have r2 := stands_b h2
    clear h2 h3 d1 ek
    go_enter Tryd.func84, Tryd.ntmps84
    go_wp2_with fail
    (with_reducible refine (r1 _).mono ?_)
    rintro e w' ⟨rfl, rfl⟩
    go_wp2_with fail
    (with_reducible refine (r2 _).mono ?_)
    rintro e w' ⟨rfl, rfl⟩
    go_wp2
    go_ret2
    exact ⟨rfl, rfl⟩
  have h3 := h2
  rw [ek] at h3
  have d2 := drop_cons ((stI_head (c := 117)).1 h3)
  have r2 := stands_b h2
  rw [d1, d2, cod_of]
  have ek2 : ((k : Int) + 2) = ((k + 2 : Nat) : Int) := by omega
  have e3 : hexA s.data.toList ((k : Int) + 2) = hx4 (s.data.toList.drop (k + 1 + 1)) := by rw [ek2, hexA_nat]
  cases h4 : hx4 (s.data.toList.drop (k + 1 + 1)) with
  | none =>
    have r3 := hex_n (e3.trans h4) hs
    clear h2 h3 h4 d1 d2 ek ek2 e3
    go_enter Tryd.func84, Tryd.ntmps84
    go_wp2_with fail
    (with_reducible refine (r1 _).mono ?_)
    rintro e w' ⟨rfl, rfl⟩
    go_wp2_with fail
    (with_reducible refine (r2 _).mono ?_)
    rintro e w' ⟨rfl, rfl⟩
    go_wp2_with fail
    (with_reducible refine (r3 _).mono ?_)
    rintro e w' ⟨rfl, rfl⟩
    go_wp2
    go_ret2
    exact ⟨rfl, rfl⟩
  | some n =>
    have r3 := hex_y (e3.trans h4) hs
    clear h2 h3 h4 d1 d2 ek ek2 e3
    go_enter Tryd.func84, Tryd.ntmps84
    go_wp2_with fail
    (with_reducible refine (r1 _).mono ?_)
    rintro e w' ⟨rfl, rfl⟩
    go_wp2_with fail
    (with_reducible refine (r2 _).mono ?_)
    rintro e w' ⟨rfl, rfl⟩
    go_wp2_with fail
    (with_reducible refine (r3 _).mono ?_)
    rintro e w' ⟨rfl, rfl⟩
    go_wp2
    go_ret2
    exact ⟨rfl, rfl⟩
theorem code_y {s : ByteArray} {k n : Nat} (h : cod (s.data.toList.drop k) = some n) (hs : s.size ≤ 1000000) (hk : k ≤ 2000000) (w : World) :
    Calls Tryd.prog 84 #[.string s, .int .i64 k] w fun e w' => e = .returned (.tuple #[.int .i64 (n : Int), .bool true]) ∧ w = w' := by
  have := code_any s k w hs hk; rw [h] at this; exact this
theorem code_n {s : ByteArray} {k : Nat} (h : cod (s.data.toList.drop k) = none) (hs : s.size ≤ 1000000) (hk : k ≤ 2000000) (w : World) :
    Calls Tryd.prog 84 #[.string s, .int .i64 k] w fun e w' => e = .returned (.tuple #[.int .i64 0, .bool false]) ∧ w = w' := by
  have := code_any s k w hs hk; rw [h] at this; exact this

/-- It goes wrong at i. -/
def wrE (i : Int) : Ending := .panicked [{ v := .iface 80 (.int .i64 i), recovered := false }]

theorem nxtC_at (s : ByteArray) (k : Nat) (hk : k ≤ s.size) : nxtC s k = ((nxt (s.data.toList.drop k)).1 : Int) := by
  unfold nxtC
  by_cases h : k < s.size
  · simp [h]
  · have e : s.data.toList.drop k = [] := by apply List.drop_eq_nil_of_le; rw [← Lib.size_eq]; omega
    rw [e, nxt_nil, if_neg (by omega)]; rfl
theorem next_b {s : ByteArray} {k c n : Nat} (hk : k ≤ s.size) (h : nxt (s.data.toList.drop k) = (c, n)) (w : World) :
    Calls Tryd.prog 33 #[.string s, .int .i64 k] w fun e w' => e = .returned (.tuple #[.int .i64 (c : Int), .int .i64 (n : Int)]) ∧ Below w.heap.size w w' := by
  have := next_any s k w
  rw [nxtC_at s k hk, nxtN_at s k hk, h] at this
  exact this.mono fun _ _ h => ⟨h.1, h.2.below⟩

set_option maxHeartbeats 400000 in
theorem plain_n {s : ByteArray} {k c n : Nat} (hk : k ≤ s.size) (h : nxt (s.data.toList.drop k) = (c, n)) (hb : n = 0 ∨ c = 10 ∨ c = 13) (w : World) :
    Calls Tryd.prog 70 #[.string s, .int .i64 k] w fun e w' => e = wrE k ∧ Below w.heap.size w w' := by
  have r1 := next_b hk h
  clear h
  by_cases h0 : n = 0
  · have t0 : ((n : Int) == 0) = true := by simp [h0]
    clear h0 hb
    go_enter Tryd.func70, Tryd.ntmps70
    go_wp2_with fail
    (with_reducible refine (r1 _).mono ?_)
    rintro e w1 ⟨rfl, hb1⟩
    go_wp2
    exact ⟨rfl, rfl, hb1⟩
  have t0 : ((n : Int) == 0) = false := by simp [h0]
  by_cases h1 : c = 10
  · have t1 : ((c : Int) == 10) = true := by simp [h1]
    clear h0 h1 hb
    go_enter Tryd.func70, Tryd.ntmps70
    go_wp2_with fail
    (with_reducible refine (r1 _).mono ?_)
    rintro e w1 ⟨rfl, hb1⟩
    go_wp2
    exact ⟨rfl, rfl, hb1⟩
  have t1 : ((c : Int) == 10) = false := by simp; omega
  have t2 : ((c : Int) == 13) = true := by simp; omega
  clear h0 h1 hb
  go_enter Tryd.func70, Tryd.ntmps70
  go_wp2_with fail
  (with_reducible refine (r1 _).mono ?_)
  rintro e w1 ⟨rfl, hb1⟩
  go_wp2
  exact ⟨rfl, rfl, hb1⟩

set_option maxHeartbeats 400000 in
theorem plain_y {s : ByteArray} {k c n : Nat} (hs : s.size ≤ 1000000) (hk : k ≤ s.size) (h : nxt (s.data.toList.drop k) = (c, n)) (h0 : n ≠ 0) (h1 : c ≠ 10) (h2 : c ≠ 13) (w : World) :
    Calls Tryd.prog 70 #[.string s, .int .i64 k] w fun e w' => e = .returned (.tuple #[.string (s.extract k (k + n)), .int .i64 ((k + n : Nat) : Int)]) ∧ Below w.heap.size w w' := by
  have r1 := next_b hk h
  have hle := (nxt_le (s.data.toList.drop k)).1
  rw [h, List.length_drop, ← Lib.size_eq] at hle
  have hle2 : k + n ≤ s.size := by dsimp only at hle; omega
  clear h hle
  have t0 : ((n : Int) == 0) = false := by simp [h0]
  have t1 : ((c : Int) == 10) = false := by simp; omega
  have t2 : ((c : Int) == 13) = false := by simp; omega
  clear h0 h1 h2
  go_enter Tryd.func70, Tryd.ntmps70
  go_wp2_with fail
  (with_reducible refine (r1 _).mono ?_)
  rintro e w1 ⟨rfl, hb1⟩
  go_wp2
  go_ret2
  exact ⟨by simp, hb1⟩
end Go.Proofs.YtjfhcgolgabkkaaDoor
