/- The contract of lex.Lex, in its three ways; rows of tokens. -/
import Derived.Test.YtjfhcgolgabkkaaDoorLexE
import Derived.Test.YtjfhcgolgabkkaaDoorTokR
namespace Go.Proofs.YtjfhcgolgabkkaaDoor
open Go.RowKit Go.Shelf
set_option linter.unusedVariables false

def Yl.q (y : Yl) : Tq := ⟨y.t.k, mkb y.t.v, y.a, y.z⟩
theorem cls_at {ys : List Yl} {j : Nat} {y : Yl} (h : ys[j]? = some y) : (cls ys)[j * 4]? = some (.int .i64 y.t.k) ∧ (cls ys)[j * 4 + 1]? = some (.string (mkb y.t.v)) ∧ (cls ys)[j * 4 + 2]? = some (.int .i64 y.a) ∧ (cls ys)[j * 4 + 3]? = some (.int .i64 y.z) := by
  induction ys generalizing j with
  | nil => simp at h
  | cons x ys ih =>
    have e : cls (x :: ys) = .int .i64 x.t.k :: .string (mkb x.t.v) :: .int .i64 x.a :: .int .i64 x.z :: cls ys := rfl
    rw [e]
    cases j with
    | zero =>
      obtain rfl : x = y := by simpa using h
      exact ⟨rfl, rfl, rfl, rfl⟩
    | succ j =>
      have := ih (j := j) (by simpa using h)
      rw [show (j + 1) * 4 = j * 4 + 4 by omega]
      exact this
theorem tr_row {w : World} {base n c : Nat} {A : Option Addr} {ys : List Yl} (h : w.ownsRow base 23 4 (.slice A n c) ys.length (cls ys)) : n = ys.length ∧ Tr w A (ys.map Yl.q) := by
  obtain ⟨hl, ⟨h1, h2⟩ | ⟨g, cap, cur, h1, h3, h4, h5, h6, h7, h8⟩⟩ := h
  · injection h1 with h1 h1' h1''
    have hy : ys = [] := List.length_eq_zero_iff.1 h2
    subst hy
    exact ⟨by rw [h1', List.length_nil], Tr.nil _ _⟩
  · injection h1 with h1 h1' h1''
    refine ⟨h1', fun j t ht => ?_⟩
    rw [List.getElem?_map, Option.map_eq_some_iff] at ht
    obtain ⟨y, hy, rfl⟩ := ht
    obtain ⟨e0, e1, e2, e3⟩ := cls_at hy
    have hj : j < ys.length := (List.getElem?_eq_some_iff.1 hy).1
    have key : ∀ (m : Nat) (v : Value), m < ys.length * 4 → (cls ys)[m]? = some v → w.cell? ⟨g, m, none⟩ = some v := by
      intro m v hm hv
      rw [← h8, List.getElem?_take_of_lt hm] at hv
      simp [World.cell?, h4]
      simpa using hv
    refine ⟨g, 0, h1, ?_, ?_, ?_, ?_⟩
    · rw [Nat.zero_add]; exact key _ _ (by omega) e0
    · rw [Nat.zero_add]; exact key _ _ (by omega) e1
    · rw [Nat.zero_add]; exact key _ _ (by omega) e2
    · rw [Nat.zero_add]; exact key _ _ (by omega) e3

theorem badI_all' {l : List UInt8} (h : thru l = l.length) : badI l < 0 := by rw [badI, if_pos h]; decide
theorem lex_yes {s : ByteArray} {Y : List Yl} (hs : s.size ≤ 1000000) (hm : thru s.data.toList = s.data.toList.length) (hY : ylds s.data.toList 0 = Y) (ho : allOk Y = true) (w : World) :
    Calls Tryd.prog 20 #[.string s] w fun e w' => ∃ A c, e = .returned (.tuple #[.slice A Y.length c, .int .i64 0, .int .i64 s.size]) ∧ Below w.heap.size w w' ∧ Tr w' A (Y.map Yl.q) := by
  refine (lex_in s hs w (badI_all' hm)).mono ?_
  rintro e w' ⟨v, er, p, rfl, hb, ⟨h1, rfl, rfl, h4⟩ | ⟨h1, _⟩⟩
  · rw [hY] at h4
    obtain ⟨A, c, rfl⟩ := row_slice h4
    exact ⟨A, c, rfl, hb, (tr_row h4).2⟩
  · rw [hY, ho] at h1; cases h1
theorem lex_no {s : ByteArray} {Y : List Yl} {er p : Int} (hs : s.size ≤ 1000000) (hm : thru s.data.toList = s.data.toList.length) (hY : ylds s.data.toList 0 = Y) (ho : allOk Y = false) (he : errOf Y = (er, p)) (w : World) :
    Calls Tryd.prog 20 #[.string s] w fun e w' => e = .returned (.tuple #[.slice none 0 0, .int .i64 er, .int .i64 p]) ∧ Below w.heap.size w w' := by
  refine (lex_in s hs w (badI_all' hm)).mono ?_
  rintro e w' ⟨v, er', p', rfl, hb, ⟨h1, _⟩ | ⟨h1, rfl, h3, h4⟩⟩
  · rw [hY, ho] at h1; cases h1
  · rw [hY, he] at h3 h4
    dsimp at h3 h4
    subst h3 h4
    exact ⟨rfl, hb⟩
set_option maxHeartbeats 400000 in
theorem lex_bad {s : ByteArray} {b : Int} (hs : s.size ≤ 1000000) (hb : badI s.data.toList = b) (h0 : 0 ≤ b) (w : World) :
    Calls Tryd.prog 20 #[.string s] w fun e w' => e = .returned (.tuple #[.slice none 0 0, .int .i64 2, .int .i64 b]) ∧ Below w.heap.size w w' := by
  have r0 := fun w => bad_any s (by omega) w
  rw [hb] at r0
  clear hb
  go_enter Tryd.func20, Tryd.ntmps20
  go_wp2_with fail
  (with_reducible refine (r0 _).mono ?_)
  rintro e w1 ⟨rfl, hb1⟩
  have R1 := (Rb.new w (.slice none 0 0) 0 0).below hb1
  have q2 := R1.r2.cell
  have q3 := R1.r3.cell
  have q4 := R1.r4.cell
  have g2 := R1.r2.frozen
  have g3 := R1.r3.frozen
  have g4 := R1.r4.frozen
  have hB1 : Below w.heap.size w w1 := ((((Below.refl _ w).alloc (Nat.le_refl _) _).alloc (by simp) _).alloc (by simp; omega) _).trans (hb1.mono (by simp; omega))
  have HR := Lib.hid R1
  clear hb1 R1
  go_wp2
  exact bodyPost_ret (res3 rfl rfl rfl rfl (HR.out.set (.slice none 0 0) 2 b)) rfl ⟨rfl, bel_three hB1 (Nat.le_refl _) _ _ _⟩
end Go.Proofs.YtjfhcgolgabkkaaDoor
