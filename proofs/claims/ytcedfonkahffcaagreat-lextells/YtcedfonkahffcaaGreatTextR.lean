/- The document's own answers for layer 6 (copperplateref06): contracts of digit, Hex, put, short, Escape. -/
import Derived.Test.YtcedfonkahffcaaGreatTextE
import Derived.Test.YtcedfonkahffcaaGreatUtfJ
namespace Go.Proofs.YtcedfonkahffcaaGreat
open Go.RowKit
set_option linter.unusedVariables false
attribute [local go_sem] conv1

theorem ret_eq {a b : Int} (h : a = b) : Ending.returned (.int .i64 a) = .returned (.int .i64 b) := by rw [h]
def dgv (c : UInt8) : Int := match hxd c with | some n => (n : Int) | none => -1

set_option maxHeartbeats 400000 in
theorem rdigit_any (c : UInt8) (w : World) :
    Calls Tryz.prog 97 #[.int .u8 c.toNat] w fun e w' => e = .returned (.int .i64 (dgv c)) ∧ w = w' := by
  have hlt : c.toNat < 256 := UInt8.toNat_lt c
  unfold dgv hxd
  generalize c.toNat = x at *
  by_cases h1 : 48 ≤ x ∧ x ≤ 57
  · rw [if_pos h1]
    obtain ⟨h1, h2⟩ := h1
    have e3 : ((x - 48 : Nat) : Int) = (x : Int) - 48 := by omega
    have E3 := Lib.hid e3
    clear e3
    go_enter Tryz.func97, Tryz.ntmps97
    go_wp2
    go_ret
    exact ⟨ret_eq E3.out.symm, rfl⟩
  rw [if_neg h1]
  by_cases h2 : 97 ≤ x ∧ x ≤ 102
  · rw [if_pos h2]
    obtain ⟨h2, h3⟩ := h2
    have h4 : ¬ x ≤ 57 := by omega
    have e3 : ((x - 87 : Nat) : Int) = (x : Int) - 97 + 10 := by omega
    have E3 := Lib.hid e3
    clear e3 h1
    go_enter Tryz.func97, Tryz.ntmps97
    go_wp2
    go_ret
    exact ⟨ret_eq E3.out.symm, rfl⟩
  rw [if_neg h2]
  by_cases h3 : 65 ≤ x ∧ x ≤ 70
  · rw [if_pos h3]
    obtain ⟨h3, h4⟩ := h3
    have h5 : ¬ x ≤ 57 := by omega
    have h6 : ¬ 97 ≤ x := by omega
    have e3 : ((x - 55 : Nat) : Int) = (x : Int) - 65 + 10 := by omega
    have E3 := Lib.hid e3
    clear e3 h1 h2
    go_enter Tryz.func97, Tryz.ntmps97
    go_wp2
    go_ret
    exact ⟨ret_eq E3.out.symm, rfl⟩
  rw [if_neg h3]
  have hall : x < 48 ∨ (57 < x ∧ x < 65) ∨ (70 < x ∧ x < 97) ∨ 102 < x := by omega
  clear h1 h2 h3
  rcases hall with h | ⟨h, h'⟩ | ⟨h, h'⟩ | h
  · have g1 : ¬ 48 ≤ x := by omega
    have g2 : ¬ 97 ≤ x := by omega
    have g3 : ¬ 65 ≤ x := by omega
    go_enter Tryz.func97, Tryz.ntmps97
    go_wp2
    go_ret
    exact ⟨rfl, rfl⟩
  · have g1 : ¬ x ≤ 57 := by omega
    have g2 : ¬ 97 ≤ x := by omega
    have g3 : ¬ 65 ≤ x := by omega
    go_enter Tryz.func97, Tryz.ntmps97
    go_wp2
    go_ret
    exact ⟨rfl, rfl⟩
  · have g1 : ¬ x ≤ 57 := by omega
    have g2 : ¬ 97 ≤ x := by omega
    have g3 : ¬ x ≤ 70 := by omega
    go_enter Tryz.func97, Tryz.ntmps97
    go_wp2
    go_ret
    exact ⟨rfl, rfl⟩
  · have g1 : ¬ x ≤ 57 := by omega
    have g2 : ¬ x ≤ 102 := by omega
    have g3 : ¬ x ≤ 70 := by omega
    go_enter Tryz.func97, Tryz.ntmps97
    go_wp2
    go_ret
    exact ⟨rfl, rfl⟩
theorem rdigit_y {c : UInt8} {n : Nat} (h : hxd c = some n) (w : World) :
    Calls Tryz.prog 97 #[.int .u8 c.toNat] w fun e w' => e = .returned (.int .i64 (n : Int)) ∧ w = w' := by
  have := rdigit_any c w; unfold dgv at this; rw [h] at this; exact this
theorem rdigit_n {c : UInt8} (h : hxd c = none) (w : World) :
    Calls Tryz.prog 97 #[.int .u8 c.toNat] w fun e w' => e = .returned (.int .i64 (-1)) ∧ w = w' := by
  have := rdigit_any c w; unfold dgv at this; rw [h] at this; exact this

set_option maxHeartbeats 1000000 in
theorem rhex_any (s : ByteArray) (i : Int) (w : World) (hs : s.size ≤ 1000000) :
    Calls Tryz.prog 86 #[.string s, .int .i64 i] w fun e w' => e = optE (hexA s.data.toList i) ∧ w = w' := by
  have hsz : s.data.toList.length = s.size := (Lib.size_eq s).symm
  by_cases h0 : 0 ≤ i
  · obtain ⟨k, rfl⟩ := Int.eq_ofNat_of_zero_le h0
    by_cases h1 : k + 4 ≤ s.size
    · rw [hexA_nat, drop_four h1]
      have g1 : ¬ (s.size : Int) - (k : Int) < 4 := by omega
      have g2 : ¬ s.size ≤ k := by omega
      have n1 : k + 1 < s.size := by omega
      have n2 : k + 2 < s.size := by omega
      have n3 : k + 3 < s.size := by omega
      have n0 : k < s.size := by omega
      clear hsz
      cases ha : hxd s[k] with
      | none =>
        have e : hx4 (s[k] :: s[k + 1] :: s[k + 2] :: s[k + 3] :: s.data.toList.drop (k + 4)) = none := by simp [hx4, ha]
        rw [e]; clear e
        have ra := rdigit_n ha
        clear ha
        go_enter Tryz.func86, Tryz.ntmps86
        go_wp2
        refine wp_loop_rounds 1 ?_
        rw [rounds_succ]
        go_wp2_with fail
        (with_reducible refine (ra _).mono ?_)
        rintro e w' ⟨rfl, rfl⟩
        go_wp2
        go_ret2
        exact ⟨rfl, rfl⟩
      | some x =>
        have ra := rdigit_y ha
        have bx1 := hxd_lt ha
        cases hb : hxd s[k + 1] with
        | none =>
          have e : hx4 (s[k] :: s[k + 1] :: s[k + 2] :: s[k + 3] :: s.data.toList.drop (k + 4)) = none := by simp [hx4, ha, hb]
          rw [e]; clear e
          have rb := rdigit_n hb
          clear ha hb
          go_enter Tryz.func86, Tryz.ntmps86
          go_wp2
          refine wp_loop_rounds 2 ?_
          rw [rounds_succ]
          go_wp2_with fail
          (with_reducible refine (ra _).mono ?_)
          rintro e w' ⟨rfl, rfl⟩
          go_wp2_with fail
          rw [rounds_succ]
          go_wp2_with fail
          (with_reducible refine (rb _).mono ?_)
          rintro e w' ⟨rfl, rfl⟩
          go_wp2
          go_ret2
          exact ⟨rfl, rfl⟩
        | some y =>
          have rb := rdigit_y hb
          have by1 := hxd_lt hb
          cases hc : hxd s[k + 2] with
          | none =>
            have e : hx4 (s[k] :: s[k + 1] :: s[k + 2] :: s[k + 3] :: s.data.toList.drop (k + 4)) = none := by simp [hx4, ha, hb, hc]
            rw [e]; clear e
            have rc := rdigit_n hc
            clear ha hb hc
            go_enter Tryz.func86, Tryz.ntmps86
            go_wp2
            refine wp_loop_rounds 3 ?_
            rw [rounds_succ]
            go_wp2_with fail
            (with_reducible refine (ra _).mono ?_)
            rintro e w' ⟨rfl, rfl⟩
            go_wp2_with fail
            rw [rounds_succ]
            go_wp2_with fail
            (with_reducible refine (rb _).mono ?_)
            rintro e w' ⟨rfl, rfl⟩
            go_wp2_with fail
            rw [rounds_succ]
            go_wp2_with fail
            (with_reducible refine (rc _).mono ?_)
            rintro e w' ⟨rfl, rfl⟩
            go_wp2
            go_ret2
            exact ⟨rfl, rfl⟩
          | some z =>
            have rc := rdigit_y hc
            have bz1 := hxd_lt hc
            cases hd : hxd s[k + 3] with
            | none =>
              have e : hx4 (s[k] :: s[k + 1] :: s[k + 2] :: s[k + 3] :: s.data.toList.drop (k + 4)) = none := by simp [hx4, ha, hb, hc, hd]
              rw [e]; clear e
              have rd := rdigit_n hd
              clear ha hb hc hd
              go_enter Tryz.func86, Tryz.ntmps86
              go_wp2
              refine wp_loop_rounds 4 ?_
              rw [rounds_succ]
              go_wp2_with fail
              (with_reducible refine (ra _).mono ?_)
              rintro e w' ⟨rfl, rfl⟩
              go_wp2_with fail
              rw [rounds_succ]
              go_wp2_with fail
              (with_reducible refine (rb _).mono ?_)
              rintro e w' ⟨rfl, rfl⟩
              go_wp2_with fail
              rw [rounds_succ]
              go_wp2_with fail
              (with_reducible refine (rc _).mono ?_)
              rintro e w' ⟨rfl, rfl⟩
              go_wp2_with fail
              rw [rounds_succ]
              go_wp2_with fail
              (with_reducible refine (rd _).mono ?_)
              rintro e w' ⟨rfl, rfl⟩
              go_wp2
              go_ret2
              exact ⟨rfl, rfl⟩
            | some u =>
              have rd := rdigit_y hd
              have bu1 := hxd_lt hd
              rw [hx4_of ha hb hc hd]
              have e : (((((x * 16 + y) * 16 + z) * 16 + u : Nat)) : Int) = 16 * (16 * (16 * (x : Int) + y) + z) + u := by omega
              have E := Lib.hid e
              clear e ha hb hc hd
              go_enter Tryz.func86, Tryz.ntmps86
              go_wp2
              refine wp_loop_rounds 5 ?_
              rw [rounds_succ]
              go_wp2_with fail
              (with_reducible refine (ra _).mono ?_)
              rintro e w' ⟨rfl, rfl⟩
              go_wp2_with fail
              rw [rounds_succ]
              go_wp2_with fail
              (with_reducible refine (rb _).mono ?_)
              rintro e w' ⟨rfl, rfl⟩
              go_wp2_with fail
              rw [rounds_succ]
              go_wp2_with fail
              (with_reducible refine (rc _).mono ?_)
              rintro e w' ⟨rfl, rfl⟩
              go_wp2_with fail
              rw [rounds_succ]
              go_wp2_with fail
              (with_reducible refine (rd _).mono ?_)
              rintro e w' ⟨rfl, rfl⟩
              go_wp2_with fail
              rw [rounds_succ]
              go_wp2
              go_ret2
              exact ⟨by unfold optE; rw [Option.getD_some, E.out]; rfl, rfl⟩
    · rw [hexA_out (by omega)]
      clear hsz
      by_cases g2 : s.size ≤ k
      · go_enter Tryz.func86, Tryz.ntmps86
        go_wp2
        go_ret2
        exact ⟨rfl, rfl⟩
      · have g1 : (s.size : Int) - (k : Int) < 4 := by omega
        go_enter Tryz.func86, Tryz.ntmps86
        go_wp2
        go_ret2
        exact ⟨rfl, rfl⟩
  · rw [hexA_neg (by omega)]
    have g0 : i < 0 := by omega
    clear hsz
    go_enter Tryz.func86, Tryz.ntmps86
    go_wp2
    go_ret2
    exact ⟨rfl, rfl⟩
theorem rhex_y {s : ByteArray} {i : Int} {n : Nat} (h : hexA s.data.toList i = some n) (hs : s.size ≤ 1000000) (w : World) :
    Calls Tryz.prog 86 #[.string s, .int .i64 i] w fun e w' => e = .returned (.tuple #[.int .i64 (n : Int), .bool true]) ∧ w = w' := by
  have := rhex_any s i w hs; rw [h] at this; exact this
theorem rhex_n {s : ByteArray} {i : Int} (h : hexA s.data.toList i = none) (hs : s.size ≤ 1000000) (w : World) :
    Calls Tryz.prog 86 #[.string s, .int .i64 i] w fun e w' => e = .returned (.tuple #[.int .i64 0, .bool false]) ∧ w = w' := by
  have := rhex_any s i w hs; rw [h] at this; exact this
theorem rhex_o (s : ByteArray) (i : Int) (hs : s.size ≤ 1000000) : ∃ (N : Int) (B : Bool), ∀ w : World,
    Calls Tryz.prog 86 #[.string s, .int .i64 i] w fun e w' => e = .returned (.tuple #[.int .i64 N, .bool B]) ∧ w = w' :=
  ⟨_, _, fun w => rhex_any s i w hs⟩

set_option maxHeartbeats 400000 in
theorem rput6_low {r : Int} {n : Nat} (hr : r = n) (h : n < 32) (w : World) :
    Calls Tryz.prog 87 #[.int .i64 r] w fun e w' => e = .returned (.string (mkb (putC n))) ∧ Below w.heap.size w w' := by
  subst hr
  have e1 : putC n = [UInt8.ofNat n] := by unfold putC; rw [if_pos h]
  have e2 : IntKind.u8.wrap (n : Int) = (n : Int) := by unfold IntKind.wrap; simp [IntKind.bits, IntKind.signed]; omega
  rw [e1]; clear e1
  go_enter Tryz.func87, Tryz.ntmps87
  go_wp2
  go_ret
  exact ⟨rfl, (Below.refl _ _).alloc (Nat.le_refl _) _⟩
set_option maxHeartbeats 400000 in
theorem rput6_src {r : Int} {n : Nat} (hr : r = n) (h : 32 ≤ n) (hs : srcB n = true) (w : World) :
    Calls Tryz.prog 87 #[.int .i64 r] w fun e w' => e = .returned (.string (mkb (enc n))) ∧ Below w.heap.size w w' := by
  have e : putA r = mkb (enc n) := by subst hr; unfold putA mkb; rw [putL_yes hs, Int.toNat_natCast]
  have r1 : ∀ w, Calls Tryz.prog 73 #[.int .i64 r] w fun e w' => e = .returned (.string (mkb (enc n))) ∧ Below w.heap.size w w' := fun w => by
    have := rput_any r w; rwa [e] at this
  have g : ¬ r < 32 := by omega
  clear e hr
  go_enter Tryz.func87, Tryz.ntmps87
  go_wp2_with fail
  (with_reducible refine (r1 _).mono ?_)
  rintro e w1 ⟨rfl, hb1⟩
  go_wp2_with fail
  go_ret
  exact ⟨rfl, hb1⟩
theorem rput6_b {n : Nat} (h : n < 65536) (h1 : loB n = false) (h2 : hiB n = false) (w : World) :
    Calls Tryz.prog 87 #[.int .i64 n] w fun e w' => e = .returned (.string (mkb (putC n))) ∧ Below w.heap.size w w' := by
  by_cases h3 : n < 32
  · exact rput6_low rfl h3 w
  · have e : putC n = enc n := by unfold putC; rw [if_neg h3]
    rw [e]; exact rput6_src rfl (by omega) (put_src h h1 h2 (by omega)) w

def shv (c : UInt8) : Int := match shB c with | some b => (b.toNat : Int) | none => -1
set_option maxHeartbeats 1000000 in
theorem short_any (c : UInt8) (w : World) :
    Calls Tryz.prog 85 #[.int .u8 c.toNat] w fun e w' => e = .returned (.int .i64 (shv c)) ∧ w = w' := by
  by_cases x34 : c.toNat = 34
  · obtain rfl : c = 34 := byte_of x34
    have es : shv 34 = 34 := rfl
    have ec : (((34 : UInt8).toNat : Nat) : Int) = 34 := rfl
    rw [es, ec]
    clear x34 es ec 
    go_enter Tryz.func85, Tryz.ntmps85
    go_wp2
    go_ret
    exact ⟨rfl, rfl⟩
  by_cases x92 : c.toNat = 92
  · obtain rfl : c = 92 := byte_of x92
    have es : shv 92 = 92 := rfl
    have ec : (((92 : UInt8).toNat : Nat) : Int) = 92 := rfl
    rw [es, ec]
    clear x92 es ec x34
    go_enter Tryz.func85, Tryz.ntmps85
    go_wp2
    go_ret
    exact ⟨rfl, rfl⟩
  by_cases x47 : c.toNat = 47
  · obtain rfl : c = 47 := byte_of x47
    have es : shv 47 = 47 := rfl
    have ec : (((47 : UInt8).toNat : Nat) : Int) = 47 := rfl
    rw [es, ec]
    clear x47 es ec x34 x92
    go_enter Tryz.func85, Tryz.ntmps85
    go_wp2
    go_ret
    exact ⟨rfl, rfl⟩
  by_cases x98 : c.toNat = 98
  · obtain rfl : c = 98 := byte_of x98
    have es : shv 98 = 8 := rfl
    have ec : (((98 : UInt8).toNat : Nat) : Int) = 98 := rfl
    rw [es, ec]
    clear x98 es ec x34 x92 x47
    go_enter Tryz.func85, Tryz.ntmps85
    go_wp2
    go_ret
    exact ⟨rfl, rfl⟩
  by_cases x102 : c.toNat = 102
  · obtain rfl : c = 102 := byte_of x102
    have es : shv 102 = 12 := rfl
    have ec : (((102 : UInt8).toNat : Nat) : Int) = 102 := rfl
    rw [es, ec]
    clear x102 es ec x34 x92 x47 x98
    go_enter Tryz.func85, Tryz.ntmps85
    go_wp2
    go_ret
    exact ⟨rfl, rfl⟩
  by_cases x110 : c.toNat = 110
  · obtain rfl : c = 110 := byte_of x110
    have es : shv 110 = 10 := rfl
    have ec : (((110 : UInt8).toNat : Nat) : Int) = 110 := rfl
    rw [es, ec]
    clear x110 es ec x34 x92 x47 x98 x102
    go_enter Tryz.func85, Tryz.ntmps85
    go_wp2
    go_ret
    exact ⟨rfl, rfl⟩
  by_cases x114 : c.toNat = 114
  · obtain rfl : c = 114 := byte_of x114
    have es : shv 114 = 13 := rfl
    have ec : (((114 : UInt8).toNat : Nat) : Int) = 114 := rfl
    rw [es, ec]
    clear x114 es ec x34 x92 x47 x98 x102 x110
    go_enter Tryz.func85, Tryz.ntmps85
    go_wp2
    go_ret
    exact ⟨rfl, rfl⟩
  by_cases x116 : c.toNat = 116
  · obtain rfl : c = 116 := byte_of x116
    have es : shv 116 = 9 := rfl
    have ec : (((116 : UInt8).toNat : Nat) : Int) = 116 := rfl
    rw [es, ec]
    clear x116 es ec x34 x92 x47 x98 x102 x110 x114
    go_enter Tryz.func85, Tryz.ntmps85
    go_wp2
    go_ret
    exact ⟨rfl, rfl⟩
  have es : shv c = -1 := by unfold shv; rw [shB_none (by intro n hn; simp at hn; omega)]
  rw [es]; clear es
  have t34 : ((c.toNat : Int) == 34) = false := beq_false_of_ne (by omega)
  have t92 : ((c.toNat : Int) == 92) = false := beq_false_of_ne (by omega)
  have t47 : ((c.toNat : Int) == 47) = false := beq_false_of_ne (by omega)
  have t98 : ((c.toNat : Int) == 98) = false := beq_false_of_ne (by omega)
  have t102 : ((c.toNat : Int) == 102) = false := beq_false_of_ne (by omega)
  have t110 : ((c.toNat : Int) == 110) = false := beq_false_of_ne (by omega)
  have t114 : ((c.toNat : Int) == 114) = false := beq_false_of_ne (by omega)
  have t116 : ((c.toNat : Int) == 116) = false := beq_false_of_ne (by omega)
  clear x34 x92 x47 x98 x102 x110 x114 x116
  go_enter Tryz.func85, Tryz.ntmps85
  go_wp2
  go_ret
  exact ⟨rfl, rfl⟩
theorem short_y {c b : UInt8} (h : shB c = some b) (w : World) : Calls Tryz.prog 85 #[.int .u8 c.toNat] w fun e w' => e = .returned (.int .i64 (b.toNat : Int)) ∧ w = w' := by
  have := short_any c w; unfold shv at this; rw [h] at this; exact this
theorem short_n {c : UInt8} (h : shB c = none) (w : World) : Calls Tryz.prog 85 #[.int .u8 c.toNat] w fun e w' => e = .returned (.int .i64 (-1)) ∧ w = w' := by
  have := short_any c w; unfold shv at this; rw [h] at this; exact this
end Go.Proofs.YtcedfonkahffcaaGreat
