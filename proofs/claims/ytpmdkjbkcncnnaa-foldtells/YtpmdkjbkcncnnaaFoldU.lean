/- The law FoldTells: its walk. -/
import Derived.Test.YtpmdkjbkcncnnaaFoldT
namespace Go.Proofs.Ytpmdkjbkcncnnaa
open Go.RowKit
set_option linter.unusedVariables false

set_option maxHeartbeats 4000000 in
set_option maxRecDepth 100000 in
theorem tells_law (s : ByteArray) (i : Int) (A : Option Addr) (n c : Nat) (ls : List (List UInt8)) (w : World) (zs : s.size ≤ 9223372036854775807) (hi0 : -9223372036854775808 ≤ i) (hi : i ≤ 9223372036854775807)
    (hr : Rs w w.heap.size A ls) (hn : ls.length = n) (hn2 : n ≤ 9223372036854775807) (hl : ∀ x ∈ ls, x.length ≤ 9223372036854775807) :
    Calls Try.prog 3 #[.string s, .int .i64 i, .slice A n c] w fun e w' => e = .returned (.bool true) ∧ Below w.heap.size w w' := by
  have HR := Lib.hid hr
  have HN := Lib.hid hn
  have HLL := Lib.hid hl
  clear hr hn hl
  by_cases hs : 600 < s.size
  · have gs : (600 : Int) < (s.size : Int) := by omega
    clear hs
    go_enter Try.func3, Try.ntmps3
    (try simp only [List.append_eq, List.cons_append, List.nil_append])
    go_wp2_with fail
    (with_reducible refine (awake_any _).mono ?_)
    rintro e w1 ⟨rfl, hb1⟩
    go_wp2_with fail
    go_ret
    exact ⟨by first | (simp; done) | (simp; omega), hb1⟩
  have gs : ¬ (600 : Int) < (s.size : Int) := by omega
  by_cases hn6 : 60 < n
  · have gn : (60 : Int) < (n : Int) := by omega
    clear hs hn6
    go_enter Try.func3, Try.ntmps3
    (try simp only [List.append_eq, List.cons_append, List.nil_append])
    go_wp2_with fail
    (with_reducible refine (awake_any _).mono ?_)
    rintro e w1 ⟨rfl, hb1⟩
    go_wp2_with fail
    go_ret
    exact ⟨by first | (simp; done) | (simp; omega), hb1⟩
  have gn : ¬ (60 : Int) < (n : Int) := by omega
  have lsz : s.data.toList.length = s.size := (Lib.size_eq s).symm
  obtain ⟨m, hm⟩ : ∃ m, (lns s.data.toList).length = m + 1 := ⟨(lns s.data.toList).length - 1, by have := lns_pos s.data.toList; omega⟩
  have hct := lns_count s.data.toList
  have hm3 : m ≤ 1000 := by omega
  obtain ⟨⟨v, q, o⟩, hN⟩ : ∃ r, rawA s.data.toList i = r := ⟨_, rfl⟩
  have r1 := fun w => raw_any s i w (by omega)
  have r2 := fun w => rraw_any s i w (by omega)
  rw [hN] at r1 r2
  unfold rawE at r1 r2
  dsimp only at r1 r2
  have r3 := lines_n s (by omega) m hm
  have r4 := rlines_n s (by omega) m hm
  have r5 := fold_any s (by omega)
  have r6 := rfold_any s (by omega)
  have HMM := Lib.hid hm
  obtain ⟨V, hV⟩ : ∃ V, mkb v = V := ⟨_, rfl⟩
  obtain ⟨F, hF⟩ : ∃ F, mkb (fld s.data.toList) = F := ⟨_, rfl⟩
  obtain ⟨E, hE⟩ : ∃ E, i + (q : Int) = E := ⟨_, rfl⟩
  obtain ⟨L, hL⟩ : ∃ L, lns s.data.toList = L := ⟨_, rfl⟩
  rw [hV, hE] at r1 r2
  rw [hF] at r5 r6
  rw [hL] at r3 r4 HMM
  have t1 : (V.toList == V.toList) = true := by simp
  have t2 : (E == E) = true := by simp
  have t3 : (o == o) = true := by simp
  have t4 : (F.toList == F.toList) = true := by simp
  clear hN hV hF hE hL hm hct lsz
  go_enter Try.func3, Try.ntmps3
  (try simp only [List.append_eq, List.cons_append, List.nil_append])
  go_wp2_with fail
  (with_reducible refine (awake_any _).mono ?_)
  rintro e w1 ⟨rfl, hb1⟩
  have HR1 := Lib.hid (HR.out.below hb1)
  have hsz1 := hb1.size
  go_wp2_with fail
  go_loop [8] (fun i => ∃ k : Nat, k ≤ n ∧ i = .int .i64 k ∧ ∀ j x, j < k → ls[j]? = some x → x.length ≤ 600) (fun i => n - (intOf i).toNat)
  case atStart => exact ⟨0, by omega, rfl, fun j x hj => by omega⟩
  case round =>
    obtain ⟨k, hk, rfl, hsh⟩ := hrel
    have HSH := Lib.hid hsh
    clear hsh
    by_cases hlt : k < n
    · obtain ⟨x, hx, hxm⟩ := get_of (ls := ls) (k := k) (by rw [HN.out]; exact hlt)
      obtain ⟨ad, hA, _, hc⟩ := HR1.out k x hx
      subst hA
      have hmz : (mkb x).size = x.length := mkb_size x
      have hxl := HLL.out x hxm
      by_cases h6 : 600 < x.length
      · have g6 : (600 : Int) < ((mkb x).size : Int) := by omega
        clear h6 hx hmz
        generalize mkb x = X at *
        go_wp2
        go_ret
        exact ⟨rfl, hb1⟩
      · have g6 : ¬ (600 : Int) < ((mkb x).size : Int) := by omega
        have HX := Lib.hid (show ∀ j y, j < k + 1 → ls[j]? = some y → y.length ≤ 600 by
          intro j y hj hy
          by_cases e : j = k
          · subst e; rw [hx] at hy; cases hy; omega
          · exact HSH.out j y (by omega) hy)
        clear h6 hx hmz
        generalize mkb x = X at *
        go_wp2
        go_round
        case rel => exact ⟨k + 1, by omega, by go_num, HX.out⟩
        case measure => simp [intOf]; omega
    · have hall : ∀ x ∈ ls, x.length ≤ 1000000000 := by
        intro x hx
        obtain ⟨j, hj⟩ := List.getElem?_of_mem hx
        have := HSH.out j x (by have := (List.getElem?_eq_some_iff.1 hj).1; rw [HN.out] at this; omega) hj
        omega
      have HALL := Lib.hid hall
      clear hall
      obtain ⟨p, hp⟩ : ∃ p, ind ls = p := ⟨_, rfl⟩
      have HP := Lib.hid hp
      have t5 : (p == p) = true := by simp
      clear hp
      go_wp2_with fail
      (with_reducible refine (r1 _).mono ?_)
      rintro e w2 ⟨rfl, hb2⟩
      go_wp2_with fail
      (with_reducible refine (r2 _).mono ?_)
      rintro e w3 ⟨rfl, hb3⟩
      have hB3 := bel_trans (bel_trans hb1 hb2) hb3
      clear hb2 hb3
      go_wp2_with fail
      (with_reducible refine (r3 _).mono ?_)
      rintro e w4 ⟨g4, c4, rfl, hc4, row4, hb4⟩
      go_wp2_with fail
      (with_reducible refine (r4 _).mono ?_)
      rintro e w5 ⟨g5, c5, rfl, hc5, row5, hb5⟩
      have HR4 := Lib.hid (row4.below hb5)
      have HR5 := Lib.hid row5
      have hB5 := bel_trans (bel_trans hB3 hb4) hb5
      clear row4 row5 hb4 hb5 hB3
      go_wp2_with fail
      (with_reducible refine (texts_eq HR4.out.rs HR5.out.rs HMM.out HMM.out (by omega)).mono ?_)
      rintro e w6 ⟨rfl, hb6⟩
      have hB6 := bel_trans hB5 hb6
      clear hb6 HR4 HR5 hB5
      have HR6 := Lib.hid ((HR.out.below hB6).wide hB6.size)
      have r7 : Calls Try.prog 16 #[.slice A n c] w6 fun e w' => e = .returned (.int .i64 p) ∧ Below w6.heap.size w6 w' := by
        rw [← HP.out]; exact findent_any HR6.out HN.out HALL.out (by omega)
      go_wp2_with fail
      (with_reducible refine r7.mono ?_)
      rintro e w7 ⟨rfl, hb7⟩
      have hB7 := bel_trans hB6 hb7
      clear hb7 HR6 hB6 r7
      have HR7 := Lib.hid ((HR.out.below hB7).wide hB7.size)
      have r8 : Calls Try.prog 17 #[.slice A n c] w7 fun e w' => e = .returned (.int .i64 p) ∧ w7 = w' := by
        rw [← HP.out]; exact rindent_any HR7.out HN.out HALL.out (by omega)
      go_wp2_with fail
      (with_reducible refine r8.mono ?_)
      rintro e w' ⟨rfl, rfl⟩
      clear HR7 r8
      go_wp2_with fail
      (with_reducible refine (r5 _).mono ?_)
      rintro e w8 ⟨rfl, hb8⟩
      go_wp2_with fail
      (with_reducible refine (r6 _).mono ?_)
      rintro e w9 ⟨rfl, hb9⟩
      go_wp2
      go_ret
      exact ⟨by first | rfl | (simp; done), bel_trans (bel_trans hB7 hb8) hb9⟩
end Go.Proofs.Ytpmdkjbkcncnnaa
