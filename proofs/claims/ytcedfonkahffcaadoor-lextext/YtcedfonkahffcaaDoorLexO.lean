/- The law LexText: its walk. -/
import Derived.Test.YtcedfonkahffcaaDoorLexN
import Derived.Test.YtcedfonkahffcaaDoorQuoC
namespace Go.Proofs.YtcedfonkahffcaaDoor
open Go.RowKit
set_option linter.unusedVariables false

theorem may_b {s : ByteArray} {v : Bool} (hs : s.size ≤ 1000000) (h : mayB s.data.toList = v) (w : World) :
    Calls Tryd.prog 5 #[.string s] w fun e w' => e = .returned (.bool v) ∧ Below w.heap.size w w' := by
  rw [← h]; exact may_any s (by omega) w
theorem quote_y {A : ByteArray} {l : List UInt8} {cs : List Nat} (hA : A = mkb l) (h : qtA l = some cs) (hl : l.length ≤ 1000000) :
    ∃ R, R = mkb (quo cs) ∧ ∀ w, Tab w → Calls Tryd.prog 7 #[.string A] w fun e w' => e = .returned (.tuple #[.string R, .bool true]) ∧ Below w.heap.size w w' := by
  refine ⟨_, rfl, fun w ht => ?_⟩
  have := quote_any A w (by rw [hA, mkb_size]; exact hl) ht
  rw [hA, mkb_data, h] at this
  rw [hA]; exact this
theorem tok_len (l : List UInt8) : (tk l).v.length ≤ l.length := by
  cases l with
  | nil => exact Nat.le_refl _
  | cons c t =>
    show (tkC c (c :: t)).v.length ≤ _
    have hw := way c (c :: t)
    revert hw
    generalize tkC c (c :: t) = r
    intro hw
    cases hw with
    | dots h1 h2 => exact Fo.pre_len h2
    | dot h1 h2 => exact Nat.zero_le _
    | sign h1 h2 => simp
    | name h1 h2 h3 => exact List.length_take_le' _ _
    | num h1 h2 h3 h4 => unfold tkNum; split; exact List.length_take_le' _ _; exact Nat.zero_le _
    | raw h1 h2 =>
      unfold tkRaw; split
      · exact Nat.le_trans (Fo.fld_len _) (Fo.rawA_n (c :: t) 0).2.2.2.2
      · exact Nat.zero_le _
    | str h1 h2 =>
      unfold tkStr; split
      · exact (str_bd (c :: t)).2.2.1
      · exact Nat.zero_le _
    | bad h1 h2 h3 h4 h5 => exact Nat.zero_le _

set_option maxHeartbeats 4000000 in
set_option maxRecDepth 100000 in
theorem text_any (s : ByteArray) (i : Int) (w : World) (zs : s.size ≤ 9223372036854775807) (ht : Tab w) :
    Calls Tryd.prog 3 #[.string s, .int .i64 i] w fun e w' => e = .returned (.bool true) ∧ Below w.heap.size w w' := by
  by_cases ha : 600 < s.size
  · have ga : (600 : Int) < (s.size : Int) := by omega
    clear ha
    go_enter Tryd.func3, Tryd.ntmps3
    (try simp only [List.append_eq, List.cons_append, List.nil_append])
    go_wp2_with fail
    (with_reducible refine (awake_any _).mono ?_)
    rintro e w1 ⟨rfl, hb1⟩
    go_wp2_with fail
    go_ret
    exact ⟨by first | (simp; done) | (simp; omega), hb1⟩
  have ga : ¬ (600 : Int) < (s.size : Int) := by omega
  cases hma : mayB s.data.toList
  · have m1 := fun w => may_b (s := s) (by omega) hma w
    clear ha hma
    go_enter Tryd.func3, Tryd.ntmps3
    (try simp only [List.append_eq, List.cons_append, List.nil_append])
    go_wp2_with fail
    (with_reducible refine (awake_any _).mono ?_)
    rintro e w1 ⟨rfl, hb1⟩
    go_wp2_with fail
    (with_reducible refine (m1 _).mono ?_)
    rintro e w2 ⟨rfl, hb2⟩
    go_wp2_with fail
    go_ret
    exact ⟨by first | (simp; done) | (simp; omega), (bel_trans hb1 hb2)⟩
  have m1 := fun w => may_b (s := s) (by omega) hma w
  clear hma
  by_cases hi : i < 0 ∨ (s.size : Int) ≤ i
  · have r1 := fun w => one_out s hi w
    unfold tokE at r1
    by_cases h0 : i < 0
    · clear ha hi
      go_enter Tryd.func3, Tryd.ntmps3
      (try simp only [List.append_eq, List.cons_append, List.nil_append])
      go_wp2_with fail
      (with_reducible refine (awake_any _).mono ?_)
      rintro e w1 ⟨rfl, hb1⟩
      go_wp2_with fail
      (with_reducible refine (m1 _).mono ?_)
      rintro e w2 ⟨rfl, hb2⟩
      go_wp2_with fail
      (with_reducible refine (r1 _).mono ?_)
      rintro e w3 ⟨rfl, hb3⟩
      go_wp2_with fail
      go_ret
      exact ⟨by first | (simp; done) | (simp; omega), (bel_alloc (bel_trans (bel_trans hb1 hb2) hb3) _)⟩
    · have h1 : (s.size : Int) ≤ i := by omega
      clear ha hi
      go_enter Tryd.func3, Tryd.ntmps3
      (try simp only [List.append_eq, List.cons_append, List.nil_append])
      go_wp2_with fail
      (with_reducible refine (awake_any _).mono ?_)
      rintro e w1 ⟨rfl, hb1⟩
      go_wp2_with fail
      (with_reducible refine (m1 _).mono ?_)
      rintro e w2 ⟨rfl, hb2⟩
      go_wp2_with fail
      (with_reducible refine (r1 _).mono ?_)
      rintro e w3 ⟨rfl, hb3⟩
      go_wp2_with fail
      go_ret
      exact ⟨by first | (simp; done) | (simp; omega), (bel_alloc (bel_trans (bel_trans hb1 hb2) hb3) _)⟩
  obtain ⟨k, rfl⟩ := Int.eq_ofNat_of_zero_le (show 0 ≤ i by omega)
  have hk : k < s.size := by omega
  clear hi
  obtain ⟨t, htk⟩ : ∃ t, tk (s.data.toList.drop k) = t := ⟨_, rfl⟩
  have r1 := fun w => one_at (by omega) hk htk w
  have hok := tk_ok (s.data.toList.drop k)
  have hvl := tok_len (s.data.toList.drop k)
  rw [htk] at hok hvl
  have hle := hok.le
  rw [List.length_drop, ← Lib.size_eq] at hle hvl
  by_cases he : t.e = 0
  rotate_left
  · rw [oneE_no he] at r1
    unfold tokE at r1
    generalize t.n = n at *
    generalize t.e = er at *
    have e1 : (er != 0) = true := by simpa using he
    have x1 : (k : Int) + (n : Int) ≤ (s.size : Int) := by omega
    have x2 : (k : Int) ≤ (k : Int) + (n : Int) := by omega
    have x3 : ¬ (s.size : Int) ≤ (k : Int) := by omega
    have x4 : ¬ s.size ≤ k := by omega
    clear ha he hok hvl hle htk
    go_enter Tryd.func3, Tryd.ntmps3
    (try simp only [List.append_eq, List.cons_append, List.nil_append])
    go_wp2_with fail
    (with_reducible refine (awake_any _).mono ?_)
    rintro e w1 ⟨rfl, hb1⟩
    go_wp2_with fail
    (with_reducible refine (m1 _).mono ?_)
    rintro e w2 ⟨rfl, hb2⟩
    go_wp2_with fail
    (with_reducible refine (r1 _).mono ?_)
    rintro e w3 ⟨rfl, hb3⟩
    go_wp2_with fail
    go_ret
    exact ⟨by first | (simp; done) | (simp; omega), (bel_alloc (bel_trans (bel_trans hb1 hb2) hb3) _)⟩
  · have hn := hok.ok he
    have r1' : ∀ w, Calls Tryd.prog 6 #[.string s, .int .i64 k] w fun r w' => r = .returned (.tuple #[.agg #[.int .i64 t.k, .string (mkb t.v), .int .i64 (k : Int), .int .i64 ((k : Int) + (t.n : Int))], .int .i64 0, .int .i64 ((k : Int) + (t.n : Int))]) ∧ Below w.heap.size w w' := fun w => by
      have := r1 w
      unfold oneE tokE at this
      rw [if_pos he] at this
      exact this
    clear r1
    have hx := ext_take s k t.n
    by_cases h5 : t.k = 5
    · obtain ⟨cs, hq⟩ := tk_qt (l := s.data.toList.drop k) (by rw [htk]; exact he) (by rw [htk]; exact h5)
      rw [htk] at hq
      obtain ⟨V, hV⟩ : ∃ V, V = mkb t.v := ⟨_, rfl⟩
      obtain ⟨R, hR, r2⟩ := quote_y (A := V) hV (qtA_iff.2 hq) (by omega)
      have hz := hq.len
      have hRz : R.size ≤ 1000000 := by rw [hR, mkb_size, quo_len]; omega
      have kq : (quo cs).length = R.size := by rw [hR, mkb_size]
      have r3 : ∀ w, Calls Tryd.prog 6 #[.string R, .int .i64 0] w fun r w' => r = .returned (.tuple #[.agg #[.int .i64 5, .string V, .int .i64 0, .int .i64 R.size], .int .i64 0, .int .i64 R.size]) ∧ Below w.heap.size w w' := fun w => by
        have := one_at (s := R) (k := 0) (t := ⟨5, t.v, R.size, 0⟩) hRz (by rw [← kq, quo_len]; omega) (by rw [List.drop_zero, hR, mkb_data, tk_quo hq, mkb_size]) w
        rw [oneE_ok] at this
        unfold tokE at this
        rw [← hV] at this
        simpa using this
      rw [h5, ← hV] at r1'
      generalize hnn : t.n = n at *
      have x1 : ¬ (s.size : Int) < (k : Int) + (n : Int) := by omega
      have x2 : ¬ (k : Int) + (n : Int) ≤ (k : Int) := by omega
      have x3 : k + n ≤ s.size := by omega
      have x5 : ¬ s.size < k + n := by omega
      have t1 : (V.toList == V.toList) = true := by simp
      clear ha he hok hvl hle htk hq hz hRz kq hx h5 hV hR hnn
      go_enter Tryd.func3, Tryd.ntmps3
      (try simp only [List.append_eq, List.cons_append, List.nil_append])
      go_wp2_with fail
      (with_reducible refine (awake_any _).mono ?_)
      rintro e w1 ⟨rfl, hb1⟩
      go_wp2_with fail
      (with_reducible refine (m1 _).mono ?_)
      rintro e w2 ⟨rfl, hb2⟩
      go_wp2_with fail
      (with_reducible refine (r1' _).mono ?_)
      rintro e w3 ⟨rfl, hb3⟩
      go_wp2_with fail
      (with_reducible refine (r2 _ (ht.below (bel_alloc (bel_trans (bel_trans hb1 hb2) hb3) _))).mono ?_)
      rintro e w4 ⟨rfl, hb4⟩
      obtain ⟨c0, c1, c2, c3, f0, f1, f2, f3⟩ := (B4.new w3 (.int .i64 5) (.string V) (.int .i64 (k : Int)) (.int .i64 ((k : Int) + (n : Int))) 25).below hb4
      go_wp2_with fail
      (with_reducible refine (r3 _).mono ?_)
      rintro e w5 ⟨rfl, hb5⟩
      have d0 := bel_cell hb5 c0
      have d1 := bel_cell hb5 c1
      have lb : w3.heap.size < w5.heap.size := World.block_lt_of_cell? _ _ d0
      have hbb := bel_trans (bel_trans (bel_alloc (bel_trans (bel_trans hb1 hb2) hb3) _) hb4) hb5
      clear hb1 hb2 hb3 hb4 hb5 c0 c1 c2 c3 f0 f1 f2 f3 r1' r2 r3 m1
      go_wp2
      go_ret
      exact ⟨by simp, bel_alloc hbb _⟩
    · obtain ⟨al, av⟩ := tk_alone (l := s.data.toList.drop k) (by rw [htk]; exact he) (by rw [htk]; exact h5)
      rw [htk] at al av
      obtain ⟨O, hO⟩ : ∃ O, s.extract k (k + t.n) = O := ⟨_, rfl⟩
      rw [hO] at hx
      have hOz : O.size = t.n := by rw [hx, mkb_size, List.length_take, List.length_drop, ← Lib.size_eq]; omega
      have r3 : ∀ w, Calls Tryd.prog 6 #[.string O, .int .i64 0] w fun r w' => r = .returned (.tuple #[.agg #[.int .i64 t.k, .string O, .int .i64 0, .int .i64 (t.n : Int)], .int .i64 0, .int .i64 (t.n : Int)]) ∧ Below w.heap.size w w' := fun w => by
        have := one_at (s := O) (k := 0) (t := t) (by omega) (by omega) (by rw [List.drop_zero, hx, mkb_data]; exact al) w
        unfold oneE tokE at this
        rw [if_pos he, av, ← hx] at this
        simpa using this
      rw [av, ← hx] at r1'
      have e5 : (t.k == 5) = false := by simpa using h5
      have HX := Lib.hid hO
      have kO : (O.size : Int) = (t.n : Int) := by omega
      generalize hnn : t.n = n at *
      have x1 : ¬ (s.size : Int) < (k : Int) + (n : Int) := by omega
      have x2 : ¬ (k : Int) + (n : Int) ≤ (k : Int) := by omega
      have x3 : k + n ≤ s.size := by omega
      have x5 : ¬ s.size < k + n := by omega
      have t1 : (O.toList == O.toList) = true := by simp
      clear ha he hok hvl hle htk hx h5 al av hnn hOz
      go_enter Tryd.func3, Tryd.ntmps3
      (try simp only [List.append_eq, List.cons_append, List.nil_append])
      go_wp2_with fail
      (with_reducible refine (awake_any _).mono ?_)
      rintro e w1 ⟨rfl, hb1⟩
      go_wp2_with fail
      (with_reducible refine (m1 _).mono ?_)
      rintro e w2 ⟨rfl, hb2⟩
      go_wp2_with fail
      (with_reducible refine (r1' _).mono ?_)
      rintro e w3 ⟨rfl, hb3⟩
      go_wp2_with fail
      (with_reducible refine (r3 _).mono ?_)
      rintro e w5 ⟨rfl, hb5⟩
      obtain ⟨d0, d1, c2, c3, f0, f1, f2, f3⟩ := (B4.new w3 (.int .i64 t.k) (.string O) (.int .i64 (k : Int)) (.int .i64 ((k : Int) + (n : Int))) 25).below hb5
      have lb : w3.heap.size < w5.heap.size := World.block_lt_of_cell? _ _ d0
      have hbb := bel_trans (bel_alloc (bel_trans (bel_trans hb1 hb2) hb3) _) hb5
      clear hb1 hb2 hb3 hb5 c2 c3 f0 f1 f2 f3 r1' r3 m1
      go_wp2
      go_ret
      exact ⟨by simp, bel_alloc hbb _⟩
end Go.Proofs.YtcedfonkahffcaaDoor
