/- The law LexPlaces: its mathematics and walk. -/
import Derived.Test.YtcedfonkahffcaaLexH
import Derived.Deep.RegionHeld3
namespace Go.Proofs.Ytcedfonkahffcaa
open Go.RowKit
set_option linter.unusedVariables false

theorem chain_next {l : List UInt8} {a0 : Nat} {y : Yl} {rest : List Yl} (h : ylds (l.drop a0) a0 = y :: rest) (ho : allOk (y :: rest) = true) (ha : a0 ≤ l.length) :
    ∃ b, Sc.blT (l.drop a0) = b ∧ a0 + b < l.length ∧ y.o = a0 + b ∧ tk (l.drop (a0 + b)) = y.t ∧ y.t.e = 0 ∧ 0 < y.t.n ∧ a0 + b + y.t.n ≤ l.length ∧ ylds (l.drop (a0 + b + y.t.n)) (a0 + b + y.t.n) = rest := by
  rw [allOk_cons, Bool.and_eq_true, beq_iff_eq] at ho
  by_cases hb : Sc.blT (l.drop a0) < (l.drop a0).length
  · refine ⟨_, rfl, by rw [List.length_drop] at hb; omega, ?_⟩
    by_cases he : (tk ((l.drop a0).drop (Sc.blT (l.drop a0)))).e = 0
    · rw [ylds_go a0 hb rfl he] at h
      injection h with h1 h2
      subst h1
      have hk := tk_ok ((l.drop a0).drop (Sc.blT (l.drop a0)))
      have hl := hk.le
      simp only [List.length_drop] at hl hb
      rw [List.drop_drop] at he hl hk h2 ⊢
      refine ⟨rfl, rfl, he, hk.ok he, by show a0 + _ + (tk _).n ≤ _; omega, ?_⟩
      rw [List.drop_drop, ← Nat.add_assoc] at h2
      exact h2
    · rw [ylds_err a0 hb rfl he] at h
      injection h with h1 h2
      subst h1
      exact absurd ho.1 he
  · rw [ylds_stop a0 hb] at h; cases h
theorem chain_end {l : List UInt8} {a0 : Nat} (h : ylds (l.drop a0) a0 = []) (ha : a0 ≤ l.length) : a0 + Sc.blT (l.drop a0) = l.length := by
  by_cases hb : Sc.blT (l.drop a0) < (l.drop a0).length
  · rw [ylds, dif_pos hb] at h; cases h
  · have := Sc.blT_le (l.drop a0)
    rw [List.length_drop] at this hb
    omega
theorem errOf_bd {ys : List Yl} (h : allOk ys = false) : ∃ y ∈ ys, errOf ys = (y.t.e, ((y.o + y.t.n : Nat) : Int)) ∧ y.t.e ≠ 0 := by
  induction ys with
  | nil => cases h
  | cons y ys ih =>
    by_cases he : y.t.e = 0
    · obtain ⟨z, hz, e⟩ := ih (by simpa [allOk_cons, he] using h)
      exact ⟨z, List.mem_cons_of_mem _ hz, by show (if y.t.e = 0 then errOf ys else _) = _ ∧ _; rw [if_pos he]; exact e⟩
    · exact ⟨y, List.mem_cons_self, by show (if y.t.e = 0 then errOf ys else _) = _ ∧ _; rw [if_neg he]; exact ⟨rfl, he⟩⟩
theorem errOf_le {l : List UInt8} (h : allOk (ylds l 0) = false) : ∃ p : Nat, (errOf (ylds l 0)).2 = p ∧ p ≤ l.length := by
  obtain ⟨y, hy, e, _⟩ := errOf_bd h
  have := (ylds_in l 0 y hy).2.1
  exact ⟨_, by rw [e], by omega⟩

set_option maxHeartbeats 2000000 in
set_option maxRecDepth 100000 in
theorem places_any (s : ByteArray) (i : Int) (w : World) (zs : s.size ≤ 9223372036854775807) :
    Calls Try.prog 3 #[.string s, .int .i64 i] w fun e w' => e = .returned (.bool true) ∧ Below w.heap.size w w' := by
  by_cases ha : 600 < s.size
  · have ga : (600 : Int) < (s.size : Int) := by omega
    clear ha
    go_enter Try.func3, Try.ntmps3
    (try simp only [List.append_eq, List.cons_append, List.nil_append])
    go_wp2_with fail
    (with_reducible refine (awake_any _).mono ?_)
    rintro e w1 ⟨rfl, hb1⟩
    go_wp2_with fail
    go_ret
    exact ⟨by first | (simp; done) | (simp; omega), hb1⟩
  have ga : ¬ (600 : Int) < (s.size : Int) := by omega
  have la : s.data.toList.length = s.size := (Lib.size_eq s).symm
  by_cases hth : thru s.data.toList = s.data.toList.length
  rotate_left
  · have hle := thru_le s.data.toList
    have r1 := fun w => lex_bad (s := s) (b := (thru s.data.toList : Int)) (by omega) (by rw [badI, if_neg hth]) (by omega) w
    generalize thru s.data.toList = x at *
    have hx : (x : Int) ≤ (s.size : Int) := by omega
    clear hth la ha hle
    go_enter Try.func3, Try.ntmps3
    (try simp only [List.append_eq, List.cons_append, List.nil_append])
    go_wp2_with fail
    (with_reducible refine (awake_any _).mono ?_)
    rintro e w1 ⟨rfl, hb1⟩
    go_wp2_with fail
    (with_reducible refine (r1 _).mono ?_)
    rintro e w2 ⟨rfl, hb2⟩
    go_wp2_with fail
    go_ret
    exact ⟨by first | (simp; done) | (simp; omega), (bel_trans hb1 hb2)⟩
  cases ho : allOk (ylds s.data.toList 0)
  · have hne := errOf_ne ho
    obtain ⟨p, hp, hple⟩ := errOf_le ho
    obtain ⟨⟨er, p'⟩, hE⟩ : ∃ r, errOf (ylds s.data.toList 0) = r := ⟨_, rfl⟩
    have r1 := fun w => lex_no (s := s) (by omega) hth rfl ho hE w
    rw [hE] at hne hp
    dsimp at hp hne
    subst hp
    have e2 : (er != 0) = true := by simp [hne]
    have hx : (p : Int) ≤ (s.size : Int) := by omega
    clear hth la ha ho hE hple
    go_enter Try.func3, Try.ntmps3
    (try simp only [List.append_eq, List.cons_append, List.nil_append])
    go_wp2_with fail
    (with_reducible refine (awake_any _).mono ?_)
    rintro e w1 ⟨rfl, hb1⟩
    go_wp2_with fail
    (with_reducible refine (r1 _).mono ?_)
    rintro e w2 ⟨rfl, hb2⟩
    go_wp2_with fail
    go_ret
    exact ⟨by first | (simp; done) | (simp; omega), (bel_trans hb1 hb2)⟩
  · have r1 := fun w => lex_yes (s := s) (by omega) hth rfl ho w
    have r9 := fun w => may_b (s := s) (by omega) (may_iff.2 hth) w
    have hch : ylds (s.data.toList.drop 0) 0 = (ylds s.data.toList 0).drop 0 := by rw [List.drop_zero, List.drop_zero]
    have hyb := ylds_bd s.data.toList 0
    rw [la] at hyb
    obtain ⟨Y, hY⟩ : ∃ Y, ylds s.data.toList 0 = Y := ⟨_, rfl⟩
    rw [hY] at r1 ho hch hyb
    obtain ⟨n, hn⟩ : ∃ n, Y.length = n := ⟨_, rfl⟩
    rw [hn] at r1 hyb
    have HO := Lib.hid ho
    have HN := Lib.hid hn
    have HC := Lib.hid hch
    have HL := Lib.hid la
    clear hth ha ho hY hn hch la
    go_enter Try.func3, Try.ntmps3
    (try simp only [List.append_eq, List.cons_append, List.nil_append])
    go_wp2_with fail
    (with_reducible refine (awake_any _).mono ?_)
    rintro e w1 ⟨rfl, hb1⟩
    go_wp2_with fail
    (with_reducible refine (r1 _).mono ?_)
    rintro e w2 ⟨A, c, rfl, hb2, tr2⟩
    have HT := Lib.hid tr2
    have hB2 := bel_trans hb1 hb2
    clear r1 tr2 hb1 hb2
    go_wp2_with fail
    go_loopw [9, 10] (fun a k wr => ∃ a0 k0 : Nat, a = .int .i64 a0 ∧ k = .int .i64 k0 ∧ k0 ≤ n ∧ a0 ≤ s.size ∧ ylds (s.data.toList.drop a0) a0 = Y.drop k0 ∧ Below w2.heap.size w2 wr) (fun _ k _ => n - (intOf k).toNat)
    case atStart => exact ⟨0, 0, rfl, rfl, Nat.zero_le _, Nat.zero_le _, HC.out, Below.refl _ _⟩
    case round =>
      obtain ⟨a0, k0, rfl, rfl, hk0, ha0, hch, hB⟩ := hrel
      have HC2 := Lib.hid hch
      clear hch
      by_cases hlt : k0 < n
      · obtain ⟨y, hy⟩ : ∃ y, Y[k0]? = some y := ⟨_, List.getElem?_eq_getElem (by rw [HN.out]; exact hlt)⟩
        have hd : Y.drop k0 = y :: Y.drop (k0 + 1) := by
          rw [List.drop_eq_getElem_cons (by rw [HN.out]; exact hlt)]
          congr 1
          exact (List.getElem?_eq_some_iff.1 hy).2
        have hod : allOk (y :: Y.drop (k0 + 1)) = true := by
          have := HO.out
          rw [← List.take_append_drop k0 Y, allOk_append, Bool.and_eq_true, hd] at this
          exact this.2
        obtain ⟨b, hb, h1, h2, h3, h4, h5, h6, h7⟩ := chain_next (HC2.out.trans hd) hod (by rw [HL.out]; exact ha0)
        rw [HL.out] at h1 h6
        obtain ⟨bb, oo, rfl, c0, c1, c2, c3⟩ := (HT.out.below hB) k0 y.q (by rw [List.getElem?_map, hy]; rfl)
        have ea : y.q.a = ((a0 + b : Nat) : Int) := by show Yl.a y = _; unfold Yl.a; rw [if_pos h4, h2]
        have ez : y.q.z = ((a0 + b + y.t.n : Nat) : Int) := by show Yl.z y = _; unfold Yl.z; rw [if_pos h4, h2]; omega
        rw [ea] at c2
        rw [ez] at c3
        have rB := fun w => Sc.blank_any s a0 w (by omega)
        rw [Sc.atE_in (by rw [HL.out]; exact ha0), hb, show (a0 : Int) + (b : Int) = ((a0 + b : Nat) : Int) by omega] at rB
        have hone := fun w => one_at (k := a0 + b) (t := y.t) (by omega) h1 h3 w
        generalize hm1 : a0 + b = a1 at *
        generalize hm2 : a1 + y.t.n = a2 at *
        have x1 : ¬ (a1 : Int) < (a0 : Int) := by omega
        have x2 : ¬ (a2 : Int) ≤ (a1 : Int) := by omega
        have x3 : ¬ (s.size : Int) < (a2 : Int) := by omega
        have HX := Lib.hid (And.intro hm1 (And.intro hm2 (And.intro h5 h7)))
        clear hm1 hm2 h5 h7 hd hod hb h3 h2 ea ez
        have hone' : ∀ w, Calls Try.prog 11 #[.string s, .int .i64 (a1 : Int)] w fun r w' => r = .returned (.tuple #[.agg #[.int .i64 y.t.k, .string (mkb y.t.v), .int .i64 (a1 : Int), .int .i64 (a2 : Int)], .int .i64 0, .int .i64 (a2 : Int)]) ∧ Below w.heap.size w w' := fun w => by
          have := hone w
          unfold oneE tokE at this
          rw [if_pos h4, show (a1 : Int) + (y.t.n : Int) = (a2 : Int) by have := HX.out.2.1; omega] at this
          exact this
        change wr.cell? ⟨bb, oo + k0 * 4, none⟩ = some (.int .i64 y.t.k) at c0
        change wr.cell? ⟨bb, oo + k0 * 4 + 1, none⟩ = some (.string (mkb y.t.v)) at c1
        clear hone hy h4
        go_wp2_with fail
        have n1 : ¬ a1 < a0 := by omega
        have n2 : ¬ a2 ≤ a1 := by omega
        have n3 : ¬ s.size < a2 := by omega
        go_region_held3 (fun w' => w'.cell? ⟨bb, oo + k0 * 4 + 2, none⟩ = some (.int .i64 (a1 : Int)) ∧ w'.cell? ⟨bb, oo + k0 * 4 + 3, none⟩ = some (.int .i64 (a2 : Int)))
          (first | (exact ⟨c2, c3⟩) | (go_split_ands; refine ⟨?_, ?_⟩ <;> exact bel_cell hq (by assumption)))
          (first | (go_at_call 10; refine (rB _).mono ?_; rintro e w4 ⟨rfl, hq⟩))
        have hB4 : Below w2.heap.size w2 w4 := hB.drew.trans (hq.mono hB.size)
        have hq' : Below wr.heap.size wr w4 := ⟨hq.os, hq.tape, hq.output, hq.size, hq.block⟩
        have d0 := bel_cell hq' c0
        have d1 := bel_cell hq' c1
        have d2 := bel_cell hq' c2
        have d3 := bel_cell hq' c3
        clear hq hq' c0 c1 c2 c3 hB n1 n2 n3 x1 x2 x3 rB
        by_cases hki : (k0 : Int) = i
        · have eki : ((k0 : Int) == i) = true := by simp [hki]
          clear hki
          go_wp2_with fail
          (with_reducible refine (hone' _).mono ?_)
          rintro e w5 ⟨rfl, hb5⟩
          have e0 := bel_cell hb5 d0
          have e1 := bel_cell hb5 d1
          have e2 := bel_cell hb5 d2
          have e3 := bel_cell hb5 d3
          have lb : bb < w5.heap.size := World.block_lt_of_cell? _ _ e0
          have hB5 := hB4.trans (bel_alloc hb5 (.cells #[.int .i64 y.t.k, .string (mkb y.t.v), .int .i64 (a1 : Int), .int .i64 (a2 : Int)] 28) |>.mono hB4.size)
          clear hb5 d0 d1 d2 d3 hone' hB4
          go_wp2
          go_quiet (fail)
          go_wp2
          go_roundw
          case rel => exact ⟨a2, k0 + 1, rfl, by go_num, by omega, by omega, HX.out.2.2.2, below_drewN hB5 _⟩
          case measure => simp [intOf]; omega
        · have eki : ((k0 : Int) == i) = false := by simp [hki]
          clear hki hone'
          go_wp2
          go_roundw
          case rel => exact ⟨a2, k0 + 1, rfl, by go_num, by omega, by omega, HX.out.2.2.2, hB4⟩
          case measure => simp [intOf]; omega
      · obtain rfl : k0 = n := by omega
        have hE := chain_end (HC2.out.trans (List.drop_eq_nil_of_le (by rw [HN.out]; exact Nat.le_refl _))) (by rw [HL.out]; exact ha0)
        have rB := fun w => Sc.blank_any s a0 w (by omega)
        rw [Sc.atE_in (by rw [HL.out]; exact ha0), show (a0 : Int) + (Sc.blT (s.data.toList.drop a0) : Int) = (s.size : Int) by rw [HL.out] at hE; omega] at rB
        clear hE
        go_wp2_with fail
        (with_reducible refine (rB _).mono ?_)
        rintro e w5 ⟨rfl, hb5⟩
        go_wp2_with fail
        (with_reducible refine (r9 _).mono ?_)
        rintro e w6 ⟨rfl, hb6⟩
        go_wp2
        go_ret
        exact ⟨by simp, hB2.trans ((hB.trans (bel_trans hb5 hb6 |>.mono hB.size)).mono hB2.size)⟩
end Go.Proofs.Ytcedfonkahffcaa
