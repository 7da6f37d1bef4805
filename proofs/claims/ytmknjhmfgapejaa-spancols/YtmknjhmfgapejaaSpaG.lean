/- The law SpanCols: its walk. -/
import Derived.Test.YtmknjhmfgapejaaSpaE
import Derived.Test.YtmknjhmfgapejaaUtfC
import Derived.Laws.Concat
namespace Go.Proofs.Ytmknjhmfgapejaa
open Go.RowKit
set_option linter.unusedVariables false
set_option maxRecDepth 100000

theorem app_data (a b : ByteArray) : (a ++ b).data.toList = a.data.toList ++ b.data.toList := by simp
theorem may_thru {l : List UInt8} (h : mayB l = true) : thru l = l.length := by
  unfold mayB badI at h
  by_cases e : thru l = l.length
  · exact e
  · rw [if_neg e, beq_iff_eq] at h
    omega
theorem emptyS {a : ByteArray} (h : a.size = 0) : a = ⟨#[]⟩ := by
  obtain ⟨⟨l⟩⟩ := a
  cases l with
  | nil => rfl
  | cons x l => cases h
theorem nonemptyS {a : ByteArray} (h : a.size ≠ 0) : (a.toList == []) = false := by
  obtain ⟨⟨l⟩⟩ := a
  cases l with
  | nil => exact absurd rfl h
  | cons x l => rw [Lib.toList_data]; rfl
theorem nonemptyL {a : ByteArray} (h : a.size ≠ 0) : a.data.toList ≠ [] := by
  rw [size_list] at h
  intro e
  rw [e] at h
  exact h rfl
theorem putA_sz (r : Int) : (putA r).size ≤ 4 := by
  rw [size_list]
  unfold putA putL
  split
  · have := enc_pos r.toNat; simpa using this.2
  · simp
theorem putA_ne {r : Int} (h : srcB r = true) : (putA r).size ≠ 0 := by
  rw [size_list]
  unfold putA
  rw [putL, if_pos h]
  have := enc_pos r.toNat
  simp
  intro e
  rw [e] at this
  simp at this
set_option maxHeartbeats 4000000 in
theorem cols_law {w : World} {a b : ByteArray} (r : Int) :
    Calls Try.prog 4 #[.string a, .string b, .int .i64 r] w fun e w' => e = .returned (.bool true) ∧ Below w.heap.size w w' := by
  have r1 := fun w => awake_any w
  by_cases h3 : 300 < a.size
  · have q3 : (300 : Int) < (a.size : Int) := by omega
    go_enter Try.func4, Try.ntmps4
    go_wp2_with fail
    ((with_reducible refine (r1 _).mono ?_))
    rintro e w1 ⟨rfl, hb1⟩
    have HB1 := Lib.hid hb1
    clear hb1
    go_wp2
    go_ret
    exact ⟨rfl, HB1.out⟩
  have q3 : ¬ (300 : Int) < (a.size : Int) := by omega
  by_cases h4 : 300 < b.size
  · have q4 : (300 : Int) < (b.size : Int) := by omega
    go_enter Try.func4, Try.ntmps4
    go_wp2_with fail
    ((with_reducible refine (r1 _).mono ?_))
    rintro e w1 ⟨rfl, hb1⟩
    have HB1 := Lib.hid hb1
    clear hb1
    go_wp2
    go_ret
    exact ⟨rfl, HB1.out⟩
  have q4 : ¬ (300 : Int) < (b.size : Int) := by omega
  obtain ⟨y, hy⟩ : ∃ y, mayB a.data.toList = y := ⟨_, rfl⟩
  have r2 := fun w => may_any a (by omega) w
  rw [hy] at r2
  cases y with
  | false =>
    clear h3 h4 hy
    go_enter Try.func4, Try.ntmps4
    go_wp2_with fail
    ((with_reducible refine (r1 _).mono ?_))
    rintro e w1 ⟨rfl, hb1⟩
    have HB1 := Lib.hid hb1
    clear hb1
    go_wp2_with fail
    ((with_reducible refine (r2 _).mono ?_))
    rintro e w2 ⟨rfl, hb2⟩
    have HB2 := Lib.hid (bel_trans HB1.out hb2)
    clear hb2
    go_wp2
    go_ret
    exact ⟨rfl, HB2.out⟩
  | true =>
    have hth := may_thru hy
    obtain ⟨n, hn⟩ : ∃ n, cols a.data.toList = n := ⟨_, rfl⟩
    obtain ⟨m, hm⟩ : ∃ m, cols b.data.toList = m := ⟨_, rfl⟩
    obtain ⟨V, hV⟩ : ∃ V, a ++ b = V := ⟨_, rfl⟩
    obtain ⟨U, hU⟩ : ∃ U, a ++ putA r = U := ⟨_, rfl⟩
    have hVz : V.size = a.size + b.size := by rw [← hV, ByteArray.size_append]
    have hUz : U.size = a.size + (putA r).size := by rw [← hU, ByteArray.size_append]
    have hpz := putA_sz r
    have s1 : ∀ w : World, (Op.stringOp .add a b).run Try.prog w = .ok (.string V) w := fun w => by
      rw [← hV]; exact run_string_add_sum w a b (by omega)
    have s2 : ∀ w : World, (Op.stringOp .add a (putA r)).run Try.prog w = .ok (.string U) w := fun w => by
      rw [← hU]; exact run_string_add_sum w a (putA r) (by omega)
    have hcV : cols V.data.toList = n + m := by rw [← hV, app_data, cols_app hth, hn, hm]
    have hna := cols_le a.data.toList
    rw [← size_list, hn] at hna
    have hmb := cols_le b.data.toList
    rw [← size_list, hm] at hmb
    have hnz : n = 0 ↔ a.data.toList = [] := by rw [← hn]; exact cols_zero _
    have r3 := fun w => scols_any a (by omega) hn w
    have r4 := fun w => put_any r w
    have r5 := fun w => scols_any V (by omega) hcV w
    have r6 := fun w => scols_any b (by omega) hm w
    have qn : (n : Int) ≤ (a.size : Int) := Int.ofNat_le.2 hna
    cases hsr : srcB r with
    | false =>
      have hp : putA r = ⟨#[]⟩ := putA_no hsr
      rw [hp] at r4
      clear s2 hU hUz hsr hy hth hn hm hV hcV hp
      by_cases ha : a.size = 0
      · obtain rfl := emptyS ha
        obtain rfl : n = 0 := hnz.2 rfl
        clear hnz hna qn
        go_enter Try.func4, Try.ntmps4
        go_wp2_with fail
        ((with_reducible refine (r1 _).mono ?_))
        rintro e w1 ⟨rfl, hb1⟩
        have HB1 := Lib.hid hb1
        clear hb1
        go_wp2_with fail
        ((with_reducible refine (r2 _).mono ?_))
        rintro e w2 ⟨rfl, hb2⟩
        have HB2 := Lib.hid (bel_trans HB1.out hb2)
        clear hb2
        go_wp2_with fail
        ((with_reducible refine (r3 _).mono ?_))
        rintro e w3 ⟨rfl, hb3⟩
        have HB3 := Lib.hid (bel_trans HB2.out hb3)
        clear hb3
        go_wp2_with fail
        ((with_reducible refine (r4 _).mono ?_))
        rintro e w4 ⟨rfl, rfl⟩
        have HB4 := HB3
        go_wp2_with fail
        ((with_reducible refine (r5 _).mono ?_))
        rintro e w5 ⟨rfl, hb5⟩
        have HB5 := Lib.hid (bel_trans HB4.out hb5)
        clear hb5
        go_wp2_with fail
        ((with_reducible refine (r6 _).mono ?_))
        rintro e w6 ⟨rfl, hb6⟩
        have HB6 := Lib.hid (bel_trans HB5.out hb6)
        clear hb6
        go_wp2
        go_ret
        exact ⟨rfl, HB6.out⟩
      · have e1 := nonemptyS ha
        have e2 : ((n : Int) == 0) = false := beq_false_of_ne (fun e => nonemptyL ha (hnz.1 (by omega)))
        clear hnz hna ha
        go_enter Try.func4, Try.ntmps4
        go_wp2_with fail
        ((with_reducible refine (r1 _).mono ?_))
        rintro e w1 ⟨rfl, hb1⟩
        have HB1 := Lib.hid hb1
        clear hb1
        go_wp2_with fail
        ((with_reducible refine (r2 _).mono ?_))
        rintro e w2 ⟨rfl, hb2⟩
        have HB2 := Lib.hid (bel_trans HB1.out hb2)
        clear hb2
        go_wp2_with fail
        ((with_reducible refine (r3 _).mono ?_))
        rintro e w3 ⟨rfl, hb3⟩
        have HB3 := Lib.hid (bel_trans HB2.out hb3)
        clear hb3
        go_wp2_with fail
        ((with_reducible refine (r4 _).mono ?_))
        rintro e w4 ⟨rfl, rfl⟩
        have HB4 := HB3
        go_wp2_with fail
        ((with_reducible refine (r5 _).mono ?_))
        rintro e w5 ⟨rfl, hb5⟩
        have HB5 := Lib.hid (bel_trans HB4.out hb5)
        clear hb5
        go_wp2_with fail
        ((with_reducible refine (r6 _).mono ?_))
        rintro e w6 ⟨rfl, hb6⟩
        have HB6 := Lib.hid (bel_trans HB5.out hb6)
        clear hb6
        go_wp2
        go_ret
        exact ⟨rfl, HB6.out⟩
    | true =>
      have hcU : cols U.data.toList = n + 1 := by rw [← hU, app_data, cols_app hth, hn]; exact congrArg _ (cols_put hsr)
      have r7 := fun w => scols_any U (by omega) hcU w
      have e3 := nonemptyS (putA_ne hsr)
      obtain ⟨one, hone⟩ : ∃ one, putA r = one := ⟨_, rfl⟩
      rw [hone] at r4 s2 e3
      clear hU hUz hsr hy hth hn hm hV hcV hcU hone hpz
      by_cases ha : a.size = 0
      · obtain rfl := emptyS ha
        obtain rfl : n = 0 := hnz.2 rfl
        clear hnz hna qn
        go_enter Try.func4, Try.ntmps4
        go_wp2_with fail
        ((with_reducible refine (r1 _).mono ?_))
        rintro e w1 ⟨rfl, hb1⟩
        have HB1 := Lib.hid hb1
        clear hb1
        go_wp2_with fail
        ((with_reducible refine (r2 _).mono ?_))
        rintro e w2 ⟨rfl, hb2⟩
        have HB2 := Lib.hid (bel_trans HB1.out hb2)
        clear hb2
        go_wp2_with fail
        ((with_reducible refine (r3 _).mono ?_))
        rintro e w3 ⟨rfl, hb3⟩
        have HB3 := Lib.hid (bel_trans HB2.out hb3)
        clear hb3
        go_wp2_with fail
        ((with_reducible refine (r4 _).mono ?_))
        rintro e w4 ⟨rfl, rfl⟩
        have HB4 := HB3
        go_wp2_with fail
        ((with_reducible refine (r5 _).mono ?_))
        rintro e w5 ⟨rfl, hb5⟩
        have HB5 := Lib.hid (bel_trans HB4.out hb5)
        clear hb5
        go_wp2_with fail
        ((with_reducible refine (r6 _).mono ?_))
        rintro e w6 ⟨rfl, hb6⟩
        have HB6 := Lib.hid (bel_trans HB5.out hb6)
        clear hb6
        go_wp2_with fail
        ((with_reducible refine (r7 _).mono ?_))
        rintro e w7 ⟨rfl, hb7⟩
        have HB7 := Lib.hid (bel_trans HB6.out hb7)
        clear hb7
        go_wp2
        go_ret
        exact ⟨rfl, HB7.out⟩
      · have e1 := nonemptyS ha
        have e2 : ((n : Int) == 0) = false := beq_false_of_ne (fun e => nonemptyL ha (hnz.1 (by omega)))
        clear hnz hna ha
        go_enter Try.func4, Try.ntmps4
        go_wp2_with fail
        ((with_reducible refine (r1 _).mono ?_))
        rintro e w1 ⟨rfl, hb1⟩
        have HB1 := Lib.hid hb1
        clear hb1
        go_wp2_with fail
        ((with_reducible refine (r2 _).mono ?_))
        rintro e w2 ⟨rfl, hb2⟩
        have HB2 := Lib.hid (bel_trans HB1.out hb2)
        clear hb2
        go_wp2_with fail
        ((with_reducible refine (r3 _).mono ?_))
        rintro e w3 ⟨rfl, hb3⟩
        have HB3 := Lib.hid (bel_trans HB2.out hb3)
        clear hb3
        go_wp2_with fail
        ((with_reducible refine (r4 _).mono ?_))
        rintro e w4 ⟨rfl, rfl⟩
        have HB4 := HB3
        go_wp2_with fail
        ((with_reducible refine (r5 _).mono ?_))
        rintro e w5 ⟨rfl, hb5⟩
        have HB5 := Lib.hid (bel_trans HB4.out hb5)
        clear hb5
        go_wp2_with fail
        ((with_reducible refine (r6 _).mono ?_))
        rintro e w6 ⟨rfl, hb6⟩
        have HB6 := Lib.hid (bel_trans HB5.out hb6)
        clear hb6
        go_wp2_with fail
        ((with_reducible refine (r7 _).mono ?_))
        rintro e w7 ⟨rfl, hb7⟩
        have HB7 := Lib.hid (bel_trans HB6.out hb7)
        clear hb7
        go_wp2
        go_ret
        exact ⟨rfl, HB7.out⟩
end Go.Proofs.Ytmknjhmfgapejaa
