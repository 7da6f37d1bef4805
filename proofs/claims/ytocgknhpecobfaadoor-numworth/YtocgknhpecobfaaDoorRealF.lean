/- The contract of Real; the chapter's examples (awake). -/
import Derived.Test.YtocgknhpecobfaaDoorRealE
namespace Go.Proofs.YtocgknhpecobfaaDoor
open Go.RowKit

/-- What a text is worth, as a word. -/
def rvo : Option (Bool × List UInt8 × Int) → Nat
  | none => 9221120237041090561
  | some (m, d, x) => if m && !nanB (valB (tz d) x) then rg (valB (tz d) x) + 9223372036854775808 else valB (tz d) x
def rv (s : List UInt8) : Nat := rvo (num s)

theorem expo_bd {L : Nat} {l : List UInt8} {x : Int} (h : expo L l = some x) : -1000000 ≤ x ∧ x ≤ 1000000 := by
  unfold expo at h
  split at h
  · split at h
    · cases h; omega
    · cases h
  · split at h
    · cases h
    · split at h
      · obtain rfl := Option.some.inj h
        exact sgnd_bd _ (pw_le _)
      · cases h
theorem plainN_ok {L : Nat} {l d : List UInt8} {x : Int} (h : plainN L l = some (d, x)) : d.all isD = true ∧ d.length ≤ 2 * l.length ∧ -1000000 - (l.length : Int) ≤ x ∧ x ≤ 1000000 := by
  unfold plainN at h
  have t1 := tk_len figs L l
  have t2 := dr_len figs L l
  have t3 := dr_len [46] 1 (dr figs L l)
  have t4 := tk_len figs L (dr [46] 1 (dr figs L l))
  split at h
  · cases h
  · split at h
    · cases he : expo L (dr [46] 1 (dr figs L l)) with
      | none => rw [he] at h; cases h
      | some y =>
        rw [he] at h
        have hb := expo_bd he
        simp only [Option.map_some, Option.some.injEq, Prod.mk.injEq, List.append_nil, List.length_nil] at h
        obtain ⟨rfl, rfl⟩ := h
        exact ⟨digs_all _ _, by omega, by omega, by omega⟩
    · split at h
      · cases h
      · cases he : expo L (dr figs L (dr [46] 1 (dr figs L l))) with
        | none => rw [he] at h; cases h
        | some y =>
          rw [he] at h
          have hb := expo_bd he
          simp only [Option.map_some, Option.some.injEq, Prod.mk.injEq] at h
          obtain ⟨rfl, rfl⟩ := h
          refine ⟨?_, ?_, by omega, by omega⟩
          · rw [List.all_append, digs_all, digs_all]; rfl
          · rw [List.length_append]; omega
theorem num_ok {s d : List UInt8} {m : Bool} {x : Int} (h : num s = some (m, d, x)) : d.all isD = true ∧ d.length ≤ 2 * s.length ∧ -1000000 - (s.length : Int) ≤ x ∧ x ≤ 1000000 := by
  unfold num at h
  cases hp : plainN s.length (dr [45] 1 s) with
  | none => rw [hp] at h; cases h
  | some q =>
    obtain ⟨d', x'⟩ := q
    rw [hp] at h
    simp only [Option.map_some, Option.some.injEq, Prod.mk.injEq] at h
    obtain ⟨_, rfl, rfl⟩ := h
    have := plainN_ok hp
    have t := dr_len [45] 1 s
    exact ⟨this.1, by omega, by omega, this.2.2.2⟩
theorem tz_all {d : List UInt8} (h : d.all isD = true) : (tz d).all isD = true := by
  rw [List.all_eq_true] at h ⊢
  exact fun x hx => h x ((List.dropWhile_sublist _).subset hx)
theorem tz_len (d : List UInt8) : (tz d).length ≤ d.length := (List.dropWhile_sublist _).length_le

theorem rv_lt (s : List UInt8) : rv s < 18446744073709551616 := by
  unfold rv rvo
  split
  · omega
  · rename_i m d x _
    have := valB_lt (tz d) x
    split
    · unfold rg; omega
    · exact this

set_option maxHeartbeats 1000000 in
theorem real_any (s : List UInt8) (w : World) (hs : s.length ≤ 100000) :
    Calls Tryd.prog 8 #[.string (mkb s)] w fun e w' => e = .returned (.float .f64 (rv s)) ∧ Below w.heap.size w w' := by
  unfold rv
  cases hn : num s with
  | none =>
    have HN := Lib.hid hn
    clear hn
    go_enter Tryd.func8, Tryd.ntmps8
    go_wp2_with fail
    refine (read_any s _ hs).mono ?_
    rintro e w1 ⟨rfl, hb1⟩
    rw [HN.out]
    unfold rdv
    go_wp2_with fail
    refine (nan_any _).mono ?_
    rintro e w2 ⟨rfl, rfl⟩
    go_wp2
    go_ret
    exact ⟨rfl, bel_alloc hb1 _⟩
  | some q =>
    obtain ⟨m, d, x⟩ := q
    obtain ⟨k1, k2, k3, k4⟩ := num_ok hn
    have k5 := tz_len d
    have HN := Lib.hid hn
    have HA := Lib.hid (tz_all k1)
    have hlt := valB_lt (tz d) x
    clear hn k1
    show Calls Tryd.prog 8 #[.string (mkb s)] w fun e w' => e = .returned (.float .f64 (if m && !nanB (valB (tz d) x) then rg (valB (tz d) x) + 9223372036854775808 else valB (tz d) x)) ∧ Below w.heap.size w w'
    have hsz := fun w => size_any (mkb (tz d)) x w HA.out (by rw [mkb_size]; omega) (by omega) (by omega)
    rw [mkb_data] at hsz
    generalize valB (tz d) x = v at hlt hsz ⊢
    cases m
    · simp only [Bool.false_and, Bool.false_eq_true, if_false]
      go_enter Tryd.func8, Tryd.ntmps8
      go_wp2_with fail
      refine (read_any s _ hs).mono ?_
      rintro e w1 ⟨rfl, hb1⟩
      rw [HN.out]
      unfold rdv
      go_wp2_with fail
      refine (hsz _).mono ?_
      rintro e w2 ⟨rfl, rfl⟩
      go_wp2
      go_ret
      exact ⟨rfl, bel_alloc hb1 _⟩
    · cases hv : nanB v
      · simp only [Bool.true_and, Bool.not_false, if_true]
        go_enter Tryd.func8, Tryd.ntmps8
        go_wp2_with fail
        refine (read_any s _ hs).mono ?_
        rintro e w1 ⟨rfl, hb1⟩
        rw [HN.out]
        unfold rdv
        go_wp2_with fail
        refine (hsz _).mono ?_
        rintro e w2 ⟨rfl, rfl⟩
        go_wp2_with fail
        refine (isnan_any v _ hlt).mono ?_
        rintro e w2 ⟨rfl, rfl⟩
        rw [hv]
        go_wp2_with fail
        refine (copy_any v _ hlt).mono ?_
        rintro e w2 ⟨rfl, rfl⟩
        go_wp2
        go_ret
        exact ⟨rfl, bel_alloc hb1 _⟩
      · simp only [Bool.true_and, Bool.not_true, Bool.false_eq_true, if_false]
        go_enter Tryd.func8, Tryd.ntmps8
        go_wp2_with fail
        refine (read_any s _ hs).mono ?_
        rintro e w1 ⟨rfl, hb1⟩
        rw [HN.out]
        unfold rdv
        go_wp2_with fail
        refine (hsz _).mono ?_
        rintro e w2 ⟨rfl, rfl⟩
        go_wp2_with fail
        refine (isnan_any v _ hlt).mono ?_
        rintro e w2 ⟨rfl, rfl⟩
        rw [hv]
        go_wp2
        go_ret
        exact ⟨rfl, bel_alloc hb1 _⟩

end Go.Proofs.YtocgknhpecobfaaDoor
