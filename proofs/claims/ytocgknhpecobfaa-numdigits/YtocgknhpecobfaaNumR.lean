/- Contracts of the reference's functions of layer 5: at, whole, Number, Whole. -/
import Derived.Test.YtocgknhpecobfaaNumM
import Derived.Test.YtocgknhpecobfaaScanR
import Derived.OwnWalk
import Derived.Deep.DeepCutAuto
import Derived.IntWalk
namespace Go.Proofs.Ytocgknhpecobfaa
open Go.RowKit
set_option linter.unusedVariables false

theorem inS_mem {S : List UInt8} {c : Int} {k : Nat} (h : k < S.length) (e : ((S[k]).toNat : Int) = c) : inS S c = true := by
  unfold inS; rw [List.any_eq_true]; exact ⟨S[k], List.getElem_mem h, by rw [e]; simp⟩
theorem inS_no {S : List UInt8} {c : Int} (h : ∀ (k : Nat) (hk : k < S.length), ((S[k]).toNat : Int) ≠ c) : inS S c = false := by
  cases e : inS S c
  · rfl
  · unfold inS at e; rw [List.any_eq_true] at e
    obtain ⟨x, hx, he⟩ := e
    obtain ⟨k, hk, rfl⟩ := List.getElem_of_mem hx
    exact absurd (by simpa using he) (h k hk)
theorem sd_in' {p : Int → Bool} {s : ByteArray} {k : Nat} (h : k < s.size) : sd p s.data.toList k = p ((s[k]).toNat : Int) := by
  have hsz : s.data.toList.length = s.size := (Lib.size_eq s).symm
  unfold sd
  rw [decide_eq_true (by omega), Bool.true_and, Int.toNat_natCast, List.getD_eq_getElem?_getD, List.getElem?_eq_getElem (by omega)]
  rfl

set_option maxHeartbeats 400000 in
theorem rat_any (s set : ByteArray) (i : Int) (w : World) (h0 : 0 ≤ i) (hset : set.size ≤ 1000) {v : Bool} (hv : sd (inS set.data.toList) s.data.toList i = v) :
    Calls Try.prog 18 #[.string s, .int .i64 i, .string set] w fun e w' => e = .returned (.bool v) ∧ Below w.heap.size w w' := by
  have hsz : s.data.toList.length = s.size := (Lib.size_eq s).symm
  have hst : set.data.toList.length = set.size := (Lib.size_eq set).symm
  obtain ⟨n, rfl⟩ := Int.eq_ofNat_of_zero_le h0
  by_cases hn : n < s.size
  · rw [sd_in' hn] at hv
    have hyes : ∀ (k : Nat) (hk : k < set.size), ((set[k]).toNat : Int) = ((s[n]).toNat : Int) → v = true := fun k hk e => by
      rw [← hv]; exact inS_mem (k := k) (by omega) e
    have hno : (∀ (k : Nat) (hk : k < set.size), ((set[k]).toNat : Int) ≠ ((s[n]).toNat : Int)) → v = false := fun h => by
      rw [← hv]; exact inS_no (fun k hk => h k (by omega))
    have HY := Lib.hid hyes
    have HO := Lib.hid hno
    clear hyes hno hv hsz hst
    go_enter Try.func18, Try.ntmps18
    go_wp2_with fail
    go_loopw [7] (fun x wx => ∃ k : Nat, k ≤ set.size ∧ x = .int .i64 k ∧ Hid (∀ (j : Nat) (hj : j < set.size), j < k → ((set[j]).toNat : Int) ≠ ((s[n]).toNat : Int)) ∧ ∃ m, wx = w.drewN m) (fun x _ => set.size - (intOf x).toNat)
    case atStart => exact ⟨0, Nat.zero_le _, rfl, Lib.hid (fun j hj h => by omega), 0, rfl⟩
    case round =>
      obtain ⟨k, hk, rfl, HI, m, rfl⟩ := hrel
      by_cases hlt : k < set.size
      · by_cases heq : ((set[k]).toNat : Int) = ((s[n]).toNat : Int)
        · have hvt := HY.out k hlt heq
          subst hvt
          have hb : (((s[n]).toNat : Int) == ((set[k]).toNat : Int)) = true := by rw [heq]; simp
          clear heq
          go_wp2_with fail
          go_quiet (fail)
          go_wp2_with fail
          go_ret
          exact ⟨rfl, below_drewN (below_drewN (Below.refl _ _) _) _⟩
        · have HQ := Lib.hid heq
          have hb : (((s[n]).toNat : Int) == ((set[k]).toNat : Int)) = false := beq_false_of_ne (fun e => heq e.symm)
          clear heq
          go_wp2_with fail
          go_quiet (fail)
          go_wp2_with fail
          go_roundw
          case rel =>
            refine ⟨k + 1, by omega, by go_num, Lib.hid (fun j hj h => ?_), _, rfl⟩
            rcases Nat.lt_or_ge j k with q | q
            · exact HI.out j hj q
            · obtain rfl : j = k := by omega
              exact HQ.out
          case measure => simp [intOf]; omega
      · have hvf := HO.out (fun j hj => HI.out j hj (by omega))
        subst hvf
        go_wp2_with fail
        go_ret
        exact ⟨rfl, below_drewN (Below.refl _ _) _⟩
  · rw [sd_out (.inr (by omega))] at hv
    subst hv
    clear hsz hst
    have d1 : ¬ (n : Int) < (s.size : Int) := by omega
    go_enter Try.func18, Try.ntmps18
    go_wp2_with fail
    go_loop [7] (fun x => x = .int .i64 0) (fun _ => 0)
    case atStart => rfl
    case round =>
      subst hrel
      go_wp2_with fail
      all_goals
        go_ret
        exact ⟨rfl, Below.refl _ _⟩

/-- Where the whole part ends. -/
def whE (l : List UInt8) (j : Int) : Int := if sd (inS zeroB) l j = true then j + 1 else dgE l j
set_option maxHeartbeats 400000 in
theorem rwhole_any (s : ByteArray) (i : Int) (w : World) (h0 : 0 ≤ i) (hs : s.size ≤ 1000000) (hi : i ≤ 1000000) :
    Calls Try.prog 19 #[.string s, .int .i64 i] w fun e w' => e = .returned (.int .i64 (whE s.data.toList i)) ∧ Below w.heap.size w w' := by
  unfold whE
  have rd := fun w => rdigits_any s i w (by omega)
  have ed : atE (rn dgI) s.data.toList i = dgE s.data.toList i := rfl
  rw [ed] at rd
  clear ed
  cases hz : sd (inS zeroB) s.data.toList i
  · have ra := fun w => rat_any s ⟨#[48]⟩ i w h0 (by decide) hz
    rw [if_neg (by decide)]
    clear hz
    generalize dgE s.data.toList i = D at rd ⊢
    go_enter Try.func19, Try.ntmps19
    go_wp2_with fail
    (with_reducible refine (ra _).mono ?_)
    rintro e w1 ⟨rfl, hb1⟩
    go_wp2_with fail
    (with_reducible refine (rd _).mono ?_)
    rintro e w' ⟨rfl, rfl⟩
    go_wp2_with fail
    go_ret
    exact ⟨rfl, hb1⟩
  · have ra := fun w => rat_any s ⟨#[48]⟩ i w h0 (by decide) hz
    rw [if_pos rfl]
    clear hz
    go_enter Try.func19, Try.ntmps19
    go_wp2_with fail
    (with_reducible refine (ra _).mono ?_)
    rintro e w1 ⟨rfl, hb1⟩
    go_wp2_with fail
    go_ret
    exact ⟨rfl, hb1⟩
end Go.Proofs.Ytocgknhpecobfaa
