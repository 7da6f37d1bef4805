/- Two rows of texts held against each other (copperplateref07.Texts). -/
import Derived.Test.YtpcijjdlppoblaaGreatDoorTxtR
namespace Go.Proofs.YtpcijjdlppoblaaGreatDoor
open Go.RowKit
set_option linter.unusedVariables false
set_option maxRecDepth 100000

theorem bel_drewNM {B : Nat} {a w : World} (h : Below B a w) (n : Nat) : Below B a (w.drewN n) := ⟨h.os, h.tape, h.output, h.size, h.block⟩
set_option maxHeartbeats 1000000 in
/-- A row of texts held against one that has the same. -/
theorem xtexts_eq {w : World} {n c d : Nat} {A A' : Option Addr} {l : List ByteArray} (ha : Xr w A l) (hb : Xr w A' l) (hn : l.length = n) (hz : n ≤ 1000000000) :
    Calls Tryz.prog 16 #[.slice A n c, .slice A' n d] w fun e w' => e = .returned (.bool true) ∧ Below w.heap.size w w' := by
  have HN := Lib.hid hn
  have HA := Lib.hid ha
  have HB := Lib.hid hb
  have t0 : ((n : Int) != (n : Int)) = false := by simp
  clear hn ha hb
  go_enter Tryz.func16, Tryz.ntmps16
  go_wp2
  go_loopw [5] (fun i wr => ∃ k : Nat, i = .int .i64 k ∧ k ≤ n ∧ Below w.heap.size w wr) (fun i _ => n - (intOf i).toNat)
  case atStart => exact ⟨0, rfl, Nat.zero_le _, Below.refl _ _⟩
  case round =>
    obtain ⟨k, rfl, hk, hB⟩ := hrel
    by_cases hlt : k < n
    · obtain ⟨x, hx⟩ : ∃ x, l[k]? = some x := ⟨_, List.getElem?_eq_getElem (by rw [HN.out]; exact hlt)⟩
      obtain ⟨b, o, rfl, c0⟩ := (HA.out.below hB) k x hx
      obtain ⟨b', o', rfl, d0⟩ := (HB.out.below hB) k x hx
      have t1 : (x.toList != x.toList) = false := by simp
      clear hx
      go_wp2
      go_quiet (fail)
      go_wp2
      go_roundw
      case rel => exact ⟨k + 1, by go_num, by omega, bel_drewNM hB _⟩
      case measure => simp [intOf]; omega
    · obtain rfl : k = n := by omega
      go_wp2
      go_ret
      exact ⟨rfl, hB⟩
end Go.Proofs.YtpcijjdlppoblaaGreatDoor
