/- The reference's functions (copperplateref10). -/
import Derived.Test.YtpcijjdlppoblaaGreatDoorKinI
import Derived.Test.YtpcijjdlppoblaaGreatDoorKinQ
namespace Go.Proofs.YtpcijjdlppoblaaGreatDoor
open Go.RowKit
set_option linter.unusedVariables false
set_option maxRecDepth 100000

set_option maxHeartbeats 2000000 in
theorem rpun_any (s : ByteArray) {r : Int} (hr : ((punK s.data.toList : Nat) : Int) = r) (w : World) :
    Calls Tryz.prog 66 #[.string s] w fun e w' => e = .returned (.int .i64 r) ∧ w = w' := by
  rcases pun_cases s.data.toList with ⟨c, h1, h2, hs, he⟩ | ⟨hn, he⟩
  · have hc : c = 1 ∨ c = 2 ∨ c = 3 ∨ c = 4 ∨ c = 5 ∨ c = 6 ∨ c = 7 ∨ c = 8 ∨ c = 9 ∨ c = 10 ∨ c = 11 ∨ c = 12 ∨ c = 13 ∨ c = 14 := by omega
    rw [he] at hr
    subst hr
    rw [← Lib.toList_data] at hs
    clear h1 h2 he
    rcases hc with rfl | rfl | rfl | rfl | rfl | rfl | rfl | rfl | rfl | rfl | rfl | rfl | rfl | rfl
    · have e0 : (s.toList == [33]) = true := by rw [hs]; decide
      clear hs
      go_enter Tryz.func66, Tryz.ntmps66
      go_wp2
      go_ret
      exact ⟨by first | rfl | (simp; done), rfl⟩
    · have e0 : (s.toList == [33]) = false := by rw [hs]; decide
      have e1 : (s.toList == [36]) = true := by rw [hs]; decide
      clear hs
      go_enter Tryz.func66, Tryz.ntmps66
      go_wp2
      go_ret
      exact ⟨by first | rfl | (simp; done), rfl⟩
    · have e0 : (s.toList == [33]) = false := by rw [hs]; decide
      have e1 : (s.toList == [36]) = false := by rw [hs]; decide
      have e2 : (s.toList == [38]) = true := by rw [hs]; decide
      clear hs
      go_enter Tryz.func66, Tryz.ntmps66
      go_wp2
      go_ret
      exact ⟨by first | rfl | (simp; done), rfl⟩
    · have e0 : (s.toList == [33]) = false := by rw [hs]; decide
      have e1 : (s.toList == [36]) = false := by rw [hs]; decide
      have e2 : (s.toList == [38]) = false := by rw [hs]; decide
      have e3 : (s.toList == [40]) = true := by rw [hs]; decide
      clear hs
      go_enter Tryz.func66, Tryz.ntmps66
      go_wp2
      go_ret
      exact ⟨by first | rfl | (simp; done), rfl⟩
    · have e0 : (s.toList == [33]) = false := by rw [hs]; decide
      have e1 : (s.toList == [36]) = false := by rw [hs]; decide
      have e2 : (s.toList == [38]) = false := by rw [hs]; decide
      have e3 : (s.toList == [40]) = false := by rw [hs]; decide
      have e4 : (s.toList == [41]) = true := by rw [hs]; decide
      clear hs
      go_enter Tryz.func66, Tryz.ntmps66
      go_wp2
      go_ret
      exact ⟨by first | rfl | (simp; done), rfl⟩
    · have e0 : (s.toList == [33]) = false := by rw [hs]; decide
      have e1 : (s.toList == [36]) = false := by rw [hs]; decide
      have e2 : (s.toList == [38]) = false := by rw [hs]; decide
      have e3 : (s.toList == [40]) = false := by rw [hs]; decide
      have e4 : (s.toList == [41]) = false := by rw [hs]; decide
      have e5 : (s.toList == [46, 46, 46]) = true := by rw [hs]; decide
      clear hs
      go_enter Tryz.func66, Tryz.ntmps66
      go_wp2
      go_ret
      exact ⟨by first | rfl | (simp; done), rfl⟩
    · have e0 : (s.toList == [33]) = false := by rw [hs]; decide
      have e1 : (s.toList == [36]) = false := by rw [hs]; decide
      have e2 : (s.toList == [38]) = false := by rw [hs]; decide
      have e3 : (s.toList == [40]) = false := by rw [hs]; decide
      have e4 : (s.toList == [41]) = false := by rw [hs]; decide
      have e5 : (s.toList == [46, 46, 46]) = false := by rw [hs]; decide
      have e6 : (s.toList == [58]) = true := by rw [hs]; decide
      clear hs
      go_enter Tryz.func66, Tryz.ntmps66
      go_wp2
      go_ret
      exact ⟨by first | rfl | (simp; done), rfl⟩
    · have e0 : (s.toList == [33]) = false := by rw [hs]; decide
      have e1 : (s.toList == [36]) = false := by rw [hs]; decide
      have e2 : (s.toList == [38]) = false := by rw [hs]; decide
      have e3 : (s.toList == [40]) = false := by rw [hs]; decide
      have e4 : (s.toList == [41]) = false := by rw [hs]; decide
      have e5 : (s.toList == [46, 46, 46]) = false := by rw [hs]; decide
      have e6 : (s.toList == [58]) = false := by rw [hs]; decide
      have e7 : (s.toList == [61]) = true := by rw [hs]; decide
      clear hs
      go_enter Tryz.func66, Tryz.ntmps66
      go_wp2
      go_ret
      exact ⟨by first | rfl | (simp; done), rfl⟩
    · have e0 : (s.toList == [33]) = false := by rw [hs]; decide
      have e1 : (s.toList == [36]) = false := by rw [hs]; decide
      have e2 : (s.toList == [38]) = false := by rw [hs]; decide
      have e3 : (s.toList == [40]) = false := by rw [hs]; decide
      have e4 : (s.toList == [41]) = false := by rw [hs]; decide
      have e5 : (s.toList == [46, 46, 46]) = false := by rw [hs]; decide
      have e6 : (s.toList == [58]) = false := by rw [hs]; decide
      have e7 : (s.toList == [61]) = false := by rw [hs]; decide
      have e8 : (s.toList == [64]) = true := by rw [hs]; decide
      clear hs
      go_enter Tryz.func66, Tryz.ntmps66
      go_wp2
      go_ret
      exact ⟨by first | rfl | (simp; done), rfl⟩
    · have e0 : (s.toList == [33]) = false := by rw [hs]; decide
      have e1 : (s.toList == [36]) = false := by rw [hs]; decide
      have e2 : (s.toList == [38]) = false := by rw [hs]; decide
      have e3 : (s.toList == [40]) = false := by rw [hs]; decide
      have e4 : (s.toList == [41]) = false := by rw [hs]; decide
      have e5 : (s.toList == [46, 46, 46]) = false := by rw [hs]; decide
      have e6 : (s.toList == [58]) = false := by rw [hs]; decide
      have e7 : (s.toList == [61]) = false := by rw [hs]; decide
      have e8 : (s.toList == [64]) = false := by rw [hs]; decide
      have e9 : (s.toList == [91]) = true := by rw [hs]; decide
      clear hs
      go_enter Tryz.func66, Tryz.ntmps66
      go_wp2
      go_ret
      exact ⟨by first | rfl | (simp; done), rfl⟩
    · have e0 : (s.toList == [33]) = false := by rw [hs]; decide
      have e1 : (s.toList == [36]) = false := by rw [hs]; decide
      have e2 : (s.toList == [38]) = false := by rw [hs]; decide
      have e3 : (s.toList == [40]) = false := by rw [hs]; decide
      have e4 : (s.toList == [41]) = false := by rw [hs]; decide
      have e5 : (s.toList == [46, 46, 46]) = false := by rw [hs]; decide
      have e6 : (s.toList == [58]) = false := by rw [hs]; decide
      have e7 : (s.toList == [61]) = false := by rw [hs]; decide
      have e8 : (s.toList == [64]) = false := by rw [hs]; decide
      have e9 : (s.toList == [91]) = false := by rw [hs]; decide
      have e10 : (s.toList == [93]) = true := by rw [hs]; decide
      clear hs
      go_enter Tryz.func66, Tryz.ntmps66
      go_wp2
      go_ret
      exact ⟨by first | rfl | (simp; done), rfl⟩
    · have e0 : (s.toList == [33]) = false := by rw [hs]; decide
      have e1 : (s.toList == [36]) = false := by rw [hs]; decide
      have e2 : (s.toList == [38]) = false := by rw [hs]; decide
      have e3 : (s.toList == [40]) = false := by rw [hs]; decide
      have e4 : (s.toList == [41]) = false := by rw [hs]; decide
      have e5 : (s.toList == [46, 46, 46]) = false := by rw [hs]; decide
      have e6 : (s.toList == [58]) = false := by rw [hs]; decide
      have e7 : (s.toList == [61]) = false := by rw [hs]; decide
      have e8 : (s.toList == [64]) = false := by rw [hs]; decide
      have e9 : (s.toList == [91]) = false := by rw [hs]; decide
      have e10 : (s.toList == [93]) = false := by rw [hs]; decide
      have e11 : (s.toList == [123]) = true := by rw [hs]; decide
      clear hs
      go_enter Tryz.func66, Tryz.ntmps66
      go_wp2
      go_ret
      exact ⟨by first | rfl | (simp; done), rfl⟩
    · have e0 : (s.toList == [33]) = false := by rw [hs]; decide
      have e1 : (s.toList == [36]) = false := by rw [hs]; decide
      have e2 : (s.toList == [38]) = false := by rw [hs]; decide
      have e3 : (s.toList == [40]) = false := by rw [hs]; decide
      have e4 : (s.toList == [41]) = false := by rw [hs]; decide
      have e5 : (s.toList == [46, 46, 46]) = false := by rw [hs]; decide
      have e6 : (s.toList == [58]) = false := by rw [hs]; decide
      have e7 : (s.toList == [61]) = false := by rw [hs]; decide
      have e8 : (s.toList == [64]) = false := by rw [hs]; decide
      have e9 : (s.toList == [91]) = false := by rw [hs]; decide
      have e10 : (s.toList == [93]) = false := by rw [hs]; decide
      have e11 : (s.toList == [123]) = false := by rw [hs]; decide
      have e12 : (s.toList == [124]) = true := by rw [hs]; decide
      clear hs
      go_enter Tryz.func66, Tryz.ntmps66
      go_wp2
      go_ret
      exact ⟨by first | rfl | (simp; done), rfl⟩
    · have e0 : (s.toList == [33]) = false := by rw [hs]; decide
      have e1 : (s.toList == [36]) = false := by rw [hs]; decide
      have e2 : (s.toList == [38]) = false := by rw [hs]; decide
      have e3 : (s.toList == [40]) = false := by rw [hs]; decide
      have e4 : (s.toList == [41]) = false := by rw [hs]; decide
      have e5 : (s.toList == [46, 46, 46]) = false := by rw [hs]; decide
      have e6 : (s.toList == [58]) = false := by rw [hs]; decide
      have e7 : (s.toList == [61]) = false := by rw [hs]; decide
      have e8 : (s.toList == [64]) = false := by rw [hs]; decide
      have e9 : (s.toList == [91]) = false := by rw [hs]; decide
      have e10 : (s.toList == [93]) = false := by rw [hs]; decide
      have e11 : (s.toList == [123]) = false := by rw [hs]; decide
      have e12 : (s.toList == [124]) = false := by rw [hs]; decide
      have e13 : (s.toList == [125]) = true := by rw [hs]; decide
      clear hs
      go_enter Tryz.func66, Tryz.ntmps66
      go_wp2
      go_ret
      exact ⟨by first | rfl | (simp; done), rfl⟩
  · rw [he] at hr
    subst hr
    rw [← Lib.toList_data] at hn
    have e0 : (s.toList == [33]) = false := beq_eq_false_iff_ne.2 fun h => hn 1 (by decide) (by decide) h.symm
    have e1 : (s.toList == [36]) = false := beq_eq_false_iff_ne.2 fun h => hn 2 (by decide) (by decide) h.symm
    have e2 : (s.toList == [38]) = false := beq_eq_false_iff_ne.2 fun h => hn 3 (by decide) (by decide) h.symm
    have e3 : (s.toList == [40]) = false := beq_eq_false_iff_ne.2 fun h => hn 4 (by decide) (by decide) h.symm
    have e4 : (s.toList == [41]) = false := beq_eq_false_iff_ne.2 fun h => hn 5 (by decide) (by decide) h.symm
    have e5 : (s.toList == [46, 46, 46]) = false := beq_eq_false_iff_ne.2 fun h => hn 6 (by decide) (by decide) h.symm
    have e6 : (s.toList == [58]) = false := beq_eq_false_iff_ne.2 fun h => hn 7 (by decide) (by decide) h.symm
    have e7 : (s.toList == [61]) = false := beq_eq_false_iff_ne.2 fun h => hn 8 (by decide) (by decide) h.symm
    have e8 : (s.toList == [64]) = false := beq_eq_false_iff_ne.2 fun h => hn 9 (by decide) (by decide) h.symm
    have e9 : (s.toList == [91]) = false := beq_eq_false_iff_ne.2 fun h => hn 10 (by decide) (by decide) h.symm
    have e10 : (s.toList == [93]) = false := beq_eq_false_iff_ne.2 fun h => hn 11 (by decide) (by decide) h.symm
    have e11 : (s.toList == [123]) = false := beq_eq_false_iff_ne.2 fun h => hn 12 (by decide) (by decide) h.symm
    have e12 : (s.toList == [124]) = false := beq_eq_false_iff_ne.2 fun h => hn 13 (by decide) (by decide) h.symm
    have e13 : (s.toList == [125]) = false := beq_eq_false_iff_ne.2 fun h => hn 14 (by decide) (by decide) h.symm
    clear hn he
    go_enter Tryz.func66, Tryz.ntmps66
    go_wp2
    go_ret
    exact ⟨by first | rfl | (simp; done), rfl⟩

set_option maxHeartbeats 2000000 in
theorem rnam_any (s : ByteArray) {r : Int} (hr : ((namK s.data.toList : Nat) : Int) = r) (w : World) :
    Calls Tryz.prog 67 #[.string s] w fun e w' => e = .returned (.int .i64 r) ∧ w = w' := by
  rcases nam_cases s.data.toList with ⟨c, h1, h2, hs, he⟩ | ⟨hn, he⟩
  · have hc : c = 19 ∨ c = 20 ∨ c = 21 ∨ c = 22 ∨ c = 23 ∨ c = 24 ∨ c = 25 ∨ c = 26 ∨ c = 27 ∨ c = 28 ∨ c = 29 ∨ c = 30 := by omega
    rw [he] at hr
    subst hr
    rw [← Lib.toList_data] at hs
    clear h1 h2 he
    rcases hc with rfl | rfl | rfl | rfl | rfl | rfl | rfl | rfl | rfl | rfl | rfl | rfl
    · have e0 : (s.toList == [113, 117, 101, 114, 121]) = true := by rw [hs]; decide
      clear hs
      go_enter Tryz.func67, Tryz.ntmps67
      go_wp2
      go_ret
      exact ⟨by first | rfl | (simp; done), rfl⟩
    · have e0 : (s.toList == [113, 117, 101, 114, 121]) = false := by rw [hs]; decide
      have e1 : (s.toList == [109, 117, 116, 97, 116, 105, 111, 110]) = true := by rw [hs]; decide
      clear hs
      go_enter Tryz.func67, Tryz.ntmps67
      go_wp2
      go_ret
      exact ⟨by first | rfl | (simp; done), rfl⟩
    · have e0 : (s.toList == [113, 117, 101, 114, 121]) = false := by rw [hs]; decide
      have e1 : (s.toList == [109, 117, 116, 97, 116, 105, 111, 110]) = false := by rw [hs]; decide
      have e2 : (s.toList == [115, 117, 98, 115, 99, 114, 105, 112, 116, 105, 111, 110]) = true := by rw [hs]; decide
      clear hs
      go_enter Tryz.func67, Tryz.ntmps67
      go_wp2
      go_ret
      exact ⟨by first | rfl | (simp; done), rfl⟩
    · have e0 : (s.toList == [113, 117, 101, 114, 121]) = false := by rw [hs]; decide
      have e1 : (s.toList == [109, 117, 116, 97, 116, 105, 111, 110]) = false := by rw [hs]; decide
      have e2 : (s.toList == [115, 117, 98, 115, 99, 114, 105, 112, 116, 105, 111, 110]) = false := by rw [hs]; decide
      have e3 : (s.toList == [102, 114, 97, 103, 109, 101, 110, 116]) = true := by rw [hs]; decide
      clear hs
      go_enter Tryz.func67, Tryz.ntmps67
      go_wp2
      go_ret
      exact ⟨by first | rfl | (simp; done), rfl⟩
    · have e0 : (s.toList == [113, 117, 101, 114, 121]) = false := by rw [hs]; decide
      have e1 : (s.toList == [109, 117, 116, 97, 116, 105, 111, 110]) = false := by rw [hs]; decide
      have e2 : (s.toList == [115, 117, 98, 115, 99, 114, 105, 112, 116, 105, 111, 110]) = false := by rw [hs]; decide
      have e3 : (s.toList == [102, 114, 97, 103, 109, 101, 110, 116]) = false := by rw [hs]; decide
      have e4 : (s.toList == [111, 110]) = true := by rw [hs]; decide
      clear hs
      go_enter Tryz.func67, Tryz.ntmps67
      go_wp2
      go_ret
      exact ⟨by first | rfl | (simp; done), rfl⟩
    · have e0 : (s.toList == [113, 117, 101, 114, 121]) = false := by rw [hs]; decide
      have e1 : (s.toList == [109, 117, 116, 97, 116, 105, 111, 110]) = false := by rw [hs]; decide
      have e2 : (s.toList == [115, 117, 98, 115, 99, 114, 105, 112, 116, 105, 111, 110]) = false := by rw [hs]; decide
      have e3 : (s.toList == [102, 114, 97, 103, 109, 101, 110, 116]) = false := by rw [hs]; decide
      have e4 : (s.toList == [111, 110]) = false := by rw [hs]; decide
      have e5 : (s.toList == [116, 121, 112, 101]) = true := by rw [hs]; decide
      clear hs
      go_enter Tryz.func67, Tryz.ntmps67
      go_wp2
      go_ret
      exact ⟨by first | rfl | (simp; done), rfl⟩
    · have e0 : (s.toList == [113, 117, 101, 114, 121]) = false := by rw [hs]; decide
      have e1 : (s.toList == [109, 117, 116, 97, 116, 105, 111, 110]) = false := by rw [hs]; decide
      have e2 : (s.toList == [115, 117, 98, 115, 99, 114, 105, 112, 116, 105, 111, 110]) = false := by rw [hs]; decide
      have e3 : (s.toList == [102, 114, 97, 103, 109, 101, 110, 116]) = false := by rw [hs]; decide
      have e4 : (s.toList == [111, 110]) = false := by rw [hs]; decide
      have e5 : (s.toList == [116, 121, 112, 101]) = false := by rw [hs]; decide
      have e6 : (s.toList == [105, 110, 116, 101, 114, 102, 97, 99, 101]) = true := by rw [hs]; decide
      clear hs
      go_enter Tryz.func67, Tryz.ntmps67
      go_wp2
      go_ret
      exact ⟨by first | rfl | (simp; done), rfl⟩
    · have e0 : (s.toList == [113, 117, 101, 114, 121]) = false := by rw [hs]; decide
      have e1 : (s.toList == [109, 117, 116, 97, 116, 105, 111, 110]) = false := by rw [hs]; decide
      have e2 : (s.toList == [115, 117, 98, 115, 99, 114, 105, 112, 116, 105, 111, 110]) = false := by rw [hs]; decide
      have e3 : (s.toList == [102, 114, 97, 103, 109, 101, 110, 116]) = false := by rw [hs]; decide
      have e4 : (s.toList == [111, 110]) = false := by rw [hs]; decide
      have e5 : (s.toList == [116, 121, 112, 101]) = false := by rw [hs]; decide
      have e6 : (s.toList == [105, 110, 116, 101, 114, 102, 97, 99, 101]) = false := by rw [hs]; decide
      have e7 : (s.toList == [101, 110, 117, 109]) = true := by rw [hs]; decide
      clear hs
      go_enter Tryz.func67, Tryz.ntmps67
      go_wp2
      go_ret
      exact ⟨by first | rfl | (simp; done), rfl⟩
    · have e0 : (s.toList == [113, 117, 101, 114, 121]) = false := by rw [hs]; decide
      have e1 : (s.toList == [109, 117, 116, 97, 116, 105, 111, 110]) = false := by rw [hs]; decide
      have e2 : (s.toList == [115, 117, 98, 115, 99, 114, 105, 112, 116, 105, 111, 110]) = false := by rw [hs]; decide
      have e3 : (s.toList == [102, 114, 97, 103, 109, 101, 110, 116]) = false := by rw [hs]; decide
      have e4 : (s.toList == [111, 110]) = false := by rw [hs]; decide
      have e5 : (s.toList == [116, 121, 112, 101]) = false := by rw [hs]; decide
      have e6 : (s.toList == [105, 110, 116, 101, 114, 102, 97, 99, 101]) = false := by rw [hs]; decide
      have e7 : (s.toList == [101, 110, 117, 109]) = false := by rw [hs]; decide
      have e8 : (s.toList == [117, 110, 105, 111, 110]) = true := by rw [hs]; decide
      clear hs
      go_enter Tryz.func67, Tryz.ntmps67
      go_wp2
      go_ret
      exact ⟨by first | rfl | (simp; done), rfl⟩
    · have e0 : (s.toList == [113, 117, 101, 114, 121]) = false := by rw [hs]; decide
      have e1 : (s.toList == [109, 117, 116, 97, 116, 105, 111, 110]) = false := by rw [hs]; decide
      have e2 : (s.toList == [115, 117, 98, 115, 99, 114, 105, 112, 116, 105, 111, 110]) = false := by rw [hs]; decide
      have e3 : (s.toList == [102, 114, 97, 103, 109, 101, 110, 116]) = false := by rw [hs]; decide
      have e4 : (s.toList == [111, 110]) = false := by rw [hs]; decide
      have e5 : (s.toList == [116, 121, 112, 101]) = false := by rw [hs]; decide
      have e6 : (s.toList == [105, 110, 116, 101, 114, 102, 97, 99, 101]) = false := by rw [hs]; decide
      have e7 : (s.toList == [101, 110, 117, 109]) = false := by rw [hs]; decide
      have e8 : (s.toList == [117, 110, 105, 111, 110]) = false := by rw [hs]; decide
      have e9 : (s.toList == [105, 110, 112, 117, 116]) = true := by rw [hs]; decide
      clear hs
      go_enter Tryz.func67, Tryz.ntmps67
      go_wp2
      go_ret
      exact ⟨by first | rfl | (simp; done), rfl⟩
    · have e0 : (s.toList == [113, 117, 101, 114, 121]) = false := by rw [hs]; decide
      have e1 : (s.toList == [109, 117, 116, 97, 116, 105, 111, 110]) = false := by rw [hs]; decide
      have e2 : (s.toList == [115, 117, 98, 115, 99, 114, 105, 112, 116, 105, 111, 110]) = false := by rw [hs]; decide
      have e3 : (s.toList == [102, 114, 97, 103, 109, 101, 110, 116]) = false := by rw [hs]; decide
      have e4 : (s.toList == [111, 110]) = false := by rw [hs]; decide
      have e5 : (s.toList == [116, 121, 112, 101]) = false := by rw [hs]; decide
      have e6 : (s.toList == [105, 110, 116, 101, 114, 102, 97, 99, 101]) = false := by rw [hs]; decide
      have e7 : (s.toList == [101, 110, 117, 109]) = false := by rw [hs]; decide
      have e8 : (s.toList == [117, 110, 105, 111, 110]) = false := by rw [hs]; decide
      have e9 : (s.toList == [105, 110, 112, 117, 116]) = false := by rw [hs]; decide
      have e10 : (s.toList == [115, 99, 97, 108, 97, 114]) = true := by rw [hs]; decide
      clear hs
      go_enter Tryz.func67, Tryz.ntmps67
      go_wp2
      go_ret
      exact ⟨by first | rfl | (simp; done), rfl⟩
    · have e0 : (s.toList == [113, 117, 101, 114, 121]) = false := by rw [hs]; decide
      have e1 : (s.toList == [109, 117, 116, 97, 116, 105, 111, 110]) = false := by rw [hs]; decide
      have e2 : (s.toList == [115, 117, 98, 115, 99, 114, 105, 112, 116, 105, 111, 110]) = false := by rw [hs]; decide
      have e3 : (s.toList == [102, 114, 97, 103, 109, 101, 110, 116]) = false := by rw [hs]; decide
      have e4 : (s.toList == [111, 110]) = false := by rw [hs]; decide
      have e5 : (s.toList == [116, 121, 112, 101]) = false := by rw [hs]; decide
      have e6 : (s.toList == [105, 110, 116, 101, 114, 102, 97, 99, 101]) = false := by rw [hs]; decide
      have e7 : (s.toList == [101, 110, 117, 109]) = false := by rw [hs]; decide
      have e8 : (s.toList == [117, 110, 105, 111, 110]) = false := by rw [hs]; decide
      have e9 : (s.toList == [105, 110, 112, 117, 116]) = false := by rw [hs]; decide
      have e10 : (s.toList == [115, 99, 97, 108, 97, 114]) = false := by rw [hs]; decide
      have e11 : (s.toList == [105, 109, 112, 108, 101, 109, 101, 110, 116, 115]) = true := by rw [hs]; decide
      clear hs
      go_enter Tryz.func67, Tryz.ntmps67
      go_wp2
      go_ret
      exact ⟨by first | rfl | (simp; done), rfl⟩
  · rw [he] at hr
    subst hr
    rw [← Lib.toList_data] at hn
    have e0 : (s.toList == [113, 117, 101, 114, 121]) = false := beq_eq_false_iff_ne.2 fun h => hn 19 (by decide) (by decide) h.symm
    have e1 : (s.toList == [109, 117, 116, 97, 116, 105, 111, 110]) = false := beq_eq_false_iff_ne.2 fun h => hn 20 (by decide) (by decide) h.symm
    have e2 : (s.toList == [115, 117, 98, 115, 99, 114, 105, 112, 116, 105, 111, 110]) = false := beq_eq_false_iff_ne.2 fun h => hn 21 (by decide) (by decide) h.symm
    have e3 : (s.toList == [102, 114, 97, 103, 109, 101, 110, 116]) = false := beq_eq_false_iff_ne.2 fun h => hn 22 (by decide) (by decide) h.symm
    have e4 : (s.toList == [111, 110]) = false := beq_eq_false_iff_ne.2 fun h => hn 23 (by decide) (by decide) h.symm
    have e5 : (s.toList == [116, 121, 112, 101]) = false := beq_eq_false_iff_ne.2 fun h => hn 24 (by decide) (by decide) h.symm
    have e6 : (s.toList == [105, 110, 116, 101, 114, 102, 97, 99, 101]) = false := beq_eq_false_iff_ne.2 fun h => hn 25 (by decide) (by decide) h.symm
    have e7 : (s.toList == [101, 110, 117, 109]) = false := beq_eq_false_iff_ne.2 fun h => hn 26 (by decide) (by decide) h.symm
    have e8 : (s.toList == [117, 110, 105, 111, 110]) = false := beq_eq_false_iff_ne.2 fun h => hn 27 (by decide) (by decide) h.symm
    have e9 : (s.toList == [105, 110, 112, 117, 116]) = false := beq_eq_false_iff_ne.2 fun h => hn 28 (by decide) (by decide) h.symm
    have e10 : (s.toList == [115, 99, 97, 108, 97, 114]) = false := beq_eq_false_iff_ne.2 fun h => hn 29 (by decide) (by decide) h.symm
    have e11 : (s.toList == [105, 109, 112, 108, 101, 109, 101, 110, 116, 115]) = false := beq_eq_false_iff_ne.2 fun h => hn 30 (by decide) (by decide) h.symm
    clear hn he
    go_enter Tryz.func67, Tryz.ntmps67
    go_wp2
    go_ret
    exact ⟨by first | rfl | (simp; done), rfl⟩

set_option maxHeartbeats 1000000 in
theorem rof_any {k : Int} {s : ByteArray} {a z : Int} {r : Int} (hr : ((ofK k s.data.toList : Nat) : Int) = r) (w : World) :
    Calls Tryz.prog 44 #[.agg #[.int .i64 k, .string s, .int .i64 a, .int .i64 z]] w fun e w' => e = .returned (.int .i64 r) ∧ Below w.heap.size w w' := by
  by_cases h1 : k = 1
  · subst h1
    have r1 := rpun_any s (r := r) hr
    clear hr
    go_enter Tryz.func44, Tryz.ntmps44
    go_wp2_with fail
    (with_reducible refine (r1 _).mono ?_)
    rintro e w1 ⟨rfl, rfl⟩
    go_wp2
    go_ret
    exact ⟨rfl, bel_alloc (Below.refl _ _) _⟩
  by_cases h2 : k = 2
  · subst h2
    have r1 := rnam_any s (r := r) hr
    clear hr h1
    go_enter Tryz.func44, Tryz.ntmps44
    go_wp2_with fail
    (with_reducible refine (r1 _).mono ?_)
    rintro e w1 ⟨rfl, rfl⟩
    go_wp2
    go_ret
    exact ⟨rfl, bel_alloc (Below.refl _ _) _⟩
  have e : ofK k s.data.toList = if k = 3 then 15 else if k = 4 then 16 else if k = 5 then 17 else 0 := by unfold ofK; rw [if_neg h1, if_neg h2]
  rw [e] at hr; clear e
  subst hr
  have q1 : (k == 1) = false := by simpa using h1
  have q2 : (k == 2) = false := by simpa using h2
  clear h1 h2
  by_cases h3 : k = 3
  · subst h3
    clear q1 q2
    go_enter Tryz.func44, Tryz.ntmps44
    go_wp2
    go_ret
    exact ⟨rfl, bel_alloc (Below.refl _ _) _⟩
  by_cases h4 : k = 4
  · subst h4
    clear q1 q2 h3
    go_enter Tryz.func44, Tryz.ntmps44
    go_wp2
    go_ret
    exact ⟨rfl, bel_alloc (Below.refl _ _) _⟩
  by_cases h5 : k = 5
  · subst h5
    clear q1 q2 h3 h4
    go_enter Tryz.func44, Tryz.ntmps44
    go_wp2
    go_ret
    exact ⟨rfl, bel_alloc (Below.refl _ _) _⟩
  rw [if_neg h3, if_neg h4, if_neg h5]
  have q3 : (k == 3) = false := by simpa using h3
  have q4 : (k == 4) = false := by simpa using h4
  have q5 : (k == 5) = false := by simpa using h5
  clear h3 h4 h5
  go_enter Tryz.func44, Tryz.ntmps44
  go_wp2
  go_ret
  exact ⟨rfl, bel_alloc (Below.refl _ _) _⟩

set_option maxHeartbeats 1000000 in
theorem rall_any {w : World} {A : Option Addr} {n c : Nat} {ts : List Tq} {L : List Int} (hL : ts.map teQ = L) (ha : Tr w A ts) (hn : ts.length = n) (hz : n ≤ 1000000) :
    Calls Tryz.prog 28 #[.slice A n c] w fun e w' => AllE n L w e w' := by
  have hLn : L.length = n := by rw [← hL, List.length_map, hn]
  have HA := Lib.hid ha
  have HN := Lib.hid hn
  have HL := Lib.hid hL
  have HLN := Lib.hid hLn
  obtain ⟨i0, hi, hz0, hz1, hz2⟩ := info_parts infoI
  have HI := Lib.hid hi
  have HI0 := Lib.hid hz0
  have HI1 := Lib.hid hz1
  have HI2 := Lib.hid hz2
  clear hL hLn ha hn hi hz0 hz1 hz2
  go_enter Tryz.func28, Tryz.ntmps28
  go_wp2
  go_loopw [3, 4] (fun v i wr => ∃ k : Nat, i = .int .i64 k ∧ k ≤ n ∧ wr.ownsRow w.heap.size 3 1 v k ((L.take k).map iv) ∧ Below w.heap.size w wr) (fun _ i _ => n - (intOf i).toNat)
  case atStart => exact ⟨0, rfl, Nat.zero_le _, World.ownsRow_nil _ _ _ _, Below.refl _ _⟩
  case round =>
    obtain ⟨k, rfl, hk, hown, hB⟩ := hrel
    by_cases hlt : k < n
    · obtain ⟨t, ht⟩ : ∃ t, ts[k]? = some t := ⟨_, List.getElem?_eq_getElem (by rw [HN.out]; exact hlt)⟩
      obtain ⟨b, o, rfl, c0, c1, c2, c3⟩ := (HA.out.below hB) k t ht
      have lb : b < wr.heap.size := World.block_lt_of_cell? _ _ c0
      have hx : L[k]? = some (teQ t) := by rw [← HL.out, List.getElem?_map, ht]; rfl
      have HX := Lib.hid hx
      have r1 := fun (w' : World) => rof_any (k := t.k) (s := t.v) (a := t.a) (z := t.z) (r := teQ t) rfl w'
      have HO := Lib.hid hown
      generalize teQ t = x at *
      clear ht hx hown
      go_wp2_with fail
      refine (r1 _).mono ?_
      rintro e w2 ⟨rfl, hb2⟩
      have hB2 := hB.trans (hb2.mono hB.size)
      have HO2 := Lib.hid (row_below HO.out hb2)
      clear hb2 r1
      go_wp2_with (at_builtin; refine wpList_append_own _ rfl _ _ 22 rfl w.heap.size 3 i0 (.int .i64 0) 1 8 Tryz.underlying22 HI.out HI0.out HI1.out HI2.out rfl (by decide) _ _ _ rfl (HO2.out.alloc _) ⟨w2.heap.size, 0, none⟩ 1 1 [.int .i64 x] rfl rfl (cell_one_new _ _ _) (by simp [Value.oneCell']) (by unfold maxLen; omega) (by omega) (by have := hB2.size; simp; omega) ?_)
      intro v' w3 hown' hgrow _
      have hB3 : Below w.heap.size w w3 := (bel_alloc hB2 _).grown hgrow (by have := hB2.size; simp; omega) (fun k hk => (HO2.out.lt k hk).1)
      have hown3 : w3.ownsRow w.heap.size 3 1 v' (k + 1) ((L.take (k + 1)).map iv) := by
        rw [List.take_add_one, HX.out, Option.toList_some, List.map_append, List.map_take]
        exact hown'
      have HO3 := Lib.hid hown3
      clear hown' hgrow hown3
      go_wp2
      go_roundw
      case rel => exact ⟨k + 1, by go_num, by omega, HO3.out, hB3⟩
      case measure => simp [intOf]; omega
    · obtain rfl : k = n := by omega
      rw [List.take_of_length_le (by rw [HLN.out]; exact Nat.le_refl _), ← HLN.out] at hown
      obtain ⟨A', m, c', hv⟩ := own_sl hown
      subst hv
      obtain ⟨e1, e2, e3⟩ := ri_row hown
      rw [HLN.out] at e1
      subst e1
      have H2 := Lib.hid e2
      have H3 := Lib.hid e3
      clear hown e2 e3
      go_wp2
      go_ret
      exact ⟨_, _, rfl, hB, H2.out, H3.out⟩
end Go.Proofs.YtpcijjdlppoblaaGreatDoor
