/- The reference's functions (copperplateref10). -/
import Derived.Test.YtjfhcgolgabkkaaDoorKinI
namespace Go.Proofs.YtjfhcgolgabkkaaDoor
open Go.RowKit
set_option linter.unusedVariables false
set_option maxRecDepth 100000

set_option maxHeartbeats 2000000 in
theorem rpun_any (s : ByteArray) {r : Int} (hr : ((punK s.data.toList : Nat) : Int) = r) (w : World) :
    Calls Tryd.prog 22 #[.string s] w fun e w' => e = .returned (.int .i64 r) ∧ w = w' := by
  rcases pun_cases s.data.toList with ⟨c, h1, h2, hs, he⟩ | ⟨hn, he⟩
  · have hc : c = 1 ∨ c = 2 ∨ c = 3 ∨ c = 4 ∨ c = 5 ∨ c = 6 ∨ c = 7 ∨ c = 8 ∨ c = 9 ∨ c = 10 ∨ c = 11 ∨ c = 12 ∨ c = 13 ∨ c = 14 := by omega
    rw [he] at hr
    subst hr
    rw [← Lib.toList_data] at hs
    clear h1 h2 he
    rcases hc with rfl | rfl | rfl | rfl | rfl | rfl | rfl | rfl | rfl | rfl | rfl | rfl | rfl | rfl
    · have e0 : (s.toList == [33]) = true := by rw [hs]; decide
      clear hs
      go_enter Tryd.func22, Tryd.ntmps22
      go_wp2
      go_ret
      exact ⟨by first | rfl | (simp; done), rfl⟩
    · have e0 : (s.toList == [33]) = false := by rw [hs]; decide
      have e1 : (s.toList == [36]) = true := by rw [hs]; decide
      clear hs
      go_enter Tryd.func22, Tryd.ntmps22
      go_wp2
      go_ret
      exact ⟨by first | rfl | (simp; done), rfl⟩
    · have e0 : (s.toList == [33]) = false := by rw [hs]; decide
      have e1 : (s.toList == [36]) = false := by rw [hs]; decide
      have e2 : (s.toList == [38]) = true := by rw [hs]; decide
      clear hs
      go_enter Tryd.func22, Tryd.ntmps22
      go_wp2
      go_ret
      exact ⟨by first | rfl | (simp; done), rfl⟩
    · have e0 : (s.toList == [33]) = false := by rw [hs]; decide
      have e1 : (s.toList == [36]) = false := by rw [hs]; decide
      have e2 : (s.toList == [38]) = false := by rw [hs]; decide
      have e3 : (s.toList == [40]) = true := by rw [hs]; decide
      clear hs
      go_enter Tryd.func22, Tryd.ntmps22
      go_wp2
      go_ret
      exact ⟨by first | rfl | (simp; done), rfl⟩
    · have e0 : (s.toList == [33]) = false := by rw [hs]; decide
      have e1 : (s.toList == [36]) = false := by rw [hs]; decide
      have e2 : (s.toList == [38]) = false := by rw [hs]; decide
      have e3 : (s.toList == [40]) = false := by rw [hs]; decide
      have e4 : (s.toList == [41]) = true := by rw [hs]; decide
      clear hs
      go_enter Tryd.func22, Tryd.ntmps22
      go_wp2
      go_ret
      exact ⟨by first | rfl | (simp; done), rfl⟩
    · have e0 : (s.toList == [33]) = false := by rw [hs]; decide
      have e1 : (s.toList == [36]) = false := by rw [hs]; decide
      have e2 : (s.toList == [38]) = false := by rw [hs]; decide
      have e3 : (s.toList == [40]) = false := by rw [hs]; decide
      have e4 : (s.toList == [41]) = false := by rw [hs]; decide
      have e5 : (s.toList == [46, 46, 46]) = true := by rw [hs]; decide
      clear hs
      go_enter Tryd.func22, Tryd.ntmps22
      go_wp2
      go_ret
      exact ⟨by first | rfl | (simp; done), rfl⟩
    · have e0 : (s.toList == [33]) = false := by rw [hs]; decide
      have e1 : (s.toList == [36]) = false := by rw [hs]; decide
      have e2 : (s.toList == [38]) = false := by rw [hs]; decide
      have e3 : (s.toList == [40]) = false := by rw [hs]; decide
      have e4 : (s.toList == [41]) = false := by rw [hs]; decide
      have e5 : (s.toList == [46, 46, 46]) = false := by rw [hs]; decide
      have e6 : (s.toList == [58]) = true := by rw [hs]; decide
      clear hs
      go_enter Tryd.func22, Tryd.ntmps22
      go_wp2
      go_ret
      exact ⟨by first | rfl | (simp; done), rfl⟩
    · have e0 : (s.toList == [33]) = false := by rw [hs]; decide
      have e1 : (s.toList == [36]) = false := by rw [hs]; decide
      have e2 : (s.toList == [38]) = false := by rw [hs]; decide
      have e3 : (s.toList == [40]) = false := by rw [hs]; decide
      have e4 : (s.toList == [41]) = false := by rw [hs]; decide
      have e5 : (s.toList == [46, 46, 46]) = false := by rw [hs]; decide
      have e6 : (s.toList == [58]) = false := by rw [hs]; decide
      have e7 : (s.toList == [61]) = true := by rw [hs]; decide
      clear hs
      go_enter Tryd.func22, Tryd.ntmps22
      go_wp2
      go_ret
      exact ⟨by first | rfl | (simp; done), rfl⟩
    · have e0 : (s.toList == [33]) = false := by rw [hs]; decide
      have e1 : (s.toList == [36]) = false := by rw [hs]; decide
      have e2 : (s.toList == [38]) = false := by rw [hs]; decide
      have e3 : (s.toList == [40]) = false := by rw [hs]; decide
      have e4 : (s.toList == [41]) = false := by rw [hs]; decide
      have e5 : (s.toList == [46, 46, 46]) = false := by rw [hs]; decide
      have e6 : (s.toList == [58]) = false := by rw [hs]; decide
      have e7 : (s.toList == [61]) = false := by rw [hs]; decide
      have e8 : (s.toList == [64]) = true := by rw [hs]; decide
      clear hs
      go_enter Tryd.func22, Tryd.ntmps22
      go_wp2
      go_ret
      exact ⟨by first | rfl | (simp; done), rfl⟩
    · have e0 : (s.toList == [33]) = false := by rw [hs]; decide
      have e1 : (s.toList == [36]) = false := by rw [hs]; decide
      have e2 : (s.toList == [38]) = false := by rw [hs]; decide
      have e3 : (s.toList == [40]) = false := by rw [hs]; decide
      have e4 : (s.toList == [41]) = false := by rw [hs]; decide
      have e5 : (s.toList == [46, 46, 46]) = false := by rw [hs]; decide
      have e6 : (s.toList == [58]) = false := by rw [hs]; decide
      have e7 : (s.toList == [61]) = false := by rw [hs]; decide
      have e8 : (s.toList == [64]) = false := by rw [hs]; decide
      have e9 : (s.toList == [91]) = true := by rw [hs]; decide
      clear hs
      go_enter Tryd.func22, Tryd.ntmps22
      go_wp2
      go_ret
      exact ⟨by first | rfl | (simp; done), rfl⟩
    · have e0 : (s.toList == [33]) = false := by rw [hs]; decide
      have e1 : (s.toList == [36]) = false := by rw [hs]; decide
      have e2 : (s.toList == [38]) = false := by rw [hs]; decide
      have e3 : (s.toList == [40]) = false := by rw [hs]; decide
      have e4 : (s.toList == [41]) = false := by rw [hs]; decide
      have e5 : (s.toList == [46, 46, 46]) = false := by rw [hs]; decide
      have e6 : (s.toList == [58]) = false := by rw [hs]; decide
      have e7 : (s.toList == [61]) = false := by rw [hs]; decide
      have e8 : (s.toList == [64]) = false := by rw [hs]; decide
      have e9 : (s.toList == [91]) = false := by rw [hs]; decide
      have e10 : (s.toList == [93]) = true := by rw [hs]; decide
      clear hs
      go_enter Tryd.func22, Tryd.ntmps22
      go_wp2
      go_ret
      exact ⟨by first | rfl | (simp; done), rfl⟩
    · have e0 : (s.toList == [33]) = false := by rw [hs]; decide
      have e1 : (s.toList == [36]) = false := by rw [hs]; decide
      have e2 : (s.toList == [38]) = false := by rw [hs]; decide
      have e3 : (s.toList == [40]) = false := by rw [hs]; decide
      have e4 : (s.toList == [41]) = false := by rw [hs]; decide
      have e5 : (s.toList == [46, 46, 46]) = false := by rw [hs]; decide
      have e6 : (s.toList == [58]) = false := by rw [hs]; decide
      have e7 : (s.toList == [61]) = false := by rw [hs]; decide
      have e8 : (s.toList == [64]) = false := by rw [hs]; decide
      have e9 : (s.toList == [91]) = false := by rw [hs]; decide
      have e10 : (s.toList == [93]) = false := by rw [hs]; decide
      have e11 : (s.toList == [123]) = true := by rw [hs]; decide
      clear hs
      go_enter Tryd.func22, Tryd.ntmps22
      go_wp2
      go_ret
      exact ⟨by first | rfl | (simp; done), rfl⟩
    · have e0 : (s.toList == [33]) = false := by rw [hs]; decide
      have e1 : (s.toList == [36]) = false := by rw [hs]; decide
      have e2 : (s.toList == [38]) = false := by rw [hs]; decide
      have e3 : (s.toList == [40]) = false := by rw [hs]; decide
      have e4 : (s.toList == [41]) = false := by rw [hs]; decide
      have e5 : (s.toList == [46, 46, 46]) = false := by rw [hs]; decide
      have e6 : (s.toList == [58]) = false := by rw [hs]; decide
      have e7 : (s.toList == [61]) = false := by rw [hs]; decide
      have e8 : (s.toList == [64]) = false := by rw [hs]; decide
      have e9 : (s.toList == [91]) = false := by rw [hs]; decide
      have e10 : (s.toList == [93]) = false := by rw [hs]; decide
      have e11 : (s.toList == [123]) = false := by rw [hs]; decide
      have e12 : (s.toList == [124]) = true := by rw [hs]; decide
      clear hs
      go_enter Tryd.func22, Tryd.ntmps22
      go_wp2
      go_ret
      exact ⟨by first | rfl | (simp; done), rfl⟩
    · have e0 : (s.toList == [33]) = false := by rw [hs]; decide
      have e1 : (s.toList == [36]) = false := by rw [hs]; decide
      have e2 : (s.toList == [38]) = false := by rw [hs]; decide
      have e3 : (s.toList == [40]) = false := by rw [hs]; decide
      have e4 : (s.toList == [41]) = false := by rw [hs]; decide
      have e5 : (s.toList == [46, 46, 46]) = false := by rw [hs]; decide
      have e6 : (s.toList == [58]) = false := by rw [hs]; decide
      have e7 : (s.toList == [61]) = false := by rw [hs]; decide
      have e8 : (s.toList == [64]) = false := by rw [hs]; decide
      have e9 : (s.toList == [91]) = false := by rw [hs]; decide
      have e10 : (s.toList == [93]) = false := by rw [hs]; decide
      have e11 : (s.toList == [123]) = false := by rw [hs]; decide
      have e12 : (s.toList == [124]) = false := by rw [hs]; decide
      have e13 : (s.toList == [125]) = true := by rw [hs]; decide
      clear hs
      go_enter Tryd.func22, Tryd.ntmps22
      go_wp2
      go_ret
      exact ⟨by first | rfl | (simp; done), rfl⟩
  · rw [he] at hr
    subst hr
    rw [← Lib.toList_data] at hn
    have e0 : (s.toList == [33]) = false := beq_eq_false_iff_ne.2 fun h => hn 1 (by decide) (by decide) h.symm
    have e1 : (s.toList == [36]) = false := beq_eq_false_iff_ne.2 fun h => hn 2 (by decide) (by decide) h.symm
    have e2 : (s.toList == [38]) = false := beq_eq_false_iff_ne.2 fun h => hn 3 (by decide) (by decide) h.symm
    have e3 : (s.toList == [40]) = false := beq_eq_false_iff_ne.2 fun h => hn 4 (by decide) (by decide) h.symm
    have e4 : (s.toList == [41]) = false := beq_eq_false_iff_ne.2 fun h => hn 5 (by decide) (by decide) h.symm
    have e5 : (s.toList == [46, 46, 46]) = false := beq_eq_false_iff_ne.2 fun h => hn 6 (by decide) (by decide) h.symm
    have e6 : (s.toList == [58]) = false := beq_eq_false_iff_ne.2 fun h => hn 7 (by decide) (by decide) h.symm
    have e7 : (s.toList == [61]) = false := beq_eq_false_iff_ne.2 fun h => hn 8 (by decide) (by decide) h.symm
    have e8 : (s.toList == [64]) = false := beq_eq_false_iff_ne.2 fun h => hn 9 (by decide) (by decide) h.symm
    have e9 : (s.toList == [91]) = false := beq_eq_false_iff_ne.2 fun h => hn 10 (by decide) (by decide) h.symm
    have e10 : (s.toList == [93]) = false := beq_eq_false_iff_ne.2 fun h => hn 11 (by decide) (by decide) h.symm
    have e11 : (s.toList == [123]) = false := beq_eq_false_iff_ne.2 fun h => hn 12 (by decide) (by decide) h.symm
    have e12 : (s.toList == [124]) = false := beq_eq_false_iff_ne.2 fun h => hn 13 (by decide) (by decide) h.symm
    have e13 : (s.toList == [125]) = false := beq_eq_false_iff_ne.2 fun h => hn 14 (by decide) (by decide) h.symm
    clear hn he
    go_enter Tryd.func22, Tryd.ntmps22
    go_wp2
    go_ret
    exact ⟨by first | rfl | (simp; done), rfl⟩

set_option maxHeartbeats 2000000 in
theorem rnam_any (s : ByteArray) {r : Int} (hr : ((namK s.data.toList : Nat) : Int) = r) (w : World) :
    Calls Tryd.prog 21 #[.string s] w fun e w' => e = .returned (.int .i64 r) ∧ w = w' := by
  rcases nam_cases s.data.toList with ⟨c, h1, h2, hs, he⟩ | ⟨hn, he⟩
  · have hc : c = 19 ∨ c = 20 ∨ c = 21 ∨ c = 22 ∨ c = 23 ∨ c = 24 ∨ c = 25 ∨ c = 26 ∨ c = 27 ∨ c = 28 ∨ c = 29 ∨ c = 30 := by omega
    rw [he] at hr
    subst hr
    rw [← Lib.toList_data] at hs
    clear h1 h2 he
    rcases hc with rfl | rfl | rfl | rfl | rfl | rfl | rfl | rfl | rfl | rfl | rfl | rfl
    · have e0 : (s.toList == [113, 117, 101, 114, 121]) = true := by rw [hs]; decide
      clear hs
      go_enter Tryd.func21, Tryd.ntmps21
      go_wp2
      go_ret
      exact ⟨by first | rfl | (simp; done), rfl⟩
    · have e0 : (s.toList == [113, 117, 101, 114, 121]) = false := by rw [hs]; decide
      have e1 : (s.toList == [109, 117, 116, 97, 116, 105, 111, 110]) = true := by rw [hs]; decide
      clear hs
      go_enter Tryd.func21, Tryd.ntmps21
      go_wp2
      go_ret
      exact ⟨by first | rfl | (simp; done), rfl⟩
    · have e0 : (s.toList == [113, 117, 101, 114, 121]) = false := by rw [hs]; decide
      have e1 : (s.toList == [109, 117, 116, 97, 116, 105, 111, 110]) = false := by rw [hs]; decide
      have e2 : (s.toList == [115, 117, 98, 115, 99, 114, 105, 112, 116, 105, 111, 110]) = true := by rw [hs]; decide
      clear hs
      go_enter Tryd.func21, Tryd.ntmps21
      go_wp2
      go_ret
      exact ⟨by first | rfl | (simp; done), rfl⟩
    · have e0 : (s.toList == [113, 117, 101, 114, 121]) = false := by rw [hs]; decide
      have e1 : (s.toList == [109, 117, 116, 97, 116, 105, 111, 110]) = false := by rw [hs]; decide
      have e2 : (s.toList == [115, 117, 98, 115, 99, 114, 105, 112, 116, 105, 111, 110]) = false := by rw [hs]; decide
      have e3 : (s.toList == [102, 114, 97, 103, 109, 101, 110, 116]) = true := by rw [hs]; decide
      clear hs
      go_enter Tryd.func21, Tryd.ntmps21
      go_wp2
      go_ret
      exact ⟨by first | rfl | (simp; done), rfl⟩
    · have e0 : (s.toList == [113, 117, 101, 114, 121]) = false := by rw [hs]; decide
      have e1 : (s.toList == [109, 117, 116, 97, 116, 105, 111, 110]) = false := by rw [hs]; decide
      have e2 : (s.toList == [115, 117, 98, 115, 99, 114, 105, 112, 116, 105, 111, 110]) = false := by rw [hs]; decide
      have e3 : (s.toList == [102, 114, 97, 103, 109, 101, 110, 116]) = false := by rw [hs]; decide
      have e4 : (s.toList == [111, 110]) = true := by rw [hs]; decide
      clear hs
      go_enter Tryd.func21, Tryd.ntmps21
      go_wp2
      go_ret
      exact ⟨by first | rfl | (simp; done), rfl⟩
    · have e0 : (s.toList == [113, 117, 101, 114, 121]) = false := by rw [hs]; decide
      have e1 : (s.toList == [109, 117, 116, 97, 116, 105, 111, 110]) = false := by rw [hs]; decide
      have e2 : (s.toList == [115, 117, 98, 115, 99, 114, 105, 112, 116, 105, 111, 110]) = false := by rw [hs]; decide
      have e3 : (s.toList == [102, 114, 97, 103, 109, 101, 110, 116]) = false := by rw [hs]; decide
      have e4 : (s.toList == [111, 110]) = false := by rw [hs]; decide
      have e5 : (s.toList == [116, 121, 112, 101]) = true := by rw [hs]; decide
      clear hs
      go_enter Tryd.func21, Tryd.ntmps21
      go_wp2
      go_ret
      exact ⟨by first | rfl | (simp; done), rfl⟩
    · have e0 : (s.toList == [113, 117, 101, 114, 121]) = false := by rw [hs]; decide
      have e1 : (s.toList == [109, 117, 116, 97, 116, 105, 111, 110]) = false := by rw [hs]; decide
      have e2 : (s.toList == [115, 117, 98, 115, 99, 114, 105, 112, 116, 105, 111, 110]) = false := by rw [hs]; decide
      have e3 : (s.toList == [102, 114, 97, 103, 109, 101, 110, 116]) = false := by rw [hs]; decide
      have e4 : (s.toList == [111, 110]) = false := by rw [hs]; decide
      have e5 : (s.toList == [116, 121, 112, 101]) = false := by rw [hs]; decide
      have e6 : (s.toList == [105, 110, 116, 101, 114, 102, 97, 99, 101]) = true := by rw [hs]; decide
      clear hs
      go_enter Tryd.func21, Tryd.ntmps21
      go_wp2
      go_ret
      exact ⟨by first | rfl | (simp; done), rfl⟩
    · have e0 : (s.toList == [113, 117, 101, 114, 121]) = false := by rw [hs]; decide
      have e1 : (s.toList == [109, 117, 116, 97, 116, 105, 111, 110]) = false := by rw [hs]; decide
      have e2 : (s.toList == [115, 117, 98, 115, 99, 114, 105, 112, 116, 105, 111, 110]) = false := by rw [hs]; decide
      have e3 : (s.toList == [102, 114, 97, 103, 109, 101, 110, 116]) = false := by rw [hs]; decide
      have e4 : (s.toList == [111, 110]) = false := by rw [hs]; decide
      have e5 : (s.toList == [116, 121, 112, 101]) = false := by rw [hs]; decide
      have e6 : (s.toList == [105, 110, 116, 101, 114, 102, 97, 99, 101]) = false := by rw [hs]; decide
      have e7 : (s.toList == [101, 110, 117, 109]) = true := by rw [hs]; decide
      clear hs
      go_enter Tryd.func21, Tryd.ntmps21
      go_wp2
      go_ret
      exact ⟨by first | rfl | (simp; done), rfl⟩
    · have e0 : (s.toList == [113, 117, 101, 114, 121]) = false := by rw [hs]; decide
      have e1 : (s.toList == [109, 117, 116, 97, 116, 105, 111, 110]) = false := by rw [hs]; decide
      have e2 : (s.toList == [115, 117, 98, 115, 99, 114, 105, 112, 116, 105, 111, 110]) = false := by rw [hs]; decide
      have e3 : (s.toList == [102, 114, 97, 103, 109, 101, 110, 116]) = false := by rw [hs]; decide
      have e4 : (s.toList == [111, 110]) = false := by rw [hs]; decide
      have e5 : (s.toList == [116, 121, 112, 101]) = false := by rw [hs]; decide
      have e6 : (s.toList == [105, 110, 116, 101, 114, 102, 97, 99, 101]) = false := by rw [hs]; decide
      have e7 : (s.toList == [101, 110, 117, 109]) = false := by rw [hs]; decide
      have e8 : (s.toList == [117, 110, 105, 111, 110]) = true := by rw [hs]; decide
      clear hs
      go_enter Tryd.func21, Tryd.ntmps21
      go_wp2
      go_ret
      exact ⟨by first | rfl | (simp; done), rfl⟩
    · have e0 : (s.toList == [113, 117, 101, 114, 121]) = false := by rw [hs]; decide
      have e1 : (s.toList == [109, 117, 116, 97, 116, 105, 111, 110]) = false := by rw [hs]; decide
      have e2 : (s.toList == [115, 117, 98, 115, 99, 114, 105, 112, 116, 105, 111, 110]) = false := by rw [hs]; decide
      have e3 : (s.toList == [102, 114, 97, 103, 109, 101, 110, 116]) = false := by rw [hs]; decide
      have e4 : (s.toList == [111, 110]) = false := by rw [hs]; decide
      have e5 : (s.toList == [116, 121, 112, 101]) = false := by rw [hs]; decide
      have e6 : (s.toList == [105, 110, 116, 101, 114, 102, 97, 99, 101]) = false := by rw [hs]; decide
      have e7 : (s.toList == [101, 110, 117, 109]) = false := by rw [hs]; decide
      have e8 : (s.toList == [117, 110, 105, 111, 110]) = false := by rw [hs]; decide
      have e9 : (s.toList == [105, 110, 112, 117, 116]) = true := by rw [hs]; decide
      clear hs
      go_enter Tryd.func21, Tryd.ntmps21
      go_wp2
      go_ret
      exact ⟨by first | rfl | (simp; done), rfl⟩
    · have e0 : (s.toList == [113, 117, 101, 114, 121]) = false := by rw [hs]; decide
      have e1 : (s.toList == [109, 117, 116, 97, 116, 105, 111, 110]) = false := by rw [hs]; decide
      have e2 : (s.toList == [115, 117, 98, 115, 99, 114, 105, 112, 116, 105, 111, 110]) = false := by rw [hs]; decide
      have e3 : (s.toList == [102, 114, 97, 103, 109, 101, 110, 116]) = false := by rw [hs]; decide
      have e4 : (s.toList == [111, 110]) = false := by rw [hs]; decide
      have e5 : (s.toList == [116, 121, 112, 101]) = false := by rw [hs]; decide
      have e6 : (s.toList == [105, 110, 116, 101, 114, 102, 97, 99, 101]) = false := by rw [hs]; decide
      have e7 : (s.toList == [101, 110, 117, 109]) = false := by rw [hs]; decide
      have e8 : (s.toList == [117, 110, 105, 111, 110]) = false := by rw [hs]; decide
      have e9 : (s.toList == [105, 110, 112, 117, 116]) = false := by rw [hs]; decide
      have e10 : (s.toList == [115, 99, 97, 108, 97, 114]) = true := by rw [hs]; decide
      clear hs
      go_enter Tryd.func21, Tryd.ntmps21
      go_wp2
      go_ret
      exact ⟨by first | rfl | (simp; done), rfl⟩
    · have e0 : (s.toList == [113, 117, 101, 114, 121]) = false := by rw [hs]; decide
      have e1 : (s.toList == [109, 117, 116, 97, 116, 105, 111, 110]) = false := by rw [hs]; decide
      have e2 : (s.toList == [115, 117, 98, 115, 99, 114, 105, 112, 116, 105, 111, 110]) = false := by rw [hs]; decide
      have e3 : (s.toList == [102, 114, 97, 103, 109, 101, 110, 116]) = false := by rw [hs]; decide
      have e4 : (s.toList == [111, 110]) = false := by rw [hs]; decide
      have e5 : (s.toList == [116, 121, 112, 101]) = false := by rw [hs]; decide
      have e6 : (s.toList == [105, 110, 116, 101, 114, 102, 97, 99, 101]) = false := by rw [hs]; decide
      have e7 : (s.toList == [101, 110, 117, 109]) = false := by rw [hs]; decide
      have e8 : (s.toList == [117, 110, 105, 111, 110]) = false := by rw [hs]; decide
      have e9 : (s.toList == [105, 110, 112, 117, 116]) = false := by rw [hs]; decide
      have e10 : (s.toList == [115, 99, 97, 108, 97, 114]) = false := by rw [hs]; decide
      have e11 : (s.toList == [105, 109, 112, 108, 101, 109, 101, 110, 116, 115]) = true := by rw [hs]; decide
      clear hs
      go_enter Tryd.func21, Tryd.ntmps21
      go_wp2
      go_ret
      exact ⟨by first | rfl | (simp; done), rfl⟩
  · rw [he] at hr
    subst hr
    rw [← Lib.toList_data] at hn
    have e0 : (s.toList == [113, 117, 101, 114, 121]) = false := beq_eq_false_iff_ne.2 fun h => hn 19 (by decide) (by decide) h.symm
    have e1 : (s.toList == [109, 117, 116, 97, 116, 105, 111, 110]) = false := beq_eq_false_iff_ne.2 fun h => hn 20 (by decide) (by decide) h.symm
    have e2 : (s.toList == [115, 117, 98, 115, 99, 114, 105, 112, 116, 105, 111, 110]) = false := beq_eq_false_iff_ne.2 fun h => hn 21 (by decide) (by decide) h.symm
    have e3 : (s.toList == [102, 114, 97, 103, 109, 101, 110, 116]) = false := beq_eq_false_iff_ne.2 fun h => hn 22 (by decide) (by decide) h.symm
    have e4 : (s.toList == [111, 110]) = false := beq_eq_false_iff_ne.2 fun h => hn 23 (by decide) (by decide) h.symm
    have e5 : (s.toList == [116, 121, 112, 101]) = false := beq_eq_false_iff_ne.2 fun h => hn 24 (by decide) (by decide) h.symm
    have e6 : (s.toList == [105, 110, 116, 101, 114, 102, 97, 99, 101]) = false := beq_eq_false_iff_ne.2 fun h => hn 25 (by decide) (by decide) h.symm
    have e7 : (s.toList == [101, 110, 117, 109]) = false := beq_eq_false_iff_ne.2 fun h => hn 26 (by decide) (by decide) h.symm
    have e8 : (s.toList == [117, 110, 105, 111, 110]) = false := beq_eq_false_iff_ne.2 fun h => hn 27 (by decide) (by decide) h.symm
    have e9 : (s.toList == [105, 110, 112, 117, 116]) = false := beq_eq_false_iff_ne.2 fun h => hn 28 (by decide) (by decide) h.symm
    have e10 : (s.toList == [115, 99, 97, 108, 97, 114]) = false := beq_eq_false_iff_ne.2 fun h => hn 29 (by decide) (by decide) h.symm
    have e11 : (s.toList == [105, 109, 112, 108, 101, 109, 101, 110, 116, 115]) = false := beq_eq_false_iff_ne.2 fun h => hn 30 (by decide) (by decide) h.symm
    clear hn he
    go_enter Tryd.func21, Tryd.ntmps21
    go_wp2
    go_ret
    exact ⟨by first | rfl | (simp; done), rfl⟩

set_option maxHeartbeats 1000000 in
theorem rof_any {k : Int} {s : ByteArray} {a z : Int} {r : Int} (hr : ((ofK k s.data.toList : Nat) : Int) = r) (w : World) :
    Calls Tryd.prog 18 #[.agg #[.int .i64 k, .string s, .int .i64 a, .int .i64 z]] w fun e w' => e = .returned (.int .i64 r) ∧ Below w.heap.size w w' := by
  by_cases h1 : k = 1
  · subst h1
    have r1 := rpun_any s (r := r) hr
    clear hr
    go_enter Tryd.func18, Tryd.ntmps18
    go_wp2_with fail
    (with_reducible refine (r1 _).mono ?_)
    rintro e w1 ⟨rfl, rfl⟩
    go_wp2
    go_ret
    exact ⟨rfl, bel_alloc (Below.refl _ _) _⟩
  by_cases h2 : k = 2
  · subst h2
    have r1 := rnam_any s (r := r) hr
    clear hr h1
    go_enter Tryd.func18, Tryd.ntmps18
    go_wp2_with fail
    (with_reducible refine (r1 _).mono ?_)
    rintro e w1 ⟨rfl, rfl⟩
    go_wp2
    go_ret
    exact ⟨rfl, bel_alloc (Below.refl _ _) _⟩
  have e : ofK k s.data.toList = if k = 3 then 15 else if k = 4 then 16 else if k = 5 then 17 else 0 := by unfold ofK; rw [if_neg h1, if_neg h2]
  rw [e] at hr; clear e
  subst hr
  have q1 : (k == 1) = false := by simpa using h1
  have q2 : (k == 2) = false := by simpa using h2
  clear h1 h2
  by_cases h3 : k = 3
  · subst h3
    clear q1 q2
    go_enter Tryd.func18, Tryd.ntmps18
    go_wp2
    go_ret
    exact ⟨rfl, bel_alloc (Below.refl _ _) _⟩
  by_cases h4 : k = 4
  · subst h4
    clear q1 q2 h3
    go_enter Tryd.func18, Tryd.ntmps18
    go_wp2
    go_ret
    exact ⟨rfl, bel_alloc (Below.refl _ _) _⟩
  by_cases h5 : k = 5
  · subst h5
    clear q1 q2 h3 h4
    go_enter Tryd.func18, Tryd.ntmps18
    go_wp2
    go_ret
    exact ⟨rfl, bel_alloc (Below.refl _ _) _⟩
  rw [if_neg h3, if_neg h4, if_neg h5]
  have q3 : (k == 3) = false := by simpa using h3
  have q4 : (k == 4) = false := by simpa using h4
  have q5 : (k == 5) = false := by simpa using h5
  clear h3 h4 h5
  go_enter Tryd.func18, Tryd.ntmps18
  go_wp2
  go_ret
  exact ⟨rfl, bel_alloc (Below.refl _ _) _⟩

set_option maxHeartbeats 1000000 in
theorem rin_any {c te : Int} {r : Bool} (hr : inK c te = r) (w : World) :
    Calls Tryd.prog 16 #[.int .i64 c, .int .i64 te] w fun e w' => e = .returned (.bool r) ∧ w = w' := by
  subst hr
  by_cases h1 : te < 18
  · have e : inK c te = false := by
      have a1 : ¬ (18 : Int) ≤ te := by omega
      have a2 : ¬ (19 : Int) ≤ te := by omega
      simp [inK, a1, a2]
    rw [e]; clear e
    go_enter Tryd.func16, Tryd.ntmps16
    go_wp2
    go_ret
    exact ⟨by simp, rfl⟩
  by_cases h2 : 30 < te
  · have e : inK c te = false := by
      have a1 : ¬ te ≤ 30 := by omega
      have a2 : ¬ te ≤ 21 := by omega
      simp [inK, a1, a2]
    rw [e]; clear e
    go_enter Tryd.func16, Tryd.ntmps16
    go_wp2
    go_ret
    exact ⟨by simp, rfl⟩
  have a1 : (18 : Int) ≤ te := by omega
  have a2 : te ≤ 30 := by omega
  by_cases h3 : c = 0
  · subst h3
    have e : inK 0 te = true := by simp [inK, a1, a2]
    rw [e]; clear e
    go_enter Tryd.func16, Tryd.ntmps16
    go_wp2
    go_ret
    exact ⟨by simp, rfl⟩
  by_cases h4 : c = 1
  · subst h4
    have e : inK 1 te = (te != 23) := by
      by_cases h : te = 23 <;> simp [inK, a1, a2, h]
    rw [e]; clear e h3
    by_cases h5 : te = 23
    · subst h5
      go_enter Tryd.func16, Tryd.ntmps16
      go_wp2
      go_ret
      exact ⟨by simp, rfl⟩
    · have q : (te != 23) = true := by simpa using h5
      rw [q]
      clear h5
      go_enter Tryd.func16, Tryd.ntmps16
      go_wp2
      go_ret
      exact ⟨by simp, rfl⟩
  have q3 : (c == 0) = false := by simpa using h3
  have q4 : (c == 1) = false := by simpa using h4
  by_cases h5 : c = 2
  · subst h5
    clear h3 h4 q3 q4
    by_cases h6 : 19 ≤ te
    · by_cases h7 : te ≤ 21
      · have e : inK 2 te = true := by simp [inK, h6, h7]
        rw [e]; clear e
        go_enter Tryd.func16, Tryd.ntmps16
        go_wp2
        go_ret
        exact ⟨by simp, rfl⟩
      · have e : inK 2 te = false := by simp [inK, h7]
        rw [e]; clear e
        go_enter Tryd.func16, Tryd.ntmps16
        go_wp2
        go_ret
        exact ⟨by simp, rfl⟩
    · have e : inK 2 te = false := by simp [inK, h6]
      rw [e]; clear e
      go_enter Tryd.func16, Tryd.ntmps16
      go_wp2
      go_ret
      exact ⟨by simp, rfl⟩
  · have q5 : (c == 2) = false := by simpa using h5
    rw [inK_no h3 h4 h5]
    clear h3 h4 h5
    go_enter Tryd.func16, Tryd.ntmps16
    go_wp2
    go_ret
    exact ⟨by simp, rfl⟩

/-- The terminal of the k-th text of the reference's list. -/
def ixK (k : Nat) : Nat := if k < 14 then k + 1 else k + 5
theorem pun_ix : ∀ k, k < 14 → punK (stK (ixK k)) = ixK k := by decide +kernel
theorem nam_ix : ∀ k, k < 26 → 14 ≤ k → namK (stK (ixK k)) = ixK k := by decide +kernel
theorem has_ix : ∀ k : Nat, k < 26 → hasK (ixK k : Nat) = true := by decide +kernel
theorem has_no {te : Int} (h : ∀ j, j < 26 → ((ixK j : Nat) : Int) ≠ te) : hasK te = false := by
  cases hk : hasK te with
  | false => rfl
  | true =>
    rcases hasK_iff.1 hk with h1 | h1
    · have := h (te.toNat - 1) (by omega)
      unfold ixK at this
      rw [if_pos (by omega)] at this; omega
    · have := h (te.toNat - 5) (by omega)
      unfold ixK at this
      rw [if_neg (by omega)] at this; omega
/-- How the reference's Text ends. -/
def TxE (te : Int) (w : World) (e : Ending) (w' : World) : Prop := e = .returned (.tuple #[.string (txK te), .bool (hasK te)]) ∧ Below w.heap.size w w'
theorem tab26 (w : World) : ∀ j, j < 26 → (w.alloc (.cells #[.string ⟨#[33]⟩, .string ⟨#[36]⟩, .string ⟨#[38]⟩, .string ⟨#[40]⟩, .string ⟨#[41]⟩, .string ⟨#[46, 46, 46]⟩, .string ⟨#[58]⟩, .string ⟨#[61]⟩, .string ⟨#[64]⟩, .string ⟨#[91]⟩, .string ⟨#[93]⟩, .string ⟨#[123]⟩, .string ⟨#[124]⟩, .string ⟨#[125]⟩, .string ⟨#[113, 117, 101, 114, 121]⟩, .string ⟨#[109, 117, 116, 97, 116, 105, 111, 110]⟩, .string ⟨#[115, 117, 98, 115, 99, 114, 105, 112, 116, 105, 111, 110]⟩, .string ⟨#[102, 114, 97, 103, 109, 101, 110, 116]⟩, .string ⟨#[111, 110]⟩, .string ⟨#[116, 121, 112, 101]⟩, .string ⟨#[105, 110, 116, 101, 114, 102, 97, 99, 101]⟩, .string ⟨#[101, 110, 117, 109]⟩, .string ⟨#[117, 110, 105, 111, 110]⟩, .string ⟨#[105, 110, 112, 117, 116]⟩, .string ⟨#[115, 99, 97, 108, 97, 114]⟩, .string ⟨#[105, 109, 112, 108, 101, 109, 101, 110, 116, 115]⟩] 9)).cell? ⟨w.heap.size, j, none⟩ = some (.string (mkb (stK (ixK j)))) := by
  intro j hj
  have hA : (#[.string ⟨#[33]⟩, .string ⟨#[36]⟩, .string ⟨#[38]⟩, .string ⟨#[40]⟩, .string ⟨#[41]⟩, .string ⟨#[46, 46, 46]⟩, .string ⟨#[58]⟩, .string ⟨#[61]⟩, .string ⟨#[64]⟩, .string ⟨#[91]⟩, .string ⟨#[93]⟩, .string ⟨#[123]⟩, .string ⟨#[124]⟩, .string ⟨#[125]⟩, .string ⟨#[113, 117, 101, 114, 121]⟩, .string ⟨#[109, 117, 116, 97, 116, 105, 111, 110]⟩, .string ⟨#[115, 117, 98, 115, 99, 114, 105, 112, 116, 105, 111, 110]⟩, .string ⟨#[102, 114, 97, 103, 109, 101, 110, 116]⟩, .string ⟨#[111, 110]⟩, .string ⟨#[116, 121, 112, 101]⟩, .string ⟨#[105, 110, 116, 101, 114, 102, 97, 99, 101]⟩, .string ⟨#[101, 110, 117, 109]⟩, .string ⟨#[117, 110, 105, 111, 110]⟩, .string ⟨#[105, 110, 112, 117, 116]⟩, .string ⟨#[115, 99, 97, 108, 97, 114]⟩, .string ⟨#[105, 109, 112, 108, 101, 109, 101, 110, 116, 115]⟩] : Array Value) = ((List.range 26).map fun j => Value.string (mkb (stK (ixK j)))).toArray := by kernel_rfl
  rw [hA]
  unfold World.cell? World.alloc
  simp [hj]
set_option maxHeartbeats 2000000 in
theorem rtext_any (te : Int) (w : World) : Calls Tryd.prog 12 #[.int .i64 te] w fun e w' => TxE te w e w' := by
  have h26 := Lib.hid (tab26 w)
  go_enter Tryd.func12, Tryd.ntmps12
  go_wp2
  go_loopw [5] (fun i wr => ∃ k : Nat, i = .int .i64 k ∧ k ≤ 26 ∧ (∀ j, j < k → ((ixK j : Nat) : Int) ≠ te) ∧ (∀ j, j < 26 → wr.cell? ⟨w.heap.size, j, none⟩ = some (.string (mkb (stK (ixK j))))) ∧ Below w.heap.size w wr) (fun i _ => 26 - (intOf i).toNat)
  case atStart => exact ⟨0, rfl, by decide, fun j hj => by omega, h26.out, bel_alloc (Below.refl _ _) _⟩
  case round =>
    obtain ⟨k, rfl, hk, hno, hc, hB⟩ := hrel
    have HNO := Lib.hid hno
    have HC := Lib.hid hc
    clear h26 hno hc
    by_cases hlt : k < 26
    · have hl := HC.out k hlt
      obtain ⟨X, hX⟩ : ∃ X, mkb (stK (ixK k)) = X := ⟨_, rfl⟩
      have hd : X.data.toList = stK (ixK k) := by rw [← hX]; rfl
      rw [hX] at hl
      have HX := Lib.hid hX
      have hq : (k : Int) < 26 := by omega
      have r1 := fun w => rnam_any X (r := ((namK (stK (ixK k)) : Nat) : Int)) (by rw [hd]) w
      have r2 := fun w => rpun_any X (r := ((punK (stK (ixK k)) : Nat) : Int)) (by rw [hd]) w
      have p1 := pun_ix k
      have p2 := nam_ix k hlt
      have hh := Lib.hid (has_ix k hlt)
      clear hX hd
      by_cases h14 : k < 14
      · rw [p1 h14] at r2
        generalize namK (stK (ixK k)) = nn at r1
        have q14 : (k : Int) < 14 := by omega
        clear p1 p2
        by_cases hte : ((ixK k : Nat) : Int) = te
        · have q2 : (((ixK k : Nat) : Int) == te) = true := by simpa using hte
          have HT := Lib.hid hte
          clear hte
          go_wp2_with fail
          (with_reducible refine (r1 _).mono ?_)
          rintro e w1 ⟨rfl, rfl⟩
          go_wp2_with fail
          (with_reducible refine (r2 _).mono ?_)
          rintro e w1 ⟨rfl, rfl⟩
          go_wp2
          go_ret2
          refine ⟨?_, hB⟩
          rw [← HT.out, hh.out, txK, Int.toNat_natCast, HX.out]; rfl
        · have q2 : (((ixK k : Nat) : Int) == te) = false := by simpa using hte
          have HT := Lib.hid hte
          clear hte
          go_wp2_with fail
          (with_reducible refine (r1 _).mono ?_)
          rintro e w1 ⟨rfl, rfl⟩
          go_wp2_with fail
          (with_reducible refine (r2 _).mono ?_)
          rintro e w1 ⟨rfl, rfl⟩
          go_wp2
          go_roundw
          case rel =>
            refine ⟨k + 1, by go_num, by omega, fun j hj => ?_, HC.out, hB⟩
            by_cases e : j = k
            · subst e; exact HT.out
            · exact HNO.out j (by omega)
          case measure => simp [intOf]; omega
      · rw [p2 (by omega)] at r1
        have q14 : ¬ (k : Int) < 14 := by omega
        clear p1 p2 r2
        by_cases hte : ((ixK k : Nat) : Int) = te
        · have q2 : (((ixK k : Nat) : Int) == te) = true := by simpa using hte
          have HT := Lib.hid hte
          clear hte
          go_wp2_with fail
          (with_reducible refine (r1 _).mono ?_)
          rintro e w1 ⟨rfl, rfl⟩
          go_wp2
          go_ret2
          refine ⟨?_, hB⟩
          rw [← HT.out, hh.out, txK, Int.toNat_natCast, HX.out]; rfl
        · have q2 : (((ixK k : Nat) : Int) == te) = false := by simpa using hte
          have HT := Lib.hid hte
          clear hte
          go_wp2_with fail
          (with_reducible refine (r1 _).mono ?_)
          rintro e w1 ⟨rfl, rfl⟩
          go_wp2
          go_roundw
          case rel =>
            refine ⟨k + 1, by go_num, by omega, fun j hj => ?_, HC.out, hB⟩
            by_cases e : j = k
            · subst e; exact HT.out
            · exact HNO.out j (by omega)
          case measure => simp [intOf]; omega
    · obtain rfl : k = 26 := by omega
      have HH := Lib.hid (has_no HNO.out)
      go_wp2
      go_ret2
      refine ⟨?_, hB⟩
      rw [txK_no HH.out, HH.out]; rfl

set_option maxHeartbeats 1000000 in
theorem rall_any {w : World} {A : Option Addr} {n c : Nat} {ts : List Tq} {L : List Int} (hL : ts.map teQ = L) (ha : Tr w A ts) (hn : ts.length = n) (hz : n ≤ 1000000) :
    Calls Tryd.prog 15 #[.slice A n c] w fun e w' => AllE n L w e w' := by
  have hLn : L.length = n := by rw [← hL, List.length_map, hn]
  have HA := Lib.hid ha
  have HN := Lib.hid hn
  have HL := Lib.hid hL
  have HLN := Lib.hid hLn
  obtain ⟨i0, hi, hz0, hz1, hz2⟩ := info_parts infoI
  have HI := Lib.hid hi
  have HI0 := Lib.hid hz0
  have HI1 := Lib.hid hz1
  have HI2 := Lib.hid hz2
  clear hL hLn ha hn hi hz0 hz1 hz2
  go_enter Tryd.func15, Tryd.ntmps15
  go_wp2
  go_loopw [3, 4] (fun v i wr => ∃ k : Nat, i = .int .i64 k ∧ k ≤ n ∧ wr.ownsRow w.heap.size 3 1 v k ((L.take k).map iv) ∧ Below w.heap.size w wr) (fun _ i _ => n - (intOf i).toNat)
  case atStart => exact ⟨0, rfl, Nat.zero_le _, World.ownsRow_nil _ _ _ _, Below.refl _ _⟩
  case round =>
    obtain ⟨k, rfl, hk, hown, hB⟩ := hrel
    by_cases hlt : k < n
    · obtain ⟨t, ht⟩ : ∃ t, ts[k]? = some t := ⟨_, List.getElem?_eq_getElem (by rw [HN.out]; exact hlt)⟩
      obtain ⟨b, o, rfl, c0, c1, c2, c3⟩ := (HA.out.below hB) k t ht
      have lb : b < wr.heap.size := World.block_lt_of_cell? _ _ c0
      have hx : L[k]? = some (teQ t) := by rw [← HL.out, List.getElem?_map, ht]; rfl
      have HX := Lib.hid hx
      have r1 := fun (w' : World) => rof_any (k := t.k) (s := t.v) (a := t.a) (z := t.z) (r := teQ t) rfl w'
      have HO := Lib.hid hown
      generalize teQ t = x at *
      clear ht hx hown
      go_wp2_with fail
      refine (r1 _).mono ?_
      rintro e w2 ⟨rfl, hb2⟩
      have hB2 := hB.trans (hb2.mono hB.size)
      have HO2 := Lib.hid (row_below HO.out hb2)
      clear hb2 r1
      go_wp2_with (at_builtin; refine wpList_append_own _ rfl _ _ 30 rfl w.heap.size 3 i0 (.int .i64 0) 1 8 Tryd.underlying30 HI.out HI0.out HI1.out HI2.out rfl (by decide) _ _ _ rfl (HO2.out.alloc _) ⟨w2.heap.size, 0, none⟩ 1 1 [.int .i64 x] rfl rfl (cell_one_new _ _ _) (by simp [Value.oneCell']) (by unfold maxLen; omega) (by omega) (by have := hB2.size; simp; omega) ?_)
      intro v' w3 hown' hgrow _
      have hB3 : Below w.heap.size w w3 := (bel_alloc hB2 _).grown hgrow (by have := hB2.size; simp; omega) (fun k hk => (HO2.out.lt k hk).1)
      have hown3 : w3.ownsRow w.heap.size 3 1 v' (k + 1) ((L.take (k + 1)).map iv) := by
        rw [List.take_add_one, HX.out, Option.toList_some, List.map_append, List.map_take]
        exact hown'
      have HO3 := Lib.hid hown3
      clear hown' hgrow hown3
      go_wp2
      go_roundw
      case rel => exact ⟨k + 1, by go_num, by omega, HO3.out, hB3⟩
      case measure => simp [intOf]; omega
    · obtain rfl : k = n := by omega
      rw [List.take_of_length_le (by rw [HLN.out]; exact Nat.le_refl _), ← HLN.out] at hown
      obtain ⟨A', m, c', hv⟩ := own_sl hown
      subst hv
      obtain ⟨e1, e2, e3⟩ := ri_row hown
      rw [HLN.out] at e1
      subst e1
      have H2 := Lib.hid e2
      have H3 := Lib.hid e3
      clear hown e2 e3
      go_wp2
      go_ret
      exact ⟨_, _, rfl, hB, H2.out, H3.out⟩

set_option maxHeartbeats 1000000 in
/-- A row held against one that has the same ints. -/
theorem ints_any {w : World} {A B : Option Addr} {n c d : Nat} {l : List Int} (ha : Ri w A l) (hb : Ri w B l) (hn : l.length = n) (hz : n ≤ 1000000000) :
    Calls Tryd.prog 13 #[.slice A n c, .slice B n d] w fun e w' => e = .returned (.bool true) ∧ Below w.heap.size w w' := by
  have HN := Lib.hid hn
  have HA := Lib.hid ha
  have HB := Lib.hid hb
  clear hn ha hb
  go_enter Tryd.func13, Tryd.ntmps13
  go_wp2
  go_loopw [5] (fun i wr => ∃ k : Nat, i = .int .i64 k ∧ k ≤ n ∧ Below w.heap.size w wr) (fun i _ => n - (intOf i).toNat)
  case atStart => exact ⟨0, rfl, Nat.zero_le _, Below.refl _ _⟩
  case round =>
    obtain ⟨k, rfl, hk, hB⟩ := hrel
    by_cases hlt : k < n
    · obtain ⟨x, hx⟩ : ∃ x, l[k]? = some x := ⟨_, List.getElem?_eq_getElem (by rw [HN.out]; exact hlt)⟩
      obtain ⟨b, o, rfl, c0⟩ := (HA.out.below hB) k x hx
      obtain ⟨b', o', rfl, d0⟩ := (HB.out.below hB) k x hx
      clear hx
      go_wp2
      go_quiet (fail)
      go_wp2
      go_roundw
      case rel => exact ⟨k + 1, by go_num, by omega, below_drewN hB _⟩
      case measure => simp [intOf]; omega
    · obtain rfl : k = n := by omega
      go_wp2
      go_ret
      exact ⟨rfl, hB⟩
end Go.Proofs.YtjfhcgolgabkkaaDoor
