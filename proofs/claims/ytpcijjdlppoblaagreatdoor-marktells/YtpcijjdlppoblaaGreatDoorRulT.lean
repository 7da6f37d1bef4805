/- The reference's lists of symbols (copperplateref11). -/
import Derived.Test.YtpcijjdlppoblaaGreatDoorRulS
namespace Go.Proofs.YtpcijjdlppoblaaGreatDoor
open Go.RowKit
set_option linter.unusedVariables false
set_option maxRecDepth 100000
set_option maxHeartbeats 1000000

theorem rsy_0 (w : World) : Calls Tryz.prog 74 #[.int .i64 0] w fun e w' => SyE (symR 0) w e w' := by
  go_enter Tryz.func74, Tryz.ntmps74
  go_wp2
  go_ret
  exact SyE.new _ (by kernel_rfl) (by kernel_rfl) _
theorem rsy_1 (w : World) : Calls Tryz.prog 74 #[.int .i64 1] w fun e w' => SyE (symR 1) w e w' := by
  go_enter Tryz.func74, Tryz.ntmps74
  go_wp2
  go_ret
  exact SyE.nil (by kernel_rfl) _
theorem rsy_2 (w : World) : Calls Tryz.prog 74 #[.int .i64 2] w fun e w' => SyE (symR 2) w e w' := by
  go_enter Tryz.func74, Tryz.ntmps74
  go_wp2
  go_ret
  exact SyE.new _ (by kernel_rfl) (by kernel_rfl) _
theorem rsy_3 (w : World) : Calls Tryz.prog 74 #[.int .i64 3] w fun e w' => SyE (symR 3) w e w' := by
  go_enter Tryz.func74, Tryz.ntmps74
  go_wp2
  go_ret
  exact SyE.new _ (by kernel_rfl) (by kernel_rfl) _
theorem rsy_4 (w : World) : Calls Tryz.prog 74 #[.int .i64 4] w fun e w' => SyE (symR 4) w e w' := by
  go_enter Tryz.func74, Tryz.ntmps74
  go_wp2
  go_ret
  exact SyE.new _ (by kernel_rfl) (by kernel_rfl) _
theorem rsy_5 (w : World) : Calls Tryz.prog 74 #[.int .i64 5] w fun e w' => SyE (symR 5) w e w' := by
  go_enter Tryz.func74, Tryz.ntmps74
  go_wp2
  go_ret
  exact SyE.new _ (by kernel_rfl) (by kernel_rfl) _
theorem rsy_6 (w : World) : Calls Tryz.prog 74 #[.int .i64 6] w fun e w' => SyE (symR 6) w e w' := by
  go_enter Tryz.func74, Tryz.ntmps74
  go_wp2
  go_ret
  exact SyE.new _ (by kernel_rfl) (by kernel_rfl) _
theorem rsy_7 (w : World) : Calls Tryz.prog 74 #[.int .i64 7] w fun e w' => SyE (symR 7) w e w' := by
  go_enter Tryz.func74, Tryz.ntmps74
  go_wp2
  go_ret
  exact SyE.new _ (by kernel_rfl) (by kernel_rfl) _
theorem rsy_8 (w : World) : Calls Tryz.prog 74 #[.int .i64 8] w fun e w' => SyE (symR 8) w e w' := by
  go_enter Tryz.func74, Tryz.ntmps74
  go_wp2
  go_ret
  exact SyE.nil (by kernel_rfl) _
theorem rsy_9 (w : World) : Calls Tryz.prog 74 #[.int .i64 9] w fun e w' => SyE (symR 9) w e w' := by
  go_enter Tryz.func74, Tryz.ntmps74
  go_wp2
  go_ret
  exact SyE.new _ (by kernel_rfl) (by kernel_rfl) _
theorem rsy_10 (w : World) : Calls Tryz.prog 74 #[.int .i64 10] w fun e w' => SyE (symR 10) w e w' := by
  go_enter Tryz.func74, Tryz.ntmps74
  go_wp2
  go_ret
  exact SyE.nil (by kernel_rfl) _
theorem rsy_11 (w : World) : Calls Tryz.prog 74 #[.int .i64 11] w fun e w' => SyE (symR 11) w e w' := by
  go_enter Tryz.func74, Tryz.ntmps74
  go_wp2
  go_ret
  exact SyE.new _ (by kernel_rfl) (by kernel_rfl) _
theorem rsy_12 (w : World) : Calls Tryz.prog 74 #[.int .i64 12] w fun e w' => SyE (symR 12) w e w' := by
  go_enter Tryz.func74, Tryz.ntmps74
  go_wp2
  go_ret
  exact SyE.nil (by kernel_rfl) _
theorem rsy_13 (w : World) : Calls Tryz.prog 74 #[.int .i64 13] w fun e w' => SyE (symR 13) w e w' := by
  go_enter Tryz.func74, Tryz.ntmps74
  go_wp2
  go_ret
  exact SyE.new _ (by kernel_rfl) (by kernel_rfl) _
theorem rsy_14 (w : World) : Calls Tryz.prog 74 #[.int .i64 14] w fun e w' => SyE (symR 14) w e w' := by
  go_enter Tryz.func74, Tryz.ntmps74
  go_wp2
  go_ret
  exact SyE.new _ (by kernel_rfl) (by kernel_rfl) _
theorem rsyms0_any {i : Nat} (h1 : 0 ≤ i) (h2 : i < 15) (w : World) : Calls Tryz.prog 74 #[.int .i64 i] w fun e w' => SyE (symR i) w e w' := by
  have hc : i = 0 ∨ i = 1 ∨ i = 2 ∨ i = 3 ∨ i = 4 ∨ i = 5 ∨ i = 6 ∨ i = 7 ∨ i = 8 ∨ i = 9 ∨ i = 10 ∨ i = 11 ∨ i = 12 ∨ i = 13 ∨ i = 14 := by omega
  clear h1 h2
  rcases hc with rfl | rfl | rfl | rfl | rfl | rfl | rfl | rfl | rfl | rfl | rfl | rfl | rfl | rfl | rfl
  · exact rsy_0 w
  · exact rsy_1 w
  · exact rsy_2 w
  · exact rsy_3 w
  · exact rsy_4 w
  · exact rsy_5 w
  · exact rsy_6 w
  · exact rsy_7 w
  · exact rsy_8 w
  · exact rsy_9 w
  · exact rsy_10 w
  · exact rsy_11 w
  · exact rsy_12 w
  · exact rsy_13 w
  · exact rsy_14 w
theorem rsy_15 (w : World) : Calls Tryz.prog 73 #[.int .i64 15] w fun e w' => SyE (symR 15) w e w' := by
  go_enter Tryz.func73, Tryz.ntmps73
  go_wp2
  go_ret
  exact SyE.nil (by kernel_rfl) _
theorem rsy_16 (w : World) : Calls Tryz.prog 73 #[.int .i64 16] w fun e w' => SyE (symR 16) w e w' := by
  go_enter Tryz.func73, Tryz.ntmps73
  go_wp2
  go_ret
  exact SyE.new _ (by kernel_rfl) (by kernel_rfl) _
theorem rsy_17 (w : World) : Calls Tryz.prog 73 #[.int .i64 17] w fun e w' => SyE (symR 17) w e w' := by
  go_enter Tryz.func73, Tryz.ntmps73
  go_wp2
  go_ret
  exact SyE.new _ (by kernel_rfl) (by kernel_rfl) _
theorem rsy_18 (w : World) : Calls Tryz.prog 73 #[.int .i64 18] w fun e w' => SyE (symR 18) w e w' := by
  go_enter Tryz.func73, Tryz.ntmps73
  go_wp2
  go_ret
  exact SyE.new _ (by kernel_rfl) (by kernel_rfl) _
theorem rsy_19 (w : World) : Calls Tryz.prog 73 #[.int .i64 19] w fun e w' => SyE (symR 19) w e w' := by
  go_enter Tryz.func73, Tryz.ntmps73
  go_wp2
  go_ret
  exact SyE.nil (by kernel_rfl) _
theorem rsy_20 (w : World) : Calls Tryz.prog 73 #[.int .i64 20] w fun e w' => SyE (symR 20) w e w' := by
  go_enter Tryz.func73, Tryz.ntmps73
  go_wp2
  go_ret
  exact SyE.new _ (by kernel_rfl) (by kernel_rfl) _
theorem rsy_21 (w : World) : Calls Tryz.prog 73 #[.int .i64 21] w fun e w' => SyE (symR 21) w e w' := by
  go_enter Tryz.func73, Tryz.ntmps73
  go_wp2
  go_ret
  exact SyE.nil (by kernel_rfl) _
theorem rsy_22 (w : World) : Calls Tryz.prog 73 #[.int .i64 22] w fun e w' => SyE (symR 22) w e w' := by
  go_enter Tryz.func73, Tryz.ntmps73
  go_wp2
  go_ret
  exact SyE.new _ (by kernel_rfl) (by kernel_rfl) _
theorem rsy_23 (w : World) : Calls Tryz.prog 73 #[.int .i64 23] w fun e w' => SyE (symR 23) w e w' := by
  go_enter Tryz.func73, Tryz.ntmps73
  go_wp2
  go_ret
  exact SyE.nil (by kernel_rfl) _
theorem rsy_24 (w : World) : Calls Tryz.prog 73 #[.int .i64 24] w fun e w' => SyE (symR 24) w e w' := by
  go_enter Tryz.func73, Tryz.ntmps73
  go_wp2
  go_ret
  exact SyE.new _ (by kernel_rfl) (by kernel_rfl) _
theorem rsy_25 (w : World) : Calls Tryz.prog 73 #[.int .i64 25] w fun e w' => SyE (symR 25) w e w' := by
  go_enter Tryz.func73, Tryz.ntmps73
  go_wp2
  go_ret
  exact SyE.nil (by kernel_rfl) _
theorem rsy_26 (w : World) : Calls Tryz.prog 73 #[.int .i64 26] w fun e w' => SyE (symR 26) w e w' := by
  go_enter Tryz.func73, Tryz.ntmps73
  go_wp2
  go_ret
  exact SyE.new _ (by kernel_rfl) (by kernel_rfl) _
theorem rsy_27 (w : World) : Calls Tryz.prog 73 #[.int .i64 27] w fun e w' => SyE (symR 27) w e w' := by
  go_enter Tryz.func73, Tryz.ntmps73
  go_wp2
  go_ret
  exact SyE.new _ (by kernel_rfl) (by kernel_rfl) _
theorem rsy_28 (w : World) : Calls Tryz.prog 73 #[.int .i64 28] w fun e w' => SyE (symR 28) w e w' := by
  go_enter Tryz.func73, Tryz.ntmps73
  go_wp2
  go_ret
  exact SyE.new _ (by kernel_rfl) (by kernel_rfl) _
theorem rsy_29 (w : World) : Calls Tryz.prog 73 #[.int .i64 29] w fun e w' => SyE (symR 29) w e w' := by
  go_enter Tryz.func73, Tryz.ntmps73
  go_wp2
  go_ret
  exact SyE.new _ (by kernel_rfl) (by kernel_rfl) _
theorem rsyms15_any {i : Nat} (h1 : 15 ≤ i) (h2 : i < 30) (w : World) : Calls Tryz.prog 73 #[.int .i64 i] w fun e w' => SyE (symR i) w e w' := by
  have hc : i = 15 ∨ i = 16 ∨ i = 17 ∨ i = 18 ∨ i = 19 ∨ i = 20 ∨ i = 21 ∨ i = 22 ∨ i = 23 ∨ i = 24 ∨ i = 25 ∨ i = 26 ∨ i = 27 ∨ i = 28 ∨ i = 29 := by omega
  clear h1 h2
  rcases hc with rfl | rfl | rfl | rfl | rfl | rfl | rfl | rfl | rfl | rfl | rfl | rfl | rfl | rfl | rfl
  · exact rsy_15 w
  · exact rsy_16 w
  · exact rsy_17 w
  · exact rsy_18 w
  · exact rsy_19 w
  · exact rsy_20 w
  · exact rsy_21 w
  · exact rsy_22 w
  · exact rsy_23 w
  · exact rsy_24 w
  · exact rsy_25 w
  · exact rsy_26 w
  · exact rsy_27 w
  · exact rsy_28 w
  · exact rsy_29 w
end Go.Proofs.YtpcijjdlppoblaaGreatDoor
