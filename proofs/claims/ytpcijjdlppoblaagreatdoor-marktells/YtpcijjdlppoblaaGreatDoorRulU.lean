/- The reference's lists of symbols (copperplateref11). -/
import Derived.Test.YtpcijjdlppoblaaGreatDoorRulS
namespace Go.Proofs.YtpcijjdlppoblaaGreatDoor
open Go.RowKit
set_option linter.unusedVariables false
set_option maxRecDepth 100000
set_option maxHeartbeats 1000000

theorem rsy_30 (w : World) : Calls Tryz.prog 72 #[.int .i64 30] w fun e w' => SyE (symR 30) w e w' := by
  go_enter Tryz.func72, Tryz.ntmps72
  go_wp2
  go_ret
  exact SyE.new _ (by kernel_rfl) (by kernel_rfl) _
theorem rsy_31 (w : World) : Calls Tryz.prog 72 #[.int .i64 31] w fun e w' => SyE (symR 31) w e w' := by
  go_enter Tryz.func72, Tryz.ntmps72
  go_wp2
  go_ret
  exact SyE.new _ (by kernel_rfl) (by kernel_rfl) _
theorem rsy_32 (w : World) : Calls Tryz.prog 72 #[.int .i64 32] w fun e w' => SyE (symR 32) w e w' := by
  go_enter Tryz.func72, Tryz.ntmps72
  go_wp2
  go_ret
  exact SyE.new _ (by kernel_rfl) (by kernel_rfl) _
theorem rsy_33 (w : World) : Calls Tryz.prog 72 #[.int .i64 33] w fun e w' => SyE (symR 33) w e w' := by
  go_enter Tryz.func72, Tryz.ntmps72
  go_wp2
  go_ret
  exact SyE.new _ (by kernel_rfl) (by kernel_rfl) _
theorem rsy_34 (w : World) : Calls Tryz.prog 72 #[.int .i64 34] w fun e w' => SyE (symR 34) w e w' := by
  go_enter Tryz.func72, Tryz.ntmps72
  go_wp2
  go_ret
  exact SyE.new _ (by kernel_rfl) (by kernel_rfl) _
theorem rsy_35 (w : World) : Calls Tryz.prog 72 #[.int .i64 35] w fun e w' => SyE (symR 35) w e w' := by
  go_enter Tryz.func72, Tryz.ntmps72
  go_wp2
  go_ret
  exact SyE.nil (by kernel_rfl) _
theorem rsy_36 (w : World) : Calls Tryz.prog 72 #[.int .i64 36] w fun e w' => SyE (symR 36) w e w' := by
  go_enter Tryz.func72, Tryz.ntmps72
  go_wp2
  go_ret
  exact SyE.new _ (by kernel_rfl) (by kernel_rfl) _
theorem rsy_37 (w : World) : Calls Tryz.prog 72 #[.int .i64 37] w fun e w' => SyE (symR 37) w e w' := by
  go_enter Tryz.func72, Tryz.ntmps72
  go_wp2
  go_ret
  exact SyE.nil (by kernel_rfl) _
theorem rsy_38 (w : World) : Calls Tryz.prog 72 #[.int .i64 38] w fun e w' => SyE (symR 38) w e w' := by
  go_enter Tryz.func72, Tryz.ntmps72
  go_wp2
  go_ret
  exact SyE.new _ (by kernel_rfl) (by kernel_rfl) _
theorem rsy_39 (w : World) : Calls Tryz.prog 72 #[.int .i64 39] w fun e w' => SyE (symR 39) w e w' := by
  go_enter Tryz.func72, Tryz.ntmps72
  go_wp2
  go_ret
  exact SyE.nil (by kernel_rfl) _
theorem rsy_40 (w : World) : Calls Tryz.prog 72 #[.int .i64 40] w fun e w' => SyE (symR 40) w e w' := by
  go_enter Tryz.func72, Tryz.ntmps72
  go_wp2
  go_ret
  exact SyE.new _ (by kernel_rfl) (by kernel_rfl) _
theorem rsy_41 (w : World) : Calls Tryz.prog 72 #[.int .i64 41] w fun e w' => SyE (symR 41) w e w' := by
  go_enter Tryz.func72, Tryz.ntmps72
  go_wp2
  go_ret
  exact SyE.new _ (by kernel_rfl) (by kernel_rfl) _
theorem rsy_42 (w : World) : Calls Tryz.prog 72 #[.int .i64 42] w fun e w' => SyE (symR 42) w e w' := by
  go_enter Tryz.func72, Tryz.ntmps72
  go_wp2
  go_ret
  exact SyE.nil (by kernel_rfl) _
theorem rsy_43 (w : World) : Calls Tryz.prog 72 #[.int .i64 43] w fun e w' => SyE (symR 43) w e w' := by
  go_enter Tryz.func72, Tryz.ntmps72
  go_wp2
  go_ret
  exact SyE.new _ (by kernel_rfl) (by kernel_rfl) _
theorem rsy_44 (w : World) : Calls Tryz.prog 72 #[.int .i64 44] w fun e w' => SyE (symR 44) w e w' := by
  go_enter Tryz.func72, Tryz.ntmps72
  go_wp2
  go_ret
  exact SyE.new _ (by kernel_rfl) (by kernel_rfl) _
theorem rsyms30_any {i : Nat} (h1 : 30 ≤ i) (h2 : i < 45) (w : World) : Calls Tryz.prog 72 #[.int .i64 i] w fun e w' => SyE (symR i) w e w' := by
  have hc : i = 30 ∨ i = 31 ∨ i = 32 ∨ i = 33 ∨ i = 34 ∨ i = 35 ∨ i = 36 ∨ i = 37 ∨ i = 38 ∨ i = 39 ∨ i = 40 ∨ i = 41 ∨ i = 42 ∨ i = 43 ∨ i = 44 := by omega
  clear h1 h2
  rcases hc with rfl | rfl | rfl | rfl | rfl | rfl | rfl | rfl | rfl | rfl | rfl | rfl | rfl | rfl | rfl
  · exact rsy_30 w
  · exact rsy_31 w
  · exact rsy_32 w
  · exact rsy_33 w
  · exact rsy_34 w
  · exact rsy_35 w
  · exact rsy_36 w
  · exact rsy_37 w
  · exact rsy_38 w
  · exact rsy_39 w
  · exact rsy_40 w
  · exact rsy_41 w
  · exact rsy_42 w
  · exact rsy_43 w
  · exact rsy_44 w
theorem rsy_45 (w : World) : Calls Tryz.prog 71 #[.int .i64 45] w fun e w' => SyE (symR 45) w e w' := by
  go_enter Tryz.func71, Tryz.ntmps71
  go_wp2
  go_ret
  exact SyE.new _ (by kernel_rfl) (by kernel_rfl) _
theorem rsy_46 (w : World) : Calls Tryz.prog 71 #[.int .i64 46] w fun e w' => SyE (symR 46) w e w' := by
  go_enter Tryz.func71, Tryz.ntmps71
  go_wp2
  go_ret
  exact SyE.nil (by kernel_rfl) _
theorem rsy_47 (w : World) : Calls Tryz.prog 71 #[.int .i64 47] w fun e w' => SyE (symR 47) w e w' := by
  go_enter Tryz.func71, Tryz.ntmps71
  go_wp2
  go_ret
  exact SyE.new _ (by kernel_rfl) (by kernel_rfl) _
theorem rsy_48 (w : World) : Calls Tryz.prog 71 #[.int .i64 48] w fun e w' => SyE (symR 48) w e w' := by
  go_enter Tryz.func71, Tryz.ntmps71
  go_wp2
  go_ret
  exact SyE.nil (by kernel_rfl) _
theorem rsy_49 (w : World) : Calls Tryz.prog 71 #[.int .i64 49] w fun e w' => SyE (symR 49) w e w' := by
  go_enter Tryz.func71, Tryz.ntmps71
  go_wp2
  go_ret
  exact SyE.new _ (by kernel_rfl) (by kernel_rfl) _
theorem rsy_50 (w : World) : Calls Tryz.prog 71 #[.int .i64 50] w fun e w' => SyE (symR 50) w e w' := by
  go_enter Tryz.func71, Tryz.ntmps71
  go_wp2
  go_ret
  exact SyE.new _ (by kernel_rfl) (by kernel_rfl) _
theorem rsy_51 (w : World) : Calls Tryz.prog 71 #[.int .i64 51] w fun e w' => SyE (symR 51) w e w' := by
  go_enter Tryz.func71, Tryz.ntmps71
  go_wp2
  go_ret
  exact SyE.new _ (by kernel_rfl) (by kernel_rfl) _
theorem rsy_52 (w : World) : Calls Tryz.prog 71 #[.int .i64 52] w fun e w' => SyE (symR 52) w e w' := by
  go_enter Tryz.func71, Tryz.ntmps71
  go_wp2
  go_ret
  exact SyE.new _ (by kernel_rfl) (by kernel_rfl) _
theorem rsy_53 (w : World) : Calls Tryz.prog 71 #[.int .i64 53] w fun e w' => SyE (symR 53) w e w' := by
  go_enter Tryz.func71, Tryz.ntmps71
  go_wp2
  go_ret
  exact SyE.new _ (by kernel_rfl) (by kernel_rfl) _
theorem rsy_54 (w : World) : Calls Tryz.prog 71 #[.int .i64 54] w fun e w' => SyE (symR 54) w e w' := by
  go_enter Tryz.func71, Tryz.ntmps71
  go_wp2
  go_ret
  exact SyE.new _ (by kernel_rfl) (by kernel_rfl) _
theorem rsy_55 (w : World) : Calls Tryz.prog 71 #[.int .i64 55] w fun e w' => SyE (symR 55) w e w' := by
  go_enter Tryz.func71, Tryz.ntmps71
  go_wp2
  go_ret
  exact SyE.new _ (by kernel_rfl) (by kernel_rfl) _
theorem rsy_56 (w : World) : Calls Tryz.prog 71 #[.int .i64 56] w fun e w' => SyE (symR 56) w e w' := by
  go_enter Tryz.func71, Tryz.ntmps71
  go_wp2
  go_ret
  exact SyE.new _ (by kernel_rfl) (by kernel_rfl) _
theorem rsy_57 (w : World) : Calls Tryz.prog 71 #[.int .i64 57] w fun e w' => SyE (symR 57) w e w' := by
  go_enter Tryz.func71, Tryz.ntmps71
  go_wp2
  go_ret
  exact SyE.new _ (by kernel_rfl) (by kernel_rfl) _
theorem rsy_58 (w : World) : Calls Tryz.prog 71 #[.int .i64 58] w fun e w' => SyE (symR 58) w e w' := by
  go_enter Tryz.func71, Tryz.ntmps71
  go_wp2
  go_ret
  exact SyE.new _ (by kernel_rfl) (by kernel_rfl) _
theorem rsy_59 (w : World) : Calls Tryz.prog 71 #[.int .i64 59] w fun e w' => SyE (symR 59) w e w' := by
  go_enter Tryz.func71, Tryz.ntmps71
  go_wp2
  go_ret
  exact SyE.new _ (by kernel_rfl) (by kernel_rfl) _
theorem rsyms45_any {i : Nat} (h1 : 45 ≤ i) (h2 : i < 60) (w : World) : Calls Tryz.prog 71 #[.int .i64 i] w fun e w' => SyE (symR i) w e w' := by
  have hc : i = 45 ∨ i = 46 ∨ i = 47 ∨ i = 48 ∨ i = 49 ∨ i = 50 ∨ i = 51 ∨ i = 52 ∨ i = 53 ∨ i = 54 ∨ i = 55 ∨ i = 56 ∨ i = 57 ∨ i = 58 ∨ i = 59 := by omega
  clear h1 h2
  rcases hc with rfl | rfl | rfl | rfl | rfl | rfl | rfl | rfl | rfl | rfl | rfl | rfl | rfl | rfl | rfl
  · exact rsy_45 w
  · exact rsy_46 w
  · exact rsy_47 w
  · exact rsy_48 w
  · exact rsy_49 w
  · exact rsy_50 w
  · exact rsy_51 w
  · exact rsy_52 w
  · exact rsy_53 w
  · exact rsy_54 w
  · exact rsy_55 w
  · exact rsy_56 w
  · exact rsy_57 w
  · exact rsy_58 w
  · exact rsy_59 w
end Go.Proofs.YtpcijjdlppoblaaGreatDoor
