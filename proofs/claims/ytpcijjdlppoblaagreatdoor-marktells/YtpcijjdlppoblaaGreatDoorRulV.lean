/- The reference's lists of symbols (copperplateref11). -/
import Derived.Test.YtpcijjdlppoblaaGreatDoorRulS
namespace Go.Proofs.YtpcijjdlppoblaaGreatDoor
open Go.RowKit
set_option linter.unusedVariables false
set_option maxRecDepth 100000
set_option maxHeartbeats 1000000

theorem rsy_60 (w : World) : Calls Tryz.prog 70 #[.int .i64 60] w fun e w' => SyE (symR 60) w e w' := by
  go_enter Tryz.func70, Tryz.ntmps70
  go_wp2
  go_ret
  exact SyE.nil (by kernel_rfl) _
theorem rsy_61 (w : World) : Calls Tryz.prog 70 #[.int .i64 61] w fun e w' => SyE (symR 61) w e w' := by
  go_enter Tryz.func70, Tryz.ntmps70
  go_wp2
  go_ret
  exact SyE.new _ (by kernel_rfl) (by kernel_rfl) _
theorem rsy_62 (w : World) : Calls Tryz.prog 70 #[.int .i64 62] w fun e w' => SyE (symR 62) w e w' := by
  go_enter Tryz.func70, Tryz.ntmps70
  go_wp2
  go_ret
  exact SyE.nil (by kernel_rfl) _
theorem rsy_63 (w : World) : Calls Tryz.prog 70 #[.int .i64 63] w fun e w' => SyE (symR 63) w e w' := by
  go_enter Tryz.func70, Tryz.ntmps70
  go_wp2
  go_ret
  exact SyE.new _ (by kernel_rfl) (by kernel_rfl) _
theorem rsy_64 (w : World) : Calls Tryz.prog 70 #[.int .i64 64] w fun e w' => SyE (symR 64) w e w' := by
  go_enter Tryz.func70, Tryz.ntmps70
  go_wp2
  go_ret
  exact SyE.nil (by kernel_rfl) _
theorem rsy_65 (w : World) : Calls Tryz.prog 70 #[.int .i64 65] w fun e w' => SyE (symR 65) w e w' := by
  go_enter Tryz.func70, Tryz.ntmps70
  go_wp2
  go_ret
  exact SyE.new _ (by kernel_rfl) (by kernel_rfl) _
theorem rsy_66 (w : World) : Calls Tryz.prog 70 #[.int .i64 66] w fun e w' => SyE (symR 66) w e w' := by
  go_enter Tryz.func70, Tryz.ntmps70
  go_wp2
  go_ret
  exact SyE.new _ (by kernel_rfl) (by kernel_rfl) _
theorem rsy_67 (w : World) : Calls Tryz.prog 70 #[.int .i64 67] w fun e w' => SyE (symR 67) w e w' := by
  go_enter Tryz.func70, Tryz.ntmps70
  go_wp2
  go_ret
  exact SyE.nil (by kernel_rfl) _
theorem rsy_68 (w : World) : Calls Tryz.prog 70 #[.int .i64 68] w fun e w' => SyE (symR 68) w e w' := by
  go_enter Tryz.func70, Tryz.ntmps70
  go_wp2
  go_ret
  exact SyE.new _ (by kernel_rfl) (by kernel_rfl) _
theorem rsy_69 (w : World) : Calls Tryz.prog 70 #[.int .i64 69] w fun e w' => SyE (symR 69) w e w' := by
  go_enter Tryz.func70, Tryz.ntmps70
  go_wp2
  go_ret
  exact SyE.new _ (by kernel_rfl) (by kernel_rfl) _
theorem rsy_70 (w : World) : Calls Tryz.prog 70 #[.int .i64 70] w fun e w' => SyE (symR 70) w e w' := by
  go_enter Tryz.func70, Tryz.ntmps70
  go_wp2
  go_ret
  exact SyE.nil (by kernel_rfl) _
theorem rsy_71 (w : World) : Calls Tryz.prog 70 #[.int .i64 71] w fun e w' => SyE (symR 71) w e w' := by
  go_enter Tryz.func70, Tryz.ntmps70
  go_wp2
  go_ret
  exact SyE.new _ (by kernel_rfl) (by kernel_rfl) _
theorem rsy_72 (w : World) : Calls Tryz.prog 70 #[.int .i64 72] w fun e w' => SyE (symR 72) w e w' := by
  go_enter Tryz.func70, Tryz.ntmps70
  go_wp2
  go_ret
  exact SyE.nil (by kernel_rfl) _
theorem rsy_73 (w : World) : Calls Tryz.prog 70 #[.int .i64 73] w fun e w' => SyE (symR 73) w e w' := by
  go_enter Tryz.func70, Tryz.ntmps70
  go_wp2
  go_ret
  exact SyE.new _ (by kernel_rfl) (by kernel_rfl) _
theorem rsy_74 (w : World) : Calls Tryz.prog 70 #[.int .i64 74] w fun e w' => SyE (symR 74) w e w' := by
  go_enter Tryz.func70, Tryz.ntmps70
  go_wp2
  go_ret
  exact SyE.nil (by kernel_rfl) _
theorem rsyms60_any {i : Nat} (h1 : 60 ≤ i) (h2 : i < 75) (w : World) : Calls Tryz.prog 70 #[.int .i64 i] w fun e w' => SyE (symR i) w e w' := by
  have hc : i = 60 ∨ i = 61 ∨ i = 62 ∨ i = 63 ∨ i = 64 ∨ i = 65 ∨ i = 66 ∨ i = 67 ∨ i = 68 ∨ i = 69 ∨ i = 70 ∨ i = 71 ∨ i = 72 ∨ i = 73 ∨ i = 74 := by omega
  clear h1 h2
  rcases hc with rfl | rfl | rfl | rfl | rfl | rfl | rfl | rfl | rfl | rfl | rfl | rfl | rfl | rfl | rfl
  · exact rsy_60 w
  · exact rsy_61 w
  · exact rsy_62 w
  · exact rsy_63 w
  · exact rsy_64 w
  · exact rsy_65 w
  · exact rsy_66 w
  · exact rsy_67 w
  · exact rsy_68 w
  · exact rsy_69 w
  · exact rsy_70 w
  · exact rsy_71 w
  · exact rsy_72 w
  · exact rsy_73 w
  · exact rsy_74 w
theorem rsy_75 (w : World) : Calls Tryz.prog 69 #[.int .i64 75] w fun e w' => SyE (symR 75) w e w' := by
  go_enter Tryz.func69, Tryz.ntmps69
  go_wp2
  go_ret
  exact SyE.new _ (by kernel_rfl) (by kernel_rfl) _
theorem rsy_76 (w : World) : Calls Tryz.prog 69 #[.int .i64 76] w fun e w' => SyE (symR 76) w e w' := by
  go_enter Tryz.func69, Tryz.ntmps69
  go_wp2
  go_ret
  exact SyE.new _ (by kernel_rfl) (by kernel_rfl) _
theorem rsy_77 (w : World) : Calls Tryz.prog 69 #[.int .i64 77] w fun e w' => SyE (symR 77) w e w' := by
  go_enter Tryz.func69, Tryz.ntmps69
  go_wp2
  go_ret
  exact SyE.new _ (by kernel_rfl) (by kernel_rfl) _
theorem rsy_78 (w : World) : Calls Tryz.prog 69 #[.int .i64 78] w fun e w' => SyE (symR 78) w e w' := by
  go_enter Tryz.func69, Tryz.ntmps69
  go_wp2
  go_ret
  exact SyE.nil (by kernel_rfl) _
theorem rsy_79 (w : World) : Calls Tryz.prog 69 #[.int .i64 79] w fun e w' => SyE (symR 79) w e w' := by
  go_enter Tryz.func69, Tryz.ntmps69
  go_wp2
  go_ret
  exact SyE.new _ (by kernel_rfl) (by kernel_rfl) _
theorem rsy_80 (w : World) : Calls Tryz.prog 69 #[.int .i64 80] w fun e w' => SyE (symR 80) w e w' := by
  go_enter Tryz.func69, Tryz.ntmps69
  go_wp2
  go_ret
  exact SyE.new _ (by kernel_rfl) (by kernel_rfl) _
theorem rsy_81 (w : World) : Calls Tryz.prog 69 #[.int .i64 81] w fun e w' => SyE (symR 81) w e w' := by
  go_enter Tryz.func69, Tryz.ntmps69
  go_wp2
  go_ret
  exact SyE.nil (by kernel_rfl) _
theorem rsy_82 (w : World) : Calls Tryz.prog 69 #[.int .i64 82] w fun e w' => SyE (symR 82) w e w' := by
  go_enter Tryz.func69, Tryz.ntmps69
  go_wp2
  go_ret
  exact SyE.new _ (by kernel_rfl) (by kernel_rfl) _
theorem rsy_83 (w : World) : Calls Tryz.prog 69 #[.int .i64 83] w fun e w' => SyE (symR 83) w e w' := by
  go_enter Tryz.func69, Tryz.ntmps69
  go_wp2
  go_ret
  exact SyE.nil (by kernel_rfl) _
theorem rsy_84 (w : World) : Calls Tryz.prog 69 #[.int .i64 84] w fun e w' => SyE (symR 84) w e w' := by
  go_enter Tryz.func69, Tryz.ntmps69
  go_wp2
  go_ret
  exact SyE.new _ (by kernel_rfl) (by kernel_rfl) _
theorem rsy_85 (w : World) : Calls Tryz.prog 69 #[.int .i64 85] w fun e w' => SyE (symR 85) w e w' := by
  go_enter Tryz.func69, Tryz.ntmps69
  go_wp2
  go_ret
  exact SyE.nil (by kernel_rfl) _
theorem rsy_86 (w : World) : Calls Tryz.prog 69 #[.int .i64 86] w fun e w' => SyE (symR 86) w e w' := by
  go_enter Tryz.func69, Tryz.ntmps69
  go_wp2
  go_ret
  exact SyE.new _ (by kernel_rfl) (by kernel_rfl) _
theorem rsy_87 (w : World) : Calls Tryz.prog 69 #[.int .i64 87] w fun e w' => SyE (symR 87) w e w' := by
  go_enter Tryz.func69, Tryz.ntmps69
  go_wp2
  go_ret
  exact SyE.new _ (by kernel_rfl) (by kernel_rfl) _
theorem rsy_88 (w : World) : Calls Tryz.prog 69 #[.int .i64 88] w fun e w' => SyE (symR 88) w e w' := by
  go_enter Tryz.func69, Tryz.ntmps69
  go_wp2
  go_ret
  exact SyE.nil (by kernel_rfl) _
theorem rsy_89 (w : World) : Calls Tryz.prog 69 #[.int .i64 89] w fun e w' => SyE (symR 89) w e w' := by
  go_enter Tryz.func69, Tryz.ntmps69
  go_wp2
  go_ret
  exact SyE.new _ (by kernel_rfl) (by kernel_rfl) _
theorem rsyms75_any {i : Nat} (h1 : 75 ≤ i) (h2 : i < 90) (w : World) : Calls Tryz.prog 69 #[.int .i64 i] w fun e w' => SyE (symR i) w e w' := by
  have hc : i = 75 ∨ i = 76 ∨ i = 77 ∨ i = 78 ∨ i = 79 ∨ i = 80 ∨ i = 81 ∨ i = 82 ∨ i = 83 ∨ i = 84 ∨ i = 85 ∨ i = 86 ∨ i = 87 ∨ i = 88 ∨ i = 89 := by omega
  clear h1 h2
  rcases hc with rfl | rfl | rfl | rfl | rfl | rfl | rfl | rfl | rfl | rfl | rfl | rfl | rfl | rfl | rfl
  · exact rsy_75 w
  · exact rsy_76 w
  · exact rsy_77 w
  · exact rsy_78 w
  · exact rsy_79 w
  · exact rsy_80 w
  · exact rsy_81 w
  · exact rsy_82 w
  · exact rsy_83 w
  · exact rsy_84 w
  · exact rsy_85 w
  · exact rsy_86 w
  · exact rsy_87 w
  · exact rsy_88 w
  · exact rsy_89 w
end Go.Proofs.YtpcijjdlppoblaaGreatDoor
