/- What the reference's fields and immediates are; the world stands. -/
import Derived.Test.YtioodijiejipiaaGreatDoorIF
namespace Go.Proofs.YtioodijiejipiaaGreatDoor
open Go.RowKit
set_option linter.unusedVariables false

theorem r_I (a : Int) (h0 : 0 ≤ a) (h1 : a < 4294967296) (w : World) :
    Calls Tryz.prog 19 #[.int .u32 a] w fun e w' => e = .returned (.int .i64 (iI a)) ∧ w' = w := by
  go_enter Tryz.func19, Tryz.ntmps19
  go_wp2
  all_goals
    go_ret
    exact ⟨ret_int (by unfold iI s32; split <;> omega), rfl⟩
theorem r_S (a : Int) (h0 : 0 ≤ a) (h1 : a < 4294967296) (w : World) :
    Calls Tryz.prog 22 #[.int .u32 a] w fun e w' => e = .returned (.int .i64 (iS a)) ∧ w' = w := by
  go_enter Tryz.func22, Tryz.ntmps22
  go_wp2
  all_goals
    go_ret
    exact ⟨ret_int (by unfold iS s32; split <;> omega), rfl⟩
theorem r_U (a : Int) (h0 : 0 ≤ a) (h1 : a < 4294967296) (w : World) :
    Calls Tryz.prog 17 #[.int .u32 a] w fun e w' => e = .returned (.int .i64 (iU a)) ∧ w' = w := by
  go_enter Tryz.func17, Tryz.ntmps17
  go_wp2
  all_goals
    go_ret
    exact ⟨ret_int (by unfold iU s32; split <;> omega), rfl⟩
theorem r_B (a : Int) (h0 : 0 ≤ a) (h1 : a < 4294967296) (w : World) :
    Calls Tryz.prog 21 #[.int .u32 a] w fun e w' => e = .returned (.int .i64 (iB a)) ∧ w' = w := by
  go_enter Tryz.func21, Tryz.ntmps21
  go_wp2
  all_goals
    go_ret
    exact ⟨ret_int (by unfold iB s32; split <;> omega), rfl⟩
theorem r_J (a : Int) (h0 : 0 ≤ a) (h1 : a < 4294967296) (w : World) :
    Calls Tryz.prog 18 #[.int .u32 a] w fun e w' => e = .returned (.int .i64 (iJ a)) ∧ w' = w := by
  go_enter Tryz.func18, Tryz.ntmps18
  go_wp2
  all_goals
    go_ret
    exact ⟨ret_int (by unfold iJ s32; split <;> omega), rfl⟩
end Go.Proofs.YtioodijiejipiaaGreatDoor
