/- RamPlays where there is no such memory. -/
import Derived.Test.YtioodijiejipiaaQF
import Derived.Test.YtioodijiejipiaaRP
import Derived.Test.YtioodijiejipiaaRYA
namespace Go.Proofs.Ytioodijiejipiaa
open Go.RowKit
set_option linter.unusedVariables false

set_option maxHeartbeats 1000000 in
set_option maxRecDepth 100000 in
theorem w_RamPlays_bad (w : World) (base frames : Int) (b0 : 0 ≤ base) (hb : newB base frames = false) (v : Value) :
    Calls Try.prog 3 #[.int .u64 base, .int .i64 frames, v] w fun e w' => e = .returned (.bool true) ∧ Below w.heap.size w w' := by
  go_enter Try.func3, Try.ntmps3
  go_wp2_with (first
    | (go_at_call 5; refine (c_New_bad w base frames b0 hb).mono ?_; rintro e w1 ⟨rfl, hw1⟩; obtain rfl := hw1.symm)
    | (go_at_call 6; refine (q_New_bad w base frames b0 hb).mono ?_; rintro e w1 ⟨rfl, hw1⟩; obtain rfl := hw1.symm)
    | (go_at_call 7; refine (c_awake w).mono ?_; rintro e w8 ⟨rfl, hb8⟩; have HB8 := hid hb8; clear hb8))
  go_ret
  exact ⟨rfl, HB8.out⟩
end Go.Proofs.Ytioodijiejipiaa
