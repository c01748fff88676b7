/- HartTraps: the closed facts of its card, each by itself. -/
import Derived.Test.YtooagjndelbegaaGreatDoorHZ
import Derived.Test.YtooagjndelbegaaGreatDoorCards
import Derived.Test.YtooagjndelbegaaGreatDoorTie
import Derived.SevenTiedAt
namespace Go.Proofs.YtooagjndelbegaaGreatDoor
open Go.ChangeShapes Go.WideShapes Go.ChangeAt Go.RowKit
set_option linter.unusedVariables false
set_option maxRecDepth 100000

theorem hartTraps_go : false = Rows.hartTrapsRow.goesBy Tryz.pinned.checked.prog := by kernel_rfl
theorem hartTraps_fn : Tryz.pinned.checked.prog.funcNamed "citadel/citadellaw06.HartTraps" = some 5 := by kernel_rfl
theorem hartTraps_inst : Tryz.f5.isInstance Tryz.pinned.checked.prog Rows.hartTrapsRow.origin Rows.hartTrapsRow.targs := of_decide_eq_true (by kernel_rfl)
end Go.Proofs.YtooagjndelbegaaGreatDoor
