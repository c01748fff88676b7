/- HartCsrs: the closed facts of its card, each by itself. -/
import Derived.Test.YtooagjndelbegaaGreatDoorHZ
import Derived.Test.YtooagjndelbegaaGreatDoorCards
import Derived.Test.YtooagjndelbegaaGreatDoorTie
import Derived.SevenTiedAt
namespace Go.Proofs.YtooagjndelbegaaGreatDoor
open Go.ChangeShapes Go.WideShapes Go.ChangeAt Go.RowKit
set_option linter.unusedVariables false
set_option maxRecDepth 100000

theorem hartCsrs_go : false = Rows.hartCsrsRow.goesBy Tryz.pinned.checked.prog := by kernel_rfl
theorem hartCsrs_fn : Tryz.pinned.checked.prog.funcNamed "citadel/citadellaw06.HartCsrs" = some 6 := by kernel_rfl
theorem hartCsrs_inst : Tryz.f6.isInstance Tryz.pinned.checked.prog Rows.hartCsrsRow.origin Rows.hartCsrsRow.targs := of_decide_eq_true (by kernel_rfl)
end Go.Proofs.YtooagjndelbegaaGreatDoor
