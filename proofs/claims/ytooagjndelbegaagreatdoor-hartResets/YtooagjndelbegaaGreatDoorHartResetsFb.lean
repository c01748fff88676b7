/- HartResets: the closed facts of its card, each by itself. -/
import Derived.Test.YtooagjndelbegaaGreatDoorHZ
import Derived.Test.YtooagjndelbegaaGreatDoorCards
import Derived.Test.YtooagjndelbegaaGreatDoorTie
import Derived.SevenTiedAt
namespace Go.Proofs.YtooagjndelbegaaGreatDoor
open Go.ChangeShapes Go.WideShapes Go.ChangeAt Go.RowKit
set_option linter.unusedVariables false
set_option maxRecDepth 100000

theorem hartResets_go : false = Rows.hartResetsRow.goesBy Tryz.pinned.checked.prog := by kernel_rfl
theorem hartResets_fn : Tryz.pinned.checked.prog.funcNamed "citadel/citadellaw06.HartResets" = some 7 := by kernel_rfl
theorem hartResets_inst : Tryz.f7.isInstance Tryz.pinned.checked.prog Rows.hartResetsRow.origin Rows.hartResetsRow.targs := of_decide_eq_true (by kernel_rfl)
end Go.Proofs.YtooagjndelbegaaGreatDoor
