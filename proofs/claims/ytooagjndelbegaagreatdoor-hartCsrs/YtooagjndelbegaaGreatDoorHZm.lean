/- The closed facts of the seat's cards, each by itself. -/
import Derived.Test.YtooagjndelbegaaGreatDoorHZ
import Derived.Test.YtooagjndelbegaaGreatDoorCards
import Derived.Test.YtooagjndelbegaaGreatDoorTie
import Derived.SevenTiedAt
namespace Go.Proofs.YtooagjndelbegaaGreatDoor
open Go.ChangeShapes Go.WideShapes Go.ChangeAt Go.RowKit
set_option linter.unusedVariables false
set_option maxRecDepth 100000

theorem card_main : Tryz.pinned.checked.prog.mainIs = some (true, "667dee8c8a2fc85c74b4b1a37236ef07deddb8b54763ae113329c5894942441d".toList) := by kernel_rfl
theorem card_looks : false = Tryz.pinned.checked.prog.looks [] := by kernel_rfl
end Go.Proofs.YtooagjndelbegaaGreatDoor
