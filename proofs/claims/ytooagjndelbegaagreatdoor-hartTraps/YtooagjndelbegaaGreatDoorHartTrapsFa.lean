/- HartTraps: the closed facts of its row, each by itself. -/
import Derived.Test.YtooagjndelbegaaGreatDoorHZ
import Derived.Test.YtooagjndelbegaaGreatDoorCards
import Derived.Test.YtooagjndelbegaaGreatDoorTie
import Derived.SevenTiedAt
namespace Go.Proofs.YtooagjndelbegaaGreatDoor
open Go.ChangeShapes Go.WideShapes Go.ChangeAt Go.RowKit
set_option linter.unusedVariables false
set_option maxRecDepth 100000

theorem hartTraps_k10 : (Rows.hartTrapsRow.inPlace == Tryz.prog.inPlace 5) = true := by kernel_rfl
theorem hartTraps_k11 : (Rows.hartTrapsRow.unfollowed == Tryz.prog.unfollowed 5) = true := by kernel_rfl
theorem hartTraps_k12 : (Rows.hartTrapsRow.recurses == Tryz.prog.recurses 5) = true := by kernel_rfl
theorem hartTraps_k13 : (Rows.hartTrapsRow.named == Tryz.prog.varsNamed 5) = true := by kernel_rfl
theorem hartTraps_closed : joinedFacts Tryz.prog 5 Tryz.f5 Rows.hartTrapsSpec Rows.hartTrapsRow = true := by
  unfold joinedFacts
  rw [hartTraps_k10, hartTraps_k11, hartTraps_k12, hartTraps_k13]
  kernel_rfl
end Go.Proofs.YtooagjndelbegaaGreatDoor
