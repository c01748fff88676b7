/- HartCsrs: the closed facts of its row, each by itself. -/
import Derived.Test.YtooagjndelbegaaGreatDoorHZ
import Derived.Test.YtooagjndelbegaaGreatDoorCards
import Derived.Test.YtooagjndelbegaaGreatDoorTie
import Derived.SevenTiedAt
namespace Go.Proofs.YtooagjndelbegaaGreatDoor
open Go.ChangeShapes Go.WideShapes Go.ChangeAt Go.RowKit
set_option linter.unusedVariables false
set_option maxRecDepth 100000

theorem hartCsrs_k10 : (Rows.hartCsrsRow.inPlace == Tryz.prog.inPlace 6) = true := by kernel_rfl
theorem hartCsrs_k11 : (Rows.hartCsrsRow.unfollowed == Tryz.prog.unfollowed 6) = true := by kernel_rfl
theorem hartCsrs_k12 : (Rows.hartCsrsRow.recurses == Tryz.prog.recurses 6) = true := by kernel_rfl
theorem hartCsrs_k13 : (Rows.hartCsrsRow.named == Tryz.prog.varsNamed 6) = true := by kernel_rfl
theorem hartCsrs_closed : joinedFacts Tryz.prog 6 Tryz.f6 Rows.hartCsrsSpec Rows.hartCsrsRow = true := by
  unfold joinedFacts
  rw [hartCsrs_k10, hartCsrs_k11, hartCsrs_k12, hartCsrs_k13]
  kernel_rfl
end Go.Proofs.YtooagjndelbegaaGreatDoor
