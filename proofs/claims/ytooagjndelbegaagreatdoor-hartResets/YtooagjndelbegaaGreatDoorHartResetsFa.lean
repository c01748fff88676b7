/- HartResets: the closed facts of its row, each by itself. -/
import Derived.Test.YtooagjndelbegaaGreatDoorHZ
import Derived.Test.YtooagjndelbegaaGreatDoorCards
import Derived.Test.YtooagjndelbegaaGreatDoorTie
import Derived.SevenTiedAt
namespace Go.Proofs.YtooagjndelbegaaGreatDoor
open Go.ChangeShapes Go.WideShapes Go.ChangeAt Go.RowKit
set_option linter.unusedVariables false
set_option maxRecDepth 100000

theorem hartResets_k10 : (Rows.hartResetsRow.inPlace == Tryz.prog.inPlace 7) = true := by kernel_rfl
theorem hartResets_k11 : (Rows.hartResetsRow.unfollowed == Tryz.prog.unfollowed 7) = true := by kernel_rfl
theorem hartResets_k12 : (Rows.hartResetsRow.recurses == Tryz.prog.recurses 7) = true := by kernel_rfl
theorem hartResets_k13 : (Rows.hartResetsRow.named == Tryz.prog.varsNamed 7) = true := by kernel_rfl
theorem hartResets_closed : joinedFacts Tryz.prog 7 Tryz.f7 Rows.hartResetsSpec Rows.hartResetsRow = true := by
  unfold joinedFacts
  rw [hartResets_k10, hartResets_k11, hartResets_k12, hartResets_k13]
  kernel_rfl
end Go.Proofs.YtooagjndelbegaaGreatDoor
