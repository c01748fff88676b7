/- The closed facts of the seat's cards, each by itself. -/
import Derived.Test.YtkmknjiepegodaaDoorHZ
import Derived.Test.YtkmknjiepegodaaDoorCards
import Derived.Test.YtkmknjiepegodaaDoorTie
import Derived.SevenTiedAt
namespace Go.Proofs.YtkmknjiepegodaaDoor
open Go.ChangeShapes Go.WideShapes Go.ChangeAt Go.RowKit
set_option linter.unusedVariables false
set_option maxRecDepth 100000

theorem card_main : Tryd.pinned.checked.prog.mainIs = some (true, "a10be2c3016050b923f61c0d17f0ac64d328d9b41db6ecc4707c35c1a0181dd8".toList) := by kernel_rfl
theorem card_looks : true = Tryd.pinned.checked.prog.looks [] := by kernel_rfl
end Go.Proofs.YtkmknjiepegodaaDoor
namespace Go.Proofs.YtkmknjiepegodaaDoor
open Go.ChangeShapes Go.WideShapes Go.ChangeAt Go.RowKit
set_option linter.unusedVariables false
set_option maxRecDepth 100000

theorem mmioEnds_k10 : (Rows.mmioEndsRow.inPlace == Tryd.prog.inPlace 4) = true := by kernel_rfl
theorem mmioEnds_k11 : (Rows.mmioEndsRow.unfollowed == Tryd.prog.unfollowed 4) = true := by kernel_rfl
theorem mmioEnds_k12 : (Rows.mmioEndsRow.recurses == Tryd.prog.recurses 4) = true := by kernel_rfl
theorem mmioEnds_k13 : (Rows.mmioEndsRow.named == Tryd.prog.varsNamed 4) = true := by kernel_rfl
theorem mmioEnds_closed : joinedFacts Tryd.prog 4 Tryd.f4 Rows.mmioEndsSpec Rows.mmioEndsRow = true := by
  unfold joinedFacts
  rw [mmioEnds_k10, mmioEnds_k11, mmioEnds_k12, mmioEnds_k13]
  kernel_rfl
end Go.Proofs.YtkmknjiepegodaaDoor
namespace Go.Proofs.YtkmknjiepegodaaDoor
open Go.ChangeShapes Go.WideShapes Go.ChangeAt Go.RowKit
set_option linter.unusedVariables false
set_option maxRecDepth 100000

theorem mmioEnds_go : false = Rows.mmioEndsRow.goesBy Tryd.pinned.checked.prog := by kernel_rfl
theorem mmioEnds_fn : Tryd.pinned.checked.prog.funcNamed "citadel/citadellaw15.MmioEnds" = some 4 := by kernel_rfl
theorem mmioEnds_inst : Tryd.f4.isInstance Tryd.pinned.checked.prog Rows.mmioEndsRow.origin Rows.mmioEndsRow.targs := of_decide_eq_true (by kernel_rfl)
end Go.Proofs.YtkmknjiepegodaaDoor
