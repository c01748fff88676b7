/- The closed facts of the seat's cards, each by itself. -/
import Derived.Test.YtlfdokkopgmfjaaGreatDoorMH8
import Derived.Test.YtlfdokkopgmfjaaGreatDoorCards
import Derived.Test.YtlfdokkopgmfjaaGreatDoorTie
import Derived.SevenTiedAt
namespace Go.Proofs.YtlfdokkopgmfjaaGreatDoor
open Go.ChangeShapes Go.WideShapes Go.ChangeAt Go.RowKit
set_option linter.unusedVariables false
set_option maxRecDepth 100000
theorem card_main : Tryz.pinned.checked.prog.mainIs = some (true, "b518844aa68c88e4dd03b1b51cdad5eb9b6ba3949926baa271627549b2555a00".toList) := by kernel_rfl
theorem card_looks : true = Tryz.pinned.checked.prog.looks [] := by kernel_rfl
end Go.Proofs.YtlfdokkopgmfjaaGreatDoor
namespace Go.Proofs.YtlfdokkopgmfjaaGreatDoor
open Go.ChangeShapes Go.WideShapes Go.ChangeAt Go.RowKit
set_option linter.unusedVariables false
set_option maxRecDepth 100000
theorem mmioFetches_k10 : (Rows.mmioFetchesRow.inPlace == Tryz.prog.inPlace 3) = true := by kernel_rfl
theorem mmioFetches_k11 : (Rows.mmioFetchesRow.unfollowed == Tryz.prog.unfollowed 3) = true := by kernel_rfl
theorem mmioFetches_k12 : (Rows.mmioFetchesRow.recurses == Tryz.prog.recurses 3) = true := by kernel_rfl
theorem mmioFetches_k13 : (Rows.mmioFetchesRow.named == Tryz.prog.varsNamed 3) = true := by kernel_rfl
theorem mmioFetches_closed : joinedFacts Tryz.prog 3 Tryz.f3 Rows.mmioFetchesSpec Rows.mmioFetchesRow = true := by
  unfold joinedFacts
  rw [mmioFetches_k10, mmioFetches_k11, mmioFetches_k12, mmioFetches_k13]
  kernel_rfl
end Go.Proofs.YtlfdokkopgmfjaaGreatDoor
namespace Go.Proofs.YtlfdokkopgmfjaaGreatDoor
open Go.ChangeShapes Go.WideShapes Go.ChangeAt Go.RowKit
set_option linter.unusedVariables false
set_option maxRecDepth 100000
theorem mmioFetches_go : false = Rows.mmioFetchesRow.goesBy Tryz.pinned.checked.prog := by kernel_rfl
theorem mmioFetches_fn : Tryz.pinned.checked.prog.funcNamed "citadel/citadellaw15.MmioFetches" = some 3 := by kernel_rfl
theorem mmioFetches_inst : Tryz.f3.isInstance Tryz.pinned.checked.prog Rows.mmioFetchesRow.origin Rows.mmioFetchesRow.targs := of_decide_eq_true (by kernel_rfl)
end Go.Proofs.YtlfdokkopgmfjaaGreatDoor
