/- Plan: the document's. -/
import Derived.Test.YtlfdokkopgmfjaaGreatDoorMH6
import Derived.BigRegion
namespace Go.Proofs.YtlfdokkopgmfjaaGreatDoor
open Go.RowKit
set_option linter.unusedVariables false
set_option maxRecDepth 100000
end Go.Proofs.YtlfdokkopgmfjaaGreatDoor
