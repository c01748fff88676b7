/- A memory of cells is made. -/
import Derived.Test.YtlfdokkopgmfjaaGreatDoorMC3
namespace Go.Proofs.YtlfdokkopgmfjaaGreatDoor.C
open Go.RowKit
set_option linter.unusedVariables false
set_option maxRecDepth 100000
end Go.Proofs.YtlfdokkopgmfjaaGreatDoor.C
