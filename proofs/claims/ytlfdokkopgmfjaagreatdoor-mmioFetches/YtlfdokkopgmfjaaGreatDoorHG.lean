/- The program's Trap is the document's. -/
import Derived.Test.YtlfdokkopgmfjaaGreatDoorHB
import Derived.Test.YtlfdokkopgmfjaaGreatDoorMH1
import Derived.Test.YtlfdokkopgmfjaaGreatDoorMH2
namespace Go.Proofs.YtlfdokkopgmfjaaGreatDoor
open Go.RowKit
set_option linter.unusedVariables false
set_option maxRecDepth 100000
end Go.Proofs.YtlfdokkopgmfjaaGreatDoor
