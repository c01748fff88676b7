/- Refuse of the document's, Match of both. -/
import Derived.Test.YtlfdokkopgmfjaaGreatDoorMH3
namespace Go.Proofs.YtlfdokkopgmfjaaGreatDoor
open Go.RowKit
set_option linter.unusedVariables false
set_option maxRecDepth 100000
theorem sub_self (cs : Array Value) : ∀ j v, cs.toList[j]? = some v → cs[0 + j]? = some v := fun j v h => by rw [Nat.zero_add, ← Array.getElem?_toList]; exact h
end Go.Proofs.YtlfdokkopgmfjaaGreatDoor
