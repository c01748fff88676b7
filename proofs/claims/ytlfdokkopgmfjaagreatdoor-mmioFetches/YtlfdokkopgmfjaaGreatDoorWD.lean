/- Refuse of the document's, Match of both. -/
import Derived.Test.YtlfdokkopgmfjaaGreatDoorMH3
namespace Go.Proofs.YtlfdokkopgmfjaaGreatDoor
open Go.RowKit
set_option linter.unusedVariables false
set_option maxRecDepth 100000

theorem sub_self (cs : Array Value) : ∀ j v, cs.toList[j]? = some v → cs[0 + j]? = some v := fun j v h => by rw [Nat.zero_add, ← Array.getElem?_toList]; exact h
/-- by what access a load or a store comes to a fault -/
def acI (b : Bool) : Int := if b = true then 3 else 2
/-- what went wrong is that -/
def mt (a : AV) (e : EV) : Bool := ((e.kind == 3) && !e.walk) && (e.access == acI a.store) && (e.va == a.va)
end Go.Proofs.YtlfdokkopgmfjaaGreatDoor
