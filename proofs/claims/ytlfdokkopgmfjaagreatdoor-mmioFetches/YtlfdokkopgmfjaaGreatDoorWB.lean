/- Finish: the program's and the document's. -/
import Derived.Test.YtlfdokkopgmfjaaGreatDoorWA
import Derived.Test.YtlfdokkopgmfjaaGreatDoorMA1
namespace Go.Proofs.YtlfdokkopgmfjaaGreatDoor
open Go.RowKit
set_option linter.unusedVariables false
set_option maxRecDepth 100000
theorem ca_setx (p : HV) {r : Nat} (v : Int) (h : r < 32) : p.ca.setIfInBounds r (.int .u64 v) = ({ p with x := upd p.x r v } : HV).ca := by
  simp only [HV.ca, List.setIfInBounds_toArray]
  rw [hv_set p v r h]
end Go.Proofs.YtlfdokkopgmfjaaGreatDoor
