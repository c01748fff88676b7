/- Finish: the program's and the document's. -/
import Derived.Test.YtlfdokkopgmfjaaGreatDoorWA
import Derived.Test.YtlfdokkopgmfjaaGreatDoorMA1
namespace Go.Proofs.YtlfdokkopgmfjaaGreatDoor
open Go.RowKit
set_option linter.unusedVariables false
set_option maxRecDepth 100000

def finA (o : HV) (a : AV) : HV := { o with pc := IntKind.u64.wrap (o.pc + IntKind.u64.wrap a.len) }
def finB (o : HV) (a : AV) (v : Int) : HV := if a.store = false ∧ 0 < a.reg ∧ a.reg < 32 then { o with x := upd o.x a.reg.toNat (A.ext v a.size a.sg) } else o
/-- the hart behind it -/
def finH (h : HV) (a : AV) (v : Int) : HV := ordH (finB (finA (ordH h) a) a v)
theorem finA_ok {o : HV} (k : HOk o) (a : AV) : HOk (finA o a) := ⟨k.x, wrap_b _, k.stvec, k.sscr, k.sepc, k.scause, k.stval, k.sie, k.sip, k.satp, k.resv⟩
theorem ext_b (v n : Int) (s : Bool) (h : 0 ≤ v ∧ v < 18446744073709551616) : 0 ≤ A.ext v n s ∧ A.ext v n s < 18446744073709551616 := by
  cases s
  · show 0 ≤ A.exz v n ∧ A.exz v n < _
    unfold A.exz
    split; omega
    split; omega
    split; omega
    exact h
  · show 0 ≤ A.exs v n ∧ A.exs v n < _
    unfold A.exs
    split; omega
    split; omega
    split; omega
    exact h
theorem finB_ok {o : HV} (k : HOk o) (a : AV) (v : Int) (h : 0 ≤ v ∧ v < 18446744073709551616) : HOk (finB o a v) := by
  unfold finB
  split
  · exact ⟨fun r => by show 0 ≤ upd o.x _ _ r ∧ upd o.x _ _ r < _; unfold upd; split; exact ext_b _ _ _ h; exact k.x r, k.pc, k.stvec, k.sscr, k.sepc, k.scause, k.stval, k.sie, k.sip, k.satp, k.resv⟩
  · exact k
theorem ca_setx (p : HV) {r : Nat} (v : Int) (h : r < 32) : p.ca.setIfInBounds r (.int .u64 v) = ({ p with x := upd p.x r v } : HV).ca := by
  simp only [HV.ca, List.setIfInBounds_toArray]
  rw [hv_set p v r h]
end Go.Proofs.YtlfdokkopgmfjaaGreatDoor
