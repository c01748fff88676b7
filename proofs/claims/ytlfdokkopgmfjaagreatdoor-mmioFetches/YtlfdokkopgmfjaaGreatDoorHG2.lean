/- The program's Trap is the document's; a hart that is loaded in a region that draws. -/
import Derived.Test.YtlfdokkopgmfjaaGreatDoorHG
import Derived.Test.YtlfdokkopgmfjaaGreatDoorMH2
namespace Go.Proofs.YtlfdokkopgmfjaaGreatDoor
open Go.RowKit
set_option linter.unusedVariables false
set_option maxRecDepth 100000
theorem wrap_u (z : Int) : IntKind.u64.wrap z = z % 18446744073709551616 := by simp [IntKind.wrap, IntKind.bits, IntKind.signed]
theorem wpQuiet_loadH {ops : Array Oper} {C : World → Prop} {Q : Act → Prop} {rest : List Oper} {d : Option Nat} {tt : TypeId} {x : Operand} {pos : String} {after : Array Edge} {a : Act} (g : Nat) (h : HV) (hx : a.eval x = .pointer (some ⟨g, 0, none⟩))
    (hg : ∀ w', C w' → w'.heap[g]? = some (.cells h.ca 27 (0, 0))) (hK : wpQuiet Tryz.prog ops C Q rest (a.put d h.v)) : wpQuiet Tryz.prog ops C Q ({ dst := d, op := Op.load 27 x, type := tt, pos := pos, after := after, guard := none } :: rest) a := by
  refine wpQuiet_step fun K hK' => ?_
  rw [if_pos (by simp [Region.wanted])]
  refine ⟨h.v, fun w' hw' => ?_, hK' _ hK⟩
  unfold Oper.quietAt execOp
  simp only [hx, Instr.loadAt, Instr.sureAddr, Sem.run_bind, Sem.run_pure, Result.andThen_ok, run_loadVar_row w' g 27 27 h.ca (0, 0) (.struct (Tryz.prog.fieldsOf 27)) (hg w' hw') u_hart rfl (by rw [s_hart]; rfl)]
  exact ⟨rfl, rfl⟩
end Go.Proofs.YtlfdokkopgmfjaaGreatDoor
