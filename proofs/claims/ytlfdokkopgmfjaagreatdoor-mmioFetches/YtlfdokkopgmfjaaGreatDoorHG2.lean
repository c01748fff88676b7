/- The program's Trap is the document's; a hart that is loaded in a region that draws. -/
import Derived.Test.YtlfdokkopgmfjaaGreatDoorHG
import Derived.Test.YtlfdokkopgmfjaaGreatDoorMH2
namespace Go.Proofs.YtlfdokkopgmfjaaGreatDoor
open Go.RowKit
set_option linter.unusedVariables false
set_option maxRecDepth 100000

theorem ib_ib (n : Int) (h : 0 ≤ n ∧ n < 18446744073709551616) : ib (ib n) = ib n := by
  obtain ⟨k, rfl⟩ := Int.eq_ofNat_of_zero_le h.1
  have e : ib (k : Int) = ((k &&& 546 : Nat) : Int) := u64_and_nat k 546 (by omega) (by omega)
  rw [e]
  have l : k &&& 546 ≤ 546 := Nat.and_le_right
  have e2 : ib ((k &&& 546 : Nat) : Int) = (((k &&& 546) &&& 546 : Nat) : Int) := u64_and_nat (k &&& 546) 546 (by omega) (by omega)
  rw [e2, Nat.and_assoc, Nat.and_self]
theorem zx_zx (x : Nat → Int) : zx (zx x) = zx x := by funext r; unfold zx; split <;> rfl
theorem ord_trap (h : HV) (ok : HOk h) (cause value pc : Int) (hp : pc / 2 * 2 = pc) : ordH (trapO (ordH h) cause value pc) = trapO (ordH h) cause value pc := by
  have e1 := zx_zx h.x
  have e2 : h.pc / 2 * 2 / 2 * 2 = h.pc / 2 * 2 := by omega
  have e3 : (h.stvec / 4 * 4 + h.stvec % 2) / 4 * 4 + (h.stvec / 4 * 4 + h.stvec % 2) % 2 = h.stvec / 4 * 4 + h.stvec % 2 := by omega
  have e4 := ib_ib h.sie ok.sie
  have e5 := ib_ib h.sip ok.sip
  simp only [ordH, trapO, e1, e2, e3, e4, e5, hp]
theorem wrap_u (z : Int) : IntKind.u64.wrap z = z % 18446744073709551616 := by simp [IntKind.wrap, IntKind.bits, IntKind.signed]
theorem wpQuiet_loadH {ops : Array Oper} {C : World → Prop} {Q : Act → Prop} {rest : List Oper} {d : Option Nat} {tt : TypeId} {x : Operand} {pos : String} {after : Array Edge} {a : Act} (g : Nat) (h : HV) (hx : a.eval x = .pointer (some ⟨g, 0, none⟩))
    (hg : ∀ w', C w' → w'.heap[g]? = some (.cells h.ca 27 (0, 0))) (hK : wpQuiet Tryz.prog ops C Q rest (a.put d h.v)) : wpQuiet Tryz.prog ops C Q ({ dst := d, op := Op.load 27 x, type := tt, pos := pos, after := after, guard := none } :: rest) a := by
  refine wpQuiet_step fun K hK' => ?_
  rw [if_pos (by simp [Region.wanted])]
  refine ⟨h.v, fun w' hw' => ?_, hK' _ hK⟩
  unfold Oper.quietAt execOp
  simp only [hx, Instr.loadAt, Instr.sureAddr, Sem.run_bind, Sem.run_pure, Result.andThen_ok, run_loadVar_row w' g 27 27 h.ca (0, 0) (.struct (Tryz.prog.fieldsOf 27)) (hg w' hw') u_hart rfl (by rw [s_hart]; rfl)]
  exact ⟨rfl, rfl⟩
end Go.Proofs.YtlfdokkopgmfjaaGreatDoor
