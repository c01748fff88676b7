/- The reference's Trap. -/
import Derived.Test.YtlfdokkopgmfjaaGreatDoorMH1
import Derived.Deep.CutBlock
namespace Go.Proofs.YtlfdokkopgmfjaaGreatDoor
open Go.RowKit
set_option linter.unusedVariables false
theorem hid {p : Prop} (h : p) : Hid p := h
theorem row_cellH {w : World} {b : Nat} {h : HV} (hb : w.heap[b]? = some (.cells h.ca 27 (0, 0))) (k : Nat) {v : Value} (hv : h.ca[k]? = some v) : w.cell? ⟨b, k, none⟩ = some v := by
  simp [World.cell?, hb, hv]
theorem lt_of_row {w : World} {b : Nat} {o : Obj} (h : w.heap[b]? = some o) : b < w.heap.size := by
  rcases Nat.lt_or_ge b w.heap.size with q | q
  · exact q
  · rw [Array.getElem?_eq_none q] at h; cases h
theorem bT {a b c : World} (h : Below a.heap.size a b) (k : Below b.heap.size b c) : Below a.heap.size a c := h.trans (k.mono h.size)
theorem and64_b (x y : Int) : 0 ≤ bits .and .u64 x y ∧ bits .and .u64 x y < 18446744073709551616 := by
  unfold bits
  have e : ∀ z : Int, IntKind.u64.wrap z = z % 18446744073709551616 := fun z => by simp [IntKind.wrap, IntKind.bits, IntKind.signed]
  rw [e]; omega
theorem ordOk {h : HV} (ok : HOk h) : HOk (ordH h) := by
  have p := ok.pc; have s := ok.sepc; have t := ok.stvec
  exact ⟨fun r => by show 0 ≤ zx h.x r ∧ zx h.x r < 18446744073709551616; unfold zx; split; omega; exact ok.x r, by show 0 ≤ h.pc / 2 * 2 ∧ h.pc / 2 * 2 < 18446744073709551616; omega, by show 0 ≤ h.stvec / 4 * 4 + h.stvec % 2 ∧ h.stvec / 4 * 4 + h.stvec % 2 < 18446744073709551616; omega, ok.sscr, by show 0 ≤ h.sepc / 2 * 2 ∧ h.sepc / 2 * 2 < 18446744073709551616; omega, ok.scause, ok.stval, and64_b _ _, and64_b _ _, ok.satp, ok.resv⟩
theorem wrap_b (x : Int) : 0 ≤ IntKind.u64.wrap x ∧ IntKind.u64.wrap x < 18446744073709551616 := by
  have e : IntKind.u64.wrap x = x % 18446744073709551616 := by simp [IntKind.wrap, IntKind.bits, IntKind.signed]
  rw [e]; omega
end Go.Proofs.YtlfdokkopgmfjaaGreatDoor
