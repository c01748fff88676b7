/- New, Enter; the document's TLB is made. -/
import Derived.Test.YtooagjndelbegaaGreatDoorMH4
import Derived.Test.YtooagjndelbegaaGreatDoorME1
namespace Go.Proofs.YtooagjndelbegaaGreatDoor
open Go.RowKit
open C (Only)
set_option linter.unusedVariables false
set_option maxRecDepth 100000

theorem m_NewC (w : World) (m t : Nat) : Calls Tryz.prog 34 #[.pointer (some ⟨m, 0, none⟩), .pointer (some ⟨t, 0, none⟩)] w fun e w' => e = .returned (.pointer (some ⟨w.heap.size, 0, none⟩)) ∧ w' = w.alloc (.cells (CV.cells ⟨m, t, 0, 0⟩ 0 0 (.map none)) 118) := by
  go_enter Tryz.func34, Tryz.ntmps34
  go_wp2
  go_ret
  exact ⟨rfl, rfl⟩
theorem m_EnterC (w : World) (c m t : Nat) (r0 v0 root vmid : Int) (h : w.heap[c]? = some (.cells (CV.cells ⟨m, t, r0, v0⟩ 0 0 (.map none)) 118 (0, 0))) : Calls Tryz.prog 35 #[.pointer (some ⟨c, 0, none⟩), .int .u64 root, .int .i64 vmid] w fun e w' => e = .returned (.tuple #[]) ∧ w'.heap[c]? = some (.cells (CV.cells ⟨m, t, root, vmid⟩ 0 0 (.map none)) 118 (0, 0)) ∧ Only (· = c) w w' := by
  have k2 : w.cell? ⟨c, 2, none⟩ = some (.int .u64 r0) := cell_of_row w c 2 _ _ _ h
  have k3 : w.cell? ⟨c, 3, none⟩ = some (.int .i64 v0) := cell_of_row w c 3 _ _ _ h
  have kf : ∀ k, w.frozen? ⟨c, k, none⟩ = false := fun k => frozen_of_row _ _ k _ _ h
  have HH := C.hid h
  clear h
  go_enter Tryz.func35, Tryz.ntmps35
  go_wp2
  go_end0
  exact ⟨rfl, setCell_row _ c 3 _ (CV.cells ⟨m, t, root, vmid⟩ 0 0 (.map none)) 118 (.int .i64 vmid) (setCell_row w c 2 _ (CV.cells ⟨m, t, root, v0⟩ 0 0 (.map none)) 118 (.int .u64 root) HH.out rfl) rfl, (only_set _ _ _ _).trans (only_set _ _ _ _)⟩
theorem m_refNew8 (w : World) : Calls Tryz.prog 30 #[.int .i64 8] w fun e w' => e = .returned (.tuple #[.pointer (some ⟨w.heap.size, 0, none⟩), .int .i64 0]) ∧ Below w.heap.size w w' := by
  go_enter Tryz.func30, Tryz.ntmps30
  go_wp2
  go_returns
  exact ⟨rfl, (Below.refl _ _).alloc (Nat.le_refl _) _⟩
end Go.Proofs.YtooagjndelbegaaGreatDoor
