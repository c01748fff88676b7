/- The reference's f3 and f7 of an operation. New blocks alone. -/
import Derived.Test.YtioodijiejipiaaGreatDoorRM
namespace Go.Proofs.YtioodijiejipiaaGreatDoor
open Go.RowKit
set_option linter.unusedVariables false

/-- f3 and f7 of an operation, in their places -/
def aluT (n : Int) : Int := [0, 0, 1073741824, 4096, 8192, 12288, 16384, 20480, 1073762304, 24576, 28672, 33554432, 33558528, 33562624, 33566720, 33570816, 33574912, 33579008, 33583104, 0, 1073741824, 4096, 20480, 1073762304, 33554432, 33570816, 33574912, 33579008, 33583104].getD n.toNat 0
set_option maxRecDepth 100000 in
theorem al_0 (w : World) : Calls Tryz.prog 41 #[.int .i64 0] w fun e w' => e = .returned (.int .u32 0) ∧ Below w.heap.size w w' := by
  go_enter Tryz.func41, Tryz.ntmps41
  go_wp2_with (first | (refine wpList_buildFlat rfl 41 3 _ _ rfl .i64 [0, 0, 0, 1, 2, 3, 4, 5, 5, 6, 7, 0, 1, 2, 3, 4, 5, 6, 7, 0, 0, 1, 5, 5, 0, 4, 5, 6, 7] (by kernel_rfl) (by kernel_rfl) (by kernel_rfl) rfl (by decide) (by decide) rfl ?_) | (go_at_call 20; refine (r_pickT _ 29 [0, 0, 0, 1, 2, 3, 4, 5, 5, 6, 7, 0, 1, 2, 3, 4, 5, 6, 7, 0, 0, 1, 5, 5, 0, 4, 5, 6, 7] rfl 0 _ (tab_cell _ _ (by simp) _ _ _ _ rfl rfl) (by decide) (by decide) (by decide) 0 rfl).mono ?_; rintro e w1 ⟨rfl, rfl⟩) | (go_at_call 40; go_in) | (go_at_call 26; go_in))
  go_ret
  exact ⟨rfl, below1 _⟩
set_option maxRecDepth 100000 in
theorem al_1 (w : World) : Calls Tryz.prog 41 #[.int .i64 1] w fun e w' => e = .returned (.int .u32 0) ∧ Below w.heap.size w w' := by
  go_enter Tryz.func41, Tryz.ntmps41
  go_wp2_with (first | (refine wpList_buildFlat rfl 41 3 _ _ rfl .i64 [0, 0, 0, 1, 2, 3, 4, 5, 5, 6, 7, 0, 1, 2, 3, 4, 5, 6, 7, 0, 0, 1, 5, 5, 0, 4, 5, 6, 7] (by kernel_rfl) (by kernel_rfl) (by kernel_rfl) rfl (by decide) (by decide) rfl ?_) | (go_at_call 20; refine (r_pickT _ 29 [0, 0, 0, 1, 2, 3, 4, 5, 5, 6, 7, 0, 1, 2, 3, 4, 5, 6, 7, 0, 0, 1, 5, 5, 0, 4, 5, 6, 7] rfl 1 _ (tab_cell _ _ (by simp) _ _ _ _ rfl rfl) (by decide) (by decide) (by decide) 0 rfl).mono ?_; rintro e w1 ⟨rfl, rfl⟩) | (go_at_call 40; go_in) | (go_at_call 26; go_in))
  go_ret
  exact ⟨rfl, below1 _⟩
set_option maxRecDepth 100000 in
theorem al_2 (w : World) : Calls Tryz.prog 41 #[.int .i64 2] w fun e w' => e = .returned (.int .u32 1073741824) ∧ Below w.heap.size w w' := by
  have q : bits .or .u32 0 1073741824 = 1073741824 := by decide
  go_enter Tryz.func41, Tryz.ntmps41
  go_wp2_with (first | (refine wpList_buildFlat rfl 41 3 _ _ rfl .i64 [0, 0, 0, 1, 2, 3, 4, 5, 5, 6, 7, 0, 1, 2, 3, 4, 5, 6, 7, 0, 0, 1, 5, 5, 0, 4, 5, 6, 7] (by kernel_rfl) (by kernel_rfl) (by kernel_rfl) rfl (by decide) (by decide) rfl ?_) | (go_at_call 20; refine (r_pickT _ 29 [0, 0, 0, 1, 2, 3, 4, 5, 5, 6, 7, 0, 1, 2, 3, 4, 5, 6, 7, 0, 0, 1, 5, 5, 0, 4, 5, 6, 7] rfl 2 _ (tab_cell _ _ (by simp) _ _ _ _ rfl rfl) (by decide) (by decide) (by decide) 0 rfl).mono ?_; rintro e w1 ⟨rfl, rfl⟩) | (go_at_call 40; go_in) | (go_at_call 26; go_in))
  go_ret
  exact ⟨rfl, below1 _⟩
set_option maxRecDepth 100000 in
theorem al_3 (w : World) : Calls Tryz.prog 41 #[.int .i64 3] w fun e w' => e = .returned (.int .u32 4096) ∧ Below w.heap.size w w' := by
  go_enter Tryz.func41, Tryz.ntmps41
  go_wp2_with (first | (refine wpList_buildFlat rfl 41 3 _ _ rfl .i64 [0, 0, 0, 1, 2, 3, 4, 5, 5, 6, 7, 0, 1, 2, 3, 4, 5, 6, 7, 0, 0, 1, 5, 5, 0, 4, 5, 6, 7] (by kernel_rfl) (by kernel_rfl) (by kernel_rfl) rfl (by decide) (by decide) rfl ?_) | (go_at_call 20; refine (r_pickT _ 29 [0, 0, 0, 1, 2, 3, 4, 5, 5, 6, 7, 0, 1, 2, 3, 4, 5, 6, 7, 0, 0, 1, 5, 5, 0, 4, 5, 6, 7] rfl 3 _ (tab_cell _ _ (by simp) _ _ _ _ rfl rfl) (by decide) (by decide) (by decide) 1 rfl).mono ?_; rintro e w1 ⟨rfl, rfl⟩) | (go_at_call 40; go_in) | (go_at_call 26; go_in))
  go_ret
  exact ⟨rfl, below1 _⟩
set_option maxRecDepth 100000 in
theorem al_4 (w : World) : Calls Tryz.prog 41 #[.int .i64 4] w fun e w' => e = .returned (.int .u32 8192) ∧ Below w.heap.size w w' := by
  go_enter Tryz.func41, Tryz.ntmps41
  go_wp2_with (first | (refine wpList_buildFlat rfl 41 3 _ _ rfl .i64 [0, 0, 0, 1, 2, 3, 4, 5, 5, 6, 7, 0, 1, 2, 3, 4, 5, 6, 7, 0, 0, 1, 5, 5, 0, 4, 5, 6, 7] (by kernel_rfl) (by kernel_rfl) (by kernel_rfl) rfl (by decide) (by decide) rfl ?_) | (go_at_call 20; refine (r_pickT _ 29 [0, 0, 0, 1, 2, 3, 4, 5, 5, 6, 7, 0, 1, 2, 3, 4, 5, 6, 7, 0, 0, 1, 5, 5, 0, 4, 5, 6, 7] rfl 4 _ (tab_cell _ _ (by simp) _ _ _ _ rfl rfl) (by decide) (by decide) (by decide) 2 rfl).mono ?_; rintro e w1 ⟨rfl, rfl⟩) | (go_at_call 40; go_in) | (go_at_call 26; go_in))
  go_ret
  exact ⟨rfl, below1 _⟩
set_option maxRecDepth 100000 in
theorem al_5 (w : World) : Calls Tryz.prog 41 #[.int .i64 5] w fun e w' => e = .returned (.int .u32 12288) ∧ Below w.heap.size w w' := by
  go_enter Tryz.func41, Tryz.ntmps41
  go_wp2_with (first | (refine wpList_buildFlat rfl 41 3 _ _ rfl .i64 [0, 0, 0, 1, 2, 3, 4, 5, 5, 6, 7, 0, 1, 2, 3, 4, 5, 6, 7, 0, 0, 1, 5, 5, 0, 4, 5, 6, 7] (by kernel_rfl) (by kernel_rfl) (by kernel_rfl) rfl (by decide) (by decide) rfl ?_) | (go_at_call 20; refine (r_pickT _ 29 [0, 0, 0, 1, 2, 3, 4, 5, 5, 6, 7, 0, 1, 2, 3, 4, 5, 6, 7, 0, 0, 1, 5, 5, 0, 4, 5, 6, 7] rfl 5 _ (tab_cell _ _ (by simp) _ _ _ _ rfl rfl) (by decide) (by decide) (by decide) 3 rfl).mono ?_; rintro e w1 ⟨rfl, rfl⟩) | (go_at_call 40; go_in) | (go_at_call 26; go_in))
  go_ret
  exact ⟨rfl, below1 _⟩
set_option maxRecDepth 100000 in
theorem al_6 (w : World) : Calls Tryz.prog 41 #[.int .i64 6] w fun e w' => e = .returned (.int .u32 16384) ∧ Below w.heap.size w w' := by
  go_enter Tryz.func41, Tryz.ntmps41
  go_wp2_with (first | (refine wpList_buildFlat rfl 41 3 _ _ rfl .i64 [0, 0, 0, 1, 2, 3, 4, 5, 5, 6, 7, 0, 1, 2, 3, 4, 5, 6, 7, 0, 0, 1, 5, 5, 0, 4, 5, 6, 7] (by kernel_rfl) (by kernel_rfl) (by kernel_rfl) rfl (by decide) (by decide) rfl ?_) | (go_at_call 20; refine (r_pickT _ 29 [0, 0, 0, 1, 2, 3, 4, 5, 5, 6, 7, 0, 1, 2, 3, 4, 5, 6, 7, 0, 0, 1, 5, 5, 0, 4, 5, 6, 7] rfl 6 _ (tab_cell _ _ (by simp) _ _ _ _ rfl rfl) (by decide) (by decide) (by decide) 4 rfl).mono ?_; rintro e w1 ⟨rfl, rfl⟩) | (go_at_call 40; go_in) | (go_at_call 26; go_in))
  go_ret
  exact ⟨rfl, below1 _⟩
set_option maxRecDepth 100000 in
theorem al_7 (w : World) : Calls Tryz.prog 41 #[.int .i64 7] w fun e w' => e = .returned (.int .u32 20480) ∧ Below w.heap.size w w' := by
  go_enter Tryz.func41, Tryz.ntmps41
  go_wp2_with (first | (refine wpList_buildFlat rfl 41 3 _ _ rfl .i64 [0, 0, 0, 1, 2, 3, 4, 5, 5, 6, 7, 0, 1, 2, 3, 4, 5, 6, 7, 0, 0, 1, 5, 5, 0, 4, 5, 6, 7] (by kernel_rfl) (by kernel_rfl) (by kernel_rfl) rfl (by decide) (by decide) rfl ?_) | (go_at_call 20; refine (r_pickT _ 29 [0, 0, 0, 1, 2, 3, 4, 5, 5, 6, 7, 0, 1, 2, 3, 4, 5, 6, 7, 0, 0, 1, 5, 5, 0, 4, 5, 6, 7] rfl 7 _ (tab_cell _ _ (by simp) _ _ _ _ rfl rfl) (by decide) (by decide) (by decide) 5 rfl).mono ?_; rintro e w1 ⟨rfl, rfl⟩) | (go_at_call 40; go_in) | (go_at_call 26; go_in))
  go_ret
  exact ⟨rfl, below1 _⟩
set_option maxRecDepth 100000 in
theorem al_8 (w : World) : Calls Tryz.prog 41 #[.int .i64 8] w fun e w' => e = .returned (.int .u32 1073762304) ∧ Below w.heap.size w w' := by
  have q : bits .or .u32 20480 1073741824 = 1073762304 := by decide
  go_enter Tryz.func41, Tryz.ntmps41
  go_wp2_with (first | (refine wpList_buildFlat rfl 41 3 _ _ rfl .i64 [0, 0, 0, 1, 2, 3, 4, 5, 5, 6, 7, 0, 1, 2, 3, 4, 5, 6, 7, 0, 0, 1, 5, 5, 0, 4, 5, 6, 7] (by kernel_rfl) (by kernel_rfl) (by kernel_rfl) rfl (by decide) (by decide) rfl ?_) | (go_at_call 20; refine (r_pickT _ 29 [0, 0, 0, 1, 2, 3, 4, 5, 5, 6, 7, 0, 1, 2, 3, 4, 5, 6, 7, 0, 0, 1, 5, 5, 0, 4, 5, 6, 7] rfl 8 _ (tab_cell _ _ (by simp) _ _ _ _ rfl rfl) (by decide) (by decide) (by decide) 5 rfl).mono ?_; rintro e w1 ⟨rfl, rfl⟩) | (go_at_call 40; go_in) | (go_at_call 26; go_in))
  go_ret
  exact ⟨rfl, below1 _⟩
set_option maxRecDepth 100000 in
theorem al_9 (w : World) : Calls Tryz.prog 41 #[.int .i64 9] w fun e w' => e = .returned (.int .u32 24576) ∧ Below w.heap.size w w' := by
  go_enter Tryz.func41, Tryz.ntmps41
  go_wp2_with (first | (refine wpList_buildFlat rfl 41 3 _ _ rfl .i64 [0, 0, 0, 1, 2, 3, 4, 5, 5, 6, 7, 0, 1, 2, 3, 4, 5, 6, 7, 0, 0, 1, 5, 5, 0, 4, 5, 6, 7] (by kernel_rfl) (by kernel_rfl) (by kernel_rfl) rfl (by decide) (by decide) rfl ?_) | (go_at_call 20; refine (r_pickT _ 29 [0, 0, 0, 1, 2, 3, 4, 5, 5, 6, 7, 0, 1, 2, 3, 4, 5, 6, 7, 0, 0, 1, 5, 5, 0, 4, 5, 6, 7] rfl 9 _ (tab_cell _ _ (by simp) _ _ _ _ rfl rfl) (by decide) (by decide) (by decide) 6 rfl).mono ?_; rintro e w1 ⟨rfl, rfl⟩) | (go_at_call 40; go_in) | (go_at_call 26; go_in))
  go_ret
  exact ⟨rfl, below1 _⟩
set_option maxRecDepth 100000 in
theorem al_10 (w : World) : Calls Tryz.prog 41 #[.int .i64 10] w fun e w' => e = .returned (.int .u32 28672) ∧ Below w.heap.size w w' := by
  go_enter Tryz.func41, Tryz.ntmps41
  go_wp2_with (first | (refine wpList_buildFlat rfl 41 3 _ _ rfl .i64 [0, 0, 0, 1, 2, 3, 4, 5, 5, 6, 7, 0, 1, 2, 3, 4, 5, 6, 7, 0, 0, 1, 5, 5, 0, 4, 5, 6, 7] (by kernel_rfl) (by kernel_rfl) (by kernel_rfl) rfl (by decide) (by decide) rfl ?_) | (go_at_call 20; refine (r_pickT _ 29 [0, 0, 0, 1, 2, 3, 4, 5, 5, 6, 7, 0, 1, 2, 3, 4, 5, 6, 7, 0, 0, 1, 5, 5, 0, 4, 5, 6, 7] rfl 10 _ (tab_cell _ _ (by simp) _ _ _ _ rfl rfl) (by decide) (by decide) (by decide) 7 rfl).mono ?_; rintro e w1 ⟨rfl, rfl⟩) | (go_at_call 40; go_in) | (go_at_call 26; go_in))
  go_ret
  exact ⟨rfl, below1 _⟩
set_option maxRecDepth 100000 in
theorem al_11 (w : World) : Calls Tryz.prog 41 #[.int .i64 11] w fun e w' => e = .returned (.int .u32 33554432) ∧ Below w.heap.size w w' := by
  have q : bits .or .u32 0 33554432 = 33554432 := by decide
  go_enter Tryz.func41, Tryz.ntmps41
  go_wp2_with (first | (refine wpList_buildFlat rfl 41 3 _ _ rfl .i64 [0, 0, 0, 1, 2, 3, 4, 5, 5, 6, 7, 0, 1, 2, 3, 4, 5, 6, 7, 0, 0, 1, 5, 5, 0, 4, 5, 6, 7] (by kernel_rfl) (by kernel_rfl) (by kernel_rfl) rfl (by decide) (by decide) rfl ?_) | (go_at_call 20; refine (r_pickT _ 29 [0, 0, 0, 1, 2, 3, 4, 5, 5, 6, 7, 0, 1, 2, 3, 4, 5, 6, 7, 0, 0, 1, 5, 5, 0, 4, 5, 6, 7] rfl 11 _ (tab_cell _ _ (by simp) _ _ _ _ rfl rfl) (by decide) (by decide) (by decide) 0 rfl).mono ?_; rintro e w1 ⟨rfl, rfl⟩) | (go_at_call 40; go_in) | (go_at_call 26; go_in))
  go_ret
  exact ⟨rfl, below1 _⟩
set_option maxRecDepth 100000 in
theorem al_12 (w : World) : Calls Tryz.prog 41 #[.int .i64 12] w fun e w' => e = .returned (.int .u32 33558528) ∧ Below w.heap.size w w' := by
  have q : bits .or .u32 4096 33554432 = 33558528 := by decide
  go_enter Tryz.func41, Tryz.ntmps41
  go_wp2_with (first | (refine wpList_buildFlat rfl 41 3 _ _ rfl .i64 [0, 0, 0, 1, 2, 3, 4, 5, 5, 6, 7, 0, 1, 2, 3, 4, 5, 6, 7, 0, 0, 1, 5, 5, 0, 4, 5, 6, 7] (by kernel_rfl) (by kernel_rfl) (by kernel_rfl) rfl (by decide) (by decide) rfl ?_) | (go_at_call 20; refine (r_pickT _ 29 [0, 0, 0, 1, 2, 3, 4, 5, 5, 6, 7, 0, 1, 2, 3, 4, 5, 6, 7, 0, 0, 1, 5, 5, 0, 4, 5, 6, 7] rfl 12 _ (tab_cell _ _ (by simp) _ _ _ _ rfl rfl) (by decide) (by decide) (by decide) 1 rfl).mono ?_; rintro e w1 ⟨rfl, rfl⟩) | (go_at_call 40; go_in) | (go_at_call 26; go_in))
  go_ret
  exact ⟨rfl, below1 _⟩
set_option maxRecDepth 100000 in
theorem al_13 (w : World) : Calls Tryz.prog 41 #[.int .i64 13] w fun e w' => e = .returned (.int .u32 33562624) ∧ Below w.heap.size w w' := by
  have q : bits .or .u32 8192 33554432 = 33562624 := by decide
  go_enter Tryz.func41, Tryz.ntmps41
  go_wp2_with (first | (refine wpList_buildFlat rfl 41 3 _ _ rfl .i64 [0, 0, 0, 1, 2, 3, 4, 5, 5, 6, 7, 0, 1, 2, 3, 4, 5, 6, 7, 0, 0, 1, 5, 5, 0, 4, 5, 6, 7] (by kernel_rfl) (by kernel_rfl) (by kernel_rfl) rfl (by decide) (by decide) rfl ?_) | (go_at_call 20; refine (r_pickT _ 29 [0, 0, 0, 1, 2, 3, 4, 5, 5, 6, 7, 0, 1, 2, 3, 4, 5, 6, 7, 0, 0, 1, 5, 5, 0, 4, 5, 6, 7] rfl 13 _ (tab_cell _ _ (by simp) _ _ _ _ rfl rfl) (by decide) (by decide) (by decide) 2 rfl).mono ?_; rintro e w1 ⟨rfl, rfl⟩) | (go_at_call 40; go_in) | (go_at_call 26; go_in))
  go_ret
  exact ⟨rfl, below1 _⟩
set_option maxRecDepth 100000 in
theorem al_14 (w : World) : Calls Tryz.prog 41 #[.int .i64 14] w fun e w' => e = .returned (.int .u32 33566720) ∧ Below w.heap.size w w' := by
  have q : bits .or .u32 12288 33554432 = 33566720 := by decide
  go_enter Tryz.func41, Tryz.ntmps41
  go_wp2_with (first | (refine wpList_buildFlat rfl 41 3 _ _ rfl .i64 [0, 0, 0, 1, 2, 3, 4, 5, 5, 6, 7, 0, 1, 2, 3, 4, 5, 6, 7, 0, 0, 1, 5, 5, 0, 4, 5, 6, 7] (by kernel_rfl) (by kernel_rfl) (by kernel_rfl) rfl (by decide) (by decide) rfl ?_) | (go_at_call 20; refine (r_pickT _ 29 [0, 0, 0, 1, 2, 3, 4, 5, 5, 6, 7, 0, 1, 2, 3, 4, 5, 6, 7, 0, 0, 1, 5, 5, 0, 4, 5, 6, 7] rfl 14 _ (tab_cell _ _ (by simp) _ _ _ _ rfl rfl) (by decide) (by decide) (by decide) 3 rfl).mono ?_; rintro e w1 ⟨rfl, rfl⟩) | (go_at_call 40; go_in) | (go_at_call 26; go_in))
  go_ret
  exact ⟨rfl, below1 _⟩
set_option maxRecDepth 100000 in
theorem al_15 (w : World) : Calls Tryz.prog 41 #[.int .i64 15] w fun e w' => e = .returned (.int .u32 33570816) ∧ Below w.heap.size w w' := by
  have q : bits .or .u32 16384 33554432 = 33570816 := by decide
  go_enter Tryz.func41, Tryz.ntmps41
  go_wp2_with (first | (refine wpList_buildFlat rfl 41 3 _ _ rfl .i64 [0, 0, 0, 1, 2, 3, 4, 5, 5, 6, 7, 0, 1, 2, 3, 4, 5, 6, 7, 0, 0, 1, 5, 5, 0, 4, 5, 6, 7] (by kernel_rfl) (by kernel_rfl) (by kernel_rfl) rfl (by decide) (by decide) rfl ?_) | (go_at_call 20; refine (r_pickT _ 29 [0, 0, 0, 1, 2, 3, 4, 5, 5, 6, 7, 0, 1, 2, 3, 4, 5, 6, 7, 0, 0, 1, 5, 5, 0, 4, 5, 6, 7] rfl 15 _ (tab_cell _ _ (by simp) _ _ _ _ rfl rfl) (by decide) (by decide) (by decide) 4 rfl).mono ?_; rintro e w1 ⟨rfl, rfl⟩) | (go_at_call 40; go_in) | (go_at_call 26; go_in))
  go_ret
  exact ⟨rfl, below1 _⟩
set_option maxRecDepth 100000 in
theorem al_16 (w : World) : Calls Tryz.prog 41 #[.int .i64 16] w fun e w' => e = .returned (.int .u32 33574912) ∧ Below w.heap.size w w' := by
  have q : bits .or .u32 20480 33554432 = 33574912 := by decide
  go_enter Tryz.func41, Tryz.ntmps41
  go_wp2_with (first | (refine wpList_buildFlat rfl 41 3 _ _ rfl .i64 [0, 0, 0, 1, 2, 3, 4, 5, 5, 6, 7, 0, 1, 2, 3, 4, 5, 6, 7, 0, 0, 1, 5, 5, 0, 4, 5, 6, 7] (by kernel_rfl) (by kernel_rfl) (by kernel_rfl) rfl (by decide) (by decide) rfl ?_) | (go_at_call 20; refine (r_pickT _ 29 [0, 0, 0, 1, 2, 3, 4, 5, 5, 6, 7, 0, 1, 2, 3, 4, 5, 6, 7, 0, 0, 1, 5, 5, 0, 4, 5, 6, 7] rfl 16 _ (tab_cell _ _ (by simp) _ _ _ _ rfl rfl) (by decide) (by decide) (by decide) 5 rfl).mono ?_; rintro e w1 ⟨rfl, rfl⟩) | (go_at_call 40; go_in) | (go_at_call 26; go_in))
  go_ret
  exact ⟨rfl, below1 _⟩
set_option maxRecDepth 100000 in
theorem al_17 (w : World) : Calls Tryz.prog 41 #[.int .i64 17] w fun e w' => e = .returned (.int .u32 33579008) ∧ Below w.heap.size w w' := by
  have q : bits .or .u32 24576 33554432 = 33579008 := by decide
  go_enter Tryz.func41, Tryz.ntmps41
  go_wp2_with (first | (refine wpList_buildFlat rfl 41 3 _ _ rfl .i64 [0, 0, 0, 1, 2, 3, 4, 5, 5, 6, 7, 0, 1, 2, 3, 4, 5, 6, 7, 0, 0, 1, 5, 5, 0, 4, 5, 6, 7] (by kernel_rfl) (by kernel_rfl) (by kernel_rfl) rfl (by decide) (by decide) rfl ?_) | (go_at_call 20; refine (r_pickT _ 29 [0, 0, 0, 1, 2, 3, 4, 5, 5, 6, 7, 0, 1, 2, 3, 4, 5, 6, 7, 0, 0, 1, 5, 5, 0, 4, 5, 6, 7] rfl 17 _ (tab_cell _ _ (by simp) _ _ _ _ rfl rfl) (by decide) (by decide) (by decide) 6 rfl).mono ?_; rintro e w1 ⟨rfl, rfl⟩) | (go_at_call 40; go_in) | (go_at_call 26; go_in))
  go_ret
  exact ⟨rfl, below1 _⟩
set_option maxRecDepth 100000 in
theorem al_18 (w : World) : Calls Tryz.prog 41 #[.int .i64 18] w fun e w' => e = .returned (.int .u32 33583104) ∧ Below w.heap.size w w' := by
  have q : bits .or .u32 28672 33554432 = 33583104 := by decide
  go_enter Tryz.func41, Tryz.ntmps41
  go_wp2_with (first | (refine wpList_buildFlat rfl 41 3 _ _ rfl .i64 [0, 0, 0, 1, 2, 3, 4, 5, 5, 6, 7, 0, 1, 2, 3, 4, 5, 6, 7, 0, 0, 1, 5, 5, 0, 4, 5, 6, 7] (by kernel_rfl) (by kernel_rfl) (by kernel_rfl) rfl (by decide) (by decide) rfl ?_) | (go_at_call 20; refine (r_pickT _ 29 [0, 0, 0, 1, 2, 3, 4, 5, 5, 6, 7, 0, 1, 2, 3, 4, 5, 6, 7, 0, 0, 1, 5, 5, 0, 4, 5, 6, 7] rfl 18 _ (tab_cell _ _ (by simp) _ _ _ _ rfl rfl) (by decide) (by decide) (by decide) 7 rfl).mono ?_; rintro e w1 ⟨rfl, rfl⟩) | (go_at_call 40; go_in) | (go_at_call 26; go_in))
  go_ret
  exact ⟨rfl, below1 _⟩
set_option maxRecDepth 100000 in
theorem al_19 (w : World) : Calls Tryz.prog 41 #[.int .i64 19] w fun e w' => e = .returned (.int .u32 0) ∧ Below w.heap.size w w' := by
  go_enter Tryz.func41, Tryz.ntmps41
  go_wp2_with (first | (refine wpList_buildFlat rfl 41 3 _ _ rfl .i64 [0, 0, 0, 1, 2, 3, 4, 5, 5, 6, 7, 0, 1, 2, 3, 4, 5, 6, 7, 0, 0, 1, 5, 5, 0, 4, 5, 6, 7] (by kernel_rfl) (by kernel_rfl) (by kernel_rfl) rfl (by decide) (by decide) rfl ?_) | (go_at_call 20; refine (r_pickT _ 29 [0, 0, 0, 1, 2, 3, 4, 5, 5, 6, 7, 0, 1, 2, 3, 4, 5, 6, 7, 0, 0, 1, 5, 5, 0, 4, 5, 6, 7] rfl 19 _ (tab_cell _ _ (by simp) _ _ _ _ rfl rfl) (by decide) (by decide) (by decide) 0 rfl).mono ?_; rintro e w1 ⟨rfl, rfl⟩) | (go_at_call 40; go_in) | (go_at_call 26; go_in))
  go_ret
  exact ⟨rfl, below1 _⟩
set_option maxRecDepth 100000 in
theorem al_20 (w : World) : Calls Tryz.prog 41 #[.int .i64 20] w fun e w' => e = .returned (.int .u32 1073741824) ∧ Below w.heap.size w w' := by
  have q : bits .or .u32 0 1073741824 = 1073741824 := by decide
  go_enter Tryz.func41, Tryz.ntmps41
  go_wp2_with (first | (refine wpList_buildFlat rfl 41 3 _ _ rfl .i64 [0, 0, 0, 1, 2, 3, 4, 5, 5, 6, 7, 0, 1, 2, 3, 4, 5, 6, 7, 0, 0, 1, 5, 5, 0, 4, 5, 6, 7] (by kernel_rfl) (by kernel_rfl) (by kernel_rfl) rfl (by decide) (by decide) rfl ?_) | (go_at_call 20; refine (r_pickT _ 29 [0, 0, 0, 1, 2, 3, 4, 5, 5, 6, 7, 0, 1, 2, 3, 4, 5, 6, 7, 0, 0, 1, 5, 5, 0, 4, 5, 6, 7] rfl 20 _ (tab_cell _ _ (by simp) _ _ _ _ rfl rfl) (by decide) (by decide) (by decide) 0 rfl).mono ?_; rintro e w1 ⟨rfl, rfl⟩) | (go_at_call 40; go_in) | (go_at_call 26; go_in))
  go_ret
  exact ⟨rfl, below1 _⟩
set_option maxRecDepth 100000 in
theorem al_21 (w : World) : Calls Tryz.prog 41 #[.int .i64 21] w fun e w' => e = .returned (.int .u32 4096) ∧ Below w.heap.size w w' := by
  go_enter Tryz.func41, Tryz.ntmps41
  go_wp2_with (first | (refine wpList_buildFlat rfl 41 3 _ _ rfl .i64 [0, 0, 0, 1, 2, 3, 4, 5, 5, 6, 7, 0, 1, 2, 3, 4, 5, 6, 7, 0, 0, 1, 5, 5, 0, 4, 5, 6, 7] (by kernel_rfl) (by kernel_rfl) (by kernel_rfl) rfl (by decide) (by decide) rfl ?_) | (go_at_call 20; refine (r_pickT _ 29 [0, 0, 0, 1, 2, 3, 4, 5, 5, 6, 7, 0, 1, 2, 3, 4, 5, 6, 7, 0, 0, 1, 5, 5, 0, 4, 5, 6, 7] rfl 21 _ (tab_cell _ _ (by simp) _ _ _ _ rfl rfl) (by decide) (by decide) (by decide) 1 rfl).mono ?_; rintro e w1 ⟨rfl, rfl⟩) | (go_at_call 40; go_in) | (go_at_call 26; go_in))
  go_ret
  exact ⟨rfl, below1 _⟩
set_option maxRecDepth 100000 in
theorem al_22 (w : World) : Calls Tryz.prog 41 #[.int .i64 22] w fun e w' => e = .returned (.int .u32 20480) ∧ Below w.heap.size w w' := by
  go_enter Tryz.func41, Tryz.ntmps41
  go_wp2_with (first | (refine wpList_buildFlat rfl 41 3 _ _ rfl .i64 [0, 0, 0, 1, 2, 3, 4, 5, 5, 6, 7, 0, 1, 2, 3, 4, 5, 6, 7, 0, 0, 1, 5, 5, 0, 4, 5, 6, 7] (by kernel_rfl) (by kernel_rfl) (by kernel_rfl) rfl (by decide) (by decide) rfl ?_) | (go_at_call 20; refine (r_pickT _ 29 [0, 0, 0, 1, 2, 3, 4, 5, 5, 6, 7, 0, 1, 2, 3, 4, 5, 6, 7, 0, 0, 1, 5, 5, 0, 4, 5, 6, 7] rfl 22 _ (tab_cell _ _ (by simp) _ _ _ _ rfl rfl) (by decide) (by decide) (by decide) 5 rfl).mono ?_; rintro e w1 ⟨rfl, rfl⟩) | (go_at_call 40; go_in) | (go_at_call 26; go_in))
  go_ret
  exact ⟨rfl, below1 _⟩
set_option maxRecDepth 100000 in
theorem al_23 (w : World) : Calls Tryz.prog 41 #[.int .i64 23] w fun e w' => e = .returned (.int .u32 1073762304) ∧ Below w.heap.size w w' := by
  have q : bits .or .u32 20480 1073741824 = 1073762304 := by decide
  go_enter Tryz.func41, Tryz.ntmps41
  go_wp2_with (first | (refine wpList_buildFlat rfl 41 3 _ _ rfl .i64 [0, 0, 0, 1, 2, 3, 4, 5, 5, 6, 7, 0, 1, 2, 3, 4, 5, 6, 7, 0, 0, 1, 5, 5, 0, 4, 5, 6, 7] (by kernel_rfl) (by kernel_rfl) (by kernel_rfl) rfl (by decide) (by decide) rfl ?_) | (go_at_call 20; refine (r_pickT _ 29 [0, 0, 0, 1, 2, 3, 4, 5, 5, 6, 7, 0, 1, 2, 3, 4, 5, 6, 7, 0, 0, 1, 5, 5, 0, 4, 5, 6, 7] rfl 23 _ (tab_cell _ _ (by simp) _ _ _ _ rfl rfl) (by decide) (by decide) (by decide) 5 rfl).mono ?_; rintro e w1 ⟨rfl, rfl⟩) | (go_at_call 40; go_in) | (go_at_call 26; go_in))
  go_ret
  exact ⟨rfl, below1 _⟩
set_option maxRecDepth 100000 in
theorem al_24 (w : World) : Calls Tryz.prog 41 #[.int .i64 24] w fun e w' => e = .returned (.int .u32 33554432) ∧ Below w.heap.size w w' := by
  have q : bits .or .u32 0 33554432 = 33554432 := by decide
  go_enter Tryz.func41, Tryz.ntmps41
  go_wp2_with (first | (refine wpList_buildFlat rfl 41 3 _ _ rfl .i64 [0, 0, 0, 1, 2, 3, 4, 5, 5, 6, 7, 0, 1, 2, 3, 4, 5, 6, 7, 0, 0, 1, 5, 5, 0, 4, 5, 6, 7] (by kernel_rfl) (by kernel_rfl) (by kernel_rfl) rfl (by decide) (by decide) rfl ?_) | (go_at_call 20; refine (r_pickT _ 29 [0, 0, 0, 1, 2, 3, 4, 5, 5, 6, 7, 0, 1, 2, 3, 4, 5, 6, 7, 0, 0, 1, 5, 5, 0, 4, 5, 6, 7] rfl 24 _ (tab_cell _ _ (by simp) _ _ _ _ rfl rfl) (by decide) (by decide) (by decide) 0 rfl).mono ?_; rintro e w1 ⟨rfl, rfl⟩) | (go_at_call 40; go_in) | (go_at_call 26; go_in))
  go_ret
  exact ⟨rfl, below1 _⟩
set_option maxRecDepth 100000 in
theorem al_25 (w : World) : Calls Tryz.prog 41 #[.int .i64 25] w fun e w' => e = .returned (.int .u32 33570816) ∧ Below w.heap.size w w' := by
  have q : bits .or .u32 16384 33554432 = 33570816 := by decide
  go_enter Tryz.func41, Tryz.ntmps41
  go_wp2_with (first | (refine wpList_buildFlat rfl 41 3 _ _ rfl .i64 [0, 0, 0, 1, 2, 3, 4, 5, 5, 6, 7, 0, 1, 2, 3, 4, 5, 6, 7, 0, 0, 1, 5, 5, 0, 4, 5, 6, 7] (by kernel_rfl) (by kernel_rfl) (by kernel_rfl) rfl (by decide) (by decide) rfl ?_) | (go_at_call 20; refine (r_pickT _ 29 [0, 0, 0, 1, 2, 3, 4, 5, 5, 6, 7, 0, 1, 2, 3, 4, 5, 6, 7, 0, 0, 1, 5, 5, 0, 4, 5, 6, 7] rfl 25 _ (tab_cell _ _ (by simp) _ _ _ _ rfl rfl) (by decide) (by decide) (by decide) 4 rfl).mono ?_; rintro e w1 ⟨rfl, rfl⟩) | (go_at_call 40; go_in) | (go_at_call 26; go_in))
  go_ret
  exact ⟨rfl, below1 _⟩
set_option maxRecDepth 100000 in
theorem al_26 (w : World) : Calls Tryz.prog 41 #[.int .i64 26] w fun e w' => e = .returned (.int .u32 33574912) ∧ Below w.heap.size w w' := by
  have q : bits .or .u32 20480 33554432 = 33574912 := by decide
  go_enter Tryz.func41, Tryz.ntmps41
  go_wp2_with (first | (refine wpList_buildFlat rfl 41 3 _ _ rfl .i64 [0, 0, 0, 1, 2, 3, 4, 5, 5, 6, 7, 0, 1, 2, 3, 4, 5, 6, 7, 0, 0, 1, 5, 5, 0, 4, 5, 6, 7] (by kernel_rfl) (by kernel_rfl) (by kernel_rfl) rfl (by decide) (by decide) rfl ?_) | (go_at_call 20; refine (r_pickT _ 29 [0, 0, 0, 1, 2, 3, 4, 5, 5, 6, 7, 0, 1, 2, 3, 4, 5, 6, 7, 0, 0, 1, 5, 5, 0, 4, 5, 6, 7] rfl 26 _ (tab_cell _ _ (by simp) _ _ _ _ rfl rfl) (by decide) (by decide) (by decide) 5 rfl).mono ?_; rintro e w1 ⟨rfl, rfl⟩) | (go_at_call 40; go_in) | (go_at_call 26; go_in))
  go_ret
  exact ⟨rfl, below1 _⟩
set_option maxRecDepth 100000 in
theorem al_27 (w : World) : Calls Tryz.prog 41 #[.int .i64 27] w fun e w' => e = .returned (.int .u32 33579008) ∧ Below w.heap.size w w' := by
  have q : bits .or .u32 24576 33554432 = 33579008 := by decide
  go_enter Tryz.func41, Tryz.ntmps41
  go_wp2_with (first | (refine wpList_buildFlat rfl 41 3 _ _ rfl .i64 [0, 0, 0, 1, 2, 3, 4, 5, 5, 6, 7, 0, 1, 2, 3, 4, 5, 6, 7, 0, 0, 1, 5, 5, 0, 4, 5, 6, 7] (by kernel_rfl) (by kernel_rfl) (by kernel_rfl) rfl (by decide) (by decide) rfl ?_) | (go_at_call 20; refine (r_pickT _ 29 [0, 0, 0, 1, 2, 3, 4, 5, 5, 6, 7, 0, 1, 2, 3, 4, 5, 6, 7, 0, 0, 1, 5, 5, 0, 4, 5, 6, 7] rfl 27 _ (tab_cell _ _ (by simp) _ _ _ _ rfl rfl) (by decide) (by decide) (by decide) 6 rfl).mono ?_; rintro e w1 ⟨rfl, rfl⟩) | (go_at_call 40; go_in) | (go_at_call 26; go_in))
  go_ret
  exact ⟨rfl, below1 _⟩
set_option maxRecDepth 100000 in
theorem al_28 (w : World) : Calls Tryz.prog 41 #[.int .i64 28] w fun e w' => e = .returned (.int .u32 33583104) ∧ Below w.heap.size w w' := by
  have q : bits .or .u32 28672 33554432 = 33583104 := by decide
  go_enter Tryz.func41, Tryz.ntmps41
  go_wp2_with (first | (refine wpList_buildFlat rfl 41 3 _ _ rfl .i64 [0, 0, 0, 1, 2, 3, 4, 5, 5, 6, 7, 0, 1, 2, 3, 4, 5, 6, 7, 0, 0, 1, 5, 5, 0, 4, 5, 6, 7] (by kernel_rfl) (by kernel_rfl) (by kernel_rfl) rfl (by decide) (by decide) rfl ?_) | (go_at_call 20; refine (r_pickT _ 29 [0, 0, 0, 1, 2, 3, 4, 5, 5, 6, 7, 0, 1, 2, 3, 4, 5, 6, 7, 0, 0, 1, 5, 5, 0, 4, 5, 6, 7] rfl 28 _ (tab_cell _ _ (by simp) _ _ _ _ rfl rfl) (by decide) (by decide) (by decide) 7 rfl).mono ?_; rintro e w1 ⟨rfl, rfl⟩) | (go_at_call 40; go_in) | (go_at_call 26; go_in))
  go_ret
  exact ⟨rfl, below1 _⟩
theorem r_alu (n : Int) (n0 : 0 ≤ n) (n1 : n ≤ 28) (w : World) : Calls Tryz.prog 41 #[.int .i64 n] w fun e w' => e = .returned (.int .u32 (aluT n)) ∧ Below w.heap.size w w' := by
  rcases (by omega : n = 0 ∨ n = 1 ∨ n = 2 ∨ n = 3 ∨ n = 4 ∨ n = 5 ∨ n = 6 ∨ n = 7 ∨ n = 8 ∨ n = 9 ∨ n = 10 ∨ n = 11 ∨ n = 12 ∨ n = 13 ∨ n = 14 ∨ n = 15 ∨ n = 16 ∨ n = 17 ∨ n = 18 ∨ n = 19 ∨ n = 20 ∨ n = 21 ∨ n = 22 ∨ n = 23 ∨ n = 24 ∨ n = 25 ∨ n = 26 ∨ n = 27 ∨ n = 28) with rfl | rfl | rfl | rfl | rfl | rfl | rfl | rfl | rfl | rfl | rfl | rfl | rfl | rfl | rfl | rfl | rfl | rfl | rfl | rfl | rfl | rfl | rfl | rfl | rfl | rfl | rfl | rfl | rfl
  · exact al_0 w
  · exact al_1 w
  · exact al_2 w
  · exact al_3 w
  · exact al_4 w
  · exact al_5 w
  · exact al_6 w
  · exact al_7 w
  · exact al_8 w
  · exact al_9 w
  · exact al_10 w
  · exact al_11 w
  · exact al_12 w
  · exact al_13 w
  · exact al_14 w
  · exact al_15 w
  · exact al_16 w
  · exact al_17 w
  · exact al_18 w
  · exact al_19 w
  · exact al_20 w
  · exact al_21 w
  · exact al_22 w
  · exact al_23 w
  · exact al_24 w
  · exact al_25 w
  · exact al_26 w
  · exact al_27 w
  · exact al_28 w
end Go.Proofs.YtioodijiejipiaaGreatDoor
