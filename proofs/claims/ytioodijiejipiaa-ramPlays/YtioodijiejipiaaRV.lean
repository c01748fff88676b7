/- bytesOf: a number's eight bytes. -/
import Derived.Test.YtioodijiejipiaaRU
namespace Go.Proofs.Ytioodijiejipiaa
open Go.RowKit
set_option linter.unusedVariables false

theorem u_a8 : Try.prog.underlying 71 = some (.array 8 5) := by kernel_rfl
theorem s_a8 : (Try.prog.info? 71).map (·.size) = some 8 := by kernel_rfl
def bstep (v : Int) : Nat → Array Value
  | 0 => #[.int .u8 0, .int .u8 0, .int .u8 0, .int .u8 0, .int .u8 0, .int .u8 0, .int .u8 0, .int .u8 0]
  | 1 => #[.int .u8 (v % 256), .int .u8 0, .int .u8 0, .int .u8 0, .int .u8 0, .int .u8 0, .int .u8 0, .int .u8 0]
  | 2 => #[.int .u8 (v % 256), .int .u8 (v / 256 % 256), .int .u8 0, .int .u8 0, .int .u8 0, .int .u8 0, .int .u8 0, .int .u8 0]
  | 3 => #[.int .u8 (v % 256), .int .u8 (v / 256 % 256), .int .u8 (v / 65536 % 256), .int .u8 0, .int .u8 0, .int .u8 0, .int .u8 0, .int .u8 0]
  | 4 => #[.int .u8 (v % 256), .int .u8 (v / 256 % 256), .int .u8 (v / 65536 % 256), .int .u8 (v / 16777216 % 256), .int .u8 0, .int .u8 0, .int .u8 0, .int .u8 0]
  | 5 => #[.int .u8 (v % 256), .int .u8 (v / 256 % 256), .int .u8 (v / 65536 % 256), .int .u8 (v / 16777216 % 256), .int .u8 (v / 4294967296 % 256), .int .u8 0, .int .u8 0, .int .u8 0]
  | 6 => #[.int .u8 (v % 256), .int .u8 (v / 256 % 256), .int .u8 (v / 65536 % 256), .int .u8 (v / 16777216 % 256), .int .u8 (v / 4294967296 % 256), .int .u8 (v / 1099511627776 % 256), .int .u8 0, .int .u8 0]
  | 7 => #[.int .u8 (v % 256), .int .u8 (v / 256 % 256), .int .u8 (v / 65536 % 256), .int .u8 (v / 16777216 % 256), .int .u8 (v / 4294967296 % 256), .int .u8 (v / 1099511627776 % 256), .int .u8 (v / 281474976710656 % 256), .int .u8 0]
  | _ => #[.int .u8 (v % 256), .int .u8 (v / 256 % 256), .int .u8 (v / 65536 % 256), .int .u8 (v / 16777216 % 256), .int .u8 (v / 4294967296 % 256), .int .u8 (v / 1099511627776 % 256), .int .u8 (v / 281474976710656 % 256), .int .u8 (v / 72057594037927936)]
set_option maxHeartbeats 2000000 in
theorem c_bytesOf (v : Int) (v0 : 0 ≤ v) (v1 : v < 18446744073709551616) (w : World) :
    Calls Try.prog 32 #[.int .u64 v] w fun e w' => e = .returned (.agg (bstep v 8)) ∧ Below w.heap.size w w' := by
  go_enter Try.func32, Try.ntmps32
  go_wp2
  go_loopw [5] (fun i wr => ∃ k : Nat, k ≤ 8 ∧ i = .int .i64 k ∧ wr = (w.alloc (.cells (bstep v 0) 71)).alloc (.cells (bstep v k) 71)) (fun i _ => 8 - (intOf i).toNat)
  case atStart => exact ⟨0, by omega, rfl, rfl⟩
  case round =>
    obtain ⟨k, hk, rfl, rfl⟩ := hrel
    rcases (show k = 0 ∨ k = 1 ∨ k = 2 ∨ k = 3 ∨ k = 4 ∨ k = 5 ∨ k = 6 ∨ k = 7 ∨ k = 8 by omega) with rfl | rfl | rfl | rfl | rfl | rfl | rfl | rfl | rfl
    · simp only [bstep]
      go_wp2
      go_roundw
      case rel => exact ⟨1, by omega, by go_num, rfl⟩
      case measure => simp [intOf]
    · simp only [bstep]
      go_wp2
      go_roundw
      case rel => exact ⟨2, by omega, by go_num, rfl⟩
      case measure => simp [intOf]
    · simp only [bstep]
      go_wp2
      go_roundw
      case rel => exact ⟨3, by omega, by go_num, rfl⟩
      case measure => simp [intOf]
    · simp only [bstep]
      go_wp2
      go_roundw
      case rel => exact ⟨4, by omega, by go_num, rfl⟩
      case measure => simp [intOf]
    · simp only [bstep]
      go_wp2
      go_roundw
      case rel => exact ⟨5, by omega, by go_num, rfl⟩
      case measure => simp [intOf]
    · simp only [bstep]
      go_wp2
      go_roundw
      case rel => exact ⟨6, by omega, by go_num, rfl⟩
      case measure => simp [intOf]
    · simp only [bstep]
      go_wp2
      go_roundw
      case rel => exact ⟨7, by omega, by go_num, rfl⟩
      case measure => simp [intOf]
    · simp only [bstep]
      go_wp2
      go_roundw
      case rel => exact ⟨8, by omega, by go_num, rfl⟩
      case measure => simp [intOf]
    · simp only [bstep]
      go_wp2

      refine bodyPost_ret_by (results_cell_row (fn := Try.f32) rfl _ _ w.heap.size 71 (bstep v 8) (0, 0) (.array 8 5) rfl ?_ u_a8 rfl s_a8) rfl ⟨rfl, ?_⟩
      · exact heap_alloc2_old w _ _
      · exact ((Below.refl _ _).alloc (Nat.le_refl _) _).alloc (by simp) _
end Go.Proofs.Ytioodijiejipiaa
