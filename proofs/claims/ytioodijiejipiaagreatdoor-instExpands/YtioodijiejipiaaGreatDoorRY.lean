/- The reference's fields of a compressed instruction, its rows 1, 4 and 2, 4. New blocks alone. -/
import Derived.Test.YtioodijiejipiaaGreatDoorRX
namespace Go.Proofs.YtioodijiejipiaaGreatDoor
open Go.RowKit
set_option linter.unusedVariables false

theorem f_11_7_0 (c : Int) (h0 : 0 ≤ c) (h1 : c ≤ 65535) (w : World) : Calls Tryz.prog 29 #[.int .u16 c, .int .i64 11, .int .i64 7, .int .i64 0] w fun e w' => e = .returned (.int .i64 (c / 128 % 32)) ∧ w' = w := by
  go_enter Tryz.func29, Tryz.ntmps29
  go_wp2_with (first | (go_at_call 16; go_in))
  go_ret
  exact ⟨ret_int (by omega), rfl⟩
theorem f_6_2_0 (c : Int) (h0 : 0 ≤ c) (h1 : c ≤ 65535) (w : World) : Calls Tryz.prog 29 #[.int .u16 c, .int .i64 6, .int .i64 2, .int .i64 0] w fun e w' => e = .returned (.int .i64 (c / 4 % 32)) ∧ w' = w := by
  go_enter Tryz.func29, Tryz.ntmps29
  go_wp2_with (first | (go_at_call 16; go_in))
  go_ret
  exact ⟨ret_int (by omega), rfl⟩
theorem f_9_7_0 (c : Int) (h0 : 0 ≤ c) (h1 : c ≤ 65535) (w : World) : Calls Tryz.prog 29 #[.int .u16 c, .int .i64 9, .int .i64 7, .int .i64 0] w fun e w' => e = .returned (.int .i64 (c / 128 % 8)) ∧ w' = w := by
  go_enter Tryz.func29, Tryz.ntmps29
  go_wp2_with (first | (go_at_call 16; go_in))
  go_ret
  exact ⟨ret_int (by omega), rfl⟩
theorem f_4_2_0 (c : Int) (h0 : 0 ≤ c) (h1 : c ≤ 65535) (w : World) : Calls Tryz.prog 29 #[.int .u16 c, .int .i64 4, .int .i64 2, .int .i64 0] w fun e w' => e = .returned (.int .i64 (c / 4 % 8)) ∧ w' = w := by
  go_enter Tryz.func29, Tryz.ntmps29
  go_wp2_with (first | (go_at_call 16; go_in))
  go_ret
  exact ⟨ret_int (by omega), rfl⟩
theorem f_12_12_5 (c : Int) (h0 : 0 ≤ c) (h1 : c ≤ 65535) (w : World) : Calls Tryz.prog 29 #[.int .u16 c, .int .i64 12, .int .i64 12, .int .i64 5] w fun e w' => e = .returned (.int .i64 (c / 4096 % 2 * 32)) ∧ w' = w := by
  go_enter Tryz.func29, Tryz.ntmps29
  go_wp2_with (first | (go_at_call 16; go_in))
  go_ret
  exact ⟨ret_int (by omega), rfl⟩
theorem f_5_5_6 (c : Int) (h0 : 0 ≤ c) (h1 : c ≤ 65535) (w : World) : Calls Tryz.prog 29 #[.int .u16 c, .int .i64 5, .int .i64 5, .int .i64 6] w fun e w' => e = .returned (.int .i64 (c / 32 % 2 * 64)) ∧ w' = w := by
  go_enter Tryz.func29, Tryz.ntmps29
  go_wp2_with (first | (go_at_call 16; go_in))
  go_ret
  exact ⟨ret_int (by omega), rfl⟩
theorem f_12_10_3 (c : Int) (h0 : 0 ≤ c) (h1 : c ≤ 65535) (w : World) : Calls Tryz.prog 29 #[.int .u16 c, .int .i64 12, .int .i64 10, .int .i64 3] w fun e w' => e = .returned (.int .i64 (c / 1024 % 8 * 8)) ∧ w' = w := by
  go_enter Tryz.func29, Tryz.ntmps29
  go_wp2_with (first | (go_at_call 16; go_in))
  go_ret
  exact ⟨ret_int (by omega), rfl⟩
theorem f_6_6_2 (c : Int) (h0 : 0 ≤ c) (h1 : c ≤ 65535) (w : World) : Calls Tryz.prog 29 #[.int .u16 c, .int .i64 6, .int .i64 6, .int .i64 2] w fun e w' => e = .returned (.int .i64 (c / 64 % 2 * 4)) ∧ w' = w := by
  go_enter Tryz.func29, Tryz.ntmps29
  go_wp2_with (first | (go_at_call 16; go_in))
  go_ret
  exact ⟨ret_int (by omega), rfl⟩
theorem f_6_5_6 (c : Int) (h0 : 0 ≤ c) (h1 : c ≤ 65535) (w : World) : Calls Tryz.prog 29 #[.int .u16 c, .int .i64 6, .int .i64 5, .int .i64 6] w fun e w' => e = .returned (.int .i64 (c / 32 % 4 * 64)) ∧ w' = w := by
  go_enter Tryz.func29, Tryz.ntmps29
  go_wp2_with (first | (go_at_call 16; go_in))
  go_ret
  exact ⟨ret_int (by omega), rfl⟩
theorem f_12_12_8 (c : Int) (h0 : 0 ≤ c) (h1 : c ≤ 65535) (w : World) : Calls Tryz.prog 29 #[.int .u16 c, .int .i64 12, .int .i64 12, .int .i64 8] w fun e w' => e = .returned (.int .i64 (c / 4096 % 2 * 256)) ∧ w' = w := by
  go_enter Tryz.func29, Tryz.ntmps29
  go_wp2_with (first | (go_at_call 16; go_in))
  go_ret
  exact ⟨ret_int (by omega), rfl⟩
theorem f_2_2_5 (c : Int) (h0 : 0 ≤ c) (h1 : c ≤ 65535) (w : World) : Calls Tryz.prog 29 #[.int .u16 c, .int .i64 2, .int .i64 2, .int .i64 5] w fun e w' => e = .returned (.int .i64 (c / 4 % 2 * 32)) ∧ w' = w := by
  go_enter Tryz.func29, Tryz.ntmps29
  go_wp2_with (first | (go_at_call 16; go_in))
  go_ret
  exact ⟨ret_int (by omega), rfl⟩
theorem f_11_10_3 (c : Int) (h0 : 0 ≤ c) (h1 : c ≤ 65535) (w : World) : Calls Tryz.prog 29 #[.int .u16 c, .int .i64 11, .int .i64 10, .int .i64 3] w fun e w' => e = .returned (.int .i64 (c / 1024 % 4 * 8)) ∧ w' = w := by
  go_enter Tryz.func29, Tryz.ntmps29
  go_wp2_with (first | (go_at_call 16; go_in))
  go_ret
  exact ⟨ret_int (by omega), rfl⟩
theorem f_4_3_1 (c : Int) (h0 : 0 ≤ c) (h1 : c ≤ 65535) (w : World) : Calls Tryz.prog 29 #[.int .u16 c, .int .i64 4, .int .i64 3, .int .i64 1] w fun e w' => e = .returned (.int .i64 (c / 8 % 4 * 2)) ∧ w' = w := by
  go_enter Tryz.func29, Tryz.ntmps29
  go_wp2_with (first | (go_at_call 16; go_in))
  go_ret
  exact ⟨ret_int (by omega), rfl⟩
theorem f_1_0_0 (c : Int) (h0 : 0 ≤ c) (h1 : c ≤ 65535) (w : World) : Calls Tryz.prog 29 #[.int .u16 c, .int .i64 1, .int .i64 0, .int .i64 0] w fun e w' => e = .returned (.int .i64 (c % 4)) ∧ w' = w := by
  go_enter Tryz.func29, Tryz.ntmps29
  go_wp2_with (first | (go_at_call 16; go_in))
  go_ret
  exact ⟨ret_int (by omega), rfl⟩
theorem f_15_13_0 (c : Int) (h0 : 0 ≤ c) (h1 : c ≤ 65535) (w : World) : Calls Tryz.prog 29 #[.int .u16 c, .int .i64 15, .int .i64 13, .int .i64 0] w fun e w' => e = .returned (.int .i64 (c / 8192 % 8)) ∧ w' = w := by
  go_enter Tryz.func29, Tryz.ntmps29
  go_wp2_with (first | (go_at_call 16; go_in))
  go_ret
  exact ⟨ret_int (by omega), rfl⟩
theorem f_10_7_6 (c : Int) (h0 : 0 ≤ c) (h1 : c ≤ 65535) (w : World) : Calls Tryz.prog 29 #[.int .u16 c, .int .i64 10, .int .i64 7, .int .i64 6] w fun e w' => e = .returned (.int .i64 (c / 128 % 16 * 64)) ∧ w' = w := by
  go_enter Tryz.func29, Tryz.ntmps29
  go_wp2_with (first | (go_at_call 16; go_in))
  go_ret
  exact ⟨ret_int (by omega), rfl⟩
theorem f_12_11_4 (c : Int) (h0 : 0 ≤ c) (h1 : c ≤ 65535) (w : World) : Calls Tryz.prog 29 #[.int .u16 c, .int .i64 12, .int .i64 11, .int .i64 4] w fun e w' => e = .returned (.int .i64 (c / 2048 % 4 * 16)) ∧ w' = w := by
  go_enter Tryz.func29, Tryz.ntmps29
  go_wp2_with (first | (go_at_call 16; go_in))
  go_ret
  exact ⟨ret_int (by omega), rfl⟩
theorem f_5_5_3 (c : Int) (h0 : 0 ≤ c) (h1 : c ≤ 65535) (w : World) : Calls Tryz.prog 29 #[.int .u16 c, .int .i64 5, .int .i64 5, .int .i64 3] w fun e w' => e = .returned (.int .i64 (c / 32 % 2 * 8)) ∧ w' = w := by
  go_enter Tryz.func29, Tryz.ntmps29
  go_wp2_with (first | (go_at_call 16; go_in))
  go_ret
  exact ⟨ret_int (by omega), rfl⟩
theorem f_12_12_9 (c : Int) (h0 : 0 ≤ c) (h1 : c ≤ 65535) (w : World) : Calls Tryz.prog 29 #[.int .u16 c, .int .i64 12, .int .i64 12, .int .i64 9] w fun e w' => e = .returned (.int .i64 (c / 4096 % 2 * 512)) ∧ w' = w := by
  go_enter Tryz.func29, Tryz.ntmps29
  go_wp2_with (first | (go_at_call 16; go_in))
  go_ret
  exact ⟨ret_int (by omega), rfl⟩
theorem f_4_3_7 (c : Int) (h0 : 0 ≤ c) (h1 : c ≤ 65535) (w : World) : Calls Tryz.prog 29 #[.int .u16 c, .int .i64 4, .int .i64 3, .int .i64 7] w fun e w' => e = .returned (.int .i64 (c / 8 % 4 * 128)) ∧ w' = w := by
  go_enter Tryz.func29, Tryz.ntmps29
  go_wp2_with (first | (go_at_call 16; go_in))
  go_ret
  exact ⟨ret_int (by omega), rfl⟩
theorem f_6_6_4 (c : Int) (h0 : 0 ≤ c) (h1 : c ≤ 65535) (w : World) : Calls Tryz.prog 29 #[.int .u16 c, .int .i64 6, .int .i64 6, .int .i64 4] w fun e w' => e = .returned (.int .i64 (c / 64 % 2 * 16)) ∧ w' = w := by
  go_enter Tryz.func29, Tryz.ntmps29
  go_wp2_with (first | (go_at_call 16; go_in))
  go_ret
  exact ⟨ret_int (by omega), rfl⟩
theorem f_12_12_11 (c : Int) (h0 : 0 ≤ c) (h1 : c ≤ 65535) (w : World) : Calls Tryz.prog 29 #[.int .u16 c, .int .i64 12, .int .i64 12, .int .i64 11] w fun e w' => e = .returned (.int .i64 (c / 4096 % 2 * 2048)) ∧ w' = w := by
  go_enter Tryz.func29, Tryz.ntmps29
  go_wp2_with (first | (go_at_call 16; go_in))
  go_ret
  exact ⟨ret_int (by omega), rfl⟩
theorem f_8_8_10 (c : Int) (h0 : 0 ≤ c) (h1 : c ≤ 65535) (w : World) : Calls Tryz.prog 29 #[.int .u16 c, .int .i64 8, .int .i64 8, .int .i64 10] w fun e w' => e = .returned (.int .i64 (c / 256 % 2 * 1024)) ∧ w' = w := by
  go_enter Tryz.func29, Tryz.ntmps29
  go_wp2_with (first | (go_at_call 16; go_in))
  go_ret
  exact ⟨ret_int (by omega), rfl⟩
theorem f_10_9_8 (c : Int) (h0 : 0 ≤ c) (h1 : c ≤ 65535) (w : World) : Calls Tryz.prog 29 #[.int .u16 c, .int .i64 10, .int .i64 9, .int .i64 8] w fun e w' => e = .returned (.int .i64 (c / 512 % 4 * 256)) ∧ w' = w := by
  go_enter Tryz.func29, Tryz.ntmps29
  go_wp2_with (first | (go_at_call 16; go_in))
  go_ret
  exact ⟨ret_int (by omega), rfl⟩
theorem f_6_6_7 (c : Int) (h0 : 0 ≤ c) (h1 : c ≤ 65535) (w : World) : Calls Tryz.prog 29 #[.int .u16 c, .int .i64 6, .int .i64 6, .int .i64 7] w fun e w' => e = .returned (.int .i64 (c / 64 % 2 * 128)) ∧ w' = w := by
  go_enter Tryz.func29, Tryz.ntmps29
  go_wp2_with (first | (go_at_call 16; go_in))
  go_ret
  exact ⟨ret_int (by omega), rfl⟩
theorem f_7_7_6 (c : Int) (h0 : 0 ≤ c) (h1 : c ≤ 65535) (w : World) : Calls Tryz.prog 29 #[.int .u16 c, .int .i64 7, .int .i64 7, .int .i64 6] w fun e w' => e = .returned (.int .i64 (c / 128 % 2 * 64)) ∧ w' = w := by
  go_enter Tryz.func29, Tryz.ntmps29
  go_wp2_with (first | (go_at_call 16; go_in))
  go_ret
  exact ⟨ret_int (by omega), rfl⟩
theorem f_11_11_4 (c : Int) (h0 : 0 ≤ c) (h1 : c ≤ 65535) (w : World) : Calls Tryz.prog 29 #[.int .u16 c, .int .i64 11, .int .i64 11, .int .i64 4] w fun e w' => e = .returned (.int .i64 (c / 2048 % 2 * 16)) ∧ w' = w := by
  go_enter Tryz.func29, Tryz.ntmps29
  go_wp2_with (first | (go_at_call 16; go_in))
  go_ret
  exact ⟨ret_int (by omega), rfl⟩
theorem f_5_3_1 (c : Int) (h0 : 0 ≤ c) (h1 : c ≤ 65535) (w : World) : Calls Tryz.prog 29 #[.int .u16 c, .int .i64 5, .int .i64 3, .int .i64 1] w fun e w' => e = .returned (.int .i64 (c / 8 % 8 * 2)) ∧ w' = w := by
  go_enter Tryz.func29, Tryz.ntmps29
  go_wp2_with (first | (go_at_call 16; go_in))
  go_ret
  exact ⟨ret_int (by omega), rfl⟩
theorem f_3_2_6 (c : Int) (h0 : 0 ≤ c) (h1 : c ≤ 65535) (w : World) : Calls Tryz.prog 29 #[.int .u16 c, .int .i64 3, .int .i64 2, .int .i64 6] w fun e w' => e = .returned (.int .i64 (c / 4 % 4 * 64)) ∧ w' = w := by
  go_enter Tryz.func29, Tryz.ntmps29
  go_wp2_with (first | (go_at_call 16; go_in))
  go_ret
  exact ⟨ret_int (by omega), rfl⟩
theorem f_6_4_2 (c : Int) (h0 : 0 ≤ c) (h1 : c ≤ 65535) (w : World) : Calls Tryz.prog 29 #[.int .u16 c, .int .i64 6, .int .i64 4, .int .i64 2] w fun e w' => e = .returned (.int .i64 (c / 16 % 8 * 4)) ∧ w' = w := by
  go_enter Tryz.func29, Tryz.ntmps29
  go_wp2_with (first | (go_at_call 16; go_in))
  go_ret
  exact ⟨ret_int (by omega), rfl⟩
theorem f_4_2_6 (c : Int) (h0 : 0 ≤ c) (h1 : c ≤ 65535) (w : World) : Calls Tryz.prog 29 #[.int .u16 c, .int .i64 4, .int .i64 2, .int .i64 6] w fun e w' => e = .returned (.int .i64 (c / 4 % 8 * 64)) ∧ w' = w := by
  go_enter Tryz.func29, Tryz.ntmps29
  go_wp2_with (first | (go_at_call 16; go_in))
  go_ret
  exact ⟨ret_int (by omega), rfl⟩
theorem f_6_5_3 (c : Int) (h0 : 0 ≤ c) (h1 : c ≤ 65535) (w : World) : Calls Tryz.prog 29 #[.int .u16 c, .int .i64 6, .int .i64 5, .int .i64 3] w fun e w' => e = .returned (.int .i64 (c / 32 % 4 * 8)) ∧ w' = w := by
  go_enter Tryz.func29, Tryz.ntmps29
  go_wp2_with (first | (go_at_call 16; go_in))
  go_ret
  exact ⟨ret_int (by omega), rfl⟩
theorem f_8_7_6 (c : Int) (h0 : 0 ≤ c) (h1 : c ≤ 65535) (w : World) : Calls Tryz.prog 29 #[.int .u16 c, .int .i64 8, .int .i64 7, .int .i64 6] w fun e w' => e = .returned (.int .i64 (c / 128 % 4 * 64)) ∧ w' = w := by
  go_enter Tryz.func29, Tryz.ntmps29
  go_wp2_with (first | (go_at_call 16; go_in))
  go_ret
  exact ⟨ret_int (by omega), rfl⟩
theorem f_12_9_2 (c : Int) (h0 : 0 ≤ c) (h1 : c ≤ 65535) (w : World) : Calls Tryz.prog 29 #[.int .u16 c, .int .i64 12, .int .i64 9, .int .i64 2] w fun e w' => e = .returned (.int .i64 (c / 512 % 16 * 4)) ∧ w' = w := by
  go_enter Tryz.func29, Tryz.ntmps29
  go_wp2_with (first | (go_at_call 16; go_in))
  go_ret
  exact ⟨ret_int (by omega), rfl⟩
theorem f_9_7_6 (c : Int) (h0 : 0 ≤ c) (h1 : c ≤ 65535) (w : World) : Calls Tryz.prog 29 #[.int .u16 c, .int .i64 9, .int .i64 7, .int .i64 6] w fun e w' => e = .returned (.int .i64 (c / 128 % 8 * 64)) ∧ w' = w := by
  go_enter Tryz.func29, Tryz.ntmps29
  go_wp2_with (first | (go_at_call 16; go_in))
  go_ret
  exact ⟨ret_int (by omega), rfl⟩
theorem f_11_10_0 (c : Int) (h0 : 0 ≤ c) (h1 : c ≤ 65535) (w : World) : Calls Tryz.prog 29 #[.int .u16 c, .int .i64 11, .int .i64 10, .int .i64 0] w fun e w' => e = .returned (.int .i64 (c / 1024 % 4)) ∧ w' = w := by
  go_enter Tryz.func29, Tryz.ntmps29
  go_wp2_with (first | (go_at_call 16; go_in))
  go_ret
  exact ⟨ret_int (by omega), rfl⟩
theorem f_12_12_0 (c : Int) (h0 : 0 ≤ c) (h1 : c ≤ 65535) (w : World) : Calls Tryz.prog 29 #[.int .u16 c, .int .i64 12, .int .i64 12, .int .i64 0] w fun e w' => e = .returned (.int .i64 (c / 4096 % 2)) ∧ w' = w := by
  go_enter Tryz.func29, Tryz.ntmps29
  go_wp2_with (first | (go_at_call 16; go_in))
  go_ret
  exact ⟨ret_int (by omega), rfl⟩
theorem f_6_5_0 (c : Int) (h0 : 0 ≤ c) (h1 : c ≤ 65535) (w : World) : Calls Tryz.prog 29 #[.int .u16 c, .int .i64 6, .int .i64 5, .int .i64 0] w fun e w' => e = .returned (.int .i64 (c / 32 % 4)) ∧ w' = w := by
  go_enter Tryz.func29, Tryz.ntmps29
  go_wp2_with (first | (go_at_call 16; go_in))
  go_ret
  exact ⟨ret_int (by omega), rfl⟩
theorem sg_6 (v : Int) (v0 : 0 ≤ v) (v1 : v < 64) (w : World) : Calls Tryz.prog 30 #[.int .i64 v, .int .i64 6] w fun e w' => e = .returned (.int .i64 (sx 32 v)) ∧ w' = w := by
  by_cases p : v < 32
  · rw [show sx 32 v = v from if_pos p]
    go_enter Tryz.func30, Tryz.ntmps30
    go_wp2
    go_ret
    exact ⟨rfl, rfl⟩
  · rw [show sx 32 v = v - 64 from if_neg p]
    go_enter Tryz.func30, Tryz.ntmps30
    go_wp2
    go_ret
    exact ⟨ret_int (by omega), rfl⟩
theorem sg_9 (v : Int) (v0 : 0 ≤ v) (v1 : v < 512) (w : World) : Calls Tryz.prog 30 #[.int .i64 v, .int .i64 9] w fun e w' => e = .returned (.int .i64 (sx 256 v)) ∧ w' = w := by
  by_cases p : v < 256
  · rw [show sx 256 v = v from if_pos p]
    go_enter Tryz.func30, Tryz.ntmps30
    go_wp2
    go_ret
    exact ⟨rfl, rfl⟩
  · rw [show sx 256 v = v - 512 from if_neg p]
    go_enter Tryz.func30, Tryz.ntmps30
    go_wp2
    go_ret
    exact ⟨ret_int (by omega), rfl⟩
theorem sg_10 (v : Int) (v0 : 0 ≤ v) (v1 : v < 1024) (w : World) : Calls Tryz.prog 30 #[.int .i64 v, .int .i64 10] w fun e w' => e = .returned (.int .i64 (sx 512 v)) ∧ w' = w := by
  by_cases p : v < 512
  · rw [show sx 512 v = v from if_pos p]
    go_enter Tryz.func30, Tryz.ntmps30
    go_wp2
    go_ret
    exact ⟨rfl, rfl⟩
  · rw [show sx 512 v = v - 1024 from if_neg p]
    go_enter Tryz.func30, Tryz.ntmps30
    go_wp2
    go_ret
    exact ⟨ret_int (by omega), rfl⟩
theorem sg_12 (v : Int) (v0 : 0 ≤ v) (v1 : v < 4096) (w : World) : Calls Tryz.prog 30 #[.int .i64 v, .int .i64 12] w fun e w' => e = .returned (.int .i64 (sx 2048 v)) ∧ w' = w := by
  by_cases p : v < 2048
  · rw [show sx 2048 v = v from if_pos p]
    go_enter Tryz.func30, Tryz.ntmps30
    go_wp2
    go_ret
    exact ⟨rfl, rfl⟩
  · rw [show sx 2048 v = v - 4096 from if_neg p]
    go_enter Tryz.func30, Tryz.ntmps30
    go_wp2
    go_ret
    exact ⟨ret_int (by omega), rfl⟩
theorem r_R (i : I) (w : World) : Calls Tryz.prog 31 #[i.v] w fun e w' => e = .returned (.tuple #[.int .u32 (encF i).1, .bool (encF i).2]) ∧ Below w.heap.size w w' := by
  have hE := r_Encode i
  obtain ⟨x, hx⟩ : ∃ x, x = encF i := ⟨_, rfl⟩
  rw [← hx] at hE ⊢
  clear hx
  obtain ⟨x, b⟩ := x
  go_enter Tryz.func31, Tryz.ntmps31
  go_wp2_with (first | (go_at_call 10; with_reducible refine (hE _).mono ?_; rintro e w1 ⟨rfl, hb⟩))
  go_ret2
  exact ⟨rfl, belowA hb⟩
theorem r_Size (c : Int) (h0 : 0 ≤ c) (h1 : c ≤ 65535) (w : World) : Calls Tryz.prog 14 #[.int .u16 c] w fun e w' => e = .returned (.int .i64 (szF c)) ∧ w' = w := by
  unfold szF cQ
  by_cases q : c % 4 = 3
  · rw [if_pos q]
    go_enter Tryz.func14, Tryz.ntmps14
    go_wp2
    go_ret
    exact ⟨rfl, rfl⟩
  · rw [if_neg q]
    go_enter Tryz.func14, Tryz.ntmps14
    go_wp2
    go_ret
    exact ⟨rfl, rfl⟩
set_option maxHeartbeats 1000000 in
set_option maxRecDepth 100000 in
theorem ar_0 (c : Int) (h0 : 0 ≤ c) (h1 : c ≤ 65535) (w : World) (ht : c / 1024 % 4 = 0) :
    Calls Tryz.prog 32 #[.int .u16 c, .int .i64 (cS1 c), .int .i64 (cS2 c), .int .i64 (cAm c), .int .i64 (cSmall c)] w fun e w' => e = .returned (.tuple #[.int .u32 (encF ⟨9, 7, cS1 c, cS1 c, 0, cAm c, 0, false⟩).1, .bool (encF ⟨9, 7, cS1 c, cS1 c, 0, cAm c, 0, false⟩).2]) ∧ Below w.heap.size w w' := by
  have hR := r_R ⟨9, 7, cS1 c, cS1 c, 0, cAm c, 0, false⟩
  obtain ⟨x, hx⟩ : ∃ x, x = encF ⟨9, 7, cS1 c, cS1 c, 0, cAm c, 0, false⟩ := ⟨_, rfl⟩
  rw [← hx] at hR ⊢
  clear hx
  obtain ⟨x, b⟩ := x
  go_enter Tryz.func32, Tryz.ntmps32
  go_wp2_with (first | (go_at_call 29; first | ((with_reducible refine (f_11_10_0 c h0 h1 _).mono ?_); rintro e w0 ⟨rfl, rfl⟩) | ((with_reducible refine (f_12_12_0 c h0 h1 _).mono ?_); rintro e w0 ⟨rfl, rfl⟩) | ((with_reducible refine (f_6_5_0 c h0 h1 _).mono ?_); rintro e w0 ⟨rfl, rfl⟩)) | (go_at_call 31; refine (hR _).mono ?_; rintro e w1 ⟨rfl, hb⟩))
  go_ret2
  exact ⟨rfl, hb⟩
set_option maxHeartbeats 1000000 in
set_option maxRecDepth 100000 in
theorem ar_1 (c : Int) (h0 : 0 ≤ c) (h1 : c ≤ 65535) (w : World) (ht : c / 1024 % 4 = 1) :
    Calls Tryz.prog 32 #[.int .u16 c, .int .i64 (cS1 c), .int .i64 (cS2 c), .int .i64 (cAm c), .int .i64 (cSmall c)] w fun e w' => e = .returned (.tuple #[.int .u32 (encF ⟨9, 8, cS1 c, cS1 c, 0, cAm c, 0, false⟩).1, .bool (encF ⟨9, 8, cS1 c, cS1 c, 0, cAm c, 0, false⟩).2]) ∧ Below w.heap.size w w' := by
  have hR := r_R ⟨9, 8, cS1 c, cS1 c, 0, cAm c, 0, false⟩
  obtain ⟨x, hx⟩ : ∃ x, x = encF ⟨9, 8, cS1 c, cS1 c, 0, cAm c, 0, false⟩ := ⟨_, rfl⟩
  rw [← hx] at hR ⊢
  clear hx
  obtain ⟨x, b⟩ := x
  go_enter Tryz.func32, Tryz.ntmps32
  go_wp2_with (first | (go_at_call 29; first | ((with_reducible refine (f_11_10_0 c h0 h1 _).mono ?_); rintro e w0 ⟨rfl, rfl⟩) | ((with_reducible refine (f_12_12_0 c h0 h1 _).mono ?_); rintro e w0 ⟨rfl, rfl⟩) | ((with_reducible refine (f_6_5_0 c h0 h1 _).mono ?_); rintro e w0 ⟨rfl, rfl⟩)) | (go_at_call 31; refine (hR _).mono ?_; rintro e w1 ⟨rfl, hb⟩))
  go_ret2
  exact ⟨rfl, hb⟩
set_option maxHeartbeats 1000000 in
set_option maxRecDepth 100000 in
theorem ar_2 (c : Int) (h0 : 0 ≤ c) (h1 : c ≤ 65535) (w : World) (ht : c / 1024 % 4 = 2) :
    Calls Tryz.prog 32 #[.int .u16 c, .int .i64 (cS1 c), .int .i64 (cS2 c), .int .i64 (cAm c), .int .i64 (cSmall c)] w fun e w' => e = .returned (.tuple #[.int .u32 (encF ⟨9, 10, cS1 c, cS1 c, 0, cSmall c, 0, false⟩).1, .bool (encF ⟨9, 10, cS1 c, cS1 c, 0, cSmall c, 0, false⟩).2]) ∧ Below w.heap.size w w' := by
  have hR := r_R ⟨9, 10, cS1 c, cS1 c, 0, cSmall c, 0, false⟩
  obtain ⟨x, hx⟩ : ∃ x, x = encF ⟨9, 10, cS1 c, cS1 c, 0, cSmall c, 0, false⟩ := ⟨_, rfl⟩
  rw [← hx] at hR ⊢
  clear hx
  obtain ⟨x, b⟩ := x
  go_enter Tryz.func32, Tryz.ntmps32
  go_wp2_with (first | (go_at_call 29; first | ((with_reducible refine (f_11_10_0 c h0 h1 _).mono ?_); rintro e w0 ⟨rfl, rfl⟩) | ((with_reducible refine (f_12_12_0 c h0 h1 _).mono ?_); rintro e w0 ⟨rfl, rfl⟩) | ((with_reducible refine (f_6_5_0 c h0 h1 _).mono ?_); rintro e w0 ⟨rfl, rfl⟩)) | (go_at_call 31; refine (hR _).mono ?_; rintro e w1 ⟨rfl, hb⟩))
  go_ret2
  exact ⟨rfl, hb⟩
theorem pk_op (c : Int) : pk [2, 6, 9, 10, 20, 19, 0, 0] (4 * (c / 4096 % 2) + c / 32 % 4) = cOp c := by
  have e : 4 * (c / 4096 % 2) + c / 32 % 4 = cO c := by unfold cO; omega
  rw [e]
  have b : 0 ≤ cO c ∧ cO c < 8 := by unfold cO; omega
  exact if_pos (by simpa using b)
set_option maxHeartbeats 1000000 in
set_option maxRecDepth 100000 in
theorem ar_3 (c : Int) (h0 : 0 ≤ c) (h1 : c ≤ 65535) (w : World) (ht : c / 1024 % 4 = 3) (hn : cOp c ≠ 0) :
    Calls Tryz.prog 32 #[.int .u16 c, .int .i64 (cS1 c), .int .i64 (cS2 c), .int .i64 (cAm c), .int .i64 (cSmall c)] w fun e w' => e = .returned (.tuple #[.int .u32 (encF ⟨8, cOp c, cS1 c, cS1 c, cS2 c, 0, 0, false⟩).1, .bool (encF ⟨8, cOp c, cS1 c, cS1 c, cS2 c, 0, 0, false⟩).2]) ∧ Below w.heap.size w w' := by
  have hR := r_R ⟨8, cOp c, cS1 c, cS1 c, cS2 c, 0, 0, false⟩
  obtain ⟨x, hx⟩ : ∃ x, x = encF ⟨8, cOp c, cS1 c, cS1 c, cS2 c, 0, 0, false⟩ := ⟨_, rfl⟩
  rw [← hx] at hR ⊢
  clear hx
  obtain ⟨x, b⟩ := x
  go_enter Tryz.func32, Tryz.ntmps32
  go_wp2_with (first | (go_at_call 29; first | ((with_reducible refine (f_11_10_0 c h0 h1 _).mono ?_); rintro e w0 ⟨rfl, rfl⟩) | ((with_reducible refine (f_12_12_0 c h0 h1 _).mono ?_); rintro e w0 ⟨rfl, rfl⟩) | ((with_reducible refine (f_6_5_0 c h0 h1 _).mono ?_); rintro e w0 ⟨rfl, rfl⟩)) | (refine wpList_buildFlat rfl 41 3 _ _ rfl .i64 [2, 6, 9, 10, 20, 19, 0, 0] (by kernel_rfl) (by kernel_rfl) (by kernel_rfl) rfl (by decide) (by decide) rfl ?_) | (go_at_call 20; refine (r_pickT _ 8 [2, 6, 9, 10, 20, 19, 0, 0] rfl (4 * (c / 4096 % 2) + c / 32 % 4) _ (tab_cell _ _ (by simp) _ _ _ _ rfl rfl) (by omega) (by omega) (by decide) (cOp c) (pk_op c)).mono ?_; rintro e w0 ⟨rfl, rfl⟩) | (go_at_call 31; refine (hR _).mono ?_; rintro e w1 ⟨rfl, hb⟩))
  go_ret2
  exact ⟨rfl, belowA hb⟩
set_option maxHeartbeats 1000000 in
set_option maxRecDepth 100000 in
theorem ar_3n (c : Int) (h0 : 0 ≤ c) (h1 : c ≤ 65535) (w : World) (ht : c / 1024 % 4 = 3) (hn : cOp c = 0) :
    Calls Tryz.prog 32 #[.int .u16 c, .int .i64 (cS1 c), .int .i64 (cS2 c), .int .i64 (cAm c), .int .i64 (cSmall c)] w fun e w' => e = .returned (.tuple #[.int .u32 0, .bool false]) ∧ Below w.heap.size w w' := by
  go_enter Tryz.func32, Tryz.ntmps32
  go_wp2_with (first | (go_at_call 29; first | ((with_reducible refine (f_11_10_0 c h0 h1 _).mono ?_); rintro e w0 ⟨rfl, rfl⟩) | ((with_reducible refine (f_12_12_0 c h0 h1 _).mono ?_); rintro e w0 ⟨rfl, rfl⟩) | ((with_reducible refine (f_6_5_0 c h0 h1 _).mono ?_); rintro e w0 ⟨rfl, rfl⟩)) | (refine wpList_buildFlat rfl 41 3 _ _ rfl .i64 [2, 6, 9, 10, 20, 19, 0, 0] (by kernel_rfl) (by kernel_rfl) (by kernel_rfl) rfl (by decide) (by decide) rfl ?_) | (go_at_call 20; refine (r_pickT _ 8 [2, 6, 9, 10, 20, 19, 0, 0] rfl (4 * (c / 4096 % 2) + c / 32 % 4) _ (tab_cell _ _ (by simp) _ _ _ _ rfl rfl) (by omega) (by omega) (by decide) (cOp c) (pk_op c)).mono ?_; rintro e w0 ⟨rfl, rfl⟩))
  go_ret2
  exact ⟨rfl, below1 _⟩
set_option maxHeartbeats 1000000 in
set_option maxRecDepth 100000 in
theorem ju_00 (c : Int) (h0 : 0 ≤ c) (h1 : c ≤ 65535) (w : World) (hu : c / 4096 % 2 = 0) (hr : cR2 c = 0) (hd : cRd c = 0) :
    Calls Tryz.prog 33 #[.int .u16 c, .int .i64 (cRd c), .int .i64 (cR2 c)] w fun e w' => e = .returned (.tuple #[.int .u32 0, .bool false]) ∧ Below w.heap.size w w' := by
  go_enter Tryz.func33, Tryz.ntmps33
  go_wp2_with (first | (go_at_call 29; first | ((with_reducible refine (f_12_12_0 c h0 h1 _).mono ?_); rintro e w0 ⟨rfl, rfl⟩)))
  go_ret2
  exact ⟨rfl, Below.refl _ _⟩
set_option maxHeartbeats 1000000 in
set_option maxRecDepth 100000 in
theorem ju_0d (c : Int) (h0 : 0 ≤ c) (h1 : c ≤ 65535) (w : World) (hu : c / 4096 % 2 = 0) (hr : cR2 c = 0) (hd : cRd c ≠ 0) :
    Calls Tryz.prog 33 #[.int .u16 c, .int .i64 (cRd c), .int .i64 (cR2 c)] w fun e w' => e = .returned (.tuple #[.int .u32 (encF ⟨4, 0, 0, cRd c, 0, 0, 0, false⟩).1, .bool (encF ⟨4, 0, 0, cRd c, 0, 0, 0, false⟩).2]) ∧ Below w.heap.size w w' := by
  have hR := r_R ⟨4, 0, 0, cRd c, 0, 0, 0, false⟩
  obtain ⟨x, hx⟩ : ∃ x, x = encF ⟨4, 0, 0, cRd c, 0, 0, 0, false⟩ := ⟨_, rfl⟩
  rw [← hx] at hR ⊢
  clear hx
  obtain ⟨x, b⟩ := x
  go_enter Tryz.func33, Tryz.ntmps33
  go_wp2_with (first | (go_at_call 29; first | ((with_reducible refine (f_12_12_0 c h0 h1 _).mono ?_); rintro e w0 ⟨rfl, rfl⟩)) | (go_at_call 31; refine (hR _).mono ?_; rintro e w1 ⟨rfl, hb⟩))
  go_ret2
  exact ⟨rfl, hb⟩
set_option maxHeartbeats 1000000 in
set_option maxRecDepth 100000 in
theorem ju_0r (c : Int) (h0 : 0 ≤ c) (h1 : c ≤ 65535) (w : World) (hu : c / 4096 % 2 = 0) (hr : cR2 c ≠ 0) :
    Calls Tryz.prog 33 #[.int .u16 c, .int .i64 (cRd c), .int .i64 (cR2 c)] w fun e w' => e = .returned (.tuple #[.int .u32 (encF ⟨8, 1, cRd c, 0, cR2 c, 0, 0, false⟩).1, .bool (encF ⟨8, 1, cRd c, 0, cR2 c, 0, 0, false⟩).2]) ∧ Below w.heap.size w w' := by
  have hR := r_R ⟨8, 1, cRd c, 0, cR2 c, 0, 0, false⟩
  obtain ⟨x, hx⟩ : ∃ x, x = encF ⟨8, 1, cRd c, 0, cR2 c, 0, 0, false⟩ := ⟨_, rfl⟩
  rw [← hx] at hR ⊢
  clear hx
  obtain ⟨x, b⟩ := x
  go_enter Tryz.func33, Tryz.ntmps33
  go_wp2_with (first | (go_at_call 29; first | ((with_reducible refine (f_12_12_0 c h0 h1 _).mono ?_); rintro e w0 ⟨rfl, rfl⟩)) | (go_at_call 31; refine (hR _).mono ?_; rintro e w1 ⟨rfl, hb⟩))
  go_ret2
  exact ⟨rfl, hb⟩
set_option maxHeartbeats 1000000 in
set_option maxRecDepth 100000 in
theorem ju_10 (c : Int) (h0 : 0 ≤ c) (h1 : c ≤ 65535) (w : World) (hu : c / 4096 % 2 = 1) (hr : cR2 c = 0) (hd : cRd c = 0) :
    Calls Tryz.prog 33 #[.int .u16 c, .int .i64 (cRd c), .int .i64 (cR2 c)] w fun e w' => e = .returned (.tuple #[.int .u32 (encF ⟨12, 0, 0, 0, 0, 0, 0, false⟩).1, .bool (encF ⟨12, 0, 0, 0, 0, 0, 0, false⟩).2]) ∧ Below w.heap.size w w' := by
  have hR := r_R ⟨12, 0, 0, 0, 0, 0, 0, false⟩
  obtain ⟨x, hx⟩ : ∃ x, x = encF ⟨12, 0, 0, 0, 0, 0, 0, false⟩ := ⟨_, rfl⟩
  rw [← hx] at hR ⊢
  clear hx
  obtain ⟨x, b⟩ := x
  go_enter Tryz.func33, Tryz.ntmps33
  go_wp2_with (first | (go_at_call 29; first | ((with_reducible refine (f_12_12_0 c h0 h1 _).mono ?_); rintro e w0 ⟨rfl, rfl⟩)) | (go_at_call 31; refine (hR _).mono ?_; rintro e w1 ⟨rfl, hb⟩))
  go_ret2
  exact ⟨rfl, hb⟩
set_option maxHeartbeats 1000000 in
set_option maxRecDepth 100000 in
theorem ju_1d (c : Int) (h0 : 0 ≤ c) (h1 : c ≤ 65535) (w : World) (hu : c / 4096 % 2 = 1) (hr : cR2 c = 0) (hd : cRd c ≠ 0) :
    Calls Tryz.prog 33 #[.int .u16 c, .int .i64 (cRd c), .int .i64 (cR2 c)] w fun e w' => e = .returned (.tuple #[.int .u32 (encF ⟨4, 0, 1, cRd c, 0, 0, 0, false⟩).1, .bool (encF ⟨4, 0, 1, cRd c, 0, 0, 0, false⟩).2]) ∧ Below w.heap.size w w' := by
  have hR := r_R ⟨4, 0, 1, cRd c, 0, 0, 0, false⟩
  obtain ⟨x, hx⟩ : ∃ x, x = encF ⟨4, 0, 1, cRd c, 0, 0, 0, false⟩ := ⟨_, rfl⟩
  rw [← hx] at hR ⊢
  clear hx
  obtain ⟨x, b⟩ := x
  go_enter Tryz.func33, Tryz.ntmps33
  go_wp2_with (first | (go_at_call 29; first | ((with_reducible refine (f_12_12_0 c h0 h1 _).mono ?_); rintro e w0 ⟨rfl, rfl⟩)) | (go_at_call 31; refine (hR _).mono ?_; rintro e w1 ⟨rfl, hb⟩))
  go_ret2
  exact ⟨rfl, hb⟩
set_option maxHeartbeats 1000000 in
set_option maxRecDepth 100000 in
theorem ju_1r (c : Int) (h0 : 0 ≤ c) (h1 : c ≤ 65535) (w : World) (hu : c / 4096 % 2 = 1) (hr : cR2 c ≠ 0) :
    Calls Tryz.prog 33 #[.int .u16 c, .int .i64 (cRd c), .int .i64 (cR2 c)] w fun e w' => e = .returned (.tuple #[.int .u32 (encF ⟨8, 1, cRd c, cRd c, cR2 c, 0, 0, false⟩).1, .bool (encF ⟨8, 1, cRd c, cRd c, cR2 c, 0, 0, false⟩).2]) ∧ Below w.heap.size w w' := by
  have hR := r_R ⟨8, 1, cRd c, cRd c, cR2 c, 0, 0, false⟩
  obtain ⟨x, hx⟩ : ∃ x, x = encF ⟨8, 1, cRd c, cRd c, cR2 c, 0, 0, false⟩ := ⟨_, rfl⟩
  rw [← hx] at hR ⊢
  clear hx
  obtain ⟨x, b⟩ := x
  go_enter Tryz.func33, Tryz.ntmps33
  go_wp2_with (first | (go_at_call 29; first | ((with_reducible refine (f_12_12_0 c h0 h1 _).mono ?_); rintro e w0 ⟨rfl, rfl⟩)) | (go_at_call 31; refine (hR _).mono ?_; rintro e w1 ⟨rfl, hb⟩))
  go_ret2
  exact ⟨rfl, hb⟩
end Go.Proofs.YtioodijiejipiaaGreatDoor
