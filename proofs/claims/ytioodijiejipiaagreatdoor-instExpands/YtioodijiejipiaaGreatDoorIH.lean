/- What each field of a compressed instruction is: one contract a method; the world stands. -/
import Derived.Test.YtioodijiejipiaaGreatDoorIW
namespace Go.Proofs.YtioodijiejipiaaGreatDoor
open Go.RowKit
set_option linter.unusedVariables false

def sx (w n : Int) : Int := if n < w then n else n - 2 * w
def cQ (c : Int) : Int := c % 4
def cF3 (c : Int) : Int := c / 8192 % 8
def cRd (c : Int) : Int := c / 128 % 32
def cR2 (c : Int) : Int := c / 4 % 32
def cS1 (c : Int) : Int := 8 + c / 128 % 8
def cS2 (c : Int) : Int := 8 + c / 4 % 8
def cAm (c : Int) : Int := c / 4096 % 2 * 32 + c / 4 % 32
def cStack (c : Int) : Int := c / 128 % 16 * 64 + c / 2048 % 4 * 16 + c / 32 % 2 * 8 + c / 64 % 2 * 4
def cWord (c : Int) : Int := c / 32 % 2 * 64 + c / 1024 % 8 * 8 + c / 64 % 2 * 4
def cDouble (c : Int) : Int := c / 32 % 4 * 64 + c / 1024 % 8 * 8
def cMove0 (c : Int) : Int := c / 4096 % 2 * 512 + c / 8 % 4 * 128 + c / 32 % 2 * 64 + c / 4 % 2 * 32 + c / 64 % 2 * 16
def cMove (c : Int) : Int := sx 512 (cMove0 c)
def cBranch0 (c : Int) : Int := c / 4096 % 2 * 256 + c / 32 % 4 * 64 + c / 4 % 2 * 32 + c / 1024 % 4 * 8 + c / 8 % 4 * 2
def cBranch (c : Int) : Int := sx 256 (cBranch0 c)
def cPopW (c : Int) : Int := c / 4 % 4 * 64 + c / 4096 % 2 * 32 + c / 16 % 8 * 4
def cPopD (c : Int) : Int := c / 4 % 8 * 64 + c / 4096 % 2 * 32 + c / 32 % 4 * 8
def cPushW (c : Int) : Int := c / 128 % 4 * 64 + c / 512 % 16 * 4
def cPushD (c : Int) : Int := c / 128 % 8 * 64 + c / 1024 % 8 * 8
def cJump0 (c : Int) : Int := c / 4096 % 2 * 2048 + c / 256 % 2 * 1024 + c / 512 % 4 * 256 + c / 64 % 2 * 128 + c / 128 % 2 * 64 + c / 4 % 2 * 32 + c / 2048 % 2 * 16 + c / 8 % 8 * 2
def cJump (c : Int) : Int := sx 2048 (cJump0 c)
def cSmall (c : Int) : Int := sx 32 (cAm c)
theorem h_quadrant (c : Int) (h0 : 0 ≤ c) (h1 : c ≤ 65535) (w : World) :
    Calls Tryz.prog 34 #[.int .u16 c] w fun e w' => e = .returned (.int .i64 (cQ c)) ∧ w' = w := by
  go_enter Tryz.func34, Tryz.ntmps34
  go_wp2
  go_ret
  exact ⟨ret_int (by unfold cQ; omega), rfl⟩
theorem h_f3 (c : Int) (h0 : 0 ≤ c) (h1 : c ≤ 65535) (w : World) :
    Calls Tryz.prog 59 #[.int .u16 c] w fun e w' => e = .returned (.int .i64 (cF3 c)) ∧ w' = w := by
  go_enter Tryz.func59, Tryz.ntmps59
  go_wp2
  go_ret
  exact ⟨ret_int (by unfold cF3; omega), rfl⟩
theorem h_rd (c : Int) (h0 : 0 ≤ c) (h1 : c ≤ 65535) (w : World) :
    Calls Tryz.prog 69 #[.int .u16 c] w fun e w' => e = .returned (.int .i64 (cRd c)) ∧ w' = w := by
  go_enter Tryz.func69, Tryz.ntmps69
  go_wp2
  go_ret
  exact ⟨ret_int (by unfold cRd; omega), rfl⟩
theorem h_rs2 (c : Int) (h0 : 0 ≤ c) (h1 : c ≤ 65535) (w : World) :
    Calls Tryz.prog 81 #[.int .u16 c] w fun e w' => e = .returned (.int .i64 (cR2 c)) ∧ w' = w := by
  go_enter Tryz.func81, Tryz.ntmps81
  go_wp2
  go_ret
  exact ⟨ret_int (by unfold cR2; omega), rfl⟩
theorem h_shortRs1 (c : Int) (h0 : 0 ≤ c) (h1 : c ≤ 65535) (w : World) :
    Calls Tryz.prog 65 #[.int .u16 c] w fun e w' => e = .returned (.int .i64 (cS1 c)) ∧ w' = w := by
  go_enter Tryz.func65, Tryz.ntmps65
  go_wp2
  go_ret
  exact ⟨ret_int (by unfold cS1; omega), rfl⟩
theorem h_shortRs2 (c : Int) (h0 : 0 ≤ c) (h1 : c ≤ 65535) (w : World) :
    Calls Tryz.prog 62 #[.int .u16 c] w fun e w' => e = .returned (.int .i64 (cS2 c)) ∧ w' = w := by
  go_enter Tryz.func62, Tryz.ntmps62
  go_wp2
  go_ret
  exact ⟨ret_int (by unfold cS2; omega), rfl⟩
theorem oc_amount (c : Int) (h0 : 0 ≤ c) (h1 : c ≤ 65535) : bits .or .i64 (c * 524288 % 4294967296 / 2147483648 * 32) (c * 33554432 % 4294967296 / 134217728) = cAm c := by
  rw [or64_5 ((c * 524288 % 4294967296 / 2147483648 * 32)) (c * 33554432 % 4294967296 / 134217728) (by omega) (by omega) (by omega) (by omega) (by omega)]
  unfold cAm
  omega
theorem oc_immStack (c : Int) (h0 : 0 ≤ c) (h1 : c ≤ 65535) : bits .or .i64 (bits .or .i64 (bits .or .i64 (c * 2097152 % 4294967296 / 268435456 * 64) (c * 524288 % 4294967296 / 1073741824 * 16)) (c * 67108864 % 4294967296 / 2147483648 * 8)) (c * 33554432 % 4294967296 / 2147483648 * 4) = cStack c := by
  rw [or64_6 ((c * 2097152 % 4294967296 / 268435456 * 64)) (c * 524288 % 4294967296 / 1073741824 * 16) (by omega) (by omega) (by omega) (by omega) (by omega), or64_4 ((c * 2097152 % 4294967296 / 268435456 * 64) + c * 524288 % 4294967296 / 1073741824 * 16) (c * 67108864 % 4294967296 / 2147483648 * 8) (by omega) (by omega) (by omega) (by omega) (by omega), or64_3 ((c * 2097152 % 4294967296 / 268435456 * 64) + c * 524288 % 4294967296 / 1073741824 * 16 + c * 67108864 % 4294967296 / 2147483648 * 8) (c * 33554432 % 4294967296 / 2147483648 * 4) (by omega) (by omega) (by omega) (by omega) (by omega)]
  unfold cStack
  omega
theorem oc_immWord (c : Int) (h0 : 0 ≤ c) (h1 : c ≤ 65535) : bits .or .i64 (bits .or .i64 (c * 67108864 % 4294967296 / 2147483648 * 64) (c * 524288 % 4294967296 / 536870912 * 8)) (c * 33554432 % 4294967296 / 2147483648 * 4) = cWord c := by
  rw [or64_6 ((c * 67108864 % 4294967296 / 2147483648 * 64)) (c * 524288 % 4294967296 / 536870912 * 8) (by omega) (by omega) (by omega) (by omega) (by omega), or64_3 ((c * 67108864 % 4294967296 / 2147483648 * 64) + c * 524288 % 4294967296 / 536870912 * 8) (c * 33554432 % 4294967296 / 2147483648 * 4) (by omega) (by omega) (by omega) (by omega) (by omega)]
  unfold cWord
  omega
theorem oc_immDouble (c : Int) (h0 : 0 ≤ c) (h1 : c ≤ 65535) : bits .or .i64 (c * 33554432 % 4294967296 / 1073741824 * 64) (c * 524288 % 4294967296 / 536870912 * 8) = cDouble c := by
  rw [or64_6 ((c * 33554432 % 4294967296 / 1073741824 * 64)) (c * 524288 % 4294967296 / 536870912 * 8) (by omega) (by omega) (by omega) (by omega) (by omega)]
  unfold cDouble
  omega
theorem oc_immMove (c : Int) (h0 : 0 ≤ c) (h1 : c ≤ 65535) : bits .or .i64 (bits .or .i64 (bits .or .i64 (bits .or .i64 (c * 524288 % 4294967296 / 2147483648 * 512) (c * 134217728 % 4294967296 / 1073741824 * 128)) (c * 67108864 % 4294967296 / 2147483648 * 64)) (c * 536870912 % 4294967296 / 2147483648 * 32)) (c * 33554432 % 4294967296 / 2147483648 * 16) = cMove0 c := by
  rw [or64_9 ((c * 524288 % 4294967296 / 2147483648 * 512)) (c * 134217728 % 4294967296 / 1073741824 * 128) (by omega) (by omega) (by omega) (by omega) (by omega), or64_7 ((c * 524288 % 4294967296 / 2147483648 * 512) + c * 134217728 % 4294967296 / 1073741824 * 128) (c * 67108864 % 4294967296 / 2147483648 * 64) (by omega) (by omega) (by omega) (by omega) (by omega), or64_6 ((c * 524288 % 4294967296 / 2147483648 * 512) + c * 134217728 % 4294967296 / 1073741824 * 128 + c * 67108864 % 4294967296 / 2147483648 * 64) (c * 536870912 % 4294967296 / 2147483648 * 32) (by omega) (by omega) (by omega) (by omega) (by omega), or64_5 ((c * 524288 % 4294967296 / 2147483648 * 512) + c * 134217728 % 4294967296 / 1073741824 * 128 + c * 67108864 % 4294967296 / 2147483648 * 64 + c * 536870912 % 4294967296 / 2147483648 * 32) (c * 33554432 % 4294967296 / 2147483648 * 16) (by omega) (by omega) (by omega) (by omega) (by omega)]
  unfold cMove0
  omega
theorem oc_immBranch (c : Int) (h0 : 0 ≤ c) (h1 : c ≤ 65535) : bits .or .i64 (bits .or .i64 (bits .or .i64 (bits .or .i64 (c * 524288 % 4294967296 / 2147483648 * 256) (c * 33554432 % 4294967296 / 1073741824 * 64)) (c * 536870912 % 4294967296 / 2147483648 * 32)) (c * 1048576 % 4294967296 / 1073741824 * 8)) (c * 134217728 % 4294967296 / 1073741824 * 2) = cBranch0 c := by
  rw [or64_8 ((c * 524288 % 4294967296 / 2147483648 * 256)) (c * 33554432 % 4294967296 / 1073741824 * 64) (by omega) (by omega) (by omega) (by omega) (by omega), or64_6 ((c * 524288 % 4294967296 / 2147483648 * 256) + c * 33554432 % 4294967296 / 1073741824 * 64) (c * 536870912 % 4294967296 / 2147483648 * 32) (by omega) (by omega) (by omega) (by omega) (by omega), or64_5 ((c * 524288 % 4294967296 / 2147483648 * 256) + c * 33554432 % 4294967296 / 1073741824 * 64 + c * 536870912 % 4294967296 / 2147483648 * 32) (c * 1048576 % 4294967296 / 1073741824 * 8) (by omega) (by omega) (by omega) (by omega) (by omega), or64_3 ((c * 524288 % 4294967296 / 2147483648 * 256) + c * 33554432 % 4294967296 / 1073741824 * 64 + c * 536870912 % 4294967296 / 2147483648 * 32 + c * 1048576 % 4294967296 / 1073741824 * 8) (c * 134217728 % 4294967296 / 1073741824 * 2) (by omega) (by omega) (by omega) (by omega) (by omega)]
  unfold cBranch0
  omega
theorem oc_immPopWord (c : Int) (h0 : 0 ≤ c) (h1 : c ≤ 65535) : bits .or .i64 (bits .or .i64 (c * 268435456 % 4294967296 / 1073741824 * 64) (c * 524288 % 4294967296 / 2147483648 * 32)) (c * 33554432 % 4294967296 / 536870912 * 4) = cPopW c := by
  rw [or64_6 ((c * 268435456 % 4294967296 / 1073741824 * 64)) (c * 524288 % 4294967296 / 2147483648 * 32) (by omega) (by omega) (by omega) (by omega) (by omega), or64_5 ((c * 268435456 % 4294967296 / 1073741824 * 64) + c * 524288 % 4294967296 / 2147483648 * 32) (c * 33554432 % 4294967296 / 536870912 * 4) (by omega) (by omega) (by omega) (by omega) (by omega)]
  unfold cPopW
  omega
theorem oc_immPopDouble (c : Int) (h0 : 0 ≤ c) (h1 : c ≤ 65535) : bits .or .i64 (bits .or .i64 (c * 134217728 % 4294967296 / 536870912 * 64) (c * 524288 % 4294967296 / 2147483648 * 32)) (c * 33554432 % 4294967296 / 1073741824 * 8) = cPopD c := by
  rw [or64_6 ((c * 134217728 % 4294967296 / 536870912 * 64)) (c * 524288 % 4294967296 / 2147483648 * 32) (by omega) (by omega) (by omega) (by omega) (by omega), or64_5 ((c * 134217728 % 4294967296 / 536870912 * 64) + c * 524288 % 4294967296 / 2147483648 * 32) (c * 33554432 % 4294967296 / 1073741824 * 8) (by omega) (by omega) (by omega) (by omega) (by omega)]
  unfold cPopD
  omega
theorem oc_immPushWord (c : Int) (h0 : 0 ≤ c) (h1 : c ≤ 65535) : bits .or .i64 (c * 8388608 % 4294967296 / 1073741824 * 64) (c * 524288 % 4294967296 / 268435456 * 4) = cPushW c := by
  rw [or64_6 ((c * 8388608 % 4294967296 / 1073741824 * 64)) (c * 524288 % 4294967296 / 268435456 * 4) (by omega) (by omega) (by omega) (by omega) (by omega)]
  unfold cPushW
  omega
theorem oc_immPushDouble (c : Int) (h0 : 0 ≤ c) (h1 : c ≤ 65535) : bits .or .i64 (c * 4194304 % 4294967296 / 536870912 * 64) (c * 524288 % 4294967296 / 536870912 * 8) = cPushD c := by
  rw [or64_6 ((c * 4194304 % 4294967296 / 536870912 * 64)) (c * 524288 % 4294967296 / 536870912 * 8) (by omega) (by omega) (by omega) (by omega) (by omega)]
  unfold cPushD
  omega
def cJ1 (c : Int) : Int := c / 4096 % 2 * 2048 + c / 256 % 2 * 1024 + c / 512 % 4 * 256 + c / 64 % 2 * 128
def cJ2 (c : Int) : Int := c / 128 % 2 * 64 + c / 4 % 2 * 32 + c / 2048 % 2 * 16 + c / 8 % 8 * 2
theorem oc_j1 (c : Int) (h0 : 0 ≤ c) (h1 : c ≤ 65535) : bits .or .i64 (bits .or .i64 (bits .or .i64 (c * 524288 % 4294967296 / 2147483648 * 2048) (c * 8388608 % 4294967296 / 2147483648 * 1024)) (c * 2097152 % 4294967296 / 1073741824 * 256)) (c * 33554432 % 4294967296 / 2147483648 * 128) = cJ1 c := by
  rw [or64_11 ((c * 524288 % 4294967296 / 2147483648 * 2048)) (c * 8388608 % 4294967296 / 2147483648 * 1024) (by omega) (by omega) (by omega) (by omega) (by omega), or64_10 ((c * 524288 % 4294967296 / 2147483648 * 2048) + c * 8388608 % 4294967296 / 2147483648 * 1024) (c * 2097152 % 4294967296 / 1073741824 * 256) (by omega) (by omega) (by omega) (by omega) (by omega), or64_8 ((c * 524288 % 4294967296 / 2147483648 * 2048) + c * 8388608 % 4294967296 / 2147483648 * 1024 + c * 2097152 % 4294967296 / 1073741824 * 256) (c * 33554432 % 4294967296 / 2147483648 * 128) (by omega) (by omega) (by omega) (by omega) (by omega)]
  unfold cJ1
  omega
theorem oc_j2 (c : Int) (h0 : 0 ≤ c) (h1 : c ≤ 65535) : bits .or .i64 (bits .or .i64 (bits .or .i64 (c * 16777216 % 4294967296 / 2147483648 * 64) (c * 536870912 % 4294967296 / 2147483648 * 32)) (c * 1048576 % 4294967296 / 2147483648 * 16)) (c * 67108864 % 4294967296 / 536870912 * 2) = cJ2 c := by
  rw [or64_6 ((c * 16777216 % 4294967296 / 2147483648 * 64)) (c * 536870912 % 4294967296 / 2147483648 * 32) (by omega) (by omega) (by omega) (by omega) (by omega), or64_5 ((c * 16777216 % 4294967296 / 2147483648 * 64) + c * 536870912 % 4294967296 / 2147483648 * 32) (c * 1048576 % 4294967296 / 2147483648 * 16) (by omega) (by omega) (by omega) (by omega) (by omega), or64_4 ((c * 16777216 % 4294967296 / 2147483648 * 64) + c * 536870912 % 4294967296 / 2147483648 * 32 + c * 1048576 % 4294967296 / 2147483648 * 16) (c * 67108864 % 4294967296 / 536870912 * 2) (by omega) (by omega) (by omega) (by omega) (by omega)]
  unfold cJ2
  omega
theorem oc_j3 (c : Int) (h0 : 0 ≤ c) (h1 : c ≤ 65535) : bits .or .i64 (cJ1 c) (cJ2 c) = cJump0 c := by
  rw [or64_7 (cJ1 c) (cJ2 c) (by unfold cJ1; omega) (by unfold cJ2; omega) (by unfold cJ2; omega) (by unfold cJ1; omega) (by unfold cJ1; omega)]
  unfold cJ1 cJ2 cJump0; omega
theorem hs_6 (n : Int) (h0 : 0 ≤ n) (h1 : n < 64) (w : World) :
    Calls Tryz.prog 109 #[.int .i64 n, .int .i64 6] w fun e w' => e = .returned (.int .i64 (sx 32 n)) ∧ w' = w := by
  go_enter Tryz.func109, Tryz.ntmps109
  go_wp2
  go_ret
  refine ⟨ret_int ?_, rfl⟩
  unfold sx
  simp only [wrap64]
  split <;> omega
theorem hs_9 (n : Int) (h0 : 0 ≤ n) (h1 : n < 512) (w : World) :
    Calls Tryz.prog 109 #[.int .i64 n, .int .i64 9] w fun e w' => e = .returned (.int .i64 (sx 256 n)) ∧ w' = w := by
  go_enter Tryz.func109, Tryz.ntmps109
  go_wp2
  go_ret
  refine ⟨ret_int ?_, rfl⟩
  unfold sx
  simp only [wrap64]
  split <;> omega
theorem hs_10 (n : Int) (h0 : 0 ≤ n) (h1 : n < 1024) (w : World) :
    Calls Tryz.prog 109 #[.int .i64 n, .int .i64 10] w fun e w' => e = .returned (.int .i64 (sx 512 n)) ∧ w' = w := by
  go_enter Tryz.func109, Tryz.ntmps109
  go_wp2
  go_ret
  refine ⟨ret_int ?_, rfl⟩
  unfold sx
  simp only [wrap64]
  split <;> omega
theorem hs_12 (n : Int) (h0 : 0 ≤ n) (h1 : n < 4096) (w : World) :
    Calls Tryz.prog 109 #[.int .i64 n, .int .i64 12] w fun e w' => e = .returned (.int .i64 (sx 2048 n)) ∧ w' = w := by
  go_enter Tryz.func109, Tryz.ntmps109
  go_wp2
  go_ret
  refine ⟨ret_int ?_, rfl⟩
  unfold sx
  simp only [wrap64]
  split <;> omega
theorem h_amount (c : Int) (h0 : 0 ≤ c) (h1 : c ≤ 65535) (w : World) :
    Calls Tryz.prog 77 #[.int .u16 c] w fun e w' => e = .returned (.int .i64 (cAm c)) ∧ w' = w := by
  have q := oc_amount c h0 h1
  go_enter Tryz.func77, Tryz.ntmps77
  go_wp2
  go_ret
  exact ⟨rfl, rfl⟩
theorem h_immStack (c : Int) (h0 : 0 ≤ c) (h1 : c ≤ 65535) (w : World) :
    Calls Tryz.prog 63 #[.int .u16 c] w fun e w' => e = .returned (.int .i64 (cStack c)) ∧ w' = w := by
  have q := oc_immStack c h0 h1
  go_enter Tryz.func63, Tryz.ntmps63
  go_wp2
  go_ret
  exact ⟨rfl, rfl⟩
theorem h_immWord (c : Int) (h0 : 0 ≤ c) (h1 : c ≤ 65535) (w : World) :
    Calls Tryz.prog 66 #[.int .u16 c] w fun e w' => e = .returned (.int .i64 (cWord c)) ∧ w' = w := by
  have q := oc_immWord c h0 h1
  go_enter Tryz.func66, Tryz.ntmps66
  go_wp2
  go_ret
  exact ⟨rfl, rfl⟩
theorem h_immDouble (c : Int) (h0 : 0 ≤ c) (h1 : c ≤ 65535) (w : World) :
    Calls Tryz.prog 67 #[.int .u16 c] w fun e w' => e = .returned (.int .i64 (cDouble c)) ∧ w' = w := by
  have q := oc_immDouble c h0 h1
  go_enter Tryz.func67, Tryz.ntmps67
  go_wp2
  go_ret
  exact ⟨rfl, rfl⟩
theorem h_immMove (c : Int) (h0 : 0 ≤ c) (h1 : c ≤ 65535) (w : World) :
    Calls Tryz.prog 110 #[.int .u16 c] w fun e w' => e = .returned (.int .i64 (cMove c)) ∧ w' = w := by
  have q := oc_immMove c h0 h1
  have b0 : 0 ≤ cMove0 c := by unfold cMove0; omega
  have b1 : cMove0 c < 1024 := by unfold cMove0; omega
  go_enter Tryz.func110, Tryz.ntmps110
  go_wp2_with (first | (go_at_call 109; refine (hs_10 _ b0 b1 _).mono ?_; rintro e w' ⟨rfl, rfl⟩) | (go_at_call 45; go_in) | (go_at_call 48; go_in))
  go_ret
  exact ⟨rfl, rfl⟩
theorem h_immBranch (c : Int) (h0 : 0 ≤ c) (h1 : c ≤ 65535) (w : World) :
    Calls Tryz.prog 76 #[.int .u16 c] w fun e w' => e = .returned (.int .i64 (cBranch c)) ∧ w' = w := by
  have q := oc_immBranch c h0 h1
  have b0 : 0 ≤ cBranch0 c := by unfold cBranch0; omega
  have b1 : cBranch0 c < 512 := by unfold cBranch0; omega
  go_enter Tryz.func76, Tryz.ntmps76
  go_wp2_with (first | (go_at_call 109; refine (hs_9 _ b0 b1 _).mono ?_; rintro e w' ⟨rfl, rfl⟩) | (go_at_call 45; go_in) | (go_at_call 48; go_in))
  go_ret
  exact ⟨rfl, rfl⟩
theorem h_immPopWord (c : Int) (h0 : 0 ≤ c) (h1 : c ≤ 65535) (w : World) :
    Calls Tryz.prog 78 #[.int .u16 c] w fun e w' => e = .returned (.int .i64 (cPopW c)) ∧ w' = w := by
  have q := oc_immPopWord c h0 h1
  go_enter Tryz.func78, Tryz.ntmps78
  go_wp2
  go_ret
  exact ⟨rfl, rfl⟩
theorem h_immPopDouble (c : Int) (h0 : 0 ≤ c) (h1 : c ≤ 65535) (w : World) :
    Calls Tryz.prog 79 #[.int .u16 c] w fun e w' => e = .returned (.int .i64 (cPopD c)) ∧ w' = w := by
  have q := oc_immPopDouble c h0 h1
  go_enter Tryz.func79, Tryz.ntmps79
  go_wp2
  go_ret
  exact ⟨rfl, rfl⟩
theorem h_immPushWord (c : Int) (h0 : 0 ≤ c) (h1 : c ≤ 65535) (w : World) :
    Calls Tryz.prog 82 #[.int .u16 c] w fun e w' => e = .returned (.int .i64 (cPushW c)) ∧ w' = w := by
  have q := oc_immPushWord c h0 h1
  go_enter Tryz.func82, Tryz.ntmps82
  go_wp2
  go_ret
  exact ⟨rfl, rfl⟩
theorem h_immPushDouble (c : Int) (h0 : 0 ≤ c) (h1 : c ≤ 65535) (w : World) :
    Calls Tryz.prog 83 #[.int .u16 c] w fun e w' => e = .returned (.int .i64 (cPushD c)) ∧ w' = w := by
  have q := oc_immPushDouble c h0 h1
  go_enter Tryz.func83, Tryz.ntmps83
  go_wp2
  go_ret
  exact ⟨rfl, rfl⟩
theorem h_immJump (c : Int) (h0 : 0 ≤ c) (h1 : c ≤ 65535) (w : World) :
    Calls Tryz.prog 74 #[.int .u16 c] w fun e w' => e = .returned (.int .i64 (cJump c)) ∧ w' = w := by
  have q1 := oc_j1 c h0 h1
  have q2 := oc_j2 c h0 h1
  have q3 := oc_j3 c h0 h1
  have b0 : 0 ≤ cJump0 c := by unfold cJump0; omega
  have b1 : cJump0 c < 4096 := by unfold cJump0; omega
  go_enter Tryz.func74, Tryz.ntmps74
  go_wp2_with (first | (go_at_call 109; refine (hs_12 _ b0 b1 _).mono ?_; rintro e w' ⟨rfl, rfl⟩) | (go_at_call 45; go_in) | (go_at_call 48; go_in))
  go_ret
  exact ⟨rfl, rfl⟩
theorem h_small (c : Int) (h0 : 0 ≤ c) (h1 : c ≤ 65535) (w : World) :
    Calls Tryz.prog 70 #[.int .u16 c] w fun e w' => e = .returned (.int .i64 (cSmall c)) ∧ w' = w := by
  have b0 : 0 ≤ cAm c := by unfold cAm; omega
  have b1 : cAm c < 64 := by unfold cAm; omega
  go_enter Tryz.func70, Tryz.ntmps70
  go_wp2_with (first | (go_at_call 109; refine (hs_6 _ b0 b1 _).mono ?_; rintro e w' ⟨rfl, rfl⟩) | (go_at_call 77; refine (h_amount c h0 h1 _).mono ?_; rintro e w' ⟨rfl, rfl⟩))
  go_ret
  exact ⟨rfl, rfl⟩
end Go.Proofs.YtioodijiejipiaaGreatDoor
