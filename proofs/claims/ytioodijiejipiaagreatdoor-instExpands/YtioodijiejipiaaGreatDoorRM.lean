/- The reference's parts of a word: a number's low bits at a place; a number between two; f3 and f7 of an operation. -/
import Derived.Test.YtioodijiejipiaaGreatDoorRJ
import Derived.Deep.QuietTactic
import Derived.BigQuiet
namespace Go.Proofs.YtioodijiejipiaaGreatDoor
open Go.RowKit
set_option linter.unusedVariables false

/-- a number's low bits at a place -/
def at2 (v m k : Int) : Int := v % m * k
theorem tmod_e (v m : Int) (hm : 0 < m) : (0 ≤ v.tmod m ∧ v.tmod m = v % m) ∨ (v.tmod m < 0 ∧ v.tmod m = v % m - m) := by
  have e := Int.tmod_eq_emod (a := v) (b := m)
  have h1 := Int.emod_nonneg v (show m ≠ 0 by omega)
  have h2 := Int.emod_lt_of_pos v hm
  have h3 : (m.natAbs : Int) = m := by omega
  split at e
  · left; omega
  · right; omega

theorem p_5_7 (v : Int) (v0 : -9223372036854775808 ≤ v) (v1 : v < 9223372036854775808) (w : World) : Calls Tryz.prog 40 #[.int .i64 v, .int .i64 5, .int .i64 7] w fun e w' => e = .returned (.int .u32 (at2 v 32 128)) ∧ w' = w := by
  have ht := tmod_e v 32 (by omega)
  go_enter Tryz.func40, Tryz.ntmps40
  go_wp2
  all_goals
    go_ret
    exact ⟨ret_int (by unfold at2; omega), rfl⟩
theorem p_5_15 (v : Int) (v0 : -9223372036854775808 ≤ v) (v1 : v < 9223372036854775808) (w : World) : Calls Tryz.prog 40 #[.int .i64 v, .int .i64 5, .int .i64 15] w fun e w' => e = .returned (.int .u32 (at2 v 32 32768)) ∧ w' = w := by
  have ht := tmod_e v 32 (by omega)
  go_enter Tryz.func40, Tryz.ntmps40
  go_wp2
  all_goals
    go_ret
    exact ⟨ret_int (by unfold at2; omega), rfl⟩
theorem p_5_20 (v : Int) (v0 : -9223372036854775808 ≤ v) (v1 : v < 9223372036854775808) (w : World) : Calls Tryz.prog 40 #[.int .i64 v, .int .i64 5, .int .i64 20] w fun e w' => e = .returned (.int .u32 (at2 v 32 1048576)) ∧ w' = w := by
  have ht := tmod_e v 32 (by omega)
  go_enter Tryz.func40, Tryz.ntmps40
  go_wp2
  all_goals
    go_ret
    exact ⟨ret_int (by unfold at2; omega), rfl⟩
theorem p_1_31 (v : Int) (v0 : -9223372036854775808 ≤ v) (v1 : v < 9223372036854775808) (w : World) : Calls Tryz.prog 40 #[.int .i64 v, .int .i64 1, .int .i64 31] w fun e w' => e = .returned (.int .u32 (at2 v 2 2147483648)) ∧ w' = w := by
  have ht := tmod_e v 2 (by omega)
  go_enter Tryz.func40, Tryz.ntmps40
  go_wp2
  all_goals
    go_ret
    exact ⟨ret_int (by unfold at2; omega), rfl⟩
theorem p_1_7 (v : Int) (v0 : -9223372036854775808 ≤ v) (v1 : v < 9223372036854775808) (w : World) : Calls Tryz.prog 40 #[.int .i64 v, .int .i64 1, .int .i64 7] w fun e w' => e = .returned (.int .u32 (at2 v 2 128)) ∧ w' = w := by
  have ht := tmod_e v 2 (by omega)
  go_enter Tryz.func40, Tryz.ntmps40
  go_wp2
  all_goals
    go_ret
    exact ⟨ret_int (by unfold at2; omega), rfl⟩
theorem p_6_25 (v : Int) (v0 : -9223372036854775808 ≤ v) (v1 : v < 9223372036854775808) (w : World) : Calls Tryz.prog 40 #[.int .i64 v, .int .i64 6, .int .i64 25] w fun e w' => e = .returned (.int .u32 (at2 v 64 33554432)) ∧ w' = w := by
  have ht := tmod_e v 64 (by omega)
  go_enter Tryz.func40, Tryz.ntmps40
  go_wp2
  all_goals
    go_ret
    exact ⟨ret_int (by unfold at2; omega), rfl⟩
theorem p_4_8 (v : Int) (v0 : -9223372036854775808 ≤ v) (v1 : v < 9223372036854775808) (w : World) : Calls Tryz.prog 40 #[.int .i64 v, .int .i64 4, .int .i64 8] w fun e w' => e = .returned (.int .u32 (at2 v 16 256)) ∧ w' = w := by
  have ht := tmod_e v 16 (by omega)
  go_enter Tryz.func40, Tryz.ntmps40
  go_wp2
  all_goals
    go_ret
    exact ⟨ret_int (by unfold at2; omega), rfl⟩
theorem p_8_12 (v : Int) (v0 : -9223372036854775808 ≤ v) (v1 : v < 9223372036854775808) (w : World) : Calls Tryz.prog 40 #[.int .i64 v, .int .i64 8, .int .i64 12] w fun e w' => e = .returned (.int .u32 (at2 v 256 4096)) ∧ w' = w := by
  have ht := tmod_e v 256 (by omega)
  go_enter Tryz.func40, Tryz.ntmps40
  go_wp2
  all_goals
    go_ret
    exact ⟨ret_int (by unfold at2; omega), rfl⟩
theorem p_1_20 (v : Int) (v0 : -9223372036854775808 ≤ v) (v1 : v < 9223372036854775808) (w : World) : Calls Tryz.prog 40 #[.int .i64 v, .int .i64 1, .int .i64 20] w fun e w' => e = .returned (.int .u32 (at2 v 2 1048576)) ∧ w' = w := by
  have ht := tmod_e v 2 (by omega)
  go_enter Tryz.func40, Tryz.ntmps40
  go_wp2
  all_goals
    go_ret
    exact ⟨ret_int (by unfold at2; omega), rfl⟩
theorem p_10_21 (v : Int) (v0 : -9223372036854775808 ≤ v) (v1 : v < 9223372036854775808) (w : World) : Calls Tryz.prog 40 #[.int .i64 v, .int .i64 10, .int .i64 21] w fun e w' => e = .returned (.int .u32 (at2 v 1024 2097152)) ∧ w' = w := by
  have ht := tmod_e v 1024 (by omega)
  go_enter Tryz.func40, Tryz.ntmps40
  go_wp2
  all_goals
    go_ret
    exact ⟨ret_int (by unfold at2; omega), rfl⟩
theorem p_20_12 (v : Int) (v0 : -9223372036854775808 ≤ v) (v1 : v < 9223372036854775808) (w : World) : Calls Tryz.prog 40 #[.int .i64 v, .int .i64 20, .int .i64 12] w fun e w' => e = .returned (.int .u32 (at2 v 1048576 4096)) ∧ w' = w := by
  have ht := tmod_e v 1048576 (by omega)
  go_enter Tryz.func40, Tryz.ntmps40
  go_wp2
  all_goals
    go_ret
    exact ⟨ret_int (by unfold at2; omega), rfl⟩
theorem p_12_20 (v : Int) (v0 : -9223372036854775808 ≤ v) (v1 : v < 9223372036854775808) (w : World) : Calls Tryz.prog 40 #[.int .i64 v, .int .i64 12, .int .i64 20] w fun e w' => e = .returned (.int .u32 (at2 v 4096 1048576)) ∧ w' = w := by
  have ht := tmod_e v 4096 (by omega)
  go_enter Tryz.func40, Tryz.ntmps40
  go_wp2
  all_goals
    go_ret
    exact ⟨ret_int (by unfold at2; omega), rfl⟩
theorem p_3_12 (v : Int) (v0 : -9223372036854775808 ≤ v) (v1 : v < 9223372036854775808) (w : World) : Calls Tryz.prog 40 #[.int .i64 v, .int .i64 3, .int .i64 12] w fun e w' => e = .returned (.int .u32 (at2 v 8 4096)) ∧ w' = w := by
  have ht := tmod_e v 8 (by omega)
  go_enter Tryz.func40, Tryz.ntmps40
  go_wp2
  all_goals
    go_ret
    exact ⟨ret_int (by unfold at2; omega), rfl⟩
theorem p_7_25 (v : Int) (v0 : -9223372036854775808 ≤ v) (v1 : v < 9223372036854775808) (w : World) : Calls Tryz.prog 40 #[.int .i64 v, .int .i64 7, .int .i64 25] w fun e w' => e = .returned (.int .u32 (at2 v 128 33554432)) ∧ w' = w := by
  have ht := tmod_e v 128 (by omega)
  go_enter Tryz.func40, Tryz.ntmps40
  go_wp2
  all_goals
    go_ret
    exact ⟨ret_int (by unfold at2; omega), rfl⟩
theorem p_2_12 (v : Int) (v0 : -9223372036854775808 ≤ v) (v1 : v < 9223372036854775808) (w : World) : Calls Tryz.prog 40 #[.int .i64 v, .int .i64 2, .int .i64 12] w fun e w' => e = .returned (.int .u32 (at2 v 4 4096)) ∧ w' = w := by
  have ht := tmod_e v 4 (by omega)
  go_enter Tryz.func40, Tryz.ntmps40
  go_wp2
  all_goals
    go_ret
    exact ⟨ret_int (by unfold at2; omega), rfl⟩
theorem p_5_27 (v : Int) (v0 : -9223372036854775808 ≤ v) (v1 : v < 9223372036854775808) (w : World) : Calls Tryz.prog 40 #[.int .i64 v, .int .i64 5, .int .i64 27] w fun e w' => e = .returned (.int .u32 (at2 v 32 134217728)) ∧ w' = w := by
  have ht := tmod_e v 32 (by omega)
  go_enter Tryz.func40, Tryz.ntmps40
  go_wp2
  all_goals
    go_ret
    exact ⟨ret_int (by unfold at2; omega), rfl⟩
def inb (v l h : Int) : Bool := decide (l ≤ v) && decide (v ≤ h)
theorem r_in (v l h : Int) (w : World) : Calls Tryz.prog 26 #[.int .i64 v, .int .i64 l, .int .i64 h] w fun e w' => e = .returned (.bool (inb v l h)) ∧ w' = w := by
  by_cases p : l ≤ v
  · by_cases q : v ≤ h
    · rw [show inb v l h = true by unfold inb; rw [decide_eq_true p, decide_eq_true q]; rfl]
      go_enter Tryz.func26, Tryz.ntmps26
      go_wp2
      go_ret
      exact ⟨rfl, rfl⟩
    · rw [show inb v l h = false by unfold inb; rw [decide_eq_false q]; simp]
      go_enter Tryz.func26, Tryz.ntmps26
      go_wp2
      go_ret
      exact ⟨rfl, rfl⟩
  · rw [show inb v l h = false by unfold inb; rw [decide_eq_false p]; simp]
    go_enter Tryz.func26, Tryz.ntmps26
    go_wp2
    go_ret
    exact ⟨rfl, rfl⟩
end Go.Proofs.YtioodijiejipiaaGreatDoor
