/- What word.Alu answers, for every fn and all words; the world stands. -/
import Derived.Test.YtdpnojlmiopniabWords
namespace Go.Proofs.Ytdpnojlmiopniab
open Go.RowKit
set_option linter.unusedVariables false

theorem op_1 (w : World) :
    Calls Try.prog 14 #[.int .i64 1] w fun e w' => e = .returned (.func (.func 19) #[] #[]) ∧ w' = w := by
  go_enter Try.func14, Try.ntmps14
  go_wp2
  go_ret
  exact ⟨rfl, rfl⟩
theorem alu_1 (a b : Int) (h0 : 0 ≤ a) (h1 : a ≤ 18446744073709551615) (h2 : 0 ≤ b) (h3 : b ≤ 18446744073709551615) (w : World) :
    Calls Try.prog 10 #[.int .i64 1, .int .u64 a, .int .u64 b] w fun e w' => e = .returned (.int .u64 (wAdd a b)) ∧ w' = w := by
  go_enter Try.func10, Try.ntmps10
  go_wp2_with (first | (go_at_call 14; refine (op_1 _).mono ?_; rintro e w' ⟨rfl, rfl⟩) | (go_at_call 19; refine (m_add _ _ h0 h1 h2 h3 _).mono ?_; rintro e w' ⟨rfl, rfl⟩))
  go_ret
  exact ⟨rfl, rfl⟩
theorem op_2 (w : World) :
    Calls Try.prog 14 #[.int .i64 2] w fun e w' => e = .returned (.func (.func 20) #[] #[]) ∧ w' = w := by
  go_enter Try.func14, Try.ntmps14
  go_wp2
  go_ret
  exact ⟨rfl, rfl⟩
theorem alu_2 (a b : Int) (h0 : 0 ≤ a) (h1 : a ≤ 18446744073709551615) (h2 : 0 ≤ b) (h3 : b ≤ 18446744073709551615) (w : World) :
    Calls Try.prog 10 #[.int .i64 2, .int .u64 a, .int .u64 b] w fun e w' => e = .returned (.int .u64 (wSub a b)) ∧ w' = w := by
  go_enter Try.func10, Try.ntmps10
  go_wp2_with (first | (go_at_call 14; refine (op_2 _).mono ?_; rintro e w' ⟨rfl, rfl⟩) | (go_at_call 20; refine (m_sub _ _ h0 h1 h2 h3 _).mono ?_; rintro e w' ⟨rfl, rfl⟩))
  go_ret
  exact ⟨rfl, rfl⟩
theorem op_3 (w : World) :
    Calls Try.prog 14 #[.int .i64 3] w fun e w' => e = .returned (.func (.func 21) #[] #[]) ∧ w' = w := by
  go_enter Try.func14, Try.ntmps14
  go_wp2
  go_ret
  exact ⟨rfl, rfl⟩
theorem alu_3 (a b : Int) (h0 : 0 ≤ a) (h1 : a ≤ 18446744073709551615) (h2 : 0 ≤ b) (h3 : b ≤ 18446744073709551615) (w : World) :
    Calls Try.prog 10 #[.int .i64 3, .int .u64 a, .int .u64 b] w fun e w' => e = .returned (.int .u64 (wSll a b)) ∧ w' = w := by
  go_enter Try.func10, Try.ntmps10
  go_wp2_with (first | (go_at_call 14; refine (op_3 _).mono ?_; rintro e w' ⟨rfl, rfl⟩) | (go_at_call 21; refine (m_sll _ _ h0 h1 h2 h3 _).mono ?_; rintro e w' ⟨rfl, rfl⟩))
  go_ret
  exact ⟨rfl, rfl⟩
theorem op_4 (w : World) :
    Calls Try.prog 14 #[.int .i64 4] w fun e w' => e = .returned (.func (.func 22) #[] #[]) ∧ w' = w := by
  go_enter Try.func14, Try.ntmps14
  go_wp2
  go_ret
  exact ⟨rfl, rfl⟩
theorem alu_4 (a b : Int) (h0 : 0 ≤ a) (h1 : a ≤ 18446744073709551615) (h2 : 0 ≤ b) (h3 : b ≤ 18446744073709551615) (w : World) :
    Calls Try.prog 10 #[.int .i64 4, .int .u64 a, .int .u64 b] w fun e w' => e = .returned (.int .u64 (wSlt a b)) ∧ w' = w := by
  go_enter Try.func10, Try.ntmps10
  go_wp2_with (first | (go_at_call 14; refine (op_4 _).mono ?_; rintro e w' ⟨rfl, rfl⟩) | (go_at_call 22; refine (m_slt _ _ h0 h1 h2 h3 _).mono ?_; rintro e w' ⟨rfl, rfl⟩))
  go_ret
  exact ⟨rfl, rfl⟩
theorem op_5 (w : World) :
    Calls Try.prog 14 #[.int .i64 5] w fun e w' => e = .returned (.func (.func 23) #[] #[]) ∧ w' = w := by
  go_enter Try.func14, Try.ntmps14
  go_wp2
  go_ret
  exact ⟨rfl, rfl⟩
theorem alu_5 (a b : Int) (h0 : 0 ≤ a) (h1 : a ≤ 18446744073709551615) (h2 : 0 ≤ b) (h3 : b ≤ 18446744073709551615) (w : World) :
    Calls Try.prog 10 #[.int .i64 5, .int .u64 a, .int .u64 b] w fun e w' => e = .returned (.int .u64 (wSltu a b)) ∧ w' = w := by
  go_enter Try.func10, Try.ntmps10
  go_wp2_with (first | (go_at_call 14; refine (op_5 _).mono ?_; rintro e w' ⟨rfl, rfl⟩) | (go_at_call 23; refine (m_sltu _ _ h0 h1 h2 h3 _).mono ?_; rintro e w' ⟨rfl, rfl⟩))
  go_ret
  exact ⟨rfl, rfl⟩
theorem op_6 (w : World) :
    Calls Try.prog 14 #[.int .i64 6] w fun e w' => e = .returned (.func (.func 24) #[] #[]) ∧ w' = w := by
  go_enter Try.func14, Try.ntmps14
  go_wp2
  go_ret
  exact ⟨rfl, rfl⟩
theorem alu_6 (a b : Int) (h0 : 0 ≤ a) (h1 : a ≤ 18446744073709551615) (h2 : 0 ≤ b) (h3 : b ≤ 18446744073709551615) (w : World) :
    Calls Try.prog 10 #[.int .i64 6, .int .u64 a, .int .u64 b] w fun e w' => e = .returned (.int .u64 (wXor a b)) ∧ w' = w := by
  go_enter Try.func10, Try.ntmps10
  go_wp2_with (first | (go_at_call 14; refine (op_6 _).mono ?_; rintro e w' ⟨rfl, rfl⟩) | (go_at_call 24; refine (m_xor _ _ h0 h1 h2 h3 _).mono ?_; rintro e w' ⟨rfl, rfl⟩))
  go_ret
  exact ⟨rfl, rfl⟩
theorem op_7 (w : World) :
    Calls Try.prog 14 #[.int .i64 7] w fun e w' => e = .returned (.func (.func 25) #[] #[]) ∧ w' = w := by
  go_enter Try.func14, Try.ntmps14
  go_wp2
  go_ret
  exact ⟨rfl, rfl⟩
theorem alu_7 (a b : Int) (h0 : 0 ≤ a) (h1 : a ≤ 18446744073709551615) (h2 : 0 ≤ b) (h3 : b ≤ 18446744073709551615) (w : World) :
    Calls Try.prog 10 #[.int .i64 7, .int .u64 a, .int .u64 b] w fun e w' => e = .returned (.int .u64 (wSrl a b)) ∧ w' = w := by
  go_enter Try.func10, Try.ntmps10
  go_wp2_with (first | (go_at_call 14; refine (op_7 _).mono ?_; rintro e w' ⟨rfl, rfl⟩) | (go_at_call 25; refine (m_srl _ _ h0 h1 h2 h3 _).mono ?_; rintro e w' ⟨rfl, rfl⟩))
  go_ret
  exact ⟨rfl, rfl⟩
theorem op_8 (w : World) :
    Calls Try.prog 14 #[.int .i64 8] w fun e w' => e = .returned (.func (.func 26) #[] #[]) ∧ w' = w := by
  go_enter Try.func14, Try.ntmps14
  go_wp2
  go_ret
  exact ⟨rfl, rfl⟩
theorem alu_8 (a b : Int) (h0 : 0 ≤ a) (h1 : a ≤ 18446744073709551615) (h2 : 0 ≤ b) (h3 : b ≤ 18446744073709551615) (w : World) :
    Calls Try.prog 10 #[.int .i64 8, .int .u64 a, .int .u64 b] w fun e w' => e = .returned (.int .u64 (wSra a b)) ∧ w' = w := by
  go_enter Try.func10, Try.ntmps10
  go_wp2_with (first | (go_at_call 14; refine (op_8 _).mono ?_; rintro e w' ⟨rfl, rfl⟩) | (go_at_call 26; refine (m_sra _ _ h0 h1 h2 h3 _).mono ?_; rintro e w' ⟨rfl, rfl⟩))
  go_ret
  exact ⟨rfl, rfl⟩
theorem op_9 (w : World) :
    Calls Try.prog 14 #[.int .i64 9] w fun e w' => e = .returned (.func (.func 27) #[] #[]) ∧ w' = w := by
  go_enter Try.func14, Try.ntmps14
  go_wp2
  go_ret
  exact ⟨rfl, rfl⟩
theorem alu_9 (a b : Int) (h0 : 0 ≤ a) (h1 : a ≤ 18446744073709551615) (h2 : 0 ≤ b) (h3 : b ≤ 18446744073709551615) (w : World) :
    Calls Try.prog 10 #[.int .i64 9, .int .u64 a, .int .u64 b] w fun e w' => e = .returned (.int .u64 (wOr a b)) ∧ w' = w := by
  go_enter Try.func10, Try.ntmps10
  go_wp2_with (first | (go_at_call 14; refine (op_9 _).mono ?_; rintro e w' ⟨rfl, rfl⟩) | (go_at_call 27; refine (m_or _ _ h0 h1 h2 h3 _).mono ?_; rintro e w' ⟨rfl, rfl⟩))
  go_ret
  exact ⟨rfl, rfl⟩
theorem op_10 (w : World) :
    Calls Try.prog 14 #[.int .i64 10] w fun e w' => e = .returned (.func (.func 28) #[] #[]) ∧ w' = w := by
  go_enter Try.func14, Try.ntmps14
  go_wp2
  go_ret
  exact ⟨rfl, rfl⟩
theorem alu_10 (a b : Int) (h0 : 0 ≤ a) (h1 : a ≤ 18446744073709551615) (h2 : 0 ≤ b) (h3 : b ≤ 18446744073709551615) (w : World) :
    Calls Try.prog 10 #[.int .i64 10, .int .u64 a, .int .u64 b] w fun e w' => e = .returned (.int .u64 (wAnd a b)) ∧ w' = w := by
  go_enter Try.func10, Try.ntmps10
  go_wp2_with (first | (go_at_call 14; refine (op_10 _).mono ?_; rintro e w' ⟨rfl, rfl⟩) | (go_at_call 28; refine (m_and _ _ h0 h1 h2 h3 _).mono ?_; rintro e w' ⟨rfl, rfl⟩))
  go_ret
  exact ⟨rfl, rfl⟩
theorem op_11 (w : World) :
    Calls Try.prog 14 #[.int .i64 11] w fun e w' => e = .returned (.func (.func 29) #[] #[]) ∧ w' = w := by
  go_enter Try.func14, Try.ntmps14
  go_wp2
  go_ret
  exact ⟨rfl, rfl⟩
theorem alu_11 (a b : Int) (h0 : 0 ≤ a) (h1 : a ≤ 18446744073709551615) (h2 : 0 ≤ b) (h3 : b ≤ 18446744073709551615) (w : World) :
    Calls Try.prog 10 #[.int .i64 11, .int .u64 a, .int .u64 b] w fun e w' => e = .returned (.int .u64 (wMul a b)) ∧ w' = w := by
  go_enter Try.func10, Try.ntmps10
  go_wp2_with (first | (go_at_call 14; refine (op_11 _).mono ?_; rintro e w' ⟨rfl, rfl⟩) | (go_at_call 29; refine (m_mul _ _ h0 h1 h2 h3 _).mono ?_; rintro e w' ⟨rfl, rfl⟩))
  go_ret
  exact ⟨rfl, rfl⟩
theorem op_12 (w : World) :
    Calls Try.prog 14 #[.int .i64 12] w fun e w' => e = .returned (.func (.func 30) #[] #[]) ∧ w' = w := by
  go_enter Try.func14, Try.ntmps14
  go_wp2
  go_ret
  exact ⟨rfl, rfl⟩
theorem alu_12 (a b : Int) (h0 : 0 ≤ a) (h1 : a ≤ 18446744073709551615) (h2 : 0 ≤ b) (h3 : b ≤ 18446744073709551615) (w : World) :
    Calls Try.prog 10 #[.int .i64 12, .int .u64 a, .int .u64 b] w fun e w' => e = .returned (.int .u64 (wMulh a b)) ∧ w' = w := by
  go_enter Try.func10, Try.ntmps10
  go_wp2_with (first | (go_at_call 14; refine (op_12 _).mono ?_; rintro e w' ⟨rfl, rfl⟩) | (go_at_call 30; refine (m_mulh _ _ h0 h1 h2 h3 _).mono ?_; rintro e w' ⟨rfl, rfl⟩))
  go_ret
  exact ⟨rfl, rfl⟩
theorem op_13 (w : World) :
    Calls Try.prog 14 #[.int .i64 13] w fun e w' => e = .returned (.func (.func 31) #[] #[]) ∧ w' = w := by
  go_enter Try.func14, Try.ntmps14
  go_wp2
  go_ret
  exact ⟨rfl, rfl⟩
theorem alu_13 (a b : Int) (h0 : 0 ≤ a) (h1 : a ≤ 18446744073709551615) (h2 : 0 ≤ b) (h3 : b ≤ 18446744073709551615) (w : World) :
    Calls Try.prog 10 #[.int .i64 13, .int .u64 a, .int .u64 b] w fun e w' => e = .returned (.int .u64 (wMulhsu a b)) ∧ w' = w := by
  go_enter Try.func10, Try.ntmps10
  go_wp2_with (first | (go_at_call 14; refine (op_13 _).mono ?_; rintro e w' ⟨rfl, rfl⟩) | (go_at_call 31; refine (m_mulhsu _ _ h0 h1 h2 h3 _).mono ?_; rintro e w' ⟨rfl, rfl⟩))
  go_ret
  exact ⟨rfl, rfl⟩
theorem op_14 (w : World) :
    Calls Try.prog 14 #[.int .i64 14] w fun e w' => e = .returned (.func (.func 32) #[] #[]) ∧ w' = w := by
  go_enter Try.func14, Try.ntmps14
  go_wp2
  go_ret
  exact ⟨rfl, rfl⟩
theorem alu_14 (a b : Int) (h0 : 0 ≤ a) (h1 : a ≤ 18446744073709551615) (h2 : 0 ≤ b) (h3 : b ≤ 18446744073709551615) (w : World) :
    Calls Try.prog 10 #[.int .i64 14, .int .u64 a, .int .u64 b] w fun e w' => e = .returned (.int .u64 (wMulhu a b)) ∧ w' = w := by
  go_enter Try.func10, Try.ntmps10
  go_wp2_with (first | (go_at_call 14; refine (op_14 _).mono ?_; rintro e w' ⟨rfl, rfl⟩) | (go_at_call 32; refine (m_mulhu _ _ h0 h1 h2 h3 _).mono ?_; rintro e w' ⟨rfl, rfl⟩))
  go_ret
  exact ⟨rfl, rfl⟩
theorem op_15 (w : World) :
    Calls Try.prog 14 #[.int .i64 15] w fun e w' => e = .returned (.func (.func 33) #[] #[]) ∧ w' = w := by
  go_enter Try.func14, Try.ntmps14
  go_wp2
  go_ret
  exact ⟨rfl, rfl⟩
theorem alu_15 (a b : Int) (h0 : 0 ≤ a) (h1 : a ≤ 18446744073709551615) (h2 : 0 ≤ b) (h3 : b ≤ 18446744073709551615) (w : World) :
    Calls Try.prog 10 #[.int .i64 15, .int .u64 a, .int .u64 b] w fun e w' => e = .returned (.int .u64 (wDiv a b)) ∧ w' = w := by
  go_enter Try.func10, Try.ntmps10
  go_wp2_with (first | (go_at_call 14; refine (op_15 _).mono ?_; rintro e w' ⟨rfl, rfl⟩) | (go_at_call 33; refine (m_div _ _ h0 h1 h2 h3 _).mono ?_; rintro e w' ⟨rfl, rfl⟩))
  go_ret
  exact ⟨rfl, rfl⟩
theorem op_16 (w : World) :
    Calls Try.prog 14 #[.int .i64 16] w fun e w' => e = .returned (.func (.func 34) #[] #[]) ∧ w' = w := by
  go_enter Try.func14, Try.ntmps14
  go_wp2
  go_ret
  exact ⟨rfl, rfl⟩
theorem alu_16 (a b : Int) (h0 : 0 ≤ a) (h1 : a ≤ 18446744073709551615) (h2 : 0 ≤ b) (h3 : b ≤ 18446744073709551615) (w : World) :
    Calls Try.prog 10 #[.int .i64 16, .int .u64 a, .int .u64 b] w fun e w' => e = .returned (.int .u64 (wDivu a b)) ∧ w' = w := by
  go_enter Try.func10, Try.ntmps10
  go_wp2_with (first | (go_at_call 14; refine (op_16 _).mono ?_; rintro e w' ⟨rfl, rfl⟩) | (go_at_call 34; refine (m_divu _ _ h0 h1 h2 h3 _).mono ?_; rintro e w' ⟨rfl, rfl⟩))
  go_ret
  exact ⟨rfl, rfl⟩
theorem op_17 (w : World) :
    Calls Try.prog 14 #[.int .i64 17] w fun e w' => e = .returned (.func (.func 35) #[] #[]) ∧ w' = w := by
  go_enter Try.func14, Try.ntmps14
  go_wp2
  go_ret
  exact ⟨rfl, rfl⟩
theorem alu_17 (a b : Int) (h0 : 0 ≤ a) (h1 : a ≤ 18446744073709551615) (h2 : 0 ≤ b) (h3 : b ≤ 18446744073709551615) (w : World) :
    Calls Try.prog 10 #[.int .i64 17, .int .u64 a, .int .u64 b] w fun e w' => e = .returned (.int .u64 (wRem a b)) ∧ w' = w := by
  go_enter Try.func10, Try.ntmps10
  go_wp2_with (first | (go_at_call 14; refine (op_17 _).mono ?_; rintro e w' ⟨rfl, rfl⟩) | (go_at_call 35; refine (m_rem _ _ h0 h1 h2 h3 _).mono ?_; rintro e w' ⟨rfl, rfl⟩))
  go_ret
  exact ⟨rfl, rfl⟩
theorem op_18 (w : World) :
    Calls Try.prog 14 #[.int .i64 18] w fun e w' => e = .returned (.func (.func 36) #[] #[]) ∧ w' = w := by
  go_enter Try.func14, Try.ntmps14
  go_wp2
  go_ret
  exact ⟨rfl, rfl⟩
theorem alu_18 (a b : Int) (h0 : 0 ≤ a) (h1 : a ≤ 18446744073709551615) (h2 : 0 ≤ b) (h3 : b ≤ 18446744073709551615) (w : World) :
    Calls Try.prog 10 #[.int .i64 18, .int .u64 a, .int .u64 b] w fun e w' => e = .returned (.int .u64 (wRemu a b)) ∧ w' = w := by
  go_enter Try.func10, Try.ntmps10
  go_wp2_with (first | (go_at_call 14; refine (op_18 _).mono ?_; rintro e w' ⟨rfl, rfl⟩) | (go_at_call 36; refine (m_remu _ _ h0 h1 h2 h3 _).mono ?_; rintro e w' ⟨rfl, rfl⟩))
  go_ret
  exact ⟨rfl, rfl⟩
theorem op_19 (w : World) :
    Calls Try.prog 14 #[.int .i64 19] w fun e w' => e = .returned (.func (.func 54) #[] #[]) ∧ w' = w := by
  go_enter Try.func14, Try.ntmps14
  go_wp2
  go_ret
  exact ⟨rfl, rfl⟩
theorem alu_19 (a b : Int) (h0 : 0 ≤ a) (h1 : a ≤ 18446744073709551615) (h2 : 0 ≤ b) (h3 : b ≤ 18446744073709551615) (w : World) :
    Calls Try.prog 10 #[.int .i64 19, .int .u64 a, .int .u64 b] w fun e w' => e = .returned (.int .u64 (wAddw a b)) ∧ w' = w := by
  go_enter Try.func10, Try.ntmps10
  go_wp2_with (first | (go_at_call 14; refine (op_19 _).mono ?_; rintro e w' ⟨rfl, rfl⟩) | (go_at_call 54; refine (m_addw _ _ h0 h1 h2 h3 _).mono ?_; rintro e w' ⟨rfl, rfl⟩))
  go_ret
  exact ⟨rfl, rfl⟩
theorem op_20 (w : World) :
    Calls Try.prog 14 #[.int .i64 20] w fun e w' => e = .returned (.func (.func 55) #[] #[]) ∧ w' = w := by
  go_enter Try.func14, Try.ntmps14
  go_wp2
  go_ret
  exact ⟨rfl, rfl⟩
theorem alu_20 (a b : Int) (h0 : 0 ≤ a) (h1 : a ≤ 18446744073709551615) (h2 : 0 ≤ b) (h3 : b ≤ 18446744073709551615) (w : World) :
    Calls Try.prog 10 #[.int .i64 20, .int .u64 a, .int .u64 b] w fun e w' => e = .returned (.int .u64 (wSubw a b)) ∧ w' = w := by
  go_enter Try.func10, Try.ntmps10
  go_wp2_with (first | (go_at_call 14; refine (op_20 _).mono ?_; rintro e w' ⟨rfl, rfl⟩) | (go_at_call 55; refine (m_subw _ _ h0 h1 h2 h3 _).mono ?_; rintro e w' ⟨rfl, rfl⟩))
  go_ret
  exact ⟨rfl, rfl⟩
theorem op_21 (w : World) :
    Calls Try.prog 14 #[.int .i64 21] w fun e w' => e = .returned (.func (.func 56) #[] #[]) ∧ w' = w := by
  go_enter Try.func14, Try.ntmps14
  go_wp2
  go_ret
  exact ⟨rfl, rfl⟩
theorem alu_21 (a b : Int) (h0 : 0 ≤ a) (h1 : a ≤ 18446744073709551615) (h2 : 0 ≤ b) (h3 : b ≤ 18446744073709551615) (w : World) :
    Calls Try.prog 10 #[.int .i64 21, .int .u64 a, .int .u64 b] w fun e w' => e = .returned (.int .u64 (wSllw a b)) ∧ w' = w := by
  go_enter Try.func10, Try.ntmps10
  go_wp2_with (first | (go_at_call 14; refine (op_21 _).mono ?_; rintro e w' ⟨rfl, rfl⟩) | (go_at_call 56; refine (m_sllw _ _ h0 h1 h2 h3 _).mono ?_; rintro e w' ⟨rfl, rfl⟩))
  go_ret
  exact ⟨rfl, rfl⟩
theorem op_22 (w : World) :
    Calls Try.prog 14 #[.int .i64 22] w fun e w' => e = .returned (.func (.func 57) #[] #[]) ∧ w' = w := by
  go_enter Try.func14, Try.ntmps14
  go_wp2
  go_ret
  exact ⟨rfl, rfl⟩
theorem alu_22 (a b : Int) (h0 : 0 ≤ a) (h1 : a ≤ 18446744073709551615) (h2 : 0 ≤ b) (h3 : b ≤ 18446744073709551615) (w : World) :
    Calls Try.prog 10 #[.int .i64 22, .int .u64 a, .int .u64 b] w fun e w' => e = .returned (.int .u64 (wSrlw a b)) ∧ w' = w := by
  go_enter Try.func10, Try.ntmps10
  go_wp2_with (first | (go_at_call 14; refine (op_22 _).mono ?_; rintro e w' ⟨rfl, rfl⟩) | (go_at_call 57; refine (m_srlw _ _ h0 h1 h2 h3 _).mono ?_; rintro e w' ⟨rfl, rfl⟩))
  go_ret
  exact ⟨rfl, rfl⟩
theorem op_23 (w : World) :
    Calls Try.prog 14 #[.int .i64 23] w fun e w' => e = .returned (.func (.func 58) #[] #[]) ∧ w' = w := by
  go_enter Try.func14, Try.ntmps14
  go_wp2
  go_ret
  exact ⟨rfl, rfl⟩
theorem alu_23 (a b : Int) (h0 : 0 ≤ a) (h1 : a ≤ 18446744073709551615) (h2 : 0 ≤ b) (h3 : b ≤ 18446744073709551615) (w : World) :
    Calls Try.prog 10 #[.int .i64 23, .int .u64 a, .int .u64 b] w fun e w' => e = .returned (.int .u64 (wSraw a b)) ∧ w' = w := by
  go_enter Try.func10, Try.ntmps10
  go_wp2_with (first | (go_at_call 14; refine (op_23 _).mono ?_; rintro e w' ⟨rfl, rfl⟩) | (go_at_call 58; refine (m_sraw _ _ h0 h1 h2 h3 _).mono ?_; rintro e w' ⟨rfl, rfl⟩))
  go_ret
  exact ⟨rfl, rfl⟩
theorem op_24 (w : World) :
    Calls Try.prog 14 #[.int .i64 24] w fun e w' => e = .returned (.func (.func 59) #[] #[]) ∧ w' = w := by
  go_enter Try.func14, Try.ntmps14
  go_wp2
  go_ret
  exact ⟨rfl, rfl⟩
theorem alu_24 (a b : Int) (h0 : 0 ≤ a) (h1 : a ≤ 18446744073709551615) (h2 : 0 ≤ b) (h3 : b ≤ 18446744073709551615) (w : World) :
    Calls Try.prog 10 #[.int .i64 24, .int .u64 a, .int .u64 b] w fun e w' => e = .returned (.int .u64 (wMulw a b)) ∧ w' = w := by
  go_enter Try.func10, Try.ntmps10
  go_wp2_with (first | (go_at_call 14; refine (op_24 _).mono ?_; rintro e w' ⟨rfl, rfl⟩) | (go_at_call 59; refine (m_mulw _ _ h0 h1 h2 h3 _).mono ?_; rintro e w' ⟨rfl, rfl⟩))
  go_ret
  exact ⟨rfl, rfl⟩
theorem op_25 (w : World) :
    Calls Try.prog 14 #[.int .i64 25] w fun e w' => e = .returned (.func (.func 60) #[] #[]) ∧ w' = w := by
  go_enter Try.func14, Try.ntmps14
  go_wp2
  go_ret
  exact ⟨rfl, rfl⟩
theorem alu_25 (a b : Int) (h0 : 0 ≤ a) (h1 : a ≤ 18446744073709551615) (h2 : 0 ≤ b) (h3 : b ≤ 18446744073709551615) (w : World) :
    Calls Try.prog 10 #[.int .i64 25, .int .u64 a, .int .u64 b] w fun e w' => e = .returned (.int .u64 (wDivw a b)) ∧ w' = w := by
  go_enter Try.func10, Try.ntmps10
  go_wp2_with (first | (go_at_call 14; refine (op_25 _).mono ?_; rintro e w' ⟨rfl, rfl⟩) | (go_at_call 60; refine (m_divw _ _ h0 h1 h2 h3 _).mono ?_; rintro e w' ⟨rfl, rfl⟩))
  go_ret
  exact ⟨rfl, rfl⟩
theorem op_26 (w : World) :
    Calls Try.prog 14 #[.int .i64 26] w fun e w' => e = .returned (.func (.func 61) #[] #[]) ∧ w' = w := by
  go_enter Try.func14, Try.ntmps14
  go_wp2
  go_ret
  exact ⟨rfl, rfl⟩
theorem alu_26 (a b : Int) (h0 : 0 ≤ a) (h1 : a ≤ 18446744073709551615) (h2 : 0 ≤ b) (h3 : b ≤ 18446744073709551615) (w : World) :
    Calls Try.prog 10 #[.int .i64 26, .int .u64 a, .int .u64 b] w fun e w' => e = .returned (.int .u64 (wDivuw a b)) ∧ w' = w := by
  go_enter Try.func10, Try.ntmps10
  go_wp2_with (first | (go_at_call 14; refine (op_26 _).mono ?_; rintro e w' ⟨rfl, rfl⟩) | (go_at_call 61; refine (m_divuw _ _ h0 h1 h2 h3 _).mono ?_; rintro e w' ⟨rfl, rfl⟩))
  go_ret
  exact ⟨rfl, rfl⟩
theorem op_27 (w : World) :
    Calls Try.prog 14 #[.int .i64 27] w fun e w' => e = .returned (.func (.func 62) #[] #[]) ∧ w' = w := by
  go_enter Try.func14, Try.ntmps14
  go_wp2
  go_ret
  exact ⟨rfl, rfl⟩
theorem alu_27 (a b : Int) (h0 : 0 ≤ a) (h1 : a ≤ 18446744073709551615) (h2 : 0 ≤ b) (h3 : b ≤ 18446744073709551615) (w : World) :
    Calls Try.prog 10 #[.int .i64 27, .int .u64 a, .int .u64 b] w fun e w' => e = .returned (.int .u64 (wRemw a b)) ∧ w' = w := by
  go_enter Try.func10, Try.ntmps10
  go_wp2_with (first | (go_at_call 14; refine (op_27 _).mono ?_; rintro e w' ⟨rfl, rfl⟩) | (go_at_call 62; refine (m_remw _ _ h0 h1 h2 h3 _).mono ?_; rintro e w' ⟨rfl, rfl⟩))
  go_ret
  exact ⟨rfl, rfl⟩
theorem op_28 (w : World) :
    Calls Try.prog 14 #[.int .i64 28] w fun e w' => e = .returned (.func (.func 63) #[] #[]) ∧ w' = w := by
  go_enter Try.func14, Try.ntmps14
  go_wp2
  go_ret
  exact ⟨rfl, rfl⟩
theorem alu_28 (a b : Int) (h0 : 0 ≤ a) (h1 : a ≤ 18446744073709551615) (h2 : 0 ≤ b) (h3 : b ≤ 18446744073709551615) (w : World) :
    Calls Try.prog 10 #[.int .i64 28, .int .u64 a, .int .u64 b] w fun e w' => e = .returned (.int .u64 (wRemuw a b)) ∧ w' = w := by
  go_enter Try.func10, Try.ntmps10
  go_wp2_with (first | (go_at_call 14; refine (op_28 _).mono ?_; rintro e w' ⟨rfl, rfl⟩) | (go_at_call 63; refine (m_remuw _ _ h0 h1 h2 h3 _).mono ?_; rintro e w' ⟨rfl, rfl⟩))
  go_ret
  exact ⟨rfl, rfl⟩
theorem alu_none (fn a b : Int) (h0 : 0 ≤ a) (h1 : a ≤ 18446744073709551615) (h2 : 0 ≤ b) (h3 : b ≤ 18446744073709551615) (w : World) (e1 : ¬ fn = 1) (e2 : ¬ fn = 2) (e3 : ¬ fn = 3) (e4 : ¬ fn = 4) (e5 : ¬ fn = 5) (e6 : ¬ fn = 6) (e7 : ¬ fn = 7) (e8 : ¬ fn = 8) (e9 : ¬ fn = 9) (e10 : ¬ fn = 10) (e11 : ¬ fn = 11) (e12 : ¬ fn = 12) (e13 : ¬ fn = 13) (e14 : ¬ fn = 14) (e15 : ¬ fn = 15) (e16 : ¬ fn = 16) (e17 : ¬ fn = 17) (e18 : ¬ fn = 18) (e19 : ¬ fn = 19) (e20 : ¬ fn = 20) (e21 : ¬ fn = 21) (e22 : ¬ fn = 22) (e23 : ¬ fn = 23) (e24 : ¬ fn = 24) (e25 : ¬ fn = 25) (e26 : ¬ fn = 26) (e27 : ¬ fn = 27) (e28 : ¬ fn = 28) :
    Calls Try.prog 10 #[.int .i64 fn, .int .u64 a, .int .u64 b] w fun e w' => e = .returned (.int .u64 0) ∧ w' = w := by
  have d1 : (fn == 1) = false := by simpa using e1
  have d2 : (fn == 2) = false := by simpa using e2
  have d3 : (fn == 3) = false := by simpa using e3
  have d4 : (fn == 4) = false := by simpa using e4
  have d5 : (fn == 5) = false := by simpa using e5
  have d6 : (fn == 6) = false := by simpa using e6
  have d7 : (fn == 7) = false := by simpa using e7
  have d8 : (fn == 8) = false := by simpa using e8
  have d9 : (fn == 9) = false := by simpa using e9
  have d10 : (fn == 10) = false := by simpa using e10
  have d11 : (fn == 11) = false := by simpa using e11
  have d12 : (fn == 12) = false := by simpa using e12
  have d13 : (fn == 13) = false := by simpa using e13
  have d14 : (fn == 14) = false := by simpa using e14
  have d15 : (fn == 15) = false := by simpa using e15
  have d16 : (fn == 16) = false := by simpa using e16
  have d17 : (fn == 17) = false := by simpa using e17
  have d18 : (fn == 18) = false := by simpa using e18
  have d19 : (fn == 19) = false := by simpa using e19
  have d20 : (fn == 20) = false := by simpa using e20
  have d21 : (fn == 21) = false := by simpa using e21
  have d22 : (fn == 22) = false := by simpa using e22
  have d23 : (fn == 23) = false := by simpa using e23
  have d24 : (fn == 24) = false := by simpa using e24
  have d25 : (fn == 25) = false := by simpa using e25
  have d26 : (fn == 26) = false := by simpa using e26
  have d27 : (fn == 27) = false := by simpa using e27
  have d28 : (fn == 28) = false := by simpa using e28
  go_enter Try.func10, Try.ntmps10
  go_wp2
  go_ret
  exact ⟨rfl, rfl⟩
theorem alu_off (fn a b : Int) (e1 : ¬ fn = 1) (e2 : ¬ fn = 2) (e3 : ¬ fn = 3) (e4 : ¬ fn = 4) (e5 : ¬ fn = 5) (e6 : ¬ fn = 6) (e7 : ¬ fn = 7) (e8 : ¬ fn = 8) (e9 : ¬ fn = 9) (e10 : ¬ fn = 10) (e11 : ¬ fn = 11) (e12 : ¬ fn = 12) (e13 : ¬ fn = 13) (e14 : ¬ fn = 14) (e15 : ¬ fn = 15) (e16 : ¬ fn = 16) (e17 : ¬ fn = 17) (e18 : ¬ fn = 18) (e19 : ¬ fn = 19) (e20 : ¬ fn = 20) (e21 : ¬ fn = 21) (e22 : ¬ fn = 22) (e23 : ¬ fn = 23) (e24 : ¬ fn = 24) (e25 : ¬ fn = 25) (e26 : ¬ fn = 26) (e27 : ¬ fn = 27) (e28 : ¬ fn = 28) : alu fn a b = 0 := by
  unfold alu
  rw [if_neg e1, if_neg e2, if_neg e3, if_neg e4, if_neg e5, if_neg e6, if_neg e7, if_neg e8, if_neg e9, if_neg e10, if_neg e11, if_neg e12, if_neg e13, if_neg e14, if_neg e15, if_neg e16, if_neg e17, if_neg e18, if_neg e19, if_neg e20, if_neg e21, if_neg e22, if_neg e23, if_neg e24, if_neg e25, if_neg e26, if_neg e27, if_neg e28]
theorem m_Alu (fn a b : Int) (h0 : 0 ≤ a) (h1 : a ≤ 18446744073709551615) (h2 : 0 ≤ b) (h3 : b ≤ 18446744073709551615) (w : World) :
    Calls Try.prog 10 #[.int .i64 fn, .int .u64 a, .int .u64 b] w fun e w' => e = .returned (.int .u64 (alu fn a b)) ∧ w' = w := by
  by_cases e1 : fn = 1
  · subst e1; exact alu_1 a b h0 h1 h2 h3 w
  by_cases e2 : fn = 2
  · subst e2; exact alu_2 a b h0 h1 h2 h3 w
  by_cases e3 : fn = 3
  · subst e3; exact alu_3 a b h0 h1 h2 h3 w
  by_cases e4 : fn = 4
  · subst e4; exact alu_4 a b h0 h1 h2 h3 w
  by_cases e5 : fn = 5
  · subst e5; exact alu_5 a b h0 h1 h2 h3 w
  by_cases e6 : fn = 6
  · subst e6; exact alu_6 a b h0 h1 h2 h3 w
  by_cases e7 : fn = 7
  · subst e7; exact alu_7 a b h0 h1 h2 h3 w
  by_cases e8 : fn = 8
  · subst e8; exact alu_8 a b h0 h1 h2 h3 w
  by_cases e9 : fn = 9
  · subst e9; exact alu_9 a b h0 h1 h2 h3 w
  by_cases e10 : fn = 10
  · subst e10; exact alu_10 a b h0 h1 h2 h3 w
  by_cases e11 : fn = 11
  · subst e11; exact alu_11 a b h0 h1 h2 h3 w
  by_cases e12 : fn = 12
  · subst e12; exact alu_12 a b h0 h1 h2 h3 w
  by_cases e13 : fn = 13
  · subst e13; exact alu_13 a b h0 h1 h2 h3 w
  by_cases e14 : fn = 14
  · subst e14; exact alu_14 a b h0 h1 h2 h3 w
  by_cases e15 : fn = 15
  · subst e15; exact alu_15 a b h0 h1 h2 h3 w
  by_cases e16 : fn = 16
  · subst e16; exact alu_16 a b h0 h1 h2 h3 w
  by_cases e17 : fn = 17
  · subst e17; exact alu_17 a b h0 h1 h2 h3 w
  by_cases e18 : fn = 18
  · subst e18; exact alu_18 a b h0 h1 h2 h3 w
  by_cases e19 : fn = 19
  · subst e19; exact alu_19 a b h0 h1 h2 h3 w
  by_cases e20 : fn = 20
  · subst e20; exact alu_20 a b h0 h1 h2 h3 w
  by_cases e21 : fn = 21
  · subst e21; exact alu_21 a b h0 h1 h2 h3 w
  by_cases e22 : fn = 22
  · subst e22; exact alu_22 a b h0 h1 h2 h3 w
  by_cases e23 : fn = 23
  · subst e23; exact alu_23 a b h0 h1 h2 h3 w
  by_cases e24 : fn = 24
  · subst e24; exact alu_24 a b h0 h1 h2 h3 w
  by_cases e25 : fn = 25
  · subst e25; exact alu_25 a b h0 h1 h2 h3 w
  by_cases e26 : fn = 26
  · subst e26; exact alu_26 a b h0 h1 h2 h3 w
  by_cases e27 : fn = 27
  · subst e27; exact alu_27 a b h0 h1 h2 h3 w
  by_cases e28 : fn = 28
  · subst e28; exact alu_28 a b h0 h1 h2 h3 w
  rw [alu_off fn a b e1 e2 e3 e4 e5 e6 e7 e8 e9 e10 e11 e12 e13 e14 e15 e16 e17 e18 e19 e20 e21 e22 e23 e24 e25 e26 e27 e28]
  exact alu_none fn a b h0 h1 h2 h3 w e1 e2 e3 e4 e5 e6 e7 e8 e9 e10 e11 e12 e13 e14 e15 e16 e17 e18 e19 e20 e21 e22 e23 e24 e25 e26 e27 e28
end Go.Proofs.Ytdpnojlmiopniab
