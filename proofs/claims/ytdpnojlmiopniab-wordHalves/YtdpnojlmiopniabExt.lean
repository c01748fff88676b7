/- What word.Extend answers, for every size and all words; the world stands. -/
import Derived.Test.YtdpnojlmiopniabWords
namespace Go.Proofs.Ytdpnojlmiopniab
open Go.RowKit
set_option linter.unusedVariables false

theorem ext_1_true (v : Int) (h0 : 0 ≤ v) (h1 : v ≤ 18446744073709551615) (w : World) :
    Calls Try.prog 11 #[.int .u64 v, .int .i64 1, .bool true] w fun e w' => e = .returned (.int .u64 (exs v 1)) ∧ w' = w := by
  go_enter Try.func11, Try.ntmps11
  go_wp2
  go_ret
  exact ⟨ret_int (by simp only [IntKind.wrap_u64, exs]; (try unfold wrap64); simp; omega), rfl⟩
theorem ext_1_false (v : Int) (h0 : 0 ≤ v) (h1 : v ≤ 18446744073709551615) (w : World) :
    Calls Try.prog 11 #[.int .u64 v, .int .i64 1, .bool false] w fun e w' => e = .returned (.int .u64 (exz v 1)) ∧ w' = w := by
  go_enter Try.func11, Try.ntmps11
  go_wp2
  go_ret
  exact ⟨ret_int (by simp only [IntKind.wrap_u64, exz]; (try unfold wrap64); simp; omega), rfl⟩
theorem ext_2_true (v : Int) (h0 : 0 ≤ v) (h1 : v ≤ 18446744073709551615) (w : World) :
    Calls Try.prog 11 #[.int .u64 v, .int .i64 2, .bool true] w fun e w' => e = .returned (.int .u64 (exs v 2)) ∧ w' = w := by
  go_enter Try.func11, Try.ntmps11
  go_wp2
  go_ret
  exact ⟨ret_int (by simp only [IntKind.wrap_u64, exs]; (try unfold wrap64); simp; omega), rfl⟩
theorem ext_2_false (v : Int) (h0 : 0 ≤ v) (h1 : v ≤ 18446744073709551615) (w : World) :
    Calls Try.prog 11 #[.int .u64 v, .int .i64 2, .bool false] w fun e w' => e = .returned (.int .u64 (exz v 2)) ∧ w' = w := by
  go_enter Try.func11, Try.ntmps11
  go_wp2
  go_ret
  exact ⟨ret_int (by simp only [IntKind.wrap_u64, exz]; (try unfold wrap64); simp; omega), rfl⟩
theorem ext_4_true (v : Int) (h0 : 0 ≤ v) (h1 : v ≤ 18446744073709551615) (w : World) :
    Calls Try.prog 11 #[.int .u64 v, .int .i64 4, .bool true] w fun e w' => e = .returned (.int .u64 (exs v 4)) ∧ w' = w := by
  go_enter Try.func11, Try.ntmps11
  go_wp2
  go_ret
  exact ⟨ret_int (by simp only [IntKind.wrap_u64, exs]; (try unfold wrap64); simp; omega), rfl⟩
theorem ext_4_false (v : Int) (h0 : 0 ≤ v) (h1 : v ≤ 18446744073709551615) (w : World) :
    Calls Try.prog 11 #[.int .u64 v, .int .i64 4, .bool false] w fun e w' => e = .returned (.int .u64 (exz v 4)) ∧ w' = w := by
  go_enter Try.func11, Try.ntmps11
  go_wp2
  go_ret
  exact ⟨ret_int (by simp only [IntKind.wrap_u64, exz]; (try unfold wrap64); simp; omega), rfl⟩
theorem ext_none (v size : Int) (g : Bool) (h0 : 0 ≤ v) (h1 : v ≤ 18446744073709551615) (w : World) (e1 : ¬ size = 1) (e2 : ¬ size = 2) (e4 : ¬ size = 4) :
    Calls Try.prog 11 #[.int .u64 v, .int .i64 size, .bool g] w fun e w' => e = .returned (.int .u64 v) ∧ w' = w := by
  have d1 : (size != 1) = true := by simpa using e1
  have d2 : (size != 2) = true := by simpa using e2
  have d4 : (size != 4) = true := by simpa using e4
  go_enter Try.func11, Try.ntmps11
  go_wp2
  go_ret
  exact ⟨rfl, rfl⟩
theorem ext_f (v s : Int) : ext v s false = exz v s := by simp [ext]
theorem ext_t (v s : Int) : ext v s true = exs v s := by simp [ext]
theorem m_Extend (v size : Int) (g : Bool) (h0 : 0 ≤ v) (h1 : v ≤ 18446744073709551615) (w : World) :
    Calls Try.prog 11 #[.int .u64 v, .int .i64 size, .bool g] w fun e w' => e = .returned (.int .u64 (ext v size g)) ∧ w' = w := by
  by_cases e1 : size = 1
  · subst e1; cases g
    · rw [ext_f]; exact ext_1_false v h0 h1 w
    · rw [ext_t]; exact ext_1_true v h0 h1 w
  by_cases e2 : size = 2
  · subst e2; cases g
    · rw [ext_f]; exact ext_2_false v h0 h1 w
    · rw [ext_t]; exact ext_2_true v h0 h1 w
  by_cases e4 : size = 4
  · subst e4; cases g
    · rw [ext_f]; exact ext_4_false v h0 h1 w
    · rw [ext_t]; exact ext_4_true v h0 h1 w
  have e : ext v size g = v := by
    cases g
    · rw [ext_f]; unfold exz; rw [if_neg e1, if_neg e2, if_neg e4]
    · rw [ext_t]; unfold exs; rw [if_neg e1, if_neg e2, if_neg e4]
  rw [e]
  exact ext_none v size g h0 h1 w e1 e2 e4
end Go.Proofs.Ytdpnojlmiopniab
