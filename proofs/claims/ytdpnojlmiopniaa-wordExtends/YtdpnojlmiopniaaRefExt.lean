/- What the reference's Extend answers, for every fn and all words: the same function as the program's. -/
import Derived.Test.YtdpnojlmiopniaaRef
import Derived.Test.YtdpnojlmiopniaaExt
namespace Go.Proofs.Ytdpnojlmiopniaa
open Go.RowKit
set_option linter.unusedVariables false

theorem re_1_f (v : Int) (h0 : 0 ≤ v) (h1 : v ≤ 18446744073709551615) (w : World) :
    Calls Try.prog 17 #[.int .u64 v, .int .i64 1, .bool false] w fun e w' => e = .returned (.int .u64 (exz v 1)) ∧ w' = w := by
  go_enter Try.func17, Try.ntmps17
  go_wp2
  go_ret
  exact ⟨ret_int (by simp [exz]), rfl⟩
theorem re_1_t (v : Int) (h0 : 0 ≤ v) (h1 : v ≤ 18446744073709551615) (w : World) :
    Calls Try.prog 17 #[.int .u64 v, .int .i64 1, .bool true] w fun e w' => e = .returned (.int .u64 (exs v 1)) ∧ w' = w := by
  by_cases hc : 128 ≤ v % 256
  all_goals
    go_enter Try.func17, Try.ntmps17
    go_wp2
    go_ret
    exact ⟨ret_int (by simp only [exs]; (try simp only [IntKind.wrap_u64]); simp; omega), rfl⟩
theorem re_2_f (v : Int) (h0 : 0 ≤ v) (h1 : v ≤ 18446744073709551615) (w : World) :
    Calls Try.prog 17 #[.int .u64 v, .int .i64 2, .bool false] w fun e w' => e = .returned (.int .u64 (exz v 2)) ∧ w' = w := by
  go_enter Try.func17, Try.ntmps17
  go_wp2
  go_ret
  exact ⟨ret_int (by simp [exz]), rfl⟩
theorem re_2_t (v : Int) (h0 : 0 ≤ v) (h1 : v ≤ 18446744073709551615) (w : World) :
    Calls Try.prog 17 #[.int .u64 v, .int .i64 2, .bool true] w fun e w' => e = .returned (.int .u64 (exs v 2)) ∧ w' = w := by
  by_cases hc : 32768 ≤ v % 65536
  all_goals
    go_enter Try.func17, Try.ntmps17
    go_wp2
    go_ret
    exact ⟨ret_int (by simp only [exs]; (try simp only [IntKind.wrap_u64]); simp; omega), rfl⟩
theorem re_4_f (v : Int) (h0 : 0 ≤ v) (h1 : v ≤ 18446744073709551615) (w : World) :
    Calls Try.prog 17 #[.int .u64 v, .int .i64 4, .bool false] w fun e w' => e = .returned (.int .u64 (exz v 4)) ∧ w' = w := by
  go_enter Try.func17, Try.ntmps17
  go_wp2
  go_ret
  exact ⟨ret_int (by simp [exz]), rfl⟩
theorem re_4_t (v : Int) (h0 : 0 ≤ v) (h1 : v ≤ 18446744073709551615) (w : World) :
    Calls Try.prog 17 #[.int .u64 v, .int .i64 4, .bool true] w fun e w' => e = .returned (.int .u64 (exs v 4)) ∧ w' = w := by
  by_cases hc : 2147483648 ≤ v % 4294967296
  all_goals
    go_enter Try.func17, Try.ntmps17
    go_wp2
    go_ret
    exact ⟨ret_int (by simp only [exs]; (try simp only [IntKind.wrap_u64]); simp; omega), rfl⟩
theorem re_none (v size : Int) (g : Bool) (h0 : 0 ≤ v) (h1 : v ≤ 18446744073709551615) (w : World) (e1 : ¬ size = 1) (e2 : ¬ size = 2) (e4 : ¬ size = 4) :
    Calls Try.prog 17 #[.int .u64 v, .int .i64 size, .bool g] w fun e w' => e = .returned (.int .u64 v) ∧ w' = w := by
  have d1 : (size != 1) = true := by simpa using e1
  have d2 : (size != 2) = true := by simpa using e2
  have d4 : (size != 4) = true := by simpa using e4
  go_enter Try.func17, Try.ntmps17
  go_wp2
  go_ret
  exact ⟨rfl, rfl⟩
theorem r_Extend (v size : Int) (g : Bool) (h0 : 0 ≤ v) (h1 : v ≤ 18446744073709551615) (w : World) :
    Calls Try.prog 17 #[.int .u64 v, .int .i64 size, .bool g] w fun e w' => e = .returned (.int .u64 (ext v size g)) ∧ w' = w := by
  by_cases e1 : size = 1
  · subst e1; cases g
    · rw [ext_f]; exact re_1_f v h0 h1 w
    · rw [ext_t]; exact re_1_t v h0 h1 w
  by_cases e2 : size = 2
  · subst e2; cases g
    · rw [ext_f]; exact re_2_f v h0 h1 w
    · rw [ext_t]; exact re_2_t v h0 h1 w
  by_cases e4 : size = 4
  · subst e4; cases g
    · rw [ext_f]; exact re_4_f v h0 h1 w
    · rw [ext_t]; exact re_4_t v h0 h1 w
  have e : ext v size g = v := by
    cases g
    · rw [ext_f]; unfold exz; rw [if_neg e1, if_neg e2, if_neg e4]
    · rw [ext_t]; unfold exs; rw [if_neg e1, if_neg e2, if_neg e4]
  rw [e]
  exact re_none v size g h0 h1 w e1 e2 e4
end Go.Proofs.Ytdpnojlmiopniaa
