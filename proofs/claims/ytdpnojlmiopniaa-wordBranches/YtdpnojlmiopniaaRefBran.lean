/- What the reference's Branch answers, for every fn and all words: the same function as the program's. -/
import Derived.Test.YtdpnojlmiopniaaRef
namespace Go.Proofs.Ytdpnojlmiopniaa
open Go.RowKit
set_option linter.unusedVariables false

theorem rb_1 (a b : Int) (h0 : 0 ≤ a) (h1 : a ≤ 18446744073709551615) (h2 : 0 ≤ b) (h3 : b ≤ 18446744073709551615) (w : World) :
    Calls Try.prog 13 #[.int .i64 1, .int .u64 a, .int .u64 b] w fun e w' => e = .returned (.bool (decide (a = b))) ∧ w' = w := by
  go_enter Try.func13, Try.ntmps13
  go_wp2
  go_ret
  exact ⟨ret_bool (by first | rfl | simp | (rw [Bool.eq_iff_iff]; simp)), rfl⟩
theorem rb_2 (a b : Int) (h0 : 0 ≤ a) (h1 : a ≤ 18446744073709551615) (h2 : 0 ≤ b) (h3 : b ≤ 18446744073709551615) (w : World) :
    Calls Try.prog 13 #[.int .i64 2, .int .u64 a, .int .u64 b] w fun e w' => e = .returned (.bool (!decide (a = b))) ∧ w' = w := by
  go_enter Try.func13, Try.ntmps13
  go_wp2
  go_ret
  exact ⟨ret_bool (by first | rfl | simp | (rw [Bool.eq_iff_iff]; simp)), rfl⟩
theorem rb_3 (a b : Int) (h0 : 0 ≤ a) (h1 : a ≤ 18446744073709551615) (h2 : 0 ≤ b) (h3 : b ≤ 18446744073709551615) (w : World) :
    Calls Try.prog 13 #[.int .i64 3, .int .u64 a, .int .u64 b] w fun e w' => e = .returned (.bool (decide (sg a < sg b))) ∧ w' = w := by
  go_enter Try.func13, Try.ntmps13
  go_wp2_with (go_at_call 20; refine (r_less' _ _ h0 h1 h2 h3 _).mono ?_; rintro e w' ⟨rfl, rfl⟩)
  go_ret
  exact ⟨rfl, rfl⟩
theorem rb_4 (a b : Int) (h0 : 0 ≤ a) (h1 : a ≤ 18446744073709551615) (h2 : 0 ≤ b) (h3 : b ≤ 18446744073709551615) (w : World) :
    Calls Try.prog 13 #[.int .i64 4, .int .u64 a, .int .u64 b] w fun e w' => e = .returned (.bool (!decide (sg a < sg b))) ∧ w' = w := by
  go_enter Try.func13, Try.ntmps13
  go_wp2_with (go_at_call 20; refine (r_less' _ _ h0 h1 h2 h3 _).mono ?_; rintro e w' ⟨rfl, rfl⟩)
  go_ret
  exact ⟨rfl, rfl⟩
theorem rb_5 (a b : Int) (h0 : 0 ≤ a) (h1 : a ≤ 18446744073709551615) (h2 : 0 ≤ b) (h3 : b ≤ 18446744073709551615) (w : World) :
    Calls Try.prog 13 #[.int .i64 5, .int .u64 a, .int .u64 b] w fun e w' => e = .returned (.bool (decide (a < b))) ∧ w' = w := by
  go_enter Try.func13, Try.ntmps13
  go_wp2
  go_ret
  exact ⟨rfl, rfl⟩
theorem rb_6 (a b : Int) (h0 : 0 ≤ a) (h1 : a ≤ 18446744073709551615) (h2 : 0 ≤ b) (h3 : b ≤ 18446744073709551615) (w : World) :
    Calls Try.prog 13 #[.int .i64 6, .int .u64 a, .int .u64 b] w fun e w' => e = .returned (.bool (!decide (a < b))) ∧ w' = w := by
  go_enter Try.func13, Try.ntmps13
  go_wp2
  go_ret
  exact ⟨ret_bool (by first | rfl | simp | (rw [Bool.eq_iff_iff]; simp)), rfl⟩
theorem rb_none (fn a b : Int) (h0 : 0 ≤ a) (h1 : a ≤ 18446744073709551615) (h2 : 0 ≤ b) (h3 : b ≤ 18446744073709551615) (w : World) (e1 : ¬ fn = 1) (e2 : ¬ fn = 2) (e3 : ¬ fn = 3) (e4 : ¬ fn = 4) (e5 : ¬ fn = 5) (e6 : ¬ fn = 6) :
    Calls Try.prog 13 #[.int .i64 fn, .int .u64 a, .int .u64 b] w fun e w' => e = .returned (.bool false) ∧ w' = w := by
  have d1 : (fn == 1) = false := by simpa using e1
  have d2 : (fn == 2) = false := by simpa using e2
  have d3 : (fn == 3) = false := by simpa using e3
  have d4 : (fn == 4) = false := by simpa using e4
  have d5 : (fn == 5) = false := by simpa using e5
  have d6 : (fn == 6) = false := by simpa using e6
  go_enter Try.func13, Try.ntmps13
  go_wp2
  go_ret
  exact ⟨rfl, rfl⟩
theorem rb_off (fn a b : Int) (e1 : ¬ fn = 1) (e2 : ¬ fn = 2) (e3 : ¬ fn = 3) (e4 : ¬ fn = 4) (e5 : ¬ fn = 5) (e6 : ¬ fn = 6) : br fn a b = false := by
  unfold br
  rw [if_neg e1, if_neg e2, if_neg e3, if_neg e4, if_neg e5, if_neg e6]
theorem r_Branch (fn a b : Int) (h0 : 0 ≤ a) (h1 : a ≤ 18446744073709551615) (h2 : 0 ≤ b) (h3 : b ≤ 18446744073709551615) (w : World) :
    Calls Try.prog 13 #[.int .i64 fn, .int .u64 a, .int .u64 b] w fun e w' => e = .returned (.bool (br fn a b)) ∧ w' = w := by
  by_cases e1 : fn = 1
  · subst e1; exact rb_1 a b h0 h1 h2 h3 w
  by_cases e2 : fn = 2
  · subst e2; exact rb_2 a b h0 h1 h2 h3 w
  by_cases e3 : fn = 3
  · subst e3; exact rb_3 a b h0 h1 h2 h3 w
  by_cases e4 : fn = 4
  · subst e4; exact rb_4 a b h0 h1 h2 h3 w
  by_cases e5 : fn = 5
  · subst e5; exact rb_5 a b h0 h1 h2 h3 w
  by_cases e6 : fn = 6
  · subst e6; exact rb_6 a b h0 h1 h2 h3 w
  rw [rb_off fn a b e1 e2 e3 e4 e5 e6]
  exact rb_none fn a b h0 h1 h2 h3 w e1 e2 e3 e4 e5 e6
end Go.Proofs.Ytdpnojlmiopniaa
