/- What word.Branch answers, for every fn and all words; the world stands. -/
import Derived.Test.YtdpnojlmiopniabWords
namespace Go.Proofs.Ytdpnojlmiopniab
open Go.RowKit
set_option linter.unusedVariables false

theorem cond_1 (w : World) :
    Calls Try.prog 15 #[.int .i64 1] w fun e w' => e = .returned (.func (.func 38) #[] #[]) ∧ w' = w := by
  go_enter Try.func15, Try.ntmps15
  go_wp2
  go_ret
  exact ⟨rfl, rfl⟩
theorem br_1 (a b : Int) (h0 : 0 ≤ a) (h1 : a ≤ 18446744073709551615) (h2 : 0 ≤ b) (h3 : b ≤ 18446744073709551615) (w : World) :
    Calls Try.prog 12 #[.int .i64 1, .int .u64 a, .int .u64 b] w fun e w' => e = .returned (.bool (decide (a = b))) ∧ w' = w := by
  go_enter Try.func12, Try.ntmps12
  go_wp2_with (first | (go_at_call 15; refine (cond_1 _).mono ?_; rintro e w' ⟨rfl, rfl⟩) | (go_at_call 38; refine (m_equal _ _ h0 h1 h2 h3 _).mono ?_; rintro e w' ⟨rfl, rfl⟩))
  go_ret
  exact ⟨rfl, rfl⟩
theorem cond_2 (w : World) :
    Calls Try.prog 15 #[.int .i64 2] w fun e w' => e = .returned (.func (.func 39) #[] #[]) ∧ w' = w := by
  go_enter Try.func15, Try.ntmps15
  go_wp2
  go_ret
  exact ⟨rfl, rfl⟩
theorem br_2 (a b : Int) (h0 : 0 ≤ a) (h1 : a ≤ 18446744073709551615) (h2 : 0 ≤ b) (h3 : b ≤ 18446744073709551615) (w : World) :
    Calls Try.prog 12 #[.int .i64 2, .int .u64 a, .int .u64 b] w fun e w' => e = .returned (.bool (!decide (a = b))) ∧ w' = w := by
  go_enter Try.func12, Try.ntmps12
  go_wp2_with (first | (go_at_call 15; refine (cond_2 _).mono ?_; rintro e w' ⟨rfl, rfl⟩) | (go_at_call 39; refine (m_unlike _ _ h0 h1 h2 h3 _).mono ?_; rintro e w' ⟨rfl, rfl⟩))
  go_ret
  exact ⟨rfl, rfl⟩
theorem cond_3 (w : World) :
    Calls Try.prog 15 #[.int .i64 3] w fun e w' => e = .returned (.func (.func 40) #[] #[]) ∧ w' = w := by
  go_enter Try.func15, Try.ntmps15
  go_wp2
  go_ret
  exact ⟨rfl, rfl⟩
theorem br_3 (a b : Int) (h0 : 0 ≤ a) (h1 : a ≤ 18446744073709551615) (h2 : 0 ≤ b) (h3 : b ≤ 18446744073709551615) (w : World) :
    Calls Try.prog 12 #[.int .i64 3, .int .u64 a, .int .u64 b] w fun e w' => e = .returned (.bool (decide (sg a < sg b))) ∧ w' = w := by
  go_enter Try.func12, Try.ntmps12
  go_wp2_with (first | (go_at_call 15; refine (cond_3 _).mono ?_; rintro e w' ⟨rfl, rfl⟩) | (go_at_call 40; refine (m_less _ _ h0 h1 h2 h3 _).mono ?_; rintro e w' ⟨rfl, rfl⟩))
  go_ret
  exact ⟨rfl, rfl⟩
theorem cond_4 (w : World) :
    Calls Try.prog 15 #[.int .i64 4] w fun e w' => e = .returned (.func (.func 41) #[] #[]) ∧ w' = w := by
  go_enter Try.func15, Try.ntmps15
  go_wp2
  go_ret
  exact ⟨rfl, rfl⟩
theorem br_4 (a b : Int) (h0 : 0 ≤ a) (h1 : a ≤ 18446744073709551615) (h2 : 0 ≤ b) (h3 : b ≤ 18446744073709551615) (w : World) :
    Calls Try.prog 12 #[.int .i64 4, .int .u64 a, .int .u64 b] w fun e w' => e = .returned (.bool (!decide (sg a < sg b))) ∧ w' = w := by
  go_enter Try.func12, Try.ntmps12
  go_wp2_with (first | (go_at_call 15; refine (cond_4 _).mono ?_; rintro e w' ⟨rfl, rfl⟩) | (go_at_call 41; refine (m_notLess _ _ h0 h1 h2 h3 _).mono ?_; rintro e w' ⟨rfl, rfl⟩))
  go_ret
  exact ⟨rfl, rfl⟩
theorem cond_5 (w : World) :
    Calls Try.prog 15 #[.int .i64 5] w fun e w' => e = .returned (.func (.func 42) #[] #[]) ∧ w' = w := by
  go_enter Try.func15, Try.ntmps15
  go_wp2
  go_ret
  exact ⟨rfl, rfl⟩
theorem br_5 (a b : Int) (h0 : 0 ≤ a) (h1 : a ≤ 18446744073709551615) (h2 : 0 ≤ b) (h3 : b ≤ 18446744073709551615) (w : World) :
    Calls Try.prog 12 #[.int .i64 5, .int .u64 a, .int .u64 b] w fun e w' => e = .returned (.bool (decide (a < b))) ∧ w' = w := by
  go_enter Try.func12, Try.ntmps12
  go_wp2_with (first | (go_at_call 15; refine (cond_5 _).mono ?_; rintro e w' ⟨rfl, rfl⟩) | (go_at_call 42; refine (m_below _ _ h0 h1 h2 h3 _).mono ?_; rintro e w' ⟨rfl, rfl⟩))
  go_ret
  exact ⟨rfl, rfl⟩
theorem cond_6 (w : World) :
    Calls Try.prog 15 #[.int .i64 6] w fun e w' => e = .returned (.func (.func 43) #[] #[]) ∧ w' = w := by
  go_enter Try.func15, Try.ntmps15
  go_wp2
  go_ret
  exact ⟨rfl, rfl⟩
theorem br_6 (a b : Int) (h0 : 0 ≤ a) (h1 : a ≤ 18446744073709551615) (h2 : 0 ≤ b) (h3 : b ≤ 18446744073709551615) (w : World) :
    Calls Try.prog 12 #[.int .i64 6, .int .u64 a, .int .u64 b] w fun e w' => e = .returned (.bool (!decide (a < b))) ∧ w' = w := by
  go_enter Try.func12, Try.ntmps12
  go_wp2_with (first | (go_at_call 15; refine (cond_6 _).mono ?_; rintro e w' ⟨rfl, rfl⟩) | (go_at_call 43; refine (m_notBelow _ _ h0 h1 h2 h3 _).mono ?_; rintro e w' ⟨rfl, rfl⟩))
  go_ret
  exact ⟨rfl, rfl⟩
theorem br_none (fn a b : Int) (h0 : 0 ≤ a) (h1 : a ≤ 18446744073709551615) (h2 : 0 ≤ b) (h3 : b ≤ 18446744073709551615) (w : World) (e1 : ¬ fn = 1) (e2 : ¬ fn = 2) (e3 : ¬ fn = 3) (e4 : ¬ fn = 4) (e5 : ¬ fn = 5) (e6 : ¬ fn = 6) :
    Calls Try.prog 12 #[.int .i64 fn, .int .u64 a, .int .u64 b] w fun e w' => e = .returned (.bool false) ∧ w' = w := by
  have d1 : (fn == 1) = false := by simpa using e1
  have d2 : (fn == 2) = false := by simpa using e2
  have d3 : (fn == 3) = false := by simpa using e3
  have d4 : (fn == 4) = false := by simpa using e4
  have d5 : (fn == 5) = false := by simpa using e5
  have d6 : (fn == 6) = false := by simpa using e6
  go_enter Try.func12, Try.ntmps12
  go_wp2
  go_ret
  exact ⟨rfl, rfl⟩
theorem br_off (fn a b : Int) (e1 : ¬ fn = 1) (e2 : ¬ fn = 2) (e3 : ¬ fn = 3) (e4 : ¬ fn = 4) (e5 : ¬ fn = 5) (e6 : ¬ fn = 6) : br fn a b = false := by
  unfold br
  rw [if_neg e1, if_neg e2, if_neg e3, if_neg e4, if_neg e5, if_neg e6]
theorem m_Branch (fn a b : Int) (h0 : 0 ≤ a) (h1 : a ≤ 18446744073709551615) (h2 : 0 ≤ b) (h3 : b ≤ 18446744073709551615) (w : World) :
    Calls Try.prog 12 #[.int .i64 fn, .int .u64 a, .int .u64 b] w fun e w' => e = .returned (.bool (br fn a b)) ∧ w' = w := by
  by_cases e1 : fn = 1
  · subst e1; exact br_1 a b h0 h1 h2 h3 w
  by_cases e2 : fn = 2
  · subst e2; exact br_2 a b h0 h1 h2 h3 w
  by_cases e3 : fn = 3
  · subst e3; exact br_3 a b h0 h1 h2 h3 w
  by_cases e4 : fn = 4
  · subst e4; exact br_4 a b h0 h1 h2 h3 w
  by_cases e5 : fn = 5
  · subst e5; exact br_5 a b h0 h1 h2 h3 w
  by_cases e6 : fn = 6
  · subst e6; exact br_6 a b h0 h1 h2 h3 w
  rw [br_off fn a b e1 e2 e3 e4 e5 e6]
  exact br_none fn a b h0 h1 h2 h3 w e1 e2 e3 e4 e5 e6
end Go.Proofs.Ytdpnojlmiopniab
