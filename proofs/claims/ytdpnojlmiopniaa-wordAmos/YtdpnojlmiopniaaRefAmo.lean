/- What the reference's Amo answers, for every fn and all words: the same function as the program's. -/
import Derived.Test.YtdpnojlmiopniaaRef
import Derived.Test.YtdpnojlmiopniaaAmo
namespace Go.Proofs.Ytdpnojlmiopniaa
open Go.RowKit
set_option linter.unusedVariables false

theorem sg_inj (a b : Int) (h0 : 0 ≤ a) (h1 : a ≤ 18446744073709551615) (h2 : 0 ≤ b) (h3 : b ≤ 18446744073709551615) (h : sg a = sg b) : a = b := by
  unfold sg at h; split at h <;> split at h <;> omega
theorem v_min_t (a b : Int) (h : sg b < sg a) : b = wMin a b := by unfold wMin sel; rw [if_neg (by simp; omega)]
theorem v_min_f (a b : Int) (h0 : 0 ≤ a) (h1 : a ≤ 18446744073709551615) (h2 : 0 ≤ b) (h3 : b ≤ 18446744073709551615) (h : sg a ≤ sg b) : a = wMin a b := by
  unfold wMin sel; split
  · rfl
  · rename_i g; simp at g; exact sg_inj a b h0 h1 h2 h3 (by omega)
theorem v_max_t (a b : Int) (h : sg a < sg b) : b = wMax a b := by unfold wMax sel; rw [if_pos (by simpa using h)]
theorem v_max_f (a b : Int) (h : sg b ≤ sg a) : a = wMax a b := by unfold wMax sel; rw [if_neg (by simp; omega)]
theorem v_minu_t (a b : Int) (h : b < a) : b = wMinu a b := by unfold wMinu sel; rw [if_neg (by simp; omega)]
theorem v_minu_f (a b : Int) (h : a ≤ b) : a = wMinu a b := by unfold wMinu sel; split <;> simp_all <;> omega
theorem v_maxu_t (a b : Int) (h : a < b) : b = wMaxu a b := by unfold wMaxu sel; rw [if_pos (by simpa using h)]
theorem v_maxu_f (a b : Int) (h : b ≤ a) : a = wMaxu a b := by unfold wMaxu sel; rw [if_neg (by simp; omega)]
theorem rm_1 (a b : Int) (h0 : 0 ≤ a) (h1 : a ≤ 18446744073709551615) (h2 : 0 ≤ b) (h3 : b ≤ 18446744073709551615) (w : World) :
    Calls Try.prog 31 #[.int .i64 1, .int .u64 a, .int .u64 b] w fun e w' => e = .returned (.int .u64 (b)) ∧ w' = w := by
  go_enter Try.func31, Try.ntmps31
  go_wp2
  go_ret
  exact ⟨rfl, rfl⟩
theorem rm_2 (a b : Int) (h0 : 0 ≤ a) (h1 : a ≤ 18446744073709551615) (h2 : 0 ≤ b) (h3 : b ≤ 18446744073709551615) (w : World) :
    Calls Try.prog 31 #[.int .i64 2, .int .u64 a, .int .u64 b] w fun e w' => e = .returned (.int .u64 (wAdd a b)) ∧ w' = w := by
  go_enter Try.func31, Try.ntmps31
  go_wp2
  go_ret
  exact ⟨ret_int (by simp only [IntKind.wrap_u64]; rfl), rfl⟩
theorem rm_3 (a b : Int) (h0 : 0 ≤ a) (h1 : a ≤ 18446744073709551615) (h2 : 0 ≤ b) (h3 : b ≤ 18446744073709551615) (w : World) :
    Calls Try.prog 31 #[.int .i64 3, .int .u64 a, .int .u64 b] w fun e w' => e = .returned (.int .u64 (wXor a b)) ∧ w' = w := by
  go_enter Try.func31, Try.ntmps31
  go_wp2
  go_ret
  exact ⟨rfl, rfl⟩
theorem rm_4 (a b : Int) (h0 : 0 ≤ a) (h1 : a ≤ 18446744073709551615) (h2 : 0 ≤ b) (h3 : b ≤ 18446744073709551615) (w : World) :
    Calls Try.prog 31 #[.int .i64 4, .int .u64 a, .int .u64 b] w fun e w' => e = .returned (.int .u64 (wAnd a b)) ∧ w' = w := by
  go_enter Try.func31, Try.ntmps31
  go_wp2
  go_ret
  exact ⟨rfl, rfl⟩
theorem rm_5 (a b : Int) (h0 : 0 ≤ a) (h1 : a ≤ 18446744073709551615) (h2 : 0 ≤ b) (h3 : b ≤ 18446744073709551615) (w : World) :
    Calls Try.prog 31 #[.int .i64 5, .int .u64 a, .int .u64 b] w fun e w' => e = .returned (.int .u64 (wOr a b)) ∧ w' = w := by
  go_enter Try.func31, Try.ntmps31
  go_wp2
  go_ret
  exact ⟨rfl, rfl⟩
theorem rm_6 (a b : Int) (h0 : 0 ≤ a) (h1 : a ≤ 18446744073709551615) (h2 : 0 ≤ b) (h3 : b ≤ 18446744073709551615) (w : World) :
    Calls Try.prog 31 #[.int .i64 6, .int .u64 a, .int .u64 b] w fun e w' => e = .returned (.int .u64 (wMin a b)) ∧ w' = w := by
  by_cases hc : sg b < sg a
  · have hd : decide (sg b < sg a) = true := by simpa using hc
    go_enter Try.func31, Try.ntmps31
    go_wp2_with (go_at_call 20; refine (r_less' b a h2 h3 h0 h1 _).mono ?_; rintro e w' ⟨rfl, rfl⟩)
    go_ret
    exact ⟨ret_int (v_min_t a b hc), rfl⟩
  · have hd : decide (sg b < sg a) = false := by simpa using hc
    have hr : Hid (sg a ≤ sg b) := Int.not_lt.1 hc
    clear hc
    go_enter Try.func31, Try.ntmps31
    go_wp2_with (go_at_call 20; refine (r_less' b a h2 h3 h0 h1 _).mono ?_; rintro e w' ⟨rfl, rfl⟩)
    go_ret
    exact ⟨ret_int (v_min_f a b h0 h1 h2 h3 hr.out), rfl⟩
theorem rm_7 (a b : Int) (h0 : 0 ≤ a) (h1 : a ≤ 18446744073709551615) (h2 : 0 ≤ b) (h3 : b ≤ 18446744073709551615) (w : World) :
    Calls Try.prog 31 #[.int .i64 7, .int .u64 a, .int .u64 b] w fun e w' => e = .returned (.int .u64 (wMax a b)) ∧ w' = w := by
  by_cases hc : sg a < sg b
  · have hd : decide (sg a < sg b) = true := by simpa using hc
    go_enter Try.func31, Try.ntmps31
    go_wp2_with (go_at_call 20; refine (r_less' a b h0 h1 h2 h3 _).mono ?_; rintro e w' ⟨rfl, rfl⟩)
    go_ret
    exact ⟨ret_int (v_max_t a b hc), rfl⟩
  · have hd : decide (sg a < sg b) = false := by simpa using hc
    have hr : Hid (sg b ≤ sg a) := Int.not_lt.1 hc
    clear hc
    go_enter Try.func31, Try.ntmps31
    go_wp2_with (go_at_call 20; refine (r_less' a b h0 h1 h2 h3 _).mono ?_; rintro e w' ⟨rfl, rfl⟩)
    go_ret
    exact ⟨ret_int (v_max_f a b hr.out), rfl⟩
theorem rm_8 (a b : Int) (h0 : 0 ≤ a) (h1 : a ≤ 18446744073709551615) (h2 : 0 ≤ b) (h3 : b ≤ 18446744073709551615) (w : World) :
    Calls Try.prog 31 #[.int .i64 8, .int .u64 a, .int .u64 b] w fun e w' => e = .returned (.int .u64 (wMinu a b)) ∧ w' = w := by
  by_cases hc : b < a
  · have hd : decide (b < a) = true := by simpa using hc
    go_enter Try.func31, Try.ntmps31
    go_wp2
    go_ret
    exact ⟨ret_int (v_minu_t a b hc), rfl⟩
  · have hd : decide (b < a) = false := by simpa using hc
    have hr : Hid (a ≤ b) := Int.not_lt.1 hc
    clear hc
    go_enter Try.func31, Try.ntmps31
    go_wp2
    go_ret
    exact ⟨ret_int (v_minu_f a b hr.out), rfl⟩
theorem rm_9 (a b : Int) (h0 : 0 ≤ a) (h1 : a ≤ 18446744073709551615) (h2 : 0 ≤ b) (h3 : b ≤ 18446744073709551615) (w : World) :
    Calls Try.prog 31 #[.int .i64 9, .int .u64 a, .int .u64 b] w fun e w' => e = .returned (.int .u64 (wMaxu a b)) ∧ w' = w := by
  by_cases hc : a < b
  · have hd : decide (a < b) = true := by simpa using hc
    go_enter Try.func31, Try.ntmps31
    go_wp2
    go_ret
    exact ⟨ret_int (v_maxu_t a b hc), rfl⟩
  · have hd : decide (a < b) = false := by simpa using hc
    have hr : Hid (b ≤ a) := Int.not_lt.1 hc
    clear hc
    go_enter Try.func31, Try.ntmps31
    go_wp2
    go_ret
    exact ⟨ret_int (v_maxu_f a b hr.out), rfl⟩
theorem rm_none (fn a b : Int) (h0 : 0 ≤ a) (h1 : a ≤ 18446744073709551615) (h2 : 0 ≤ b) (h3 : b ≤ 18446744073709551615) (w : World) (e1 : ¬ fn = 1) (e2 : ¬ fn = 2) (e3 : ¬ fn = 3) (e4 : ¬ fn = 4) (e5 : ¬ fn = 5) (e6 : ¬ fn = 6) (e7 : ¬ fn = 7) (e8 : ¬ fn = 8) (e9 : ¬ fn = 9) :
    Calls Try.prog 31 #[.int .i64 fn, .int .u64 a, .int .u64 b] w fun e w' => e = .returned (.int .u64 a) ∧ w' = w := by
  have d1 : (fn == 1) = false := by simpa using e1
  have d2 : (fn == 2) = false := by simpa using e2
  have d3 : (fn == 3) = false := by simpa using e3
  have d4 : (fn == 4) = false := by simpa using e4
  have d5 : (fn == 5) = false := by simpa using e5
  have d6 : (fn == 6) = false := by simpa using e6
  have d7 : (fn == 7) = false := by simpa using e7
  have d8 : (fn == 8) = false := by simpa using e8
  have d9 : (fn == 9) = false := by simpa using e9
  go_enter Try.func31, Try.ntmps31
  go_wp2
  go_ret
  exact ⟨rfl, rfl⟩
theorem rm_off (fn a b : Int) (e1 : ¬ fn = 1) (e2 : ¬ fn = 2) (e3 : ¬ fn = 3) (e4 : ¬ fn = 4) (e5 : ¬ fn = 5) (e6 : ¬ fn = 6) (e7 : ¬ fn = 7) (e8 : ¬ fn = 8) (e9 : ¬ fn = 9) : am fn a b = a := by
  unfold am
  rw [if_neg e1, if_neg e2, if_neg e3, if_neg e4, if_neg e5, if_neg e6, if_neg e7, if_neg e8, if_neg e9]
theorem r_amo (fn a b : Int) (h0 : 0 ≤ a) (h1 : a ≤ 18446744073709551615) (h2 : 0 ≤ b) (h3 : b ≤ 18446744073709551615) (w : World) :
    Calls Try.prog 31 #[.int .i64 fn, .int .u64 a, .int .u64 b] w fun e w' => e = .returned (.int .u64 (am fn a b)) ∧ w' = w := by
  by_cases e1 : fn = 1
  · subst e1; exact rm_1 a b h0 h1 h2 h3 w
  by_cases e2 : fn = 2
  · subst e2; exact rm_2 a b h0 h1 h2 h3 w
  by_cases e3 : fn = 3
  · subst e3; exact rm_3 a b h0 h1 h2 h3 w
  by_cases e4 : fn = 4
  · subst e4; exact rm_4 a b h0 h1 h2 h3 w
  by_cases e5 : fn = 5
  · subst e5; exact rm_5 a b h0 h1 h2 h3 w
  by_cases e6 : fn = 6
  · subst e6; exact rm_6 a b h0 h1 h2 h3 w
  by_cases e7 : fn = 7
  · subst e7; exact rm_7 a b h0 h1 h2 h3 w
  by_cases e8 : fn = 8
  · subst e8; exact rm_8 a b h0 h1 h2 h3 w
  by_cases e9 : fn = 9
  · subst e9; exact rm_9 a b h0 h1 h2 h3 w
  rw [rm_off fn a b e1 e2 e3 e4 e5 e6 e7 e8 e9]
  exact rm_none fn a b h0 h1 h2 h3 w e1 e2 e3 e4 e5 e6 e7 e8 e9
theorem amo4 (fn a b : Int) : am fn (ex a) (ex b) % 4294967296 = amo fn 4 a b := by unfold amo lo; rw [if_pos rfl]
theorem r_Amo (fn size a b : Int) (h0 : 0 ≤ a) (h1 : a ≤ 18446744073709551615) (h2 : 0 ≤ b) (h3 : b ≤ 18446744073709551615) (w : World) :
    Calls Try.prog 15 #[.int .i64 fn, .int .i64 size, .int .u64 a, .int .u64 b] w fun e w' => e = .returned (.int .u64 (amo fn size a b)) ∧ w' = w := by
  have kx := ex_bd a
  have ky := ex_bd b
  have kz := am_bd fn (ex a) (ex b) kx.1 kx.2 ky.1 ky.2
  by_cases hs : size = 4
  · subst hs
    go_enter Try.func15, Try.ntmps15
    go_wp2_with (first | (go_at_call 31; refine (r_amo _ _ _ kx.1 kx.2 ky.1 ky.2 _).mono ?_; rintro e w' ⟨rfl, rfl⟩) | (go_at_call 26; refine (r_W _ ?_ ?_ _).mono ?_; omega; omega; rintro e w' ⟨rfl, rfl⟩))
    go_ret
    exact ⟨ret_int (amo4 fn a b), rfl⟩
  · have hz : (size == 4) = false := by simpa using hs
    have ho : Hid (am fn a b = amo fn size a b) := by
      have : am fn a b = amo fn size a b := by unfold amo; rw [if_neg hs]
      exact this
    clear hs
    go_enter Try.func15, Try.ntmps15
    go_wp2_with (go_at_call 31; refine (r_amo _ _ _ h0 h1 h2 h3 _).mono ?_; rintro e w' ⟨rfl, rfl⟩)
    go_ret
    exact ⟨ret_int ho.out, rfl⟩
end Go.Proofs.Ytdpnojlmiopniaa
