/- What the reference's small functions answer, one contract a function, for every word; the world stands. -/
import Derived.Test.YtdpnojlmiopniaaWords
import Derived.Test.YtdpnojlmiopniaaRefMath
namespace Go.Proofs.Ytdpnojlmiopniaa
open Go.RowKit
set_option linter.unusedVariables false

theorem r_neg (a : Int) (h0 : 0 ≤ a) (h1 : a ≤ 18446744073709551615) (w : World) :
    Calls Try.prog 51 #[.int .u64 a] w fun e w' => e = .returned (.bool (ngv a)) ∧ w' = w := by
  go_enter Try.func51, Try.ntmps51
  go_wp2
  go_ret
  exact ⟨rfl, rfl⟩
theorem r_abs (a : Int) (h0 : 0 ≤ a) (h1 : a ≤ 18446744073709551615) (w : World) :
    Calls Try.prog 52 #[.int .u64 a] w fun e w' => e = .returned (.int .u64 (ab a)) ∧ w' = w := by
  cases n : ngv a
  · have e0 : ab a = a := by unfold ab sel; rw [if_neg (by simpa using ngv_f n)]
    go_enter Try.func52, Try.ntmps52
    go_wp2_with (go_at_call 51; refine (r_neg _ h0 h1 _).mono ?_; rintro e w' ⟨rfl, rfl⟩)
    go_ret
    exact ⟨ret_int e0.symm, rfl⟩
  · have hn := ngv_t n
    have e0 : ab a = 18446744073709551616 - a := by unfold ab sel; rw [if_pos (by simpa using hn)]
    go_enter Try.func52, Try.ntmps52
    go_wp2_with (go_at_call 51; refine (r_neg _ h0 h1 _).mono ?_; rintro e w' ⟨rfl, rfl⟩)
    go_ret
    exact ⟨ret_int (by rw [e0]; simp only [IntKind.wrap_u64]; omega), rfl⟩
theorem r_High (a b : Int) (h0 : 0 ≤ a) (h1 : a ≤ 18446744073709551615) (h2 : 0 ≤ b) (h3 : b ≤ 18446744073709551615) (w : World) :
    Calls Try.prog 23 #[.int .u64 a, .int .u64 b] w fun e w' => e = .returned (.int .u64 (wMulhu a b)) ∧ w' = w := by
  go_enter Try.func23, Try.ntmps23
  go_wp2
  go_ret
  exact ⟨ret_int (by simp only [IntKind.wrap_u64, tdiv_em, tmod_em, em_half]; exact r_high a b h0 h1 h2 h3), rfl⟩
theorem r_W (a : Int) (h0 : 0 ≤ a) (h1 : a ≤ 18446744073709551615) (w : World) :
    Calls Try.prog 26 #[.int .u64 a] w fun e w' => e = .returned (.int .u64 (ex a)) ∧ w' = w := by
  by_cases n : 2147483648 ≤ a % 4294967296
  all_goals
    go_enter Try.func26, Try.ntmps26
    go_wp2
    go_ret
    exact ⟨ret_int (by unfold ex wrap32; (try simp only [IntKind.wrap_u64]); omega), rfl⟩
theorem r_less' (a b : Int) (h0 : 0 ≤ a) (h1 : a ≤ 18446744073709551615) (h2 : 0 ≤ b) (h3 : b ≤ 18446744073709551615) (w : World) :
    Calls Try.prog 20 #[.int .u64 a, .int .u64 b] w fun e w' => e = .returned (.bool (decide (sg a < sg b))) ∧ w' = w := by
  go_enter Try.func20, Try.ntmps20
  go_wp2
  go_ret
  exact ⟨ret_bool (by simp only [IntKind.wrap_u64]; exact r_less a b h0 h1 h2 h3), rfl⟩
theorem r_bit (c : Bool) (w : World) :
    Calls Try.prog 19 #[.bool c] w fun e w' => e = .returned (.int .u64 (sel c 1 0)) ∧ w' = w := by
  cases c
  all_goals
    go_enter Try.func19, Try.ntmps19
    go_wp2
    go_ret
    exact ⟨rfl, rfl⟩
theorem r_sra (a n : Int) (h0 : 0 ≤ a) (h1 : a ≤ 18446744073709551615) (k0 : 0 ≤ n) (k1 : n ≤ 63) (w : World) :
    Calls Try.prog 21 #[.int .u64 a, .int .u64 n] w fun e w' => e = .returned (.int .u64 (wSra a n)) ∧ w' = w := by
  go_enter Try.func21, Try.ntmps21
  go_wp2
  go_loop [0, 5] (fun x i => ∃ k : Nat, (k : Int) ≤ n ∧ i = .int .u64 k ∧ x = .int .u64 (sr a k)) (fun _ i => (n - intOf i).toNat)
  case atStart => exact ⟨0, k0, rfl, by rw [sr_zero a h0 h1]⟩
  case round =>
    obtain ⟨k, hk, rfl, rfl⟩ := hrel
    have kb := sr_bd a k
    by_cases hlt : (k : Int) < n
    · have hs : Hid (sr a k / 2 + sr a k / 9223372036854775808 * 9223372036854775808 = sr a (k + 1)) := sr_succ a k h0 h1
      go_wp2
      go_round
      case rel => exact ⟨k + 1, by omega, by go_num, by rw [← hs.out]⟩
      case measure => simp [intOf]; omega
    · have he : (k : Int) = n := by omega
      have hv : Hid (sr a k = wSra a n) := by
        have : sr a k = wSra a n := by rw [← sr_is a n k0 k1]; congr 1; omega
        exact this
      clear he
      go_wp2
      go_ret
      exact ⟨ret_int hv.out, rfl⟩
theorem r_hs_tt_truetrue (a b : Int) (h0 : 0 ≤ a) (h1 : a ≤ 18446744073709551615) (h2 : 0 ≤ b) (h3 : b ≤ 18446744073709551615) (n : ngv a = true) (m : ngv b = true) (w : World) :
    Calls Try.prog 22 #[.int .u64 a, .bool true, .int .u64 b, .bool true] w fun e w' => e = .returned (.int .u64 (wMulh a b)) ∧ w' = w := by
  have kh := mulhu_bd a b h0 h1 h2 h3
  go_enter Try.func22, Try.ntmps22
  go_wp2_with (first | (go_at_call 23; refine (r_High _ _ h0 h1 h2 h3 _).mono ?_; rintro e w' ⟨rfl, rfl⟩) | (go_at_call 51; refine (r_neg a h0 h1 _).mono ?_; rintro e w' ⟨rfl, rfl⟩) | (go_at_call 51; refine (r_neg b h2 h3 _).mono ?_; rintro e w' ⟨rfl, rfl⟩))
  go_ret
  exact ⟨ret_int (by (try simp only [IntKind.wrap_u64]); rw [hsu_n a b n]; exact mh_n a b m), rfl⟩
theorem r_hs_tt_truefalse (a b : Int) (h0 : 0 ≤ a) (h1 : a ≤ 18446744073709551615) (h2 : 0 ≤ b) (h3 : b ≤ 18446744073709551615) (n : ngv a = true) (m : ngv b = false) (w : World) :
    Calls Try.prog 22 #[.int .u64 a, .bool true, .int .u64 b, .bool true] w fun e w' => e = .returned (.int .u64 (wMulh a b)) ∧ w' = w := by
  have kh := mulhu_bd a b h0 h1 h2 h3
  go_enter Try.func22, Try.ntmps22
  go_wp2_with (first | (go_at_call 23; refine (r_High _ _ h0 h1 h2 h3 _).mono ?_; rintro e w' ⟨rfl, rfl⟩) | (go_at_call 51; refine (r_neg a h0 h1 _).mono ?_; rintro e w' ⟨rfl, rfl⟩) | (go_at_call 51; refine (r_neg b h2 h3 _).mono ?_; rintro e w' ⟨rfl, rfl⟩))
  go_ret
  exact ⟨ret_int (by (try simp only [IntKind.wrap_u64]); rw [hsu_n a b n]; exact mh_p a b m), rfl⟩
theorem r_hs_tt_falsetrue (a b : Int) (h0 : 0 ≤ a) (h1 : a ≤ 18446744073709551615) (h2 : 0 ≤ b) (h3 : b ≤ 18446744073709551615) (n : ngv a = false) (m : ngv b = true) (w : World) :
    Calls Try.prog 22 #[.int .u64 a, .bool true, .int .u64 b, .bool true] w fun e w' => e = .returned (.int .u64 (wMulh a b)) ∧ w' = w := by
  have kh := mulhu_bd a b h0 h1 h2 h3
  go_enter Try.func22, Try.ntmps22
  go_wp2_with (first | (go_at_call 23; refine (r_High _ _ h0 h1 h2 h3 _).mono ?_; rintro e w' ⟨rfl, rfl⟩) | (go_at_call 51; refine (r_neg a h0 h1 _).mono ?_; rintro e w' ⟨rfl, rfl⟩) | (go_at_call 51; refine (r_neg b h2 h3 _).mono ?_; rintro e w' ⟨rfl, rfl⟩))
  go_ret
  exact ⟨ret_int (by (try simp only [IntKind.wrap_u64]); rw [hsu_p a b h0 h1 h2 h3 n]; exact mh_n a b m), rfl⟩
theorem r_hs_tt_falsefalse (a b : Int) (h0 : 0 ≤ a) (h1 : a ≤ 18446744073709551615) (h2 : 0 ≤ b) (h3 : b ≤ 18446744073709551615) (n : ngv a = false) (m : ngv b = false) (w : World) :
    Calls Try.prog 22 #[.int .u64 a, .bool true, .int .u64 b, .bool true] w fun e w' => e = .returned (.int .u64 (wMulh a b)) ∧ w' = w := by
  have kh := mulhu_bd a b h0 h1 h2 h3
  go_enter Try.func22, Try.ntmps22
  go_wp2_with (first | (go_at_call 23; refine (r_High _ _ h0 h1 h2 h3 _).mono ?_; rintro e w' ⟨rfl, rfl⟩) | (go_at_call 51; refine (r_neg a h0 h1 _).mono ?_; rintro e w' ⟨rfl, rfl⟩) | (go_at_call 51; refine (r_neg b h2 h3 _).mono ?_; rintro e w' ⟨rfl, rfl⟩))
  go_ret
  exact ⟨ret_int (by (try simp only [IntKind.wrap_u64]); rw [hsu_p a b h0 h1 h2 h3 n]; exact mh_p a b m), rfl⟩
theorem r_hs_tt (a b : Int) (h0 : 0 ≤ a) (h1 : a ≤ 18446744073709551615) (h2 : 0 ≤ b) (h3 : b ≤ 18446744073709551615) (w : World) :
    Calls Try.prog 22 #[.int .u64 a, .bool true, .int .u64 b, .bool true] w fun e w' => e = .returned (.int .u64 (wMulh a b)) ∧ w' = w := by
  cases n : ngv a
  · cases m : ngv b
    · exact r_hs_tt_falsefalse a b h0 h1 h2 h3 n m w
    · exact r_hs_tt_falsetrue a b h0 h1 h2 h3 n m w
  · cases m : ngv b
    · exact r_hs_tt_truefalse a b h0 h1 h2 h3 n m w
    · exact r_hs_tt_truetrue a b h0 h1 h2 h3 n m w
theorem r_hs_tf_true (a b : Int) (h0 : 0 ≤ a) (h1 : a ≤ 18446744073709551615) (h2 : 0 ≤ b) (h3 : b ≤ 18446744073709551615) (n : ngv a = true) (w : World) :
    Calls Try.prog 22 #[.int .u64 a, .bool true, .int .u64 b, .bool false] w fun e w' => e = .returned (.int .u64 (wMulhsu a b)) ∧ w' = w := by
  have kh := mulhu_bd a b h0 h1 h2 h3
  go_enter Try.func22, Try.ntmps22
  go_wp2_with (first | (go_at_call 23; refine (r_High _ _ h0 h1 h2 h3 _).mono ?_; rintro e w' ⟨rfl, rfl⟩) | (go_at_call 51; refine (r_neg a h0 h1 _).mono ?_; rintro e w' ⟨rfl, rfl⟩) | (go_at_call 51; refine (r_neg b h2 h3 _).mono ?_; rintro e w' ⟨rfl, rfl⟩))
  go_ret
  exact ⟨ret_int (by (try simp only [IntKind.wrap_u64]); rw [hsu_n a b n]), rfl⟩
theorem r_hs_tf_false (a b : Int) (h0 : 0 ≤ a) (h1 : a ≤ 18446744073709551615) (h2 : 0 ≤ b) (h3 : b ≤ 18446744073709551615) (n : ngv a = false) (w : World) :
    Calls Try.prog 22 #[.int .u64 a, .bool true, .int .u64 b, .bool false] w fun e w' => e = .returned (.int .u64 (wMulhsu a b)) ∧ w' = w := by
  have kh := mulhu_bd a b h0 h1 h2 h3
  go_enter Try.func22, Try.ntmps22
  go_wp2_with (first | (go_at_call 23; refine (r_High _ _ h0 h1 h2 h3 _).mono ?_; rintro e w' ⟨rfl, rfl⟩) | (go_at_call 51; refine (r_neg a h0 h1 _).mono ?_; rintro e w' ⟨rfl, rfl⟩) | (go_at_call 51; refine (r_neg b h2 h3 _).mono ?_; rintro e w' ⟨rfl, rfl⟩))
  go_ret
  exact ⟨ret_int (by (try simp only [IntKind.wrap_u64]); rw [hsu_p a b h0 h1 h2 h3 n]), rfl⟩
theorem r_hs_tf (a b : Int) (h0 : 0 ≤ a) (h1 : a ≤ 18446744073709551615) (h2 : 0 ≤ b) (h3 : b ≤ 18446744073709551615) (w : World) :
    Calls Try.prog 22 #[.int .u64 a, .bool true, .int .u64 b, .bool false] w fun e w' => e = .returned (.int .u64 (wMulhsu a b)) ∧ w' = w := by
  cases n : ngv a
  · exact r_hs_tf_false a b h0 h1 h2 h3 n w
  · exact r_hs_tf_true a b h0 h1 h2 h3 n w
theorem r_div_truetrue (a b : Int) (h0 : 0 ≤ a) (h1 : a ≤ 18446744073709551615) (h2 : 0 ≤ b) (h3 : b ≤ 18446744073709551615) (hb : ¬ b = 0) (n : ngv a = true) (m : ngv b = true) (w : World) :
    Calls Try.prog 24 #[.int .u64 a, .int .u64 b] w fun e w' => e = .returned (.int .u64 (wDiv a b)) ∧ w' = w := by
  have hz : (b == 0) = false := by simpa using hb
  have ka := ab_bd a h0 h1
  have kb := ab_bd b h2 h3
  have kz := ab_zero b h2 h3 hb
  have kq : 0 ≤ ab a / ab b ∧ ab a / ab b ≤ 9223372036854775808 := by
    have := Int.ediv_le_self (ab b) ka.1; have := Int.ediv_nonneg ka.1 kb.1; omega
  go_enter Try.func24, Try.ntmps24
  go_wp2_with (first | (go_at_call 52; refine (r_abs a h0 h1 _).mono ?_; rintro e w' ⟨rfl, rfl⟩) | (go_at_call 52; refine (r_abs b h2 h3 _).mono ?_; rintro e w' ⟨rfl, rfl⟩) | (go_at_call 51; refine (r_neg a h0 h1 _).mono ?_; rintro e w' ⟨rfl, rfl⟩) | (go_at_call 51; refine (r_neg b h2 h3 _).mono ?_; rintro e w' ⟨rfl, rfl⟩))
  go_ret
  exact ⟨ret_int (by exact div_same' a b h0 h1 h2 h3 hb (by rw [n, m])), rfl⟩
theorem r_div_truefalse (a b : Int) (h0 : 0 ≤ a) (h1 : a ≤ 18446744073709551615) (h2 : 0 ≤ b) (h3 : b ≤ 18446744073709551615) (hb : ¬ b = 0) (n : ngv a = true) (m : ngv b = false) (w : World) :
    Calls Try.prog 24 #[.int .u64 a, .int .u64 b] w fun e w' => e = .returned (.int .u64 (wDiv a b)) ∧ w' = w := by
  have hz : (b == 0) = false := by simpa using hb
  have ka := ab_bd a h0 h1
  have kb := ab_bd b h2 h3
  have kz := ab_zero b h2 h3 hb
  have kq : 0 ≤ ab a / ab b ∧ ab a / ab b ≤ 9223372036854775808 := by
    have := Int.ediv_le_self (ab b) ka.1; have := Int.ediv_nonneg ka.1 kb.1; omega
  go_enter Try.func24, Try.ntmps24
  go_wp2_with (first | (go_at_call 52; refine (r_abs a h0 h1 _).mono ?_; rintro e w' ⟨rfl, rfl⟩) | (go_at_call 52; refine (r_abs b h2 h3 _).mono ?_; rintro e w' ⟨rfl, rfl⟩) | (go_at_call 51; refine (r_neg a h0 h1 _).mono ?_; rintro e w' ⟨rfl, rfl⟩) | (go_at_call 51; refine (r_neg b h2 h3 _).mono ?_; rintro e w' ⟨rfl, rfl⟩))
  go_ret
  exact ⟨ret_int (by simp only [IntKind.wrap_u64]; exact div_unlike' a b h0 h1 h2 h3 hb (by rw [n, m]; decide)), rfl⟩
theorem r_rem_true (a b : Int) (h0 : 0 ≤ a) (h1 : a ≤ 18446744073709551615) (h2 : 0 ≤ b) (h3 : b ≤ 18446744073709551615) (hb : ¬ b = 0) (n : ngv a = true) (w : World) :
    Calls Try.prog 25 #[.int .u64 a, .int .u64 b] w fun e w' => e = .returned (.int .u64 (wRem a b)) ∧ w' = w := by
  have hz : (b == 0) = false := by simpa using hb
  have ka := ab_bd a h0 h1
  have kb := ab_bd b h2 h3
  have kz := ab_zero b h2 h3 hb
  have kq : 0 ≤ ab a / ab b ∧ ab a / ab b ≤ 9223372036854775808 := by
    have := Int.ediv_le_self (ab b) ka.1; have := Int.ediv_nonneg ka.1 kb.1; omega
  go_enter Try.func25, Try.ntmps25
  go_wp2_with (first | (go_at_call 52; refine (r_abs a h0 h1 _).mono ?_; rintro e w' ⟨rfl, rfl⟩) | (go_at_call 52; refine (r_abs b h2 h3 _).mono ?_; rintro e w' ⟨rfl, rfl⟩) | (go_at_call 51; refine (r_neg a h0 h1 _).mono ?_; rintro e w' ⟨rfl, rfl⟩) | (go_at_call 51; refine (r_neg b h2 h3 _).mono ?_; rintro e w' ⟨rfl, rfl⟩))
  go_ret
  exact ⟨ret_int (by simp only [IntKind.wrap_u64]; exact rem_neg a b h0 h1 h2 h3 hb (ngv_t n)), rfl⟩
theorem r_div_falsetrue (a b : Int) (h0 : 0 ≤ a) (h1 : a ≤ 18446744073709551615) (h2 : 0 ≤ b) (h3 : b ≤ 18446744073709551615) (hb : ¬ b = 0) (n : ngv a = false) (m : ngv b = true) (w : World) :
    Calls Try.prog 24 #[.int .u64 a, .int .u64 b] w fun e w' => e = .returned (.int .u64 (wDiv a b)) ∧ w' = w := by
  have hz : (b == 0) = false := by simpa using hb
  have ka := ab_bd a h0 h1
  have kb := ab_bd b h2 h3
  have kz := ab_zero b h2 h3 hb
  have kq : 0 ≤ ab a / ab b ∧ ab a / ab b ≤ 9223372036854775808 := by
    have := Int.ediv_le_self (ab b) ka.1; have := Int.ediv_nonneg ka.1 kb.1; omega
  go_enter Try.func24, Try.ntmps24
  go_wp2_with (first | (go_at_call 52; refine (r_abs a h0 h1 _).mono ?_; rintro e w' ⟨rfl, rfl⟩) | (go_at_call 52; refine (r_abs b h2 h3 _).mono ?_; rintro e w' ⟨rfl, rfl⟩) | (go_at_call 51; refine (r_neg a h0 h1 _).mono ?_; rintro e w' ⟨rfl, rfl⟩) | (go_at_call 51; refine (r_neg b h2 h3 _).mono ?_; rintro e w' ⟨rfl, rfl⟩))
  go_ret
  exact ⟨ret_int (by simp only [IntKind.wrap_u64]; exact div_unlike' a b h0 h1 h2 h3 hb (by rw [n, m]; decide)), rfl⟩
theorem r_div_falsefalse (a b : Int) (h0 : 0 ≤ a) (h1 : a ≤ 18446744073709551615) (h2 : 0 ≤ b) (h3 : b ≤ 18446744073709551615) (hb : ¬ b = 0) (n : ngv a = false) (m : ngv b = false) (w : World) :
    Calls Try.prog 24 #[.int .u64 a, .int .u64 b] w fun e w' => e = .returned (.int .u64 (wDiv a b)) ∧ w' = w := by
  have hz : (b == 0) = false := by simpa using hb
  have ka := ab_bd a h0 h1
  have kb := ab_bd b h2 h3
  have kz := ab_zero b h2 h3 hb
  have kq : 0 ≤ ab a / ab b ∧ ab a / ab b ≤ 9223372036854775808 := by
    have := Int.ediv_le_self (ab b) ka.1; have := Int.ediv_nonneg ka.1 kb.1; omega
  go_enter Try.func24, Try.ntmps24
  go_wp2_with (first | (go_at_call 52; refine (r_abs a h0 h1 _).mono ?_; rintro e w' ⟨rfl, rfl⟩) | (go_at_call 52; refine (r_abs b h2 h3 _).mono ?_; rintro e w' ⟨rfl, rfl⟩) | (go_at_call 51; refine (r_neg a h0 h1 _).mono ?_; rintro e w' ⟨rfl, rfl⟩) | (go_at_call 51; refine (r_neg b h2 h3 _).mono ?_; rintro e w' ⟨rfl, rfl⟩))
  go_ret
  exact ⟨ret_int (by exact div_same' a b h0 h1 h2 h3 hb (by rw [n, m])), rfl⟩
theorem r_rem_false (a b : Int) (h0 : 0 ≤ a) (h1 : a ≤ 18446744073709551615) (h2 : 0 ≤ b) (h3 : b ≤ 18446744073709551615) (hb : ¬ b = 0) (n : ngv a = false) (w : World) :
    Calls Try.prog 25 #[.int .u64 a, .int .u64 b] w fun e w' => e = .returned (.int .u64 (wRem a b)) ∧ w' = w := by
  have hz : (b == 0) = false := by simpa using hb
  have ka := ab_bd a h0 h1
  have kb := ab_bd b h2 h3
  have kz := ab_zero b h2 h3 hb
  have kq : 0 ≤ ab a / ab b ∧ ab a / ab b ≤ 9223372036854775808 := by
    have := Int.ediv_le_self (ab b) ka.1; have := Int.ediv_nonneg ka.1 kb.1; omega
  go_enter Try.func25, Try.ntmps25
  go_wp2_with (first | (go_at_call 52; refine (r_abs a h0 h1 _).mono ?_; rintro e w' ⟨rfl, rfl⟩) | (go_at_call 52; refine (r_abs b h2 h3 _).mono ?_; rintro e w' ⟨rfl, rfl⟩) | (go_at_call 51; refine (r_neg a h0 h1 _).mono ?_; rintro e w' ⟨rfl, rfl⟩) | (go_at_call 51; refine (r_neg b h2 h3 _).mono ?_; rintro e w' ⟨rfl, rfl⟩))
  go_ret
  exact ⟨ret_int (by exact rem_pos a b h0 h1 h2 h3 hb (ngv_f n)), rfl⟩
theorem r_div (a b : Int) (h0 : 0 ≤ a) (h1 : a ≤ 18446744073709551615) (h2 : 0 ≤ b) (h3 : b ≤ 18446744073709551615) (w : World) :
    Calls Try.prog 24 #[.int .u64 a, .int .u64 b] w fun e w' => e = .returned (.int .u64 (wDiv a b)) ∧ w' = w := by
  by_cases hb : b = 0
  · subst hb
    go_enter Try.func24, Try.ntmps24
    go_wp2
    go_ret
    exact ⟨rfl, rfl⟩
  cases n : ngv a
  · cases m : ngv b
    · exact r_div_falsefalse a b h0 h1 h2 h3 hb n m w
    · exact r_div_falsetrue a b h0 h1 h2 h3 hb n m w
  · cases m : ngv b
    · exact r_div_truefalse a b h0 h1 h2 h3 hb n m w
    · exact r_div_truetrue a b h0 h1 h2 h3 hb n m w
theorem r_rem (a b : Int) (h0 : 0 ≤ a) (h1 : a ≤ 18446744073709551615) (h2 : 0 ≤ b) (h3 : b ≤ 18446744073709551615) (w : World) :
    Calls Try.prog 25 #[.int .u64 a, .int .u64 b] w fun e w' => e = .returned (.int .u64 (wRem a b)) ∧ w' = w := by
  by_cases hb : b = 0
  · subst hb
    go_enter Try.func25, Try.ntmps25
    go_wp2
    go_ret
    exact ⟨rfl, rfl⟩
  cases n : ngv a
  · exact r_rem_false a b h0 h1 h2 h3 hb n w
  · exact r_rem_true a b h0 h1 h2 h3 hb n w
end Go.Proofs.Ytdpnojlmiopniaa
