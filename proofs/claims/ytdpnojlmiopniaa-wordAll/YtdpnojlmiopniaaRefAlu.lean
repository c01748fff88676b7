/- What the reference's Alu answers, for every fn and all words: the same function as the program's. -/
import Derived.Test.YtdpnojlmiopniaaRef
namespace Go.Proofs.Ytdpnojlmiopniaa
open Go.RowKit
set_option linter.unusedVariables false

theorem wSra_mod (a b : Int) : wSra a (b % 64) = wSra a b := by unfold wSra; rw [Int.emod_emod_of_dvd _ (Int.dvd_refl _)]
theorem mod32_64 (b : Int) : b % 32 % 64 = b % 32 := by omega
theorem u64_bd (x : Int) : 0 ≤ IntKind.u64.wrap x ∧ IntKind.u64.wrap x ≤ 18446744073709551615 := by rw [IntKind.wrap_u64]; omega
theorem f_sllw (a b : Int) : ex (a % 4294967296 * 2 ^ (b % 32).toNat % 18446744073709551616) = wSllw a b := by
  unfold wSllw; rw [← sllw_lo a (b % 32)]; unfold wSll lo; rw [mod32_64]
theorem f_srlw (a b : Int) : ex (a % 4294967296 / 2 ^ (b % 32).toNat) = wSrlw a b := by
  unfold wSrlw wSrl lo; rw [mod32_64]
theorem f_divuw (a b : Int) (hb : ¬ b % 4294967296 = 0) : ex (a % 4294967296 / (b % 4294967296)) = wDivuw a b := by
  unfold wDivuw wDivu lo; rw [if_neg hb]
theorem f_remuw (a b : Int) (hb : ¬ b % 4294967296 = 0) : ex (a % 4294967296 % (b % 4294967296)) = wRemuw a b := by
  unfold wRemuw wRemu lo; rw [if_neg hb]
theorem f_divuw0 (a b : Int) (hb : b % 4294967296 = 0) : 18446744073709551615 = wDivuw a b := by
  unfold wDivuw wDivu lo; rw [if_pos hb]; unfold ex wrap32; omega
theorem f_remuw0 (a b : Int) (hb : b % 4294967296 = 0) : ex a = wRemuw a b := by
  unfold wRemuw wRemu; rw [if_pos (by unfold lo; exact hb)]; exact (ex_lo a).symm
set_option maxRecDepth 100000 in
theorem ra_1 (a b : Int) (h0 : 0 ≤ a) (h1 : a ≤ 18446744073709551615) (h2 : 0 ≤ b) (h3 : b ≤ 18446744073709551615) (w : World) :
    Calls Try.prog 10 #[.int .i64 1, .int .u64 a, .int .u64 b] w fun e w' => e = .returned (.int .u64 (wAdd a b)) ∧ w' = w := by
  go_enter Try.func10, Try.ntmps10
  go_wp2
  go_ret
  exact ⟨ret_int (by simp only [IntKind.wrap_u64]; rfl), rfl⟩
set_option maxRecDepth 100000 in
theorem ra_2 (a b : Int) (h0 : 0 ≤ a) (h1 : a ≤ 18446744073709551615) (h2 : 0 ≤ b) (h3 : b ≤ 18446744073709551615) (w : World) :
    Calls Try.prog 10 #[.int .i64 2, .int .u64 a, .int .u64 b] w fun e w' => e = .returned (.int .u64 (wSub a b)) ∧ w' = w := by
  go_enter Try.func10, Try.ntmps10
  go_wp2
  go_ret
  exact ⟨ret_int (by simp only [IntKind.wrap_u64]; rfl), rfl⟩
set_option maxRecDepth 100000 in
theorem ra_3 (a b : Int) (h0 : 0 ≤ a) (h1 : a ≤ 18446744073709551615) (h2 : 0 ≤ b) (h3 : b ≤ 18446744073709551615) (w : World) :
    Calls Try.prog 10 #[.int .i64 3, .int .u64 a, .int .u64 b] w fun e w' => e = .returned (.int .u64 (wSll a b)) ∧ w' = w := by
  go_enter Try.func10, Try.ntmps10
  go_wp2
  go_ret
  exact ⟨ret_int (by simp only [IntKind.wrap_u64]; rfl), rfl⟩
set_option maxRecDepth 100000 in
theorem ra_4 (a b : Int) (h0 : 0 ≤ a) (h1 : a ≤ 18446744073709551615) (h2 : 0 ≤ b) (h3 : b ≤ 18446744073709551615) (w : World) :
    Calls Try.prog 10 #[.int .i64 4, .int .u64 a, .int .u64 b] w fun e w' => e = .returned (.int .u64 (wSlt a b)) ∧ w' = w := by
  go_enter Try.func10, Try.ntmps10
  go_wp2_with (first | (go_at_call 20; refine (r_less' _ _ h0 h1 h2 h3 _).mono ?_; rintro e w' ⟨rfl, rfl⟩) | (go_at_call 19; refine (r_bit _ _).mono ?_; rintro e w' ⟨rfl, rfl⟩))
  go_ret
  exact ⟨rfl, rfl⟩
set_option maxRecDepth 100000 in
theorem ra_5 (a b : Int) (h0 : 0 ≤ a) (h1 : a ≤ 18446744073709551615) (h2 : 0 ≤ b) (h3 : b ≤ 18446744073709551615) (w : World) :
    Calls Try.prog 10 #[.int .i64 5, .int .u64 a, .int .u64 b] w fun e w' => e = .returned (.int .u64 (wSltu a b)) ∧ w' = w := by
  go_enter Try.func10, Try.ntmps10
  go_wp2_with (go_at_call 19; refine (r_bit _ _).mono ?_; rintro e w' ⟨rfl, rfl⟩)
  go_ret
  exact ⟨rfl, rfl⟩
set_option maxRecDepth 100000 in
theorem ra_6 (a b : Int) (h0 : 0 ≤ a) (h1 : a ≤ 18446744073709551615) (h2 : 0 ≤ b) (h3 : b ≤ 18446744073709551615) (w : World) :
    Calls Try.prog 10 #[.int .i64 6, .int .u64 a, .int .u64 b] w fun e w' => e = .returned (.int .u64 (wXor a b)) ∧ w' = w := by
  go_enter Try.func10, Try.ntmps10
  go_wp2
  go_ret
  exact ⟨rfl, rfl⟩
set_option maxRecDepth 100000 in
theorem ra_7 (a b : Int) (h0 : 0 ≤ a) (h1 : a ≤ 18446744073709551615) (h2 : 0 ≤ b) (h3 : b ≤ 18446744073709551615) (w : World) :
    Calls Try.prog 10 #[.int .i64 7, .int .u64 a, .int .u64 b] w fun e w' => e = .returned (.int .u64 (wSrl a b)) ∧ w' = w := by
  go_enter Try.func10, Try.ntmps10
  go_wp2
  go_ret
  exact ⟨rfl, rfl⟩
set_option maxRecDepth 100000 in
theorem ra_8 (a b : Int) (h0 : 0 ≤ a) (h1 : a ≤ 18446744073709551615) (h2 : 0 ≤ b) (h3 : b ≤ 18446744073709551615) (w : World) :
    Calls Try.prog 10 #[.int .i64 8, .int .u64 a, .int .u64 b] w fun e w' => e = .returned (.int .u64 (wSra a b)) ∧ w' = w := by
  go_enter Try.func10, Try.ntmps10
  go_wp2_with (go_at_call 21; refine (r_sra _ _ h0 h1 (by omega) (by omega) _).mono ?_; rintro e w' ⟨rfl, rfl⟩)
  go_ret
  exact ⟨ret_int (wSra_mod a b), rfl⟩
set_option maxRecDepth 100000 in
theorem ra_9 (a b : Int) (h0 : 0 ≤ a) (h1 : a ≤ 18446744073709551615) (h2 : 0 ≤ b) (h3 : b ≤ 18446744073709551615) (w : World) :
    Calls Try.prog 10 #[.int .i64 9, .int .u64 a, .int .u64 b] w fun e w' => e = .returned (.int .u64 (wOr a b)) ∧ w' = w := by
  go_enter Try.func10, Try.ntmps10
  go_wp2
  go_ret
  exact ⟨rfl, rfl⟩
set_option maxRecDepth 100000 in
theorem ra_10 (a b : Int) (h0 : 0 ≤ a) (h1 : a ≤ 18446744073709551615) (h2 : 0 ≤ b) (h3 : b ≤ 18446744073709551615) (w : World) :
    Calls Try.prog 10 #[.int .i64 10, .int .u64 a, .int .u64 b] w fun e w' => e = .returned (.int .u64 (wAnd a b)) ∧ w' = w := by
  go_enter Try.func10, Try.ntmps10
  go_wp2
  go_ret
  exact ⟨rfl, rfl⟩
set_option maxRecDepth 100000 in
theorem ra_11 (a b : Int) (h0 : 0 ≤ a) (h1 : a ≤ 18446744073709551615) (h2 : 0 ≤ b) (h3 : b ≤ 18446744073709551615) (w : World) :
    Calls Try.prog 10 #[.int .i64 11, .int .u64 a, .int .u64 b] w fun e w' => e = .returned (.int .u64 (wMul a b)) ∧ w' = w := by
  go_enter Try.func10, Try.ntmps10
  go_wp2
  go_ret
  exact ⟨ret_int (by simp only [IntKind.wrap_u64]; rfl), rfl⟩
set_option maxRecDepth 100000 in
theorem ra_12 (a b : Int) (h0 : 0 ≤ a) (h1 : a ≤ 18446744073709551615) (h2 : 0 ≤ b) (h3 : b ≤ 18446744073709551615) (w : World) :
    Calls Try.prog 10 #[.int .i64 12, .int .u64 a, .int .u64 b] w fun e w' => e = .returned (.int .u64 (wMulh a b)) ∧ w' = w := by
  go_enter Try.func10, Try.ntmps10
  go_wp2_with (go_at_call 22; refine (r_hs_tt _ _ h0 h1 h2 h3 _).mono ?_; rintro e w' ⟨rfl, rfl⟩)
  go_ret
  exact ⟨rfl, rfl⟩
set_option maxRecDepth 100000 in
theorem ra_13 (a b : Int) (h0 : 0 ≤ a) (h1 : a ≤ 18446744073709551615) (h2 : 0 ≤ b) (h3 : b ≤ 18446744073709551615) (w : World) :
    Calls Try.prog 10 #[.int .i64 13, .int .u64 a, .int .u64 b] w fun e w' => e = .returned (.int .u64 (wMulhsu a b)) ∧ w' = w := by
  go_enter Try.func10, Try.ntmps10
  go_wp2_with (go_at_call 22; refine (r_hs_tf _ _ h0 h1 h2 h3 _).mono ?_; rintro e w' ⟨rfl, rfl⟩)
  go_ret
  exact ⟨rfl, rfl⟩
set_option maxRecDepth 100000 in
theorem ra_14 (a b : Int) (h0 : 0 ≤ a) (h1 : a ≤ 18446744073709551615) (h2 : 0 ≤ b) (h3 : b ≤ 18446744073709551615) (w : World) :
    Calls Try.prog 10 #[.int .i64 14, .int .u64 a, .int .u64 b] w fun e w' => e = .returned (.int .u64 (wMulhu a b)) ∧ w' = w := by
  go_enter Try.func10, Try.ntmps10
  go_wp2_with (go_at_call 23; refine (r_High _ _ h0 h1 h2 h3 _).mono ?_; rintro e w' ⟨rfl, rfl⟩)
  go_ret
  exact ⟨rfl, rfl⟩
set_option maxRecDepth 100000 in
theorem ra_15 (a b : Int) (h0 : 0 ≤ a) (h1 : a ≤ 18446744073709551615) (h2 : 0 ≤ b) (h3 : b ≤ 18446744073709551615) (w : World) :
    Calls Try.prog 10 #[.int .i64 15, .int .u64 a, .int .u64 b] w fun e w' => e = .returned (.int .u64 (wDiv a b)) ∧ w' = w := by
  go_enter Try.func10, Try.ntmps10
  go_wp2_with (go_at_call 24; refine (r_div _ _ h0 h1 h2 h3 _).mono ?_; rintro e w' ⟨rfl, rfl⟩)
  go_ret
  exact ⟨rfl, rfl⟩
set_option maxRecDepth 100000 in
theorem ra_17 (a b : Int) (h0 : 0 ≤ a) (h1 : a ≤ 18446744073709551615) (h2 : 0 ≤ b) (h3 : b ≤ 18446744073709551615) (w : World) :
    Calls Try.prog 10 #[.int .i64 17, .int .u64 a, .int .u64 b] w fun e w' => e = .returned (.int .u64 (wRem a b)) ∧ w' = w := by
  go_enter Try.func10, Try.ntmps10
  go_wp2_with (go_at_call 25; refine (r_rem _ _ h0 h1 h2 h3 _).mono ?_; rintro e w' ⟨rfl, rfl⟩)
  go_ret
  exact ⟨rfl, rfl⟩
set_option maxRecDepth 100000 in
theorem ra_16 (a b : Int) (h0 : 0 ≤ a) (h1 : a ≤ 18446744073709551615) (h2 : 0 ≤ b) (h3 : b ≤ 18446744073709551615) (w : World) :
    Calls Try.prog 10 #[.int .i64 16, .int .u64 a, .int .u64 b] w fun e w' => e = .returned (.int .u64 (wDivu a b)) ∧ w' = w := by
  by_cases hb : b = 0
  · subst hb
    go_enter Try.func10, Try.ntmps10
    go_wp2
    go_ret
    exact ⟨rfl, rfl⟩
  · have hz : (b == 0) = false := by simpa using hb
    go_enter Try.func10, Try.ntmps10
    go_wp2
    go_ret
    exact ⟨ret_int (i_divu a b h0 h1 h2 h3 hz), rfl⟩
set_option maxRecDepth 100000 in
theorem ra_18 (a b : Int) (h0 : 0 ≤ a) (h1 : a ≤ 18446744073709551615) (h2 : 0 ≤ b) (h3 : b ≤ 18446744073709551615) (w : World) :
    Calls Try.prog 10 #[.int .i64 18, .int .u64 a, .int .u64 b] w fun e w' => e = .returned (.int .u64 (wRemu a b)) ∧ w' = w := by
  by_cases hb : b = 0
  · subst hb
    go_enter Try.func10, Try.ntmps10
    go_wp2
    go_ret
    exact ⟨rfl, rfl⟩
  · have hz : (b == 0) = false := by simpa using hb
    go_enter Try.func10, Try.ntmps10
    go_wp2
    go_ret
    exact ⟨ret_int (i_remu a b h0 h1 h2 h3 hz), rfl⟩
set_option maxRecDepth 100000 in
theorem ra_19 (a b : Int) (h0 : 0 ≤ a) (h1 : a ≤ 18446744073709551615) (h2 : 0 ≤ b) (h3 : b ≤ 18446744073709551615) (w : World) :
    Calls Try.prog 10 #[.int .i64 19, .int .u64 a, .int .u64 b] w fun e w' => e = .returned (.int .u64 (wAddw a b)) ∧ w' = w := by
  have kx := u64_bd (a + b)
  go_enter Try.func10, Try.ntmps10
  go_wp2_with (go_at_call 26; refine (r_W _ kx.1 kx.2 _).mono ?_; rintro e w' ⟨rfl, rfl⟩)
  go_ret
  exact ⟨ret_int (by simp only [IntKind.wrap_u64]; rfl), rfl⟩
set_option maxRecDepth 100000 in
theorem ra_20 (a b : Int) (h0 : 0 ≤ a) (h1 : a ≤ 18446744073709551615) (h2 : 0 ≤ b) (h3 : b ≤ 18446744073709551615) (w : World) :
    Calls Try.prog 10 #[.int .i64 20, .int .u64 a, .int .u64 b] w fun e w' => e = .returned (.int .u64 (wSubw a b)) ∧ w' = w := by
  have kx := u64_bd (a - b)
  go_enter Try.func10, Try.ntmps10
  go_wp2_with (go_at_call 26; refine (r_W _ kx.1 kx.2 _).mono ?_; rintro e w' ⟨rfl, rfl⟩)
  go_ret
  exact ⟨ret_int (by simp only [IntKind.wrap_u64]; rfl), rfl⟩
set_option maxRecDepth 100000 in
theorem ra_24 (a b : Int) (h0 : 0 ≤ a) (h1 : a ≤ 18446744073709551615) (h2 : 0 ≤ b) (h3 : b ≤ 18446744073709551615) (w : World) :
    Calls Try.prog 10 #[.int .i64 24, .int .u64 a, .int .u64 b] w fun e w' => e = .returned (.int .u64 (wMulw a b)) ∧ w' = w := by
  have kx := u64_bd (a * b)
  go_enter Try.func10, Try.ntmps10
  go_wp2_with (go_at_call 26; refine (r_W _ kx.1 kx.2 _).mono ?_; rintro e w' ⟨rfl, rfl⟩)
  go_ret
  exact ⟨ret_int (by simp only [IntKind.wrap_u64]; rfl), rfl⟩
set_option maxRecDepth 100000 in
theorem ra_21 (a b : Int) (h0 : 0 ≤ a) (h1 : a ≤ 18446744073709551615) (h2 : 0 ≤ b) (h3 : b ≤ 18446744073709551615) (w : World) :
    Calls Try.prog 10 #[.int .i64 21, .int .u64 a, .int .u64 b] w fun e w' => e = .returned (.int .u64 (wSllw a b)) ∧ w' = w := by
  have kx := u64_bd (a % 4294967296 * 2 ^ (b % 32).toNat)
  go_enter Try.func10, Try.ntmps10
  go_wp2_with (go_at_call 26; refine (r_W _ kx.1 kx.2 _).mono ?_; rintro e w' ⟨rfl, rfl⟩)
  go_ret
  exact ⟨ret_int (by simp only [IntKind.wrap_u64]; exact f_sllw a b), rfl⟩
set_option maxRecDepth 100000 in
theorem ra_22 (a b : Int) (h0 : 0 ≤ a) (h1 : a ≤ 18446744073709551615) (h2 : 0 ≤ b) (h3 : b ≤ 18446744073709551615) (w : World) :
    Calls Try.prog 10 #[.int .i64 22, .int .u64 a, .int .u64 b] w fun e w' => e = .returned (.int .u64 (wSrlw a b)) ∧ w' = w := by
  have kx := div_pow_bd (a % 4294967296) (b % 32).toNat (by omega) (by omega)
  go_enter Try.func10, Try.ntmps10
  go_wp2_with (go_at_call 26; refine (r_W _ kx.1 kx.2 _).mono ?_; rintro e w' ⟨rfl, rfl⟩)
  go_ret
  exact ⟨ret_int (f_srlw a b), rfl⟩
set_option maxRecDepth 100000 in
theorem ra_23 (a b : Int) (h0 : 0 ≤ a) (h1 : a ≤ 18446744073709551615) (h2 : 0 ≤ b) (h3 : b ≤ 18446744073709551615) (w : World) :
    Calls Try.prog 10 #[.int .i64 23, .int .u64 a, .int .u64 b] w fun e w' => e = .returned (.int .u64 (wSraw a b)) ∧ w' = w := by
  have kx := ex_bd a
  have ky := wSra_bd (ex a) (b % 32)
  go_enter Try.func10, Try.ntmps10
  go_wp2_with (first | (go_at_call 26; refine (r_W _ ?_ ?_ _).mono ?_; omega; omega; rintro e w' ⟨rfl, rfl⟩) | (go_at_call 21; refine (r_sra _ _ kx.1 kx.2 (by omega) (by omega) _).mono ?_; rintro e w' ⟨rfl, rfl⟩))
  go_ret
  exact ⟨ret_int (sraw_ex a (b % 32)), rfl⟩
set_option maxRecDepth 100000 in
theorem ra_25 (a b : Int) (h0 : 0 ≤ a) (h1 : a ≤ 18446744073709551615) (h2 : 0 ≤ b) (h3 : b ≤ 18446744073709551615) (w : World) :
    Calls Try.prog 10 #[.int .i64 25, .int .u64 a, .int .u64 b] w fun e w' => e = .returned (.int .u64 (wDivw a b)) ∧ w' = w := by
  have kx := ex_bd a
  have ky := ex_bd b
  have kz := wDiv_bd (ex a) (ex b)
  go_enter Try.func10, Try.ntmps10
  go_wp2_with (first | (go_at_call 26; refine (r_W _ ?_ ?_ _).mono ?_; omega; omega; rintro e w' ⟨rfl, rfl⟩) | (go_at_call 24; refine (r_div _ _ kx.1 kx.2 ky.1 ky.2 _).mono ?_; rintro e w' ⟨rfl, rfl⟩))
  go_ret
  exact ⟨rfl, rfl⟩
set_option maxRecDepth 100000 in
theorem ra_27 (a b : Int) (h0 : 0 ≤ a) (h1 : a ≤ 18446744073709551615) (h2 : 0 ≤ b) (h3 : b ≤ 18446744073709551615) (w : World) :
    Calls Try.prog 10 #[.int .i64 27, .int .u64 a, .int .u64 b] w fun e w' => e = .returned (.int .u64 (wRemw a b)) ∧ w' = w := by
  have kx := ex_bd a
  have ky := ex_bd b
  have kz := wRem_bd (ex a) (ex b) kx.1 kx.2
  go_enter Try.func10, Try.ntmps10
  go_wp2_with (first | (go_at_call 26; refine (r_W _ ?_ ?_ _).mono ?_; omega; omega; rintro e w' ⟨rfl, rfl⟩) | (go_at_call 25; refine (r_rem _ _ kx.1 kx.2 ky.1 ky.2 _).mono ?_; rintro e w' ⟨rfl, rfl⟩))
  go_ret
  exact ⟨ret_int (remw_ex a b), rfl⟩
set_option maxRecDepth 100000 in
theorem ra_26 (a b : Int) (h0 : 0 ≤ a) (h1 : a ≤ 18446744073709551615) (h2 : 0 ≤ b) (h3 : b ≤ 18446744073709551615) (w : World) :
    Calls Try.prog 10 #[.int .i64 26, .int .u64 a, .int .u64 b] w fun e w' => e = .returned (.int .u64 (wDivuw a b)) ∧ w' = w := by
  by_cases hb : b % 4294967296 = 0
  · have hz : (b % 4294967296 == 0) = true := by simpa using hb
    have hr : Hid (b % 4294967296 = 0) := hb
    clear hb
    go_enter Try.func10, Try.ntmps10
    go_wp2
    go_ret
    exact ⟨ret_int (f_divuw0 a b hr.out), rfl⟩
  · have hz : (b % 4294967296 == 0) = false := by simpa using hb
    have kx : 0 ≤ a % 4294967296 / (b % 4294967296) ∧ a % 4294967296 / (b % 4294967296) ≤ 18446744073709551615 := by
      have := wDivu_bd (a % 4294967296) (b % 4294967296) (by omega) (by omega) (by omega)
      unfold wDivu at this; rw [if_neg hb] at this; exact this
    go_enter Try.func10, Try.ntmps10
    go_wp2_with (go_at_call 26; refine (r_W _ kx.1 kx.2 _).mono ?_; rintro e w' ⟨rfl, rfl⟩)
    go_ret
    exact ⟨ret_int (f_divuw a b hb), rfl⟩
set_option maxRecDepth 100000 in
theorem ra_28 (a b : Int) (h0 : 0 ≤ a) (h1 : a ≤ 18446744073709551615) (h2 : 0 ≤ b) (h3 : b ≤ 18446744073709551615) (w : World) :
    Calls Try.prog 10 #[.int .i64 28, .int .u64 a, .int .u64 b] w fun e w' => e = .returned (.int .u64 (wRemuw a b)) ∧ w' = w := by
  by_cases hb : b % 4294967296 = 0
  · have hz : (b % 4294967296 == 0) = true := by simpa using hb
    have hr : Hid (b % 4294967296 = 0) := hb
    clear hb
    go_enter Try.func10, Try.ntmps10
    go_wp2_with (go_at_call 26; refine (r_W a h0 h1 _).mono ?_; rintro e w' ⟨rfl, rfl⟩)
    go_ret
    exact ⟨ret_int (f_remuw0 a b hr.out), rfl⟩
  · have hz : (b % 4294967296 == 0) = false := by simpa using hb
    have kx : 0 ≤ a % 4294967296 % (b % 4294967296) ∧ a % 4294967296 % (b % 4294967296) ≤ 18446744073709551615 := by
      have := wRemu_bd (a % 4294967296) (b % 4294967296) (by omega) (by omega) (by omega)
      unfold wRemu at this; rw [if_neg hb] at this; exact this
    go_enter Try.func10, Try.ntmps10
    go_wp2_with (go_at_call 26; refine (r_W _ kx.1 kx.2 _).mono ?_; rintro e w' ⟨rfl, rfl⟩)
    go_ret
    exact ⟨ret_int (f_remuw a b hb), rfl⟩
set_option maxRecDepth 100000 in
theorem ra_none (fn a b : Int) (h0 : 0 ≤ a) (h1 : a ≤ 18446744073709551615) (h2 : 0 ≤ b) (h3 : b ≤ 18446744073709551615) (w : World) (e1 : ¬ fn = 1) (e2 : ¬ fn = 2) (e3 : ¬ fn = 3) (e4 : ¬ fn = 4) (e5 : ¬ fn = 5) (e6 : ¬ fn = 6) (e7 : ¬ fn = 7) (e8 : ¬ fn = 8) (e9 : ¬ fn = 9) (e10 : ¬ fn = 10) (e11 : ¬ fn = 11) (e12 : ¬ fn = 12) (e13 : ¬ fn = 13) (e14 : ¬ fn = 14) (e15 : ¬ fn = 15) (e16 : ¬ fn = 16) (e17 : ¬ fn = 17) (e18 : ¬ fn = 18) (e19 : ¬ fn = 19) (e20 : ¬ fn = 20) (e21 : ¬ fn = 21) (e22 : ¬ fn = 22) (e23 : ¬ fn = 23) (e24 : ¬ fn = 24) (e25 : ¬ fn = 25) (e26 : ¬ fn = 26) (e27 : ¬ fn = 27) (e28 : ¬ fn = 28) :
    Calls Try.prog 10 #[.int .i64 fn, .int .u64 a, .int .u64 b] w fun e w' => e = .returned (.int .u64 0) ∧ w' = w := by
  have d1 : (fn == 1) = false := by simpa using e1
  have d2 : (fn == 2) = false := by simpa using e2
  have d3 : (fn == 3) = false := by simpa using e3
  have d4 : (fn == 4) = false := by simpa using e4
  have d5 : (fn == 5) = false := by simpa using e5
  have d6 : (fn == 6) = false := by simpa using e6
  have d7 : (fn == 7) = false := by simpa using e7
  have d8 : (fn == 8) = false := by simpa using e8
  have d9 : (fn == 9) = false := by simpa using e9
  have d10 : (fn == 10) = false := by simpa using e10
  have d11 : (fn == 11) = false := by simpa using e11
  have d12 : (fn == 12) = false := by simpa using e12
  have d13 : (fn == 13) = false := by simpa using e13
  have d14 : (fn == 14) = false := by simpa using e14
  have d15 : (fn == 15) = false := by simpa using e15
  have d16 : (fn == 16) = false := by simpa using e16
  have d17 : (fn == 17) = false := by simpa using e17
  have d18 : (fn == 18) = false := by simpa using e18
  have d19 : (fn == 19) = false := by simpa using e19
  have d20 : (fn == 20) = false := by simpa using e20
  have d21 : (fn == 21) = false := by simpa using e21
  have d22 : (fn == 22) = false := by simpa using e22
  have d23 : (fn == 23) = false := by simpa using e23
  have d24 : (fn == 24) = false := by simpa using e24
  have d25 : (fn == 25) = false := by simpa using e25
  have d26 : (fn == 26) = false := by simpa using e26
  have d27 : (fn == 27) = false := by simpa using e27
  have d28 : (fn == 28) = false := by simpa using e28
  go_enter Try.func10, Try.ntmps10
  go_wp2
  go_ret
  exact ⟨rfl, rfl⟩
theorem ra_off (fn a b : Int) (e1 : ¬ fn = 1) (e2 : ¬ fn = 2) (e3 : ¬ fn = 3) (e4 : ¬ fn = 4) (e5 : ¬ fn = 5) (e6 : ¬ fn = 6) (e7 : ¬ fn = 7) (e8 : ¬ fn = 8) (e9 : ¬ fn = 9) (e10 : ¬ fn = 10) (e11 : ¬ fn = 11) (e12 : ¬ fn = 12) (e13 : ¬ fn = 13) (e14 : ¬ fn = 14) (e15 : ¬ fn = 15) (e16 : ¬ fn = 16) (e17 : ¬ fn = 17) (e18 : ¬ fn = 18) (e19 : ¬ fn = 19) (e20 : ¬ fn = 20) (e21 : ¬ fn = 21) (e22 : ¬ fn = 22) (e23 : ¬ fn = 23) (e24 : ¬ fn = 24) (e25 : ¬ fn = 25) (e26 : ¬ fn = 26) (e27 : ¬ fn = 27) (e28 : ¬ fn = 28) : alu fn a b = 0 := by
  unfold alu
  rw [if_neg e1, if_neg e2, if_neg e3, if_neg e4, if_neg e5, if_neg e6, if_neg e7, if_neg e8, if_neg e9, if_neg e10, if_neg e11, if_neg e12, if_neg e13, if_neg e14, if_neg e15, if_neg e16, if_neg e17, if_neg e18, if_neg e19, if_neg e20, if_neg e21, if_neg e22, if_neg e23, if_neg e24, if_neg e25, if_neg e26, if_neg e27, if_neg e28]
theorem r_Alu (fn a b : Int) (h0 : 0 ≤ a) (h1 : a ≤ 18446744073709551615) (h2 : 0 ≤ b) (h3 : b ≤ 18446744073709551615) (w : World) :
    Calls Try.prog 10 #[.int .i64 fn, .int .u64 a, .int .u64 b] w fun e w' => e = .returned (.int .u64 (alu fn a b)) ∧ w' = w := by
  by_cases e1 : fn = 1
  · subst e1; exact ra_1 a b h0 h1 h2 h3 w
  by_cases e2 : fn = 2
  · subst e2; exact ra_2 a b h0 h1 h2 h3 w
  by_cases e3 : fn = 3
  · subst e3; exact ra_3 a b h0 h1 h2 h3 w
  by_cases e4 : fn = 4
  · subst e4; exact ra_4 a b h0 h1 h2 h3 w
  by_cases e5 : fn = 5
  · subst e5; exact ra_5 a b h0 h1 h2 h3 w
  by_cases e6 : fn = 6
  · subst e6; exact ra_6 a b h0 h1 h2 h3 w
  by_cases e7 : fn = 7
  · subst e7; exact ra_7 a b h0 h1 h2 h3 w
  by_cases e8 : fn = 8
  · subst e8; exact ra_8 a b h0 h1 h2 h3 w
  by_cases e9 : fn = 9
  · subst e9; exact ra_9 a b h0 h1 h2 h3 w
  by_cases e10 : fn = 10
  · subst e10; exact ra_10 a b h0 h1 h2 h3 w
  by_cases e11 : fn = 11
  · subst e11; exact ra_11 a b h0 h1 h2 h3 w
  by_cases e12 : fn = 12
  · subst e12; exact ra_12 a b h0 h1 h2 h3 w
  by_cases e13 : fn = 13
  · subst e13; exact ra_13 a b h0 h1 h2 h3 w
  by_cases e14 : fn = 14
  · subst e14; exact ra_14 a b h0 h1 h2 h3 w
  by_cases e15 : fn = 15
  · subst e15; exact ra_15 a b h0 h1 h2 h3 w
  by_cases e16 : fn = 16
  · subst e16; exact ra_16 a b h0 h1 h2 h3 w
  by_cases e17 : fn = 17
  · subst e17; exact ra_17 a b h0 h1 h2 h3 w
  by_cases e18 : fn = 18
  · subst e18; exact ra_18 a b h0 h1 h2 h3 w
  by_cases e19 : fn = 19
  · subst e19; exact ra_19 a b h0 h1 h2 h3 w
  by_cases e20 : fn = 20
  · subst e20; exact ra_20 a b h0 h1 h2 h3 w
  by_cases e21 : fn = 21
  · subst e21; exact ra_21 a b h0 h1 h2 h3 w
  by_cases e22 : fn = 22
  · subst e22; exact ra_22 a b h0 h1 h2 h3 w
  by_cases e23 : fn = 23
  · subst e23; exact ra_23 a b h0 h1 h2 h3 w
  by_cases e24 : fn = 24
  · subst e24; exact ra_24 a b h0 h1 h2 h3 w
  by_cases e25 : fn = 25
  · subst e25; exact ra_25 a b h0 h1 h2 h3 w
  by_cases e26 : fn = 26
  · subst e26; exact ra_26 a b h0 h1 h2 h3 w
  by_cases e27 : fn = 27
  · subst e27; exact ra_27 a b h0 h1 h2 h3 w
  by_cases e28 : fn = 28
  · subst e28; exact ra_28 a b h0 h1 h2 h3 w
  rw [ra_off fn a b e1 e2 e3 e4 e5 e6 e7 e8 e9 e10 e11 e12 e13 e14 e15 e16 e17 e18 e19 e20 e21 e22 e23 e24 e25 e26 e27 e28]
  exact ra_none fn a b h0 h1 h2 h3 w e1 e2 e3 e4 e5 e6 e7 e8 e9 e10 e11 e12 e13 e14 e15 e16 e17 e18 e19 e20 e21 e22 e23 e24 e25 e26 e27 e28
end Go.Proofs.Ytdpnojlmiopniaa
