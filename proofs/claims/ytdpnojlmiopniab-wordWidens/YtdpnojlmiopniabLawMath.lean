/- What the laws that hold without the document's answer need of the words' arithmetic: quotients and rests, products, halves, shifts, orders, atomics, extensions. Plain arithmetic. -/
import Derived.Test.YtdpnojlmiopniabRefMath
namespace Go.Proofs.Ytdpnojlmiopniab
open Go.RowKit
set_option linter.unusedVariables false

theorem modmul (m q b r : Int) : (q % m * (b % m) % m + r % m) % m = (q * b + r) % m := by
  rw [← Int.mul_emod, ← Int.add_emod]
theorem modmul1 (m q b r : Int) : (q % m * b % m + r % m) % m = (q * b + r) % m := by
  rw [Int.mul_emod (q % m) b, Int.emod_emod_of_dvd q (Int.dvd_refl m)]; exact modmul m q b r
theorem sg_form (a : Int) (h0 : 0 ≤ a) (h1 : a ≤ 18446744073709551615) : ∃ c : Int, a = sg a + 18446744073709551616 * c := by
  unfold sg; split
  · exact ⟨0, by omega⟩
  · exact ⟨1, by omega⟩

/-! quotients and rests -/
theorem d_signed (a b : Int) (h0 : 0 ≤ a) (h1 : a ≤ 18446744073709551615) (h2 : 0 ≤ b) (h3 : b ≤ 18446744073709551615) (hb : ¬ b = 0) :
    (wDiv a b * b % 18446744073709551616 + wRem a b) % 18446744073709551616 = a := by
  obtain ⟨c, hc⟩ := sg_form a h0 h1
  obtain ⟨d, hd⟩ := sg_form b h2 h3
  unfold wDiv wRem; rw [if_neg hb, if_neg hb, modmul1]
  have key := Int.tdiv_mul_add_tmod (sg a) (sg b)
  generalize (sg a).tdiv (sg b) = q at *
  generalize (sg a).tmod (sg b) = r at *
  have e : q * b + r = sg a + 18446744073709551616 * (q * d) := by
    rw [hd, Int.mul_add, ← key]
    have : q * (18446744073709551616 * d) = 18446744073709551616 * (q * d) := by grind
    omega
  rw [e, Int.add_mul_emod_self_left]
  have k := sg_bd a h0 h1
  unfold sg at *; split at * <;> omega
theorem d_unsigned (a b : Int) (h0 : 0 ≤ a) (h1 : a ≤ 18446744073709551615) (h2 : 0 ≤ b) (h3 : b ≤ 18446744073709551615) (hb : ¬ b = 0) :
    (wDivu a b * b % 18446744073709551616 + wRemu a b) % 18446744073709551616 = a := by
  unfold wDivu wRemu; rw [if_neg hb, if_neg hb]
  have key := Int.ediv_mul_add_emod a b
  have k1 := Int.emod_nonneg a hb
  have k2 := Int.mul_nonneg (Int.ediv_nonneg h0 h2) h2
  generalize a / b * b = q at *
  generalize a % b = r at *
  omega
theorem d_less (a b : Int) (h2 : 0 ≤ b) (hb : ¬ b = 0) : wRemu a b < b := by
  unfold wRemu; rw [if_neg hb]; exact Int.emod_lt_of_pos a (by omega)
theorem mod_mod32 (x : Int) : x % 18446744073709551616 % 4294967296 = x % 4294967296 := by omega
theorem d_signedw (a b : Int) (h : ¬ b % 4294967296 = 0) :
    (wDivw a b % 4294967296 * (b % 4294967296) % 4294967296 + wRemw a b % 4294967296) % 4294967296 = a % 4294967296 := by
  have hx := ex_bd a
  have hy := ex_bd b
  have hb : ¬ ex b = 0 := by rw [ex_zero]; unfold lo; exact h
  have k := d_signed (ex a) (ex b) hx.1 hx.2 hy.1 hy.2 hb
  have e1 : wDivw a b % 4294967296 = wDiv (ex a) (ex b) % 4294967296 := lo_ex _
  have e2 : b % 4294967296 = ex b % 4294967296 := (lo_ex b).symm
  have e3 : a % 4294967296 = ex a % 4294967296 := (lo_ex a).symm
  unfold wRemw
  rw [e1, e2, e3, modmul]
  generalize wDiv (ex a) (ex b) * ex b = q at *
  generalize wRem (ex a) (ex b) = r at *
  omega
theorem d_unsignedw (a b : Int) (h : ¬ b % 4294967296 = 0) :
    (wDivuw a b % 4294967296 * (b % 4294967296) % 4294967296 + wRemuw a b % 4294967296) % 4294967296 = a % 4294967296 := by
  have hx := lo_bd a
  have hy := lo_bd b
  have k := d_unsigned (lo a) (lo b) hx.1 (by omega) hy.1 (by omega) (by unfold lo; exact h)
  have e1 : wDivuw a b % 4294967296 = wDivu (lo a) (lo b) % 4294967296 := lo_ex _
  have e4 : wRemuw a b % 4294967296 = wRemu (lo a) (lo b) % 4294967296 := lo_ex _
  have e2 : b % 4294967296 = lo b % 4294967296 := (lo_lo b).symm
  have e3 : a % 4294967296 = lo a % 4294967296 := (lo_lo a).symm
  rw [e1, e4, e2, e3, modmul]
  generalize wDivu (lo a) (lo b) * lo b = q at *
  generalize wRemu (lo a) (lo b) = r at *
  omega

/-! products -/
theorem p_low (a b c : Int) : (wMul a b + wMul a c) % 18446744073709551616 = wMul a (b + c) := by
  unfold wMul; rw [Int.mul_add, ← Int.add_emod]
theorem p_high (a b c : Int) (h0 : 0 ≤ a) (h1 : a ≤ 18446744073709551615) (h2 : 0 ≤ b) (h4 : 0 ≤ c) (h5 : b + c ≤ 18446744073709551615)
    (k : Int) (hk : k = if (wMul a b + wMul a c) % 18446744073709551616 < wMul a b then 1 else 0) :
    ((wMulhu a b + wMulhu a c) % 18446744073709551616 + k) % 18446744073709551616 = wMulhu a (b + c) := by
  have kx := mulhu_bd a (b + c) h0 h1 (by omega) h5
  subst hk
  unfold wMul wMulhu at *
  rw [Int.mul_add] at *
  have n1 := Int.mul_nonneg h0 h2
  have n2 := Int.mul_nonneg h0 h4
  generalize a * b = x at *
  generalize a * c = y at *
  split <;> omega

/-! halves -/
theorem lo_join (a x : Int) : lo ((a % 4294967296 + x) % 18446744073709551616) = (a % 4294967296 + x) % 4294967296 := by unfold lo; omega
theorem h_add (a b c d : Int) (h : lo a = lo c) (k : lo b = lo d) : wAddw a b = wAddw c d := by
  unfold wAddw wAdd; rw [ex_mod, ex_mod]; apply ex_of_lo; unfold lo at *; omega
theorem h_sub (a b c d : Int) (h : lo a = lo c) (k : lo b = lo d) : wSubw a b = wSubw c d := by
  unfold wSubw wSub; rw [ex_mod, ex_mod]; apply ex_of_lo; unfold lo at *; omega
theorem h_mul (a b c d : Int) (h : lo a = lo c) (k : lo b = lo d) : wMulw a b = wMulw c d := by
  unfold wMulw wMul; rw [ex_mod, ex_mod]; apply ex_of_lo; unfold lo at *; rw [Int.mul_emod a, h, k, ← Int.mul_emod]
theorem mod32_of_lo (b d : Int) (k : lo b = lo d) : b % 32 = d % 32 := by unfold lo at k; omega
theorem h_sll (a b c d : Int) (h : lo a = lo c) (k : lo b = lo d) : wSllw a b = wSllw c d := by
  unfold wSllw; rw [← sllw_lo a, ← sllw_lo c, h, mod32_of_lo b d k]
theorem h_srl (a b c d : Int) (h : lo a = lo c) (k : lo b = lo d) : wSrlw a b = wSrlw c d := by
  unfold wSrlw; rw [h, mod32_of_lo b d k]
theorem h_sra (a b c d : Int) (h : lo a = lo c) (k : lo b = lo d) : wSraw a b = wSraw c d := by
  unfold wSraw; rw [ex_of_lo a c h, mod32_of_lo b d k]
theorem h_div (a b c d : Int) (h : lo a = lo c) (k : lo b = lo d) : wDivw a b = wDivw c d := by
  unfold wDivw; rw [ex_of_lo a c h, ex_of_lo b d k]
theorem h_divu (a b c d : Int) (h : lo a = lo c) (k : lo b = lo d) : wDivuw a b = wDivuw c d := by
  unfold wDivuw; rw [h, k]
theorem h_rem (a b c d : Int) (h : lo a = lo c) (k : lo b = lo d) : wRemw a b = wRemw c d := by
  unfold wRemw; rw [ex_of_lo a c h, ex_of_lo b d k]
theorem h_remu (a b c d : Int) (h : lo a = lo c) (k : lo b = lo d) : wRemuw a b = wRemuw c d := by
  unfold wRemuw; rw [h, k]
theorem half_cases (fn : Int) (h : 19 ≤ fn) (h' : fn ≤ 28) : fn = 19 ∨ fn = 20 ∨ fn = 21 ∨ fn = 22 ∨ fn = 23 ∨ fn = 24 ∨ fn = 25 ∨ fn = 26 ∨ fn = 27 ∨ fn = 28 := by omega
theorem half_same (fn a b c d : Int) (g : 19 ≤ fn) (g' : fn ≤ 28) (h : lo a = lo c) (k : lo b = lo d) : alu fn a b = alu fn c d := by
  rcases half_cases fn g g' with rfl | rfl | rfl | rfl | rfl | rfl | rfl | rfl | rfl | rfl
  · exact h_add a b c d h k
  · exact h_sub a b c d h k
  · exact h_sll a b c d h k
  · exact h_srl a b c d h k
  · exact h_sra a b c d h k
  · exact h_mul a b c d h k
  · exact h_div a b c d h k
  · exact h_divu a b c d h k
  · exact h_rem a b c d h k
  · exact h_remu a b c d h k
theorem half_ex (fn a b : Int) (g : 19 ≤ fn) (g' : fn ≤ 28) : ex (alu fn a b) = alu fn a b := by
  rcases half_cases fn g g' with rfl | rfl | rfl | rfl | rfl | rfl | rfl | rfl | rfl | rfl
  · exact ex_ex _
  · exact ex_ex _
  · exact ex_ex _
  · exact ex_ex _
  · exact sraw_ex a (b % 32)
  · exact ex_ex _
  · exact ex_ex _
  · exact ex_ex _
  · exact remw_ex a b
  · exact ex_ex _
theorem exs4 (v : Int) : exs v 4 = ex v := by unfold exs ex wrap32; rw [if_neg (by decide), if_neg (by decide), if_pos rfl]
theorem half_ext (fn a b : Int) (g : 19 ≤ fn) (g' : fn ≤ 28) : ext (alu fn a b) 4 true = alu fn a b := by
  unfold ext; rw [if_pos rfl, exs4]; exact half_ex fn a b g g'
theorem half_bd (fn a b : Int) (g : 19 ≤ fn) (g' : fn ≤ 28) : 0 ≤ alu fn a b ∧ alu fn a b ≤ 18446744073709551615 := by
  rw [← half_ex fn a b g g']; exact ex_bd _

/-! shifts -/
theorem mod64_64 (n : Int) : n % 64 % 64 = n % 64 := by omega
theorem s_one (a n : Int) : wSrl (wSll a (n % 64)) (n % 64) = a * 2 ^ (n % 64).toNat % 18446744073709551616 / 2 ^ (n % 64).toNat := by
  unfold wSrl wSll; rw [mod64_64]
theorem s_two (a n : Int) : wSll (wSrl a (n % 64)) (n % 64) = a / 2 ^ (n % 64).toNat * 2 ^ (n % 64).toNat % 18446744073709551616 := by
  unfold wSrl wSll; rw [mod64_64]
theorem s_three (a n : Int) (h0 : 0 ≤ a) (h1 : a ≤ 18446744073709551615) : wrap64 (wSra a n) = wrap64 a / 2 ^ (n % 64).toNat := by
  rw [sg_wrap a h0 h1]; unfold wSra
  have k := sg_bd a h0 h1
  have k2 := div_pow_sg (sg a) (n % 64).toNat k.1 k.2
  generalize sg a / 2 ^ (n % 64).toNat = x at *
  unfold wrap64; omega

/-! orders -/
theorem nat_flip (x : Nat) (h : x < 2 ^ 64) : x ^^^ 2 ^ 63 = (2 ^ 63 + x) % 2 ^ 64 := by
  apply Nat.eq_of_testBit_eq
  intro i
  rw [Nat.testBit_xor, Nat.testBit_mod_two_pow, Nat.testBit_two_pow]
  by_cases h1 : i < 63
  · rw [Nat.testBit_two_pow_add_gt h1]
    have : decide (63 = i) = false := by simp; omega
    have h2 : decide (i < 64) = true := by simp; omega
    rw [this, h2]; simp
  · by_cases h2 : i = 63
    · subst h2; rw [Nat.testBit_two_pow_add_eq]; simp
    · have e1 : decide (63 = i) = false := by simp; omega
      have e2 : decide (i < 64) = false := by simp; omega
      have e3 : x.testBit i = false := Nat.testBit_lt_two_pow (Nat.lt_of_lt_of_le h (Nat.pow_le_pow_right (by decide) (by omega)))
      rw [e1, e2, e3]; rfl
theorem flip (a : Int) (h0 : 0 ≤ a) (h1 : a ≤ 18446744073709551615) : bits .xor .u64 a 9223372036854775808 = (a + 9223372036854775808) % 18446744073709551616 := by
  rw [u64_xor a _ h0 (by omega) (by omega) (by omega)]
  have e := nat_flip a.toNat (by omega)
  have e2 : (9223372036854775808 : Int).toNat = 2 ^ 63 := by decide
  rw [e2, e]; omega
theorem flip_less (a b : Int) (h0 : 0 ≤ a) (h1 : a ≤ 18446744073709551615) (h2 : 0 ≤ b) (h3 : b ≤ 18446744073709551615) :
    br 5 (bits .xor .u64 a 9223372036854775808) (bits .xor .u64 b 9223372036854775808) = br 3 a b := by
  show decide (bits .xor .u64 a 9223372036854775808 < bits .xor .u64 b 9223372036854775808) = decide (sg a < sg b)
  rw [flip a h0 h1, flip b h2 h3]; exact r_less a b h0 h1 h2 h3

/-! atomics -/
theorem nat_and_or (n : Nat) : ∀ x y : Nat, x ≤ n → (x &&& y) + (x ||| y) = x + y := by
  induction n using Nat.strongRecOn with
  | ind n ih =>
    intro x y hx
    by_cases h0 : x = 0
    · subst h0; simp
    · have e := ih (x / 2) (by omega) (x / 2) (y / 2) (Nat.le_refl _)
      rw [← Nat.and_div_two, ← Nat.or_div_two] at e
      have m1 : (x &&& y) % 2 = x % 2 &&& y % 2 := by have := Nat.and_mod_two_pow (a := x) (b := y) (n := 1); simpa using this
      have m2 : (x ||| y) % 2 = x % 2 ||| y % 2 := by have := Nat.or_mod_two_pow (a := x) (b := y) (n := 1); simpa using this
      have c : (x % 2 &&& y % 2) + (x % 2 ||| y % 2) = x % 2 + y % 2 := by
        rcases Nat.mod_two_eq_zero_or_one x with p | p <;> rcases Nat.mod_two_eq_zero_or_one y with q | q <;> rw [p, q] <;> rfl
      omega
theorem t_and_or (a b : Int) (h0 : 0 ≤ a) (h1 : a ≤ 18446744073709551615) (h2 : 0 ≤ b) (h3 : b ≤ 18446744073709551615) : wAnd a b + wOr a b = a + b := by
  unfold wAnd wOr
  rw [u64_and a b h0 (by omega) h2 (by omega), u64_or a b h0 (by omega) h2 (by omega)]
  have := nat_and_or a.toNat a.toNat b.toNat (Nat.le_refl _)
  omega
theorem t_xor (a b : Int) (h0 : 0 ≤ a) (h1 : a ≤ 18446744073709551615) (h2 : 0 ≤ b) (h3 : b ≤ 18446744073709551615) : bits .xor .u64 (wXor a b) b = a := by
  have k := bits_bd .xor (by simp) a b h0 h1 h2 h3
  unfold wXor
  rw [u64_xor _ b k.1 (by omega) h2 (by omega), u64_xor a b h0 (by omega) h2 (by omega)]
  rw [Int.toNat_natCast, Nat.xor_assoc, Nat.xor_self, Nat.xor_zero]; omega
theorem t_minmax (a b : Int) : wMin a b + wMax a b = a + b := by unfold wMin wMax sel; split <;> omega
theorem t_minmaxu (a b : Int) : wMinu a b + wMaxu a b = a + b := by unfold wMinu wMaxu sel; split <;> omega
theorem t_ord (a b : Int) : br 3 (wMax a b) (wMin a b) = false := by
  show decide (sg (wMax a b) < sg (wMin a b)) = false
  unfold wMin wMax sel; split <;> simp_all <;> omega
theorem t_ordu (a b : Int) : br 5 (wMaxu a b) (wMinu a b) = false := by
  show decide (wMaxu a b < wMinu a b) = false
  unfold wMinu wMaxu sel; split <;> simp_all <;> omega
theorem t_half (fn a b : Int) : amo fn 4 (a % 4294967296) (b % 4294967296) = amo fn 4 a b := by
  have e1 : ex (a % 4294967296) = ex a := ex_lo a
  have e2 : ex (b % 4294967296) = ex b := ex_lo b
  unfold amo; rw [if_pos rfl, if_pos rfl, e1, e2]
theorem t_small (fn a b : Int) : 0 ≤ amo fn 4 a b ∧ amo fn 4 a b ≤ 4294967295 := by
  unfold amo; rw [if_pos rfl]; exact lo_bd _
end Go.Proofs.Ytdpnojlmiopniab
