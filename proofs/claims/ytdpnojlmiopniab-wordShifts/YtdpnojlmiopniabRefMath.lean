/- The reference's own ways (schoolbook products, quotients of absolute values, shifts one at a time) come to the words' functions. Plain arithmetic. -/
import Derived.Test.YtdpnojlmiopniabMath
namespace Go.Proofs.Ytdpnojlmiopniab
open Go.RowKit
set_option linter.unusedVariables false

/-- a word without its sign -/
def ab (a : Int) : Int := sel (decide (9223372036854775808 ≤ a)) (18446744073709551616 - a) a
theorem ab_bd (a : Int) (h0 : 0 ≤ a) (h1 : a ≤ 18446744073709551615) : 0 ≤ ab a ∧ ab a ≤ 9223372036854775808 := by
  unfold ab sel; split <;> simp at * <;> omega
theorem ab_neg (a : Int) (h : 9223372036854775808 ≤ a) : ab a = - sg a := by
  unfold ab sel sg; rw [if_pos (by simpa using h), if_neg (by omega)]; omega
theorem ab_pos (a : Int) (h : ¬ 9223372036854775808 ≤ a) : ab a = sg a := by
  unfold ab sel sg; rw [if_neg (by simpa using h), if_pos (by omega)]
theorem sg_neg (a : Int) (h1 : a ≤ 18446744073709551615) (h : 9223372036854775808 ≤ a) : sg a < 0 := by
  unfold sg; rw [if_neg (by omega)]; omega
theorem sg_pos (a : Int) (h0 : 0 ≤ a) (h : ¬ 9223372036854775808 ≤ a) : 0 ≤ sg a := by
  unfold sg; rw [if_pos (by omega)]; omega
theorem ab_zero (a : Int) (h0 : 0 ≤ a) (h1 : a ≤ 18446744073709551615) (h : a ≠ 0) : 1 ≤ ab a := by
  unfold ab sel; split <;> simp at * <;> omega

/-- x.tdiv y by absolute values -/
theorem tdiv_nn (x y : Int) (hx : 0 ≤ x) (hy : 0 ≤ y) : x.tdiv y = x / y := Int.tdiv_eq_ediv_of_nonneg hx
theorem tdiv_np (x y : Int) (hx : x < 0) (hy : 0 ≤ y) : x.tdiv y = -((-x) / y) := by
  have : x = -(-x) := by omega
  rw [this, Int.neg_tdiv, Int.tdiv_eq_ediv_of_nonneg (by omega : 0 ≤ -x)]; simp
theorem tdiv_pn (x y : Int) (hx : 0 ≤ x) (hy : y < 0) : x.tdiv y = -(x / (-y)) := by
  have : y = -(-y) := by omega
  rw [this, Int.tdiv_neg, Int.tdiv_eq_ediv_of_nonneg hx]; simp
theorem tdiv_mm (x y : Int) (hx : x < 0) (hy : y < 0) : x.tdiv y = (-x) / (-y) := by
  have e1 : x = -(-x) := by omega
  have e2 : y = -(-y) := by omega
  rw [e1, e2, Int.neg_tdiv, Int.tdiv_neg, Int.tdiv_eq_ediv_of_nonneg (by omega : 0 ≤ -x)]; simp
theorem tmod_n (x y : Int) (hx : 0 ≤ x) : x.tmod y = x % y := Int.tmod_eq_emod_of_nonneg hx
theorem tmod_m (x y : Int) (hx : x < 0) : x.tmod y = -((-x) % y) := by
  have : x = -(-x) := by omega
  rw [this, Int.neg_tmod, Int.tmod_eq_emod_of_nonneg (by omega : 0 ≤ -x)]; simp

/-- the quotient with signs, of the quotient q of the absolute values -/
theorem div_same (a b : Int) (h0 : 0 ≤ a) (h1 : a ≤ 18446744073709551615) (h2 : 0 ≤ b) (h3 : b ≤ 18446744073709551615) (hb : b ≠ 0)
    (hs : (9223372036854775808 ≤ a) ↔ (9223372036854775808 ≤ b)) : ab a / ab b = wDiv a b := by
  have ka := ab_bd a h0 h1
  have kb := ab_bd b h2 h3
  have kq : 0 ≤ ab a / ab b ∧ ab a / ab b ≤ 9223372036854775808 := by
    have := Int.ediv_le_self (ab b) ka.1; have := Int.ediv_nonneg ka.1 kb.1; omega
  unfold wDiv; rw [if_neg hb]
  by_cases n : 9223372036854775808 ≤ a
  · have m := hs.1 n
    rw [tdiv_mm _ _ (sg_neg a h1 n) (sg_neg b h3 m), ← ab_neg a n, ← ab_neg b m]; omega
  · have m : ¬ 9223372036854775808 ≤ b := fun h => n (hs.2 h)
    rw [tdiv_nn _ _ (sg_pos a h0 n) (sg_pos b h2 m), ← ab_pos a n, ← ab_pos b m]; omega
theorem div_unlike (a b : Int) (h0 : 0 ≤ a) (h1 : a ≤ 18446744073709551615) (h2 : 0 ≤ b) (h3 : b ≤ 18446744073709551615) (hb : b ≠ 0)
    (hs : ¬ ((9223372036854775808 ≤ a) ↔ (9223372036854775808 ≤ b))) : -(ab a / ab b) % 18446744073709551616 = wDiv a b := by
  unfold wDiv; rw [if_neg hb]
  by_cases n : 9223372036854775808 ≤ a
  · have m : ¬ 9223372036854775808 ≤ b := fun h => hs ⟨fun _ => h, fun _ => n⟩
    rw [tdiv_np _ _ (sg_neg a h1 n) (sg_pos b h2 m), ← ab_neg a n, ← ab_pos b m]
  · have m : 9223372036854775808 ≤ b := by
      refine Decidable.byContradiction fun h => hs ⟨fun x => absurd x n, fun x => absurd x h⟩
    rw [tdiv_pn _ _ (sg_pos a h0 n) (sg_neg b h3 m), ← ab_pos a n, ← ab_neg b m]
theorem tmod_ab (x b : Int) (h2 : 0 ≤ b) (h3 : b ≤ 18446744073709551615) : x % ab b = x % sg b := by
  by_cases m : 9223372036854775808 ≤ b
  · rw [ab_neg b m, Int.emod_neg]
  · rw [ab_pos b m]
theorem rem_pos (a b : Int) (h0 : 0 ≤ a) (h1 : a ≤ 18446744073709551615) (h2 : 0 ≤ b) (h3 : b ≤ 18446744073709551615) (hb : b ≠ 0)
    (n : ¬ 9223372036854775808 ≤ a) : ab a % ab b = wRem a b := by
  have ka := ab_bd a h0 h1
  have kb := ab_zero b h2 h3 hb
  have k1 := Int.emod_nonneg (ab a) (by omega : ab b ≠ 0)
  have k2 := Int.emod_lt_of_pos (ab a) (by omega : 0 < ab b)
  have kc := ab_bd b h2 h3
  have e : ab a % ab b % 18446744073709551616 = ab a % ab b := Int.emod_eq_of_lt k1 (by omega)
  unfold wRem; rw [if_neg hb, tmod_n _ _ (sg_pos a h0 n), ← tmod_ab _ b h2 h3, ← ab_pos a n, e]
theorem rem_neg (a b : Int) (h0 : 0 ≤ a) (h1 : a ≤ 18446744073709551615) (h2 : 0 ≤ b) (h3 : b ≤ 18446744073709551615) (hb : b ≠ 0)
    (n : 9223372036854775808 ≤ a) : -(ab a % ab b) % 18446744073709551616 = wRem a b := by
  unfold wRem; rw [if_neg hb, tmod_m _ _ (sg_neg a h1 n), ← tmod_ab _ b h2 h3, ← ab_neg a n]

/-- shifted right, i times -/
def sr (a : Int) (i : Nat) : Int := sg a / 2 ^ i % 18446744073709551616
theorem sr_zero (a : Int) (h0 : 0 ≤ a) (h1 : a ≤ 18446744073709551615) : sr a 0 = a := by unfold sr sg; simp; split <;> omega
theorem sr_bd (a : Int) (i : Nat) : 0 ≤ sr a i ∧ sr a i ≤ 18446744073709551615 := by unfold sr; omega
theorem div_pow_sg (x : Int) (i : Nat) (h0 : -9223372036854775808 ≤ x) (h1 : x ≤ 9223372036854775807) : -9223372036854775808 ≤ x / 2 ^ i ∧ x / 2 ^ i ≤ 9223372036854775807 := by
  have hp : (0 : Int) < 2 ^ i := Int.pow_pos (by decide)
  by_cases h : 0 ≤ x
  · have := Int.ediv_nonneg h (Int.le_of_lt hp); have := Int.ediv_le_self (2 ^ i) h; omega
  · have e1 : x / 2 ^ i < 0 := Int.ediv_neg_of_neg_of_pos (by omega) hp
    have e2 : x ≤ x / 2 ^ i := by
      refine (Int.le_ediv_iff_mul_le hp).2 ?_
      have : x * 2 ^ i ≤ x * 1 := Int.mul_le_mul_of_nonpos_left (by omega) (by omega)
      omega
    omega
theorem sr_succ (a : Int) (i : Nat) (h0 : 0 ≤ a) (h1 : a ≤ 18446744073709551615) :
    sr a i / 2 + sr a i / 9223372036854775808 * 9223372036854775808 = sr a (i + 1) := by
  have k := sg_bd a h0 h1
  have k2 := div_pow_sg (sg a) i k.1 k.2
  have e : sg a / 2 ^ (i + 1) = sg a / 2 ^ i / 2 := by
    rw [Int.pow_succ, Int.ediv_ediv_of_nonneg (Int.le_of_lt (Int.pow_pos (by decide)))]
  unfold sr; rw [e]
  generalize sg a / 2 ^ i = x at *
  omega
theorem sr_is (a b : Int) (h : 0 ≤ b) (h' : b ≤ 63) : sr a b.toNat = wSra a b := by
  unfold sr wSra; have : (b % 64).toNat = b.toNat := by omega
  rw [this]

theorem r_less (a b : Int) (h0 : 0 ≤ a) (h1 : a ≤ 18446744073709551615) (h2 : 0 ≤ b) (h3 : b ≤ 18446744073709551615) :
    decide ((a + 9223372036854775808) % 18446744073709551616 < (b + 9223372036854775808) % 18446744073709551616) = decide (sg a < sg b) := by
  rw [decide_eq_decide]; unfold sg; split <;> split <;> omega
theorem r_high (x y : Int) (hx0 : 0 ≤ x) (hx : x ≤ 18446744073709551615) (hy0 : 0 ≤ y) (hy : y ≤ 18446744073709551615) :
    (((x / 4294967296 * (y / 4294967296)) % 18446744073709551616 +
      (((x / 4294967296 * (y % 4294967296)) % 18446744073709551616 + ((x % 4294967296 * (y % 4294967296)) % 18446744073709551616) / 4294967296) % 18446744073709551616) / 4294967296) % 18446744073709551616 +
      (((((x / 4294967296 * (y % 4294967296)) % 18446744073709551616 + ((x % 4294967296 * (y % 4294967296)) % 18446744073709551616) / 4294967296) % 18446744073709551616) % 4294967296 +
        (x % 4294967296 * (y / 4294967296)) % 18446744073709551616) % 18446744073709551616) / 4294967296) % 18446744073709551616 = wMulhu x y :=
  mul64_arith x y hx0 (by omega) hy0 (by omega)

theorem tdiv_em (x m : Int) : (x % 18446744073709551616).tdiv m = x % 18446744073709551616 / m := Int.tdiv_eq_ediv_of_nonneg (by omega)
theorem tmod_em (x m : Int) : (x % 18446744073709551616).tmod m = x % 18446744073709551616 % m := Int.tmod_eq_emod_of_nonneg (by omega)
theorem em_half (x : Int) : x % 18446744073709551616 / 4294967296 % 18446744073709551616 = x % 18446744073709551616 / 4294967296 := by omega
/-- is a word below 0? -/
def ngv (a : Int) : Bool := decide (9223372036854775808 ≤ a)
theorem ngv_t {a : Int} (h : ngv a = true) : 9223372036854775808 ≤ a := by simpa [ngv] using h
theorem ngv_f {a : Int} (h : ngv a = false) : ¬ 9223372036854775808 ≤ a := by simpa [ngv] using h
theorem hsu_n (a b : Int) (n : ngv a = true) : (wMulhu a b - b) % 18446744073709551616 = wMulhsu a b := by unfold wMulhsu; rw [if_pos (ngv_t n)]
theorem hsu_p (a b : Int) (h0 : 0 ≤ a) (h1 : a ≤ 18446744073709551615) (h2 : 0 ≤ b) (h3 : b ≤ 18446744073709551615) (n : ngv a = false) : wMulhu a b = wMulhsu a b := by
  have := mulhu_bd a b h0 h1 h2 h3
  unfold wMulhsu; rw [if_neg (ngv_f n)]; omega
theorem mh_n (a b : Int) (m : ngv b = true) : (wMulhsu a b - a) % 18446744073709551616 = wMulh a b := by unfold wMulh; rw [if_pos (ngv_t m)]
theorem mh_p (a b : Int) (m : ngv b = false) : wMulhsu a b = wMulh a b := by
  have := wMulhsu_bd a b
  unfold wMulh; rw [if_neg (ngv_f m)]; omega
theorem div_same' (a b : Int) (h0 : 0 ≤ a) (h1 : a ≤ 18446744073709551615) (h2 : 0 ≤ b) (h3 : b ≤ 18446744073709551615) (hb : b ≠ 0)
    (hs : ngv a = ngv b) : ab a / ab b = wDiv a b := div_same a b h0 h1 h2 h3 hb (by simpa [ngv] using hs)
theorem div_unlike' (a b : Int) (h0 : 0 ≤ a) (h1 : a ≤ 18446744073709551615) (h2 : 0 ≤ b) (h3 : b ≤ 18446744073709551615) (hb : b ≠ 0)
    (hs : ngv a ≠ ngv b) : -(ab a / ab b) % 18446744073709551616 = wDiv a b := div_unlike a b h0 h1 h2 h3 hb (by simpa [ngv] using hs)
/-! the halves -/
theorem ex_small (x : Int) (h0 : -2147483648 ≤ x) (h1 : x ≤ 2147483647) : ex (x % 18446744073709551616) = x % 18446744073709551616 := by unfold ex wrap32; omega
theorem sraw_ex (a b : Int) : ex (wSra (ex a) b) = wSra (ex a) b := by
  unfold wSra; rw [sg_ex]
  have hp : (0 : Int) < 2 ^ (b % 64).toNat := Int.pow_pos (by decide)
  have k : -2147483648 ≤ wrap32 a ∧ wrap32 a ≤ 2147483647 := by unfold wrap32; omega
  generalize (b % 64).toNat = i at *
  refine ex_small _ ?_ ?_
  · refine (Int.le_ediv_iff_mul_le hp).2 ?_
    have : -2147483648 * (2 : Int) ^ i ≤ -2147483648 * 1 := Int.mul_le_mul_of_nonpos_left (by omega) (by omega)
    omega
  · by_cases h : 0 ≤ wrap32 a
    · have := Int.ediv_le_self (2 ^ i) h; omega
    · have := Int.ediv_neg_of_neg_of_pos (by omega : wrap32 a < 0) hp; omega
theorem tmod_small (x y : Int) (hy : y ≠ 0) (h0 : -2147483648 ≤ x) (h1 : x ≤ 2147483647) : -2147483648 ≤ x.tmod y ∧ x.tmod y ≤ 2147483647 := by
  have key : ∀ z : Int, 0 ≤ z → 0 ≤ z % y ∧ z % y ≤ z := by
    intro z hz
    have k1 := Int.emod_nonneg z hy
    refine ⟨k1, ?_⟩
    by_cases hp : 0 ≤ y
    · have e := Int.emod_def z y
      have f := Int.mul_nonneg hp (Int.ediv_nonneg hz hp)
      omega
    · have e := Int.emod_def z (-y)
      have f := Int.mul_nonneg (by omega : 0 ≤ -y) (Int.ediv_nonneg hz (by omega : 0 ≤ -y))
      rw [Int.emod_neg] at e
      omega
  by_cases h : 0 ≤ x
  · rw [tmod_n x y h]; have := key x h; omega
  · rw [tmod_m x y (by omega)]; have := key (-x) (by omega); omega
theorem remw_ex (a b : Int) : ex (wRem (ex a) (ex b)) = wRem (ex a) (ex b) := by
  unfold wRem
  split
  · exact ex_ex a
  · rename_i h
    rw [sg_ex, sg_ex]
    have k : -2147483648 ≤ wrap32 a ∧ wrap32 a ≤ 2147483647 := by unfold wrap32; omega
    have hy : wrap32 b ≠ 0 := by
      intro hb; apply h; unfold ex; rw [hb]; rfl
    have := tmod_small (wrap32 a) (wrap32 b) hy k.1 k.2
    exact ex_small _ this.1 this.2
theorem sllw_lo (a b : Int) : ex (wSll (lo a) b) = ex (wSll a b) := by
  apply ex_of_lo
  unfold wSll
  rw [lo_mod, lo_mod]
  unfold lo
  rw [Int.mul_emod, Int.emod_emod_of_dvd _ (Int.dvd_refl _), ← Int.mul_emod]
end Go.Proofs.Ytdpnojlmiopniab
