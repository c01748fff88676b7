/- The plain arithmetic of the words of 64 bits, over Int: what each operation of package word answers, by one Lean function each, and what the reference's own ways come to. Nothing here speaks of the program. -/
import Derived.WalkKit
import Derived.Laws.MathBits
import Derived.Laws.BitsAllLaws
namespace Go.Proofs.Ytdpnojlmiopniaa
open Go.RowKit
set_option linter.unusedVariables false

/-- a word with its sign -/
def sg (a : Int) : Int := if a < 9223372036854775808 then a else a - 18446744073709551616
/-- the low half -/
def lo (a : Int) : Int := a % 4294967296
/-- the low half, extended -/
def ex (a : Int) : Int := wrap32 a % 18446744073709551616
def wAdd (a b : Int) : Int := (a + b) % 18446744073709551616
def wSub (a b : Int) : Int := (a - b) % 18446744073709551616
def wSll (a b : Int) : Int := a * 2 ^ (b % 64).toNat % 18446744073709551616
/-- one of two -/
def sel (c : Bool) (a b : Int) : Int := if c then a else b
def wSlt (a b : Int) : Int := sel (decide (sg a < sg b)) 1 0
def wSltu (a b : Int) : Int := sel (decide (a < b)) 1 0
def wXor (a b : Int) : Int := bits .xor .u64 a b
def wSrl (a b : Int) : Int := a / 2 ^ (b % 64).toNat
def wSra (a b : Int) : Int := sg a / 2 ^ (b % 64).toNat % 18446744073709551616
def wOr (a b : Int) : Int := bits .or .u64 a b
def wAnd (a b : Int) : Int := bits .and .u64 a b
def wMul (a b : Int) : Int := a * b % 18446744073709551616
def wMulhu (a b : Int) : Int := a * b / 18446744073709551616
def wMulhsu (a b : Int) : Int := (wMulhu a b - (if 9223372036854775808 ≤ a then b else 0)) % 18446744073709551616
def wMulh (a b : Int) : Int := (wMulhsu a b - (if 9223372036854775808 ≤ b then a else 0)) % 18446744073709551616
def wDiv (a b : Int) : Int := if b = 0 then 18446744073709551615 else (sg a).tdiv (sg b) % 18446744073709551616
def wDivu (a b : Int) : Int := if b = 0 then 18446744073709551615 else a / b
def wRem (a b : Int) : Int := if b = 0 then a else (sg a).tmod (sg b) % 18446744073709551616
def wRemu (a b : Int) : Int := if b = 0 then a else a % b
def wAddw (a b : Int) : Int := ex (wAdd a b)
def wSubw (a b : Int) : Int := ex (wSub a b)
def wSllw (a b : Int) : Int := ex (wSll a (b % 32))
def wSrlw (a b : Int) : Int := ex (wSrl (lo a) (b % 32))
def wSraw (a b : Int) : Int := wSra (ex a) (b % 32)
def wMulw (a b : Int) : Int := ex (wMul a b)
def wDivw (a b : Int) : Int := ex (wDiv (ex a) (ex b))
def wDivuw (a b : Int) : Int := ex (wDivu (lo a) (lo b))
def wRemw (a b : Int) : Int := wRem (ex a) (ex b)
def wRemuw (a b : Int) : Int := ex (wRemu (lo a) (lo b))
def wMin (a b : Int) : Int := sel (decide (sg a < sg b)) a b
def wMax (a b : Int) : Int := sel (decide (sg a < sg b)) b a
def wMinu (a b : Int) : Int := sel (decide (a < b)) a b
def wMaxu (a b : Int) : Int := sel (decide (a < b)) b a

/-- what Alu answers -/
def alu (fn a b : Int) : Int :=
  if fn = 1 then wAdd a b else if fn = 2 then wSub a b else if fn = 3 then wSll a b else if fn = 4 then wSlt a b else if fn = 5 then wSltu a b
  else if fn = 6 then wXor a b else if fn = 7 then wSrl a b else if fn = 8 then wSra a b else if fn = 9 then wOr a b else if fn = 10 then wAnd a b
  else if fn = 11 then wMul a b else if fn = 12 then wMulh a b else if fn = 13 then wMulhsu a b else if fn = 14 then wMulhu a b
  else if fn = 15 then wDiv a b else if fn = 16 then wDivu a b else if fn = 17 then wRem a b else if fn = 18 then wRemu a b
  else if fn = 19 then wAddw a b else if fn = 20 then wSubw a b else if fn = 21 then wSllw a b else if fn = 22 then wSrlw a b else if fn = 23 then wSraw a b
  else if fn = 24 then wMulw a b else if fn = 25 then wDivw a b else if fn = 26 then wDivuw a b else if fn = 27 then wRemw a b else if fn = 28 then wRemuw a b
  else 0
/-- what Branch answers -/
def br (fn a b : Int) : Bool :=
  if fn = 1 then decide (a = b) else if fn = 2 then !decide (a = b) else if fn = 3 then decide (sg a < sg b) else if fn = 4 then !decide (sg a < sg b)
  else if fn = 5 then decide (a < b) else if fn = 6 then !decide (a < b) else false
/-- what an atomic stores, of words -/
def am (fn a b : Int) : Int :=
  if fn = 1 then b else if fn = 2 then wAdd a b else if fn = 3 then wXor a b else if fn = 4 then wAnd a b else if fn = 5 then wOr a b
  else if fn = 6 then wMin a b else if fn = 7 then wMax a b else if fn = 8 then wMinu a b else if fn = 9 then wMaxu a b else a
/-- what Amo answers -/
def amo (fn size a b : Int) : Int := if size = 4 then lo (am fn (ex a) (ex b)) else am fn a b
def exz (v size : Int) : Int := if size = 1 then v % 256 else if size = 2 then v % 65536 else if size = 4 then v % 4294967296 else v
def exs (v size : Int) : Int :=
  if size = 1 then ((v + 128) % 256 - 128) % 18446744073709551616 else if size = 2 then ((v + 32768) % 65536 - 32768) % 18446744073709551616
  else if size = 4 then ((v + 2147483648) % 4294967296 - 2147483648) % 18446744073709551616 else v
/-- what Extend answers -/
def ext (v size : Int) (signed : Bool) : Int := if signed then exs v size else exz v size

/-! what holds of a word -/
def isW (a : Int) : Prop := 0 ≤ a ∧ a ≤ 18446744073709551615

theorem sg_wrap (a : Int) (h0 : 0 ≤ a) (h1 : a ≤ 18446744073709551615) : wrap64 a = sg a := by unfold wrap64 sg; split <;> omega
theorem sg_bd (a : Int) (h0 : 0 ≤ a) (h1 : a ≤ 18446744073709551615) : -9223372036854775808 ≤ sg a ∧ sg a ≤ 9223372036854775807 := by unfold sg; split <;> omega
theorem sg_zero (a : Int) (h0 : 0 ≤ a) (h1 : a ≤ 18446744073709551615) : sg a = 0 ↔ a = 0 := by unfold sg; split <;> omega
theorem lo_bd (a : Int) : 0 ≤ lo a ∧ lo a ≤ 4294967295 := by unfold lo; omega
theorem ex_bd (a : Int) : 0 ≤ ex a ∧ ex a ≤ 18446744073709551615 := by unfold ex; omega
theorem sg_ex (a : Int) : sg (ex a) = wrap32 a := by unfold sg ex wrap32; split <;> omega
theorem ex_zero (a : Int) : ex a = 0 ↔ lo a = 0 := by unfold ex lo wrap32; omega
theorem ex_lo (a : Int) : ex (lo a) = ex a := by unfold ex lo wrap32; omega
theorem ex_ex (a : Int) : ex (ex a) = ex a := by unfold ex wrap32; omega
theorem lo_ex (a : Int) : lo (ex a) = lo a := by unfold ex lo wrap32; omega
theorem lo_lo (a : Int) : lo (lo a) = lo a := by unfold lo; omega
theorem ex_of_lo (a b : Int) (h : lo a = lo b) : ex a = ex b := by rw [← ex_lo a, h, ex_lo]
theorem ex_mod (a : Int) : ex (a % 18446744073709551616) = ex a := by unfold ex wrap32; omega
theorem lo_mod (a : Int) : lo (a % 18446744073709551616) = lo a := by unfold lo; omega

theorem and63 (b : Int) (h0 : 0 ≤ b) (h1 : b ≤ 18446744073709551615) : bits .and .u64 b 63 = b % 64 := by
  rw [u64_and b 63 h0 (by omega) (by omega) (by omega)]
  have := nat_mask6 b.toNat
  simp only [Int.reduceToNat]
  rw [this]; omega
theorem and31 (b : Int) (h0 : 0 ≤ b) (h1 : b ≤ 18446744073709551615) : bits .and .u64 b 31 = b % 32 := by
  rw [u64_and b 31 h0 (by omega) (by omega) (by omega)]
  have := nat_mask5 b.toNat
  simp only [Int.reduceToNat]
  rw [this]; omega
theorem and_ones (b : Int) (h0 : 0 ≤ b) (h1 : b ≤ 18446744073709551615) : bits .and .u64 18446744073709551615 b = b := by
  rw [u64_and _ b (by omega) (by omega) h0 (by omega)]
  have : (18446744073709551615 : Int).toNat &&& b.toNat = b.toNat % 2 ^ 64 := by
    rw [Nat.and_comm]; exact Nat.and_two_pow_sub_one_eq_mod b.toNat 64
  rw [this]; omega
theorem and_zero (b : Int) (h0 : 0 ≤ b) (h1 : b ≤ 18446744073709551615) : bits .and .u64 0 b = 0 := by
  rw [u64_and _ b (by omega) (by omega) h0 (by omega)]; simp

theorem div_pow_bd (a : Int) (n : Nat) (h0 : 0 ≤ a) (h1 : a ≤ 18446744073709551615) : 0 ≤ a / 2 ^ n ∧ a / 2 ^ n ≤ 18446744073709551615 := by
  have hp : (0 : Int) < 2 ^ n := Int.pow_pos (by decide)
  refine ⟨Int.ediv_nonneg h0 (Int.le_of_lt hp), ?_⟩
  have := Int.ediv_le_self (2 ^ n) h0
  omega

theorem mulhu_bd (a b : Int) (h0 : 0 ≤ a) (h1 : a ≤ 18446744073709551615) (h2 : 0 ≤ b) (h3 : b ≤ 18446744073709551615) : 0 ≤ wMulhu a b ∧ wMulhu a b ≤ 18446744073709551614 := by
  have hn := Int.mul_nonneg h0 h2
  have hl : a * b ≤ 18446744073709551615 * 18446744073709551615 := Int.mul_le_mul h1 h3 h2 (by decide)
  unfold wMulhu; omega

theorem bits_bd (o : BinOp) (ho : o = .and ∨ o = .or ∨ o = .xor) (a b : Int) (h0 : 0 ≤ a) (h1 : a ≤ 18446744073709551615) (h2 : 0 ≤ b) (h3 : b ≤ 18446744073709551615) :
    0 ≤ bits o .u64 a b ∧ bits o .u64 a b ≤ 18446744073709551615 := by
  have e1 : a.toNat < 2 ^ 64 := by omega
  have e2 : b.toNat < 2 ^ 64 := by omega
  rcases ho with rfl | rfl | rfl
  · rw [u64_and a b h0 (by omega) h2 (by omega)]; have := Nat.and_lt_two_pow a.toNat e2; omega
  · rw [u64_or a b h0 (by omega) h2 (by omega)]; have := Nat.or_lt_two_pow e1 e2; omega
  · rw [u64_xor a b h0 (by omega) h2 (by omega)]; have := Nat.xor_lt_two_pow e1 e2; omega

/-! the implementation's own spelling of each -/
theorem i_slt (a b : Int) (h0 : 0 ≤ a) (h1 : a ≤ 18446744073709551615) (h2 : 0 ≤ b) (h3 : b ≤ 18446744073709551615) : (wrap64 a < wrap64 b) = (sg a < sg b) := by
  rw [sg_wrap a h0 h1, sg_wrap b h2 h3]
theorem sra63 (a : Int) (h0 : 0 ≤ a) (h1 : a ≤ 18446744073709551615) : wSra a 63 = if 9223372036854775808 ≤ a then 18446744073709551615 else 0 := by
  unfold wSra sg
  have e : ((63 : Int) % 64).toNat = 63 := by decide
  rw [e]
  have e2 : (2 : Int) ^ 63 = 9223372036854775808 := by decide
  rw [e2]
  split <;> split <;> omega
theorem mask_and (a b : Int) (h0 : 0 ≤ a) (h1 : a ≤ 18446744073709551615) (h2 : 0 ≤ b) (h3 : b ≤ 18446744073709551615) : bits .and .u64 (wSra a 63) b = if 9223372036854775808 ≤ a then b else 0 := by
  rw [sra63 a h0 h1]
  split
  · exact and_ones b h2 h3
  · exact and_zero b h2 h3
theorem i_div (a b : Int) (h0 : 0 ≤ a) (h1 : a ≤ 18446744073709551615) (h2 : 0 ≤ b) (h3 : b ≤ 18446744073709551615) (hb : (b == 0) = false) :
    IntKind.u64.wrap (wrap64 ((wrap64 a).tdiv (wrap64 b))) = wDiv a b := by
  have hb' : b ≠ 0 := by simpa using hb
  unfold wDiv; rw [if_neg hb', sg_wrap a h0 h1, sg_wrap b h2 h3, IntKind.wrap_u64]; unfold wrap64; omega
theorem i_rem (a b : Int) (h0 : 0 ≤ a) (h1 : a ≤ 18446744073709551615) (h2 : 0 ≤ b) (h3 : b ≤ 18446744073709551615) (hb : (b == 0) = false) :
    IntKind.u64.wrap ((wrap64 a).tmod (wrap64 b)) = wRem a b := by
  have hb' : b ≠ 0 := by simpa using hb
  unfold wRem; rw [if_neg hb', sg_wrap a h0 h1, sg_wrap b h2 h3, IntKind.wrap_u64]

theorem i_divu (a b : Int) (h0 : 0 ≤ a) (h1 : a ≤ 18446744073709551615) (h2 : 0 ≤ b) (h3 : b ≤ 18446744073709551615) (hb : (b == 0) = false) :
    a / b = wDivu a b := by
  have hb' : b ≠ 0 := by simpa using hb
  unfold wDivu; rw [if_neg hb']
theorem i_remu (a b : Int) (h0 : 0 ≤ a) (h1 : a ≤ 18446744073709551615) (h2 : 0 ≤ b) (h3 : b ≤ 18446744073709551615) (hb : (b == 0) = false) :
    a % b = wRemu a b := by
  have hb' : b ≠ 0 := by simpa using hb
  unfold wRemu; rw [if_neg hb']
/-! each is a word -/
theorem emod_bd (x : Int) : 0 ≤ x % 18446744073709551616 ∧ x % 18446744073709551616 ≤ 18446744073709551615 := by omega
theorem wSra_bd (a b : Int) : 0 ≤ wSra a b ∧ wSra a b ≤ 18446744073709551615 := emod_bd _
theorem wSll_bd (a b : Int) : 0 ≤ wSll a b ∧ wSll a b ≤ 18446744073709551615 := emod_bd _
theorem wAdd_bd (a b : Int) : 0 ≤ wAdd a b ∧ wAdd a b ≤ 18446744073709551615 := emod_bd _
theorem wSub_bd (a b : Int) : 0 ≤ wSub a b ∧ wSub a b ≤ 18446744073709551615 := emod_bd _
theorem wMul_bd (a b : Int) : 0 ≤ wMul a b ∧ wMul a b ≤ 18446744073709551615 := emod_bd _
theorem wMulhsu_bd (a b : Int) : 0 ≤ wMulhsu a b ∧ wMulhsu a b ≤ 18446744073709551615 := emod_bd _
theorem wSrl_bd (a b : Int) (h0 : 0 ≤ a) (h1 : a ≤ 18446744073709551615) : 0 ≤ wSrl a b ∧ wSrl a b ≤ 18446744073709551615 := div_pow_bd a _ h0 h1
theorem wDiv_bd (a b : Int) : 0 ≤ wDiv a b ∧ wDiv a b ≤ 18446744073709551615 := by unfold wDiv; split <;> omega
theorem wRem_bd (a b : Int) (h0 : 0 ≤ a) (h1 : a ≤ 18446744073709551615) : 0 ≤ wRem a b ∧ wRem a b ≤ 18446744073709551615 := by unfold wRem; split <;> omega
theorem wDivu_bd (a b : Int) (h0 : 0 ≤ a) (h1 : a ≤ 18446744073709551615) (h2 : 0 ≤ b) : 0 ≤ wDivu a b ∧ wDivu a b ≤ 18446744073709551615 := by
  unfold wDivu; split
  · omega
  · have := Int.ediv_le_self b h0; have := Int.ediv_nonneg h0 h2; omega
theorem wRemu_bd (a b : Int) (h0 : 0 ≤ a) (h1 : a ≤ 18446744073709551615) (h2 : 0 ≤ b) : 0 ≤ wRemu a b ∧ wRemu a b ≤ 18446744073709551615 := by
  unfold wRemu; split
  · omega
  · rename_i h
    have hb : 0 < b := by omega
    have h3 := Int.emod_nonneg a (Int.ne_of_gt hb)
    have h4 := Int.emod_def a b
    have h5 := Int.mul_nonneg h2 (Int.ediv_nonneg h0 h2)
    omega
end Go.Proofs.Ytdpnojlmiopniaa
