/- The plain arithmetic of the words of 64 bits, over Int: what each operation of package word answers, by one Lean function each, and what the reference's own ways come to. Nothing here speaks of the program. -/
import Derived.WalkKit
import Derived.Laws.MathBits
import Derived.Laws.BitsAllLaws
import Derived.Test.YtlfdokkopgmfjaaGreatDoorProg
import Derived.ProofKit
import Derived.Outline
namespace Go.Proofs.YtlfdokkopgmfjaaGreatDoor.A
open Go.RowKit
set_option linter.unusedVariables false
set_option maxRecDepth 100000

/-- a word with its sign -/
def sg (a : Int) : Int := if a < 9223372036854775808 then a else a - 18446744073709551616
/-- the low half -/
def lo (a : Int) : Int := a % 4294967296
/-- the low half, extended -/
def ex (a : Int) : Int := wrap32 a % 18446744073709551616
def wAdd (a b : Int) : Int := (a + b) % 18446744073709551616
def wSub (a b : Int) : Int := (a - b) % 18446744073709551616
def wSll (a b : Int) : Int := a * 2 ^ (b % 64).toNat % 18446744073709551616
/-- one of two -/
def sel (c : Bool) (a b : Int) : Int := if c then a else b
def wSlt (a b : Int) : Int := sel (decide (sg a < sg b)) 1 0
def wSltu (a b : Int) : Int := sel (decide (a < b)) 1 0
def wXor (a b : Int) : Int := bits .xor .u64 a b
def wSrl (a b : Int) : Int := a / 2 ^ (b % 64).toNat
def wSra (a b : Int) : Int := sg a / 2 ^ (b % 64).toNat % 18446744073709551616
def wOr (a b : Int) : Int := bits .or .u64 a b
def wAnd (a b : Int) : Int := bits .and .u64 a b
def wMul (a b : Int) : Int := a * b % 18446744073709551616
def wMulhu (a b : Int) : Int := a * b / 18446744073709551616
def wMulhsu (a b : Int) : Int := (wMulhu a b - (if 9223372036854775808 ≤ a then b else 0)) % 18446744073709551616
def wMulh (a b : Int) : Int := (wMulhsu a b - (if 9223372036854775808 ≤ b then a else 0)) % 18446744073709551616
def wDiv (a b : Int) : Int := if b = 0 then 18446744073709551615 else (sg a).tdiv (sg b) % 18446744073709551616
def wDivu (a b : Int) : Int := if b = 0 then 18446744073709551615 else a / b
def wRem (a b : Int) : Int := if b = 0 then a else (sg a).tmod (sg b) % 18446744073709551616
def wRemu (a b : Int) : Int := if b = 0 then a else a % b
def wAddw (a b : Int) : Int := ex (wAdd a b)
def wSubw (a b : Int) : Int := ex (wSub a b)
def wSllw (a b : Int) : Int := ex (wSll a (b % 32))
def wSrlw (a b : Int) : Int := ex (wSrl (lo a) (b % 32))
def wSraw (a b : Int) : Int := wSra (ex a) (b % 32)
def wMulw (a b : Int) : Int := ex (wMul a b)
def wDivw (a b : Int) : Int := ex (wDiv (ex a) (ex b))
def wDivuw (a b : Int) : Int := ex (wDivu (lo a) (lo b))
def wRemw (a b : Int) : Int := wRem (ex a) (ex b)
def wRemuw (a b : Int) : Int := ex (wRemu (lo a) (lo b))
def wMin (a b : Int) : Int := sel (decide (sg a < sg b)) a b
def wMax (a b : Int) : Int := sel (decide (sg a < sg b)) b a
def wMinu (a b : Int) : Int := sel (decide (a < b)) a b
def wMaxu (a b : Int) : Int := sel (decide (a < b)) b a

/-- what Alu answers -/
def alu (fn a b : Int) : Int :=
  if fn = 1 then wAdd a b else if fn = 2 then wSub a b else if fn = 3 then wSll a b else if fn = 4 then wSlt a b else if fn = 5 then wSltu a b
  else if fn = 6 then wXor a b else if fn = 7 then wSrl a b else if fn = 8 then wSra a b else if fn = 9 then wOr a b else if fn = 10 then wAnd a b
  else if fn = 11 then wMul a b else if fn = 12 then wMulh a b else if fn = 13 then wMulhsu a b else if fn = 14 then wMulhu a b
  else if fn = 15 then wDiv a b else if fn = 16 then wDivu a b else if fn = 17 then wRem a b else if fn = 18 then wRemu a b
  else if fn = 19 then wAddw a b else if fn = 20 then wSubw a b else if fn = 21 then wSllw a b else if fn = 22 then wSrlw a b else if fn = 23 then wSraw a b
  else if fn = 24 then wMulw a b else if fn = 25 then wDivw a b else if fn = 26 then wDivuw a b else if fn = 27 then wRemw a b else if fn = 28 then wRemuw a b
  else 0
/-- what Branch answers -/
def br (fn a b : Int) : Bool :=
  if fn = 1 then decide (a = b) else if fn = 2 then !decide (a = b) else if fn = 3 then decide (sg a < sg b) else if fn = 4 then !decide (sg a < sg b)
  else if fn = 5 then decide (a < b) else if fn = 6 then !decide (a < b) else false
/-- what an atomic stores, of words -/
def am (fn a b : Int) : Int :=
  if fn = 1 then b else if fn = 2 then wAdd a b else if fn = 3 then wXor a b else if fn = 4 then wAnd a b else if fn = 5 then wOr a b
  else if fn = 6 then wMin a b else if fn = 7 then wMax a b else if fn = 8 then wMinu a b else if fn = 9 then wMaxu a b else a
/-- what Amo answers -/
def amo (fn size a b : Int) : Int := if size = 4 then lo (am fn (ex a) (ex b)) else am fn a b
def exz (v size : Int) : Int := if size = 1 then v % 256 else if size = 2 then v % 65536 else if size = 4 then v % 4294967296 else v
def exs (v size : Int) : Int :=
  if size = 1 then ((v + 128) % 256 - 128) % 18446744073709551616 else if size = 2 then ((v + 32768) % 65536 - 32768) % 18446744073709551616
  else if size = 4 then ((v + 2147483648) % 4294967296 - 2147483648) % 18446744073709551616 else v
/-- what Extend answers -/
def ext (v size : Int) (signed : Bool) : Int := if signed then exs v size else exz v size

/-! what holds of a word -/
def isW (a : Int) : Prop := 0 ≤ a ∧ a ≤ 18446744073709551615

theorem sg_wrap (a : Int) (h0 : 0 ≤ a) (h1 : a ≤ 18446744073709551615) : wrap64 a = sg a := by unfold wrap64 sg; split <;> omega
theorem sg_bd (a : Int) (h0 : 0 ≤ a) (h1 : a ≤ 18446744073709551615) : -9223372036854775808 ≤ sg a ∧ sg a ≤ 9223372036854775807 := by unfold sg; split <;> omega
theorem sg_zero (a : Int) (h0 : 0 ≤ a) (h1 : a ≤ 18446744073709551615) : sg a = 0 ↔ a = 0 := by unfold sg; split <;> omega
theorem lo_bd (a : Int) : 0 ≤ lo a ∧ lo a ≤ 4294967295 := by unfold lo; omega
theorem ex_bd (a : Int) : 0 ≤ ex a ∧ ex a ≤ 18446744073709551615 := by unfold ex; omega
theorem sg_ex (a : Int) : sg (ex a) = wrap32 a := by unfold sg ex wrap32; split <;> omega
theorem ex_zero (a : Int) : ex a = 0 ↔ lo a = 0 := by unfold ex lo wrap32; omega
theorem ex_lo (a : Int) : ex (lo a) = ex a := by unfold ex lo wrap32; omega
theorem ex_ex (a : Int) : ex (ex a) = ex a := by unfold ex wrap32; omega
theorem lo_ex (a : Int) : lo (ex a) = lo a := by unfold ex lo wrap32; omega
theorem lo_lo (a : Int) : lo (lo a) = lo a := by unfold lo; omega
theorem ex_of_lo (a b : Int) (h : lo a = lo b) : ex a = ex b := by rw [← ex_lo a, h, ex_lo]
theorem ex_mod (a : Int) : ex (a % 18446744073709551616) = ex a := by unfold ex wrap32; omega
theorem lo_mod (a : Int) : lo (a % 18446744073709551616) = lo a := by unfold lo; omega

theorem and63 (b : Int) (h0 : 0 ≤ b) (h1 : b ≤ 18446744073709551615) : bits .and .u64 b 63 = b % 64 := by
  rw [u64_and b 63 h0 (by omega) (by omega) (by omega)]
  have := nat_mask6 b.toNat
  simp only [Int.reduceToNat]
  rw [this]; omega
theorem and31 (b : Int) (h0 : 0 ≤ b) (h1 : b ≤ 18446744073709551615) : bits .and .u64 b 31 = b % 32 := by
  rw [u64_and b 31 h0 (by omega) (by omega) (by omega)]
  have := nat_mask5 b.toNat
  simp only [Int.reduceToNat]
  rw [this]; omega
theorem and_ones (b : Int) (h0 : 0 ≤ b) (h1 : b ≤ 18446744073709551615) : bits .and .u64 18446744073709551615 b = b := by
  rw [u64_and _ b (by omega) (by omega) h0 (by omega)]
  have : (18446744073709551615 : Int).toNat &&& b.toNat = b.toNat % 2 ^ 64 := by
    rw [Nat.and_comm]; exact Nat.and_two_pow_sub_one_eq_mod b.toNat 64
  rw [this]; omega
theorem and_zero (b : Int) (h0 : 0 ≤ b) (h1 : b ≤ 18446744073709551615) : bits .and .u64 0 b = 0 := by
  rw [u64_and _ b (by omega) (by omega) h0 (by omega)]; simp

theorem div_pow_bd (a : Int) (n : Nat) (h0 : 0 ≤ a) (h1 : a ≤ 18446744073709551615) : 0 ≤ a / 2 ^ n ∧ a / 2 ^ n ≤ 18446744073709551615 := by
  have hp : (0 : Int) < 2 ^ n := Int.pow_pos (by decide)
  refine ⟨Int.ediv_nonneg h0 (Int.le_of_lt hp), ?_⟩
  have := Int.ediv_le_self (2 ^ n) h0
  omega

theorem mulhu_bd (a b : Int) (h0 : 0 ≤ a) (h1 : a ≤ 18446744073709551615) (h2 : 0 ≤ b) (h3 : b ≤ 18446744073709551615) : 0 ≤ wMulhu a b ∧ wMulhu a b ≤ 18446744073709551614 := by
  have hn := Int.mul_nonneg h0 h2
  have hl : a * b ≤ 18446744073709551615 * 18446744073709551615 := Int.mul_le_mul h1 h3 h2 (by decide)
  unfold wMulhu; omega

theorem bits_bd (o : BinOp) (ho : o = .and ∨ o = .or ∨ o = .xor) (a b : Int) (h0 : 0 ≤ a) (h1 : a ≤ 18446744073709551615) (h2 : 0 ≤ b) (h3 : b ≤ 18446744073709551615) :
    0 ≤ bits o .u64 a b ∧ bits o .u64 a b ≤ 18446744073709551615 := by
  have e1 : a.toNat < 2 ^ 64 := by omega
  have e2 : b.toNat < 2 ^ 64 := by omega
  rcases ho with rfl | rfl | rfl
  · rw [u64_and a b h0 (by omega) h2 (by omega)]; have := Nat.and_lt_two_pow a.toNat e2; omega
  · rw [u64_or a b h0 (by omega) h2 (by omega)]; have := Nat.or_lt_two_pow e1 e2; omega
  · rw [u64_xor a b h0 (by omega) h2 (by omega)]; have := Nat.xor_lt_two_pow e1 e2; omega

/-! the implementation's own spelling of each -/
theorem i_slt (a b : Int) (h0 : 0 ≤ a) (h1 : a ≤ 18446744073709551615) (h2 : 0 ≤ b) (h3 : b ≤ 18446744073709551615) : (wrap64 a < wrap64 b) = (sg a < sg b) := by
  rw [sg_wrap a h0 h1, sg_wrap b h2 h3]
theorem sra63 (a : Int) (h0 : 0 ≤ a) (h1 : a ≤ 18446744073709551615) : wSra a 63 = if 9223372036854775808 ≤ a then 18446744073709551615 else 0 := by
  unfold wSra sg
  have e : ((63 : Int) % 64).toNat = 63 := by decide
  rw [e]
  have e2 : (2 : Int) ^ 63 = 9223372036854775808 := by decide
  rw [e2]
  split <;> split <;> omega
theorem mask_and (a b : Int) (h0 : 0 ≤ a) (h1 : a ≤ 18446744073709551615) (h2 : 0 ≤ b) (h3 : b ≤ 18446744073709551615) : bits .and .u64 (wSra a 63) b = if 9223372036854775808 ≤ a then b else 0 := by
  rw [sra63 a h0 h1]
  split
  · exact and_ones b h2 h3
  · exact and_zero b h2 h3
theorem i_div (a b : Int) (h0 : 0 ≤ a) (h1 : a ≤ 18446744073709551615) (h2 : 0 ≤ b) (h3 : b ≤ 18446744073709551615) (hb : (b == 0) = false) :
    IntKind.u64.wrap (wrap64 ((wrap64 a).tdiv (wrap64 b))) = wDiv a b := by
  have hb' : b ≠ 0 := by simpa using hb
  unfold wDiv; rw [if_neg hb', sg_wrap a h0 h1, sg_wrap b h2 h3, IntKind.wrap_u64]; unfold wrap64; omega
theorem i_rem (a b : Int) (h0 : 0 ≤ a) (h1 : a ≤ 18446744073709551615) (h2 : 0 ≤ b) (h3 : b ≤ 18446744073709551615) (hb : (b == 0) = false) :
    IntKind.u64.wrap ((wrap64 a).tmod (wrap64 b)) = wRem a b := by
  have hb' : b ≠ 0 := by simpa using hb
  unfold wRem; rw [if_neg hb', sg_wrap a h0 h1, sg_wrap b h2 h3, IntKind.wrap_u64]

theorem i_divu (a b : Int) (h0 : 0 ≤ a) (h1 : a ≤ 18446744073709551615) (h2 : 0 ≤ b) (h3 : b ≤ 18446744073709551615) (hb : (b == 0) = false) :
    a / b = wDivu a b := by
  have hb' : b ≠ 0 := by simpa using hb
  unfold wDivu; rw [if_neg hb']
theorem i_remu (a b : Int) (h0 : 0 ≤ a) (h1 : a ≤ 18446744073709551615) (h2 : 0 ≤ b) (h3 : b ≤ 18446744073709551615) (hb : (b == 0) = false) :
    a % b = wRemu a b := by
  have hb' : b ≠ 0 := by simpa using hb
  unfold wRemu; rw [if_neg hb']
/-! each is a word -/
theorem emod_bd (x : Int) : 0 ≤ x % 18446744073709551616 ∧ x % 18446744073709551616 ≤ 18446744073709551615 := by omega
theorem wSra_bd (a b : Int) : 0 ≤ wSra a b ∧ wSra a b ≤ 18446744073709551615 := emod_bd _
theorem wSll_bd (a b : Int) : 0 ≤ wSll a b ∧ wSll a b ≤ 18446744073709551615 := emod_bd _
theorem wAdd_bd (a b : Int) : 0 ≤ wAdd a b ∧ wAdd a b ≤ 18446744073709551615 := emod_bd _
theorem wSub_bd (a b : Int) : 0 ≤ wSub a b ∧ wSub a b ≤ 18446744073709551615 := emod_bd _
theorem wMul_bd (a b : Int) : 0 ≤ wMul a b ∧ wMul a b ≤ 18446744073709551615 := emod_bd _
theorem wMulhsu_bd (a b : Int) : 0 ≤ wMulhsu a b ∧ wMulhsu a b ≤ 18446744073709551615 := emod_bd _
theorem wSrl_bd (a b : Int) (h0 : 0 ≤ a) (h1 : a ≤ 18446744073709551615) : 0 ≤ wSrl a b ∧ wSrl a b ≤ 18446744073709551615 := div_pow_bd a _ h0 h1
theorem wDiv_bd (a b : Int) : 0 ≤ wDiv a b ∧ wDiv a b ≤ 18446744073709551615 := by unfold wDiv; split <;> omega
theorem wRem_bd (a b : Int) (h0 : 0 ≤ a) (h1 : a ≤ 18446744073709551615) : 0 ≤ wRem a b ∧ wRem a b ≤ 18446744073709551615 := by unfold wRem; split <;> omega
theorem wDivu_bd (a b : Int) (h0 : 0 ≤ a) (h1 : a ≤ 18446744073709551615) (h2 : 0 ≤ b) : 0 ≤ wDivu a b ∧ wDivu a b ≤ 18446744073709551615 := by
  unfold wDivu; split
  · omega
  · have := Int.ediv_le_self b h0; have := Int.ediv_nonneg h0 h2; omega
theorem wRemu_bd (a b : Int) (h0 : 0 ≤ a) (h1 : a ≤ 18446744073709551615) (h2 : 0 ≤ b) : 0 ≤ wRemu a b ∧ wRemu a b ≤ 18446744073709551615 := by
  unfold wRemu; split
  · omega
  · rename_i h
    have hb : 0 < b := by omega
    have h3 := Int.emod_nonneg a (Int.ne_of_gt hb)
    have h4 := Int.emod_def a b
    have h5 := Int.mul_nonneg h2 (Int.ediv_nonneg h0 h2)
    omega
end Go.Proofs.YtlfdokkopgmfjaaGreatDoor.A
namespace Go.Proofs.YtlfdokkopgmfjaaGreatDoor.A
open Go.RowKit
set_option linter.unusedVariables false
set_option maxRecDepth 100000

theorem ret_int {k : IntKind} {a b : Int} (h : a = b) : Ending.returned (.int k a) = .returned (.int k b) := by rw [h]
theorem ret_bool {a b : Bool} (h : a = b) : Ending.returned (.bool a) = .returned (.bool b) := by rw [h]

theorem ret_tup2 {k : IntKind} {a b : Int} {v : Value} (h : a = b) : Ending.returned (.tuple #[.int k a, v]) = .returned (.tuple #[.int k b, v]) := by rw [h]
theorem u64_lt (n : Int) : IntKind.u64.wrap n < 18446744073709551616 := by rw [IntKind.wrap_u64]; omega
end Go.Proofs.YtlfdokkopgmfjaaGreatDoor.A
namespace Go.Proofs.YtlfdokkopgmfjaaGreatDoor.A
open Go.RowKit
set_option linter.unusedVariables false
set_option maxRecDepth 100000

theorem ext_1_true (v : Int) (h0 : 0 ≤ v) (h1 : v ≤ 18446744073709551615) (w : World) :
    Calls Tryz.prog 67 #[.int .u64 v, .int .i64 1, .bool true] w fun e w' => e = .returned (.int .u64 (exs v 1)) ∧ w' = w := by
  go_enter Tryz.func67, Tryz.ntmps67
  go_wp2
  go_ret
  exact ⟨ret_int (by simp only [IntKind.wrap_u64, exs]; (try unfold wrap64); simp; omega), rfl⟩
theorem ext_1_false (v : Int) (h0 : 0 ≤ v) (h1 : v ≤ 18446744073709551615) (w : World) :
    Calls Tryz.prog 67 #[.int .u64 v, .int .i64 1, .bool false] w fun e w' => e = .returned (.int .u64 (exz v 1)) ∧ w' = w := by
  go_enter Tryz.func67, Tryz.ntmps67
  go_wp2
  go_ret
  exact ⟨ret_int (by simp only [IntKind.wrap_u64, exz]; (try unfold wrap64); simp; omega), rfl⟩
theorem ext_2_true (v : Int) (h0 : 0 ≤ v) (h1 : v ≤ 18446744073709551615) (w : World) :
    Calls Tryz.prog 67 #[.int .u64 v, .int .i64 2, .bool true] w fun e w' => e = .returned (.int .u64 (exs v 2)) ∧ w' = w := by
  go_enter Tryz.func67, Tryz.ntmps67
  go_wp2
  go_ret
  exact ⟨ret_int (by simp only [IntKind.wrap_u64, exs]; (try unfold wrap64); simp; omega), rfl⟩
theorem ext_2_false (v : Int) (h0 : 0 ≤ v) (h1 : v ≤ 18446744073709551615) (w : World) :
    Calls Tryz.prog 67 #[.int .u64 v, .int .i64 2, .bool false] w fun e w' => e = .returned (.int .u64 (exz v 2)) ∧ w' = w := by
  go_enter Tryz.func67, Tryz.ntmps67
  go_wp2
  go_ret
  exact ⟨ret_int (by simp only [IntKind.wrap_u64, exz]; (try unfold wrap64); simp; omega), rfl⟩
theorem ext_4_true (v : Int) (h0 : 0 ≤ v) (h1 : v ≤ 18446744073709551615) (w : World) :
    Calls Tryz.prog 67 #[.int .u64 v, .int .i64 4, .bool true] w fun e w' => e = .returned (.int .u64 (exs v 4)) ∧ w' = w := by
  go_enter Tryz.func67, Tryz.ntmps67
  go_wp2
  go_ret
  exact ⟨ret_int (by simp only [IntKind.wrap_u64, exs]; (try unfold wrap64); simp; omega), rfl⟩
theorem ext_4_false (v : Int) (h0 : 0 ≤ v) (h1 : v ≤ 18446744073709551615) (w : World) :
    Calls Tryz.prog 67 #[.int .u64 v, .int .i64 4, .bool false] w fun e w' => e = .returned (.int .u64 (exz v 4)) ∧ w' = w := by
  go_enter Tryz.func67, Tryz.ntmps67
  go_wp2
  go_ret
  exact ⟨ret_int (by simp only [IntKind.wrap_u64, exz]; (try unfold wrap64); simp; omega), rfl⟩
theorem ext_none (v size : Int) (g : Bool) (h0 : 0 ≤ v) (h1 : v ≤ 18446744073709551615) (w : World) (e1 : ¬ size = 1) (e2 : ¬ size = 2) (e4 : ¬ size = 4) :
    Calls Tryz.prog 67 #[.int .u64 v, .int .i64 size, .bool g] w fun e w' => e = .returned (.int .u64 v) ∧ w' = w := by
  have d1 : (size != 1) = true := by simpa using e1
  have d2 : (size != 2) = true := by simpa using e2
  have d4 : (size != 4) = true := by simpa using e4
  go_enter Tryz.func67, Tryz.ntmps67
  go_wp2
  go_ret
  exact ⟨rfl, rfl⟩
theorem ext_f (v s : Int) : ext v s false = exz v s := by simp [ext]
theorem ext_t (v s : Int) : ext v s true = exs v s := by simp [ext]
theorem m_Extend (v size : Int) (g : Bool) (h0 : 0 ≤ v) (h1 : v ≤ 18446744073709551615) (w : World) :
    Calls Tryz.prog 67 #[.int .u64 v, .int .i64 size, .bool g] w fun e w' => e = .returned (.int .u64 (ext v size g)) ∧ w' = w := by
  by_cases e1 : size = 1
  · subst e1; cases g
    · rw [ext_f]; exact ext_1_false v h0 h1 w
    · rw [ext_t]; exact ext_1_true v h0 h1 w
  by_cases e2 : size = 2
  · subst e2; cases g
    · rw [ext_f]; exact ext_2_false v h0 h1 w
    · rw [ext_t]; exact ext_2_true v h0 h1 w
  by_cases e4 : size = 4
  · subst e4; cases g
    · rw [ext_f]; exact ext_4_false v h0 h1 w
    · rw [ext_t]; exact ext_4_true v h0 h1 w
  have e : ext v size g = v := by
    cases g
    · rw [ext_f]; unfold exz; rw [if_neg e1, if_neg e2, if_neg e4]
    · rw [ext_t]; unfold exs; rw [if_neg e1, if_neg e2, if_neg e4]
  rw [e]
  exact ext_none v size g h0 h1 w e1 e2 e4
end Go.Proofs.YtlfdokkopgmfjaaGreatDoor.A
namespace Go.Proofs.YtlfdokkopgmfjaaGreatDoor.A
open Go.RowKit
set_option linter.unusedVariables false
set_option maxRecDepth 100000

/-- a word without its sign -/
def ab (a : Int) : Int := sel (decide (9223372036854775808 ≤ a)) (18446744073709551616 - a) a
theorem ab_bd (a : Int) (h0 : 0 ≤ a) (h1 : a ≤ 18446744073709551615) : 0 ≤ ab a ∧ ab a ≤ 9223372036854775808 := by
  unfold ab sel; split <;> simp at * <;> omega
theorem ab_neg (a : Int) (h : 9223372036854775808 ≤ a) : ab a = - sg a := by
  unfold ab sel sg; rw [if_pos (by simpa using h), if_neg (by omega)]; omega
theorem ab_pos (a : Int) (h : ¬ 9223372036854775808 ≤ a) : ab a = sg a := by
  unfold ab sel sg; rw [if_neg (by simpa using h), if_pos (by omega)]
theorem sg_neg (a : Int) (h1 : a ≤ 18446744073709551615) (h : 9223372036854775808 ≤ a) : sg a < 0 := by
  unfold sg; rw [if_neg (by omega)]; omega
theorem sg_pos (a : Int) (h0 : 0 ≤ a) (h : ¬ 9223372036854775808 ≤ a) : 0 ≤ sg a := by
  unfold sg; rw [if_pos (by omega)]; omega
theorem ab_zero (a : Int) (h0 : 0 ≤ a) (h1 : a ≤ 18446744073709551615) (h : a ≠ 0) : 1 ≤ ab a := by
  unfold ab sel; split <;> simp at * <;> omega

/-- x.tdiv y by absolute values -/
theorem tdiv_nn (x y : Int) (hx : 0 ≤ x) (hy : 0 ≤ y) : x.tdiv y = x / y := Int.tdiv_eq_ediv_of_nonneg hx
theorem tdiv_np (x y : Int) (hx : x < 0) (hy : 0 ≤ y) : x.tdiv y = -((-x) / y) := by
  have : x = -(-x) := by omega
  rw [this, Int.neg_tdiv, Int.tdiv_eq_ediv_of_nonneg (by omega : 0 ≤ -x)]; simp
theorem tdiv_pn (x y : Int) (hx : 0 ≤ x) (hy : y < 0) : x.tdiv y = -(x / (-y)) := by
  have : y = -(-y) := by omega
  rw [this, Int.tdiv_neg, Int.tdiv_eq_ediv_of_nonneg hx]; simp
theorem tdiv_mm (x y : Int) (hx : x < 0) (hy : y < 0) : x.tdiv y = (-x) / (-y) := by
  have e1 : x = -(-x) := by omega
  have e2 : y = -(-y) := by omega
  rw [e1, e2, Int.neg_tdiv, Int.tdiv_neg, Int.tdiv_eq_ediv_of_nonneg (by omega : 0 ≤ -x)]; simp
theorem tmod_n (x y : Int) (hx : 0 ≤ x) : x.tmod y = x % y := Int.tmod_eq_emod_of_nonneg hx
theorem tmod_m (x y : Int) (hx : x < 0) : x.tmod y = -((-x) % y) := by
  have : x = -(-x) := by omega
  rw [this, Int.neg_tmod, Int.tmod_eq_emod_of_nonneg (by omega : 0 ≤ -x)]; simp

/-- the quotient with signs, of the quotient q of the absolute values -/
theorem div_same (a b : Int) (h0 : 0 ≤ a) (h1 : a ≤ 18446744073709551615) (h2 : 0 ≤ b) (h3 : b ≤ 18446744073709551615) (hb : b ≠ 0)
    (hs : (9223372036854775808 ≤ a) ↔ (9223372036854775808 ≤ b)) : ab a / ab b = wDiv a b := by
  have ka := ab_bd a h0 h1
  have kb := ab_bd b h2 h3
  have kq : 0 ≤ ab a / ab b ∧ ab a / ab b ≤ 9223372036854775808 := by
    have := Int.ediv_le_self (ab b) ka.1; have := Int.ediv_nonneg ka.1 kb.1; omega
  unfold wDiv; rw [if_neg hb]
  by_cases n : 9223372036854775808 ≤ a
  · have m := hs.1 n
    rw [tdiv_mm _ _ (sg_neg a h1 n) (sg_neg b h3 m), ← ab_neg a n, ← ab_neg b m]; omega
  · have m : ¬ 9223372036854775808 ≤ b := fun h => n (hs.2 h)
    rw [tdiv_nn _ _ (sg_pos a h0 n) (sg_pos b h2 m), ← ab_pos a n, ← ab_pos b m]; omega
theorem div_unlike (a b : Int) (h0 : 0 ≤ a) (h1 : a ≤ 18446744073709551615) (h2 : 0 ≤ b) (h3 : b ≤ 18446744073709551615) (hb : b ≠ 0)
    (hs : ¬ ((9223372036854775808 ≤ a) ↔ (9223372036854775808 ≤ b))) : -(ab a / ab b) % 18446744073709551616 = wDiv a b := by
  unfold wDiv; rw [if_neg hb]
  by_cases n : 9223372036854775808 ≤ a
  · have m : ¬ 9223372036854775808 ≤ b := fun h => hs ⟨fun _ => h, fun _ => n⟩
    rw [tdiv_np _ _ (sg_neg a h1 n) (sg_pos b h2 m), ← ab_neg a n, ← ab_pos b m]
  · have m : 9223372036854775808 ≤ b := by
      refine Decidable.byContradiction fun h => hs ⟨fun x => absurd x n, fun x => absurd x h⟩
    rw [tdiv_pn _ _ (sg_pos a h0 n) (sg_neg b h3 m), ← ab_pos a n, ← ab_neg b m]
theorem tmod_ab (x b : Int) (h2 : 0 ≤ b) (h3 : b ≤ 18446744073709551615) : x % ab b = x % sg b := by
  by_cases m : 9223372036854775808 ≤ b
  · rw [ab_neg b m, Int.emod_neg]
  · rw [ab_pos b m]
theorem rem_pos (a b : Int) (h0 : 0 ≤ a) (h1 : a ≤ 18446744073709551615) (h2 : 0 ≤ b) (h3 : b ≤ 18446744073709551615) (hb : b ≠ 0)
    (n : ¬ 9223372036854775808 ≤ a) : ab a % ab b = wRem a b := by
  have ka := ab_bd a h0 h1
  have kb := ab_zero b h2 h3 hb
  have k1 := Int.emod_nonneg (ab a) (by omega : ab b ≠ 0)
  have k2 := Int.emod_lt_of_pos (ab a) (by omega : 0 < ab b)
  have kc := ab_bd b h2 h3
  have e : ab a % ab b % 18446744073709551616 = ab a % ab b := Int.emod_eq_of_lt k1 (by omega)
  unfold wRem; rw [if_neg hb, tmod_n _ _ (sg_pos a h0 n), ← tmod_ab _ b h2 h3, ← ab_pos a n, e]
theorem rem_neg (a b : Int) (h0 : 0 ≤ a) (h1 : a ≤ 18446744073709551615) (h2 : 0 ≤ b) (h3 : b ≤ 18446744073709551615) (hb : b ≠ 0)
    (n : 9223372036854775808 ≤ a) : -(ab a % ab b) % 18446744073709551616 = wRem a b := by
  unfold wRem; rw [if_neg hb, tmod_m _ _ (sg_neg a h1 n), ← tmod_ab _ b h2 h3, ← ab_neg a n]

/-- shifted right, i times -/
def sr (a : Int) (i : Nat) : Int := sg a / 2 ^ i % 18446744073709551616
theorem sr_zero (a : Int) (h0 : 0 ≤ a) (h1 : a ≤ 18446744073709551615) : sr a 0 = a := by unfold sr sg; simp; split <;> omega
theorem sr_bd (a : Int) (i : Nat) : 0 ≤ sr a i ∧ sr a i ≤ 18446744073709551615 := by unfold sr; omega
theorem div_pow_sg (x : Int) (i : Nat) (h0 : -9223372036854775808 ≤ x) (h1 : x ≤ 9223372036854775807) : -9223372036854775808 ≤ x / 2 ^ i ∧ x / 2 ^ i ≤ 9223372036854775807 := by
  have hp : (0 : Int) < 2 ^ i := Int.pow_pos (by decide)
  by_cases h : 0 ≤ x
  · have := Int.ediv_nonneg h (Int.le_of_lt hp); have := Int.ediv_le_self (2 ^ i) h; omega
  · have e1 : x / 2 ^ i < 0 := Int.ediv_neg_of_neg_of_pos (by omega) hp
    have e2 : x ≤ x / 2 ^ i := by
      refine (Int.le_ediv_iff_mul_le hp).2 ?_
      have : x * 2 ^ i ≤ x * 1 := Int.mul_le_mul_of_nonpos_left (by omega) (by omega)
      omega
    omega
theorem sr_succ (a : Int) (i : Nat) (h0 : 0 ≤ a) (h1 : a ≤ 18446744073709551615) :
    sr a i / 2 + sr a i / 9223372036854775808 * 9223372036854775808 = sr a (i + 1) := by
  have k := sg_bd a h0 h1
  have k2 := div_pow_sg (sg a) i k.1 k.2
  have e : sg a / 2 ^ (i + 1) = sg a / 2 ^ i / 2 := by
    rw [Int.pow_succ, Int.ediv_ediv_of_nonneg (Int.le_of_lt (Int.pow_pos (by decide)))]
  unfold sr; rw [e]
  generalize sg a / 2 ^ i = x at *
  omega
theorem sr_is (a b : Int) (h : 0 ≤ b) (h' : b ≤ 63) : sr a b.toNat = wSra a b := by
  unfold sr wSra; have : (b % 64).toNat = b.toNat := by omega
  rw [this]

theorem r_less (a b : Int) (h0 : 0 ≤ a) (h1 : a ≤ 18446744073709551615) (h2 : 0 ≤ b) (h3 : b ≤ 18446744073709551615) :
    decide ((a + 9223372036854775808) % 18446744073709551616 < (b + 9223372036854775808) % 18446744073709551616) = decide (sg a < sg b) := by
  rw [decide_eq_decide]; unfold sg; split <;> split <;> omega
theorem r_high (x y : Int) (hx0 : 0 ≤ x) (hx : x ≤ 18446744073709551615) (hy0 : 0 ≤ y) (hy : y ≤ 18446744073709551615) :
    (((x / 4294967296 * (y / 4294967296)) % 18446744073709551616 +
      (((x / 4294967296 * (y % 4294967296)) % 18446744073709551616 + ((x % 4294967296 * (y % 4294967296)) % 18446744073709551616) / 4294967296) % 18446744073709551616) / 4294967296) % 18446744073709551616 +
      (((((x / 4294967296 * (y % 4294967296)) % 18446744073709551616 + ((x % 4294967296 * (y % 4294967296)) % 18446744073709551616) / 4294967296) % 18446744073709551616) % 4294967296 +
        (x % 4294967296 * (y / 4294967296)) % 18446744073709551616) % 18446744073709551616) / 4294967296) % 18446744073709551616 = wMulhu x y :=
  mul64_arith x y hx0 (by omega) hy0 (by omega)

theorem tdiv_em (x m : Int) : (x % 18446744073709551616).tdiv m = x % 18446744073709551616 / m := Int.tdiv_eq_ediv_of_nonneg (by omega)
theorem tmod_em (x m : Int) : (x % 18446744073709551616).tmod m = x % 18446744073709551616 % m := Int.tmod_eq_emod_of_nonneg (by omega)
theorem em_half (x : Int) : x % 18446744073709551616 / 4294967296 % 18446744073709551616 = x % 18446744073709551616 / 4294967296 := by omega
/-- is a word below 0? -/
def ngv (a : Int) : Bool := decide (9223372036854775808 ≤ a)
theorem ngv_t {a : Int} (h : ngv a = true) : 9223372036854775808 ≤ a := by simpa [ngv] using h
theorem ngv_f {a : Int} (h : ngv a = false) : ¬ 9223372036854775808 ≤ a := by simpa [ngv] using h
theorem hsu_n (a b : Int) (n : ngv a = true) : (wMulhu a b - b) % 18446744073709551616 = wMulhsu a b := by unfold wMulhsu; rw [if_pos (ngv_t n)]
theorem hsu_p (a b : Int) (h0 : 0 ≤ a) (h1 : a ≤ 18446744073709551615) (h2 : 0 ≤ b) (h3 : b ≤ 18446744073709551615) (n : ngv a = false) : wMulhu a b = wMulhsu a b := by
  have := mulhu_bd a b h0 h1 h2 h3
  unfold wMulhsu; rw [if_neg (ngv_f n)]; omega
theorem mh_n (a b : Int) (m : ngv b = true) : (wMulhsu a b - a) % 18446744073709551616 = wMulh a b := by unfold wMulh; rw [if_pos (ngv_t m)]
theorem mh_p (a b : Int) (m : ngv b = false) : wMulhsu a b = wMulh a b := by
  have := wMulhsu_bd a b
  unfold wMulh; rw [if_neg (ngv_f m)]; omega
theorem div_same' (a b : Int) (h0 : 0 ≤ a) (h1 : a ≤ 18446744073709551615) (h2 : 0 ≤ b) (h3 : b ≤ 18446744073709551615) (hb : b ≠ 0)
    (hs : ngv a = ngv b) : ab a / ab b = wDiv a b := div_same a b h0 h1 h2 h3 hb (by simpa [ngv] using hs)
theorem div_unlike' (a b : Int) (h0 : 0 ≤ a) (h1 : a ≤ 18446744073709551615) (h2 : 0 ≤ b) (h3 : b ≤ 18446744073709551615) (hb : b ≠ 0)
    (hs : ngv a ≠ ngv b) : -(ab a / ab b) % 18446744073709551616 = wDiv a b := div_unlike a b h0 h1 h2 h3 hb (by simpa [ngv] using hs)
/-! the halves -/
theorem ex_small (x : Int) (h0 : -2147483648 ≤ x) (h1 : x ≤ 2147483647) : ex (x % 18446744073709551616) = x % 18446744073709551616 := by unfold ex wrap32; omega
theorem sraw_ex (a b : Int) : ex (wSra (ex a) b) = wSra (ex a) b := by
  unfold wSra; rw [sg_ex]
  have hp : (0 : Int) < 2 ^ (b % 64).toNat := Int.pow_pos (by decide)
  have k : -2147483648 ≤ wrap32 a ∧ wrap32 a ≤ 2147483647 := by unfold wrap32; omega
  generalize (b % 64).toNat = i at *
  refine ex_small _ ?_ ?_
  · refine (Int.le_ediv_iff_mul_le hp).2 ?_
    have : -2147483648 * (2 : Int) ^ i ≤ -2147483648 * 1 := Int.mul_le_mul_of_nonpos_left (by omega) (by omega)
    omega
  · by_cases h : 0 ≤ wrap32 a
    · have := Int.ediv_le_self (2 ^ i) h; omega
    · have := Int.ediv_neg_of_neg_of_pos (by omega : wrap32 a < 0) hp; omega
theorem tmod_small (x y : Int) (hy : y ≠ 0) (h0 : -2147483648 ≤ x) (h1 : x ≤ 2147483647) : -2147483648 ≤ x.tmod y ∧ x.tmod y ≤ 2147483647 := by
  have key : ∀ z : Int, 0 ≤ z → 0 ≤ z % y ∧ z % y ≤ z := by
    intro z hz
    have k1 := Int.emod_nonneg z hy
    refine ⟨k1, ?_⟩
    by_cases hp : 0 ≤ y
    · have e := Int.emod_def z y
      have f := Int.mul_nonneg hp (Int.ediv_nonneg hz hp)
      omega
    · have e := Int.emod_def z (-y)
      have f := Int.mul_nonneg (by omega : 0 ≤ -y) (Int.ediv_nonneg hz (by omega : 0 ≤ -y))
      rw [Int.emod_neg] at e
      omega
  by_cases h : 0 ≤ x
  · rw [tmod_n x y h]; have := key x h; omega
  · rw [tmod_m x y (by omega)]; have := key (-x) (by omega); omega
theorem remw_ex (a b : Int) : ex (wRem (ex a) (ex b)) = wRem (ex a) (ex b) := by
  unfold wRem
  split
  · exact ex_ex a
  · rename_i h
    rw [sg_ex, sg_ex]
    have k : -2147483648 ≤ wrap32 a ∧ wrap32 a ≤ 2147483647 := by unfold wrap32; omega
    have hy : wrap32 b ≠ 0 := by
      intro hb; apply h; unfold ex; rw [hb]; rfl
    have := tmod_small (wrap32 a) (wrap32 b) hy k.1 k.2
    exact ex_small _ this.1 this.2
theorem sllw_lo (a b : Int) : ex (wSll (lo a) b) = ex (wSll a b) := by
  apply ex_of_lo
  unfold wSll
  rw [lo_mod, lo_mod]
  unfold lo
  rw [Int.mul_emod, Int.emod_emod_of_dvd _ (Int.dvd_refl _), ← Int.mul_emod]
end Go.Proofs.YtlfdokkopgmfjaaGreatDoor.A
namespace Go.Proofs.YtlfdokkopgmfjaaGreatDoor.A
open Go.RowKit
set_option linter.unusedVariables false
set_option maxRecDepth 100000

end Go.Proofs.YtlfdokkopgmfjaaGreatDoor.A
namespace Go.Proofs.YtlfdokkopgmfjaaGreatDoor.A
open Go.RowKit
set_option linter.unusedVariables false
set_option maxRecDepth 100000

end Go.Proofs.YtlfdokkopgmfjaaGreatDoor.A
