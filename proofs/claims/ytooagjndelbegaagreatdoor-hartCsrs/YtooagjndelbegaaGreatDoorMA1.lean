/- The plain arithmetic of the words of 64 bits, over Int: what each operation of package word answers, by one Lean function each, and what the reference's own ways come to. Nothing here speaks of the program. -/
import Derived.WalkKit
import Derived.Laws.MathBits
import Derived.Laws.BitsAllLaws
import Derived.Test.YtooagjndelbegaaGreatDoorProg
import Derived.ProofKit
import Derived.Outline
namespace Go.Proofs.YtooagjndelbegaaGreatDoor.A
open Go.RowKit
set_option linter.unusedVariables false

/-- a word with its sign -/
def sg (a : Int) : Int := if a < 9223372036854775808 then a else a - 18446744073709551616
/-- the low half -/
def lo (a : Int) : Int := a % 4294967296
/-- the low half, extended -/
def ex (a : Int) : Int := wrap32 a % 18446744073709551616
def wAdd (a b : Int) : Int := (a + b) % 18446744073709551616
def wSub (a b : Int) : Int := (a - b) % 18446744073709551616
def wSll (a b : Int) : Int := a * 2 ^ (b % 64).toNat % 18446744073709551616
/-- one of two -/
def sel (c : Bool) (a b : Int) : Int := if c then a else b
def wSlt (a b : Int) : Int := sel (decide (sg a < sg b)) 1 0
def wSltu (a b : Int) : Int := sel (decide (a < b)) 1 0
def wXor (a b : Int) : Int := bits .xor .u64 a b
def wSrl (a b : Int) : Int := a / 2 ^ (b % 64).toNat
def wSra (a b : Int) : Int := sg a / 2 ^ (b % 64).toNat % 18446744073709551616
def wOr (a b : Int) : Int := bits .or .u64 a b
def wAnd (a b : Int) : Int := bits .and .u64 a b
def wMul (a b : Int) : Int := a * b % 18446744073709551616
def wMulhu (a b : Int) : Int := a * b / 18446744073709551616
def wMulhsu (a b : Int) : Int := (wMulhu a b - (if 9223372036854775808 ≤ a then b else 0)) % 18446744073709551616
def wMulh (a b : Int) : Int := (wMulhsu a b - (if 9223372036854775808 ≤ b then a else 0)) % 18446744073709551616
def wDiv (a b : Int) : Int := if b = 0 then 18446744073709551615 else (sg a).tdiv (sg b) % 18446744073709551616
def wDivu (a b : Int) : Int := if b = 0 then 18446744073709551615 else a / b
def wRem (a b : Int) : Int := if b = 0 then a else (sg a).tmod (sg b) % 18446744073709551616
def wRemu (a b : Int) : Int := if b = 0 then a else a % b
def wAddw (a b : Int) : Int := ex (wAdd a b)
def wSubw (a b : Int) : Int := ex (wSub a b)
def wSllw (a b : Int) : Int := ex (wSll a (b % 32))
def wSrlw (a b : Int) : Int := ex (wSrl (lo a) (b % 32))
def wSraw (a b : Int) : Int := wSra (ex a) (b % 32)
def wMulw (a b : Int) : Int := ex (wMul a b)
def wDivw (a b : Int) : Int := ex (wDiv (ex a) (ex b))
def wDivuw (a b : Int) : Int := ex (wDivu (lo a) (lo b))
def wRemw (a b : Int) : Int := wRem (ex a) (ex b)
def wRemuw (a b : Int) : Int := ex (wRemu (lo a) (lo b))
def wMin (a b : Int) : Int := sel (decide (sg a < sg b)) a b
def wMax (a b : Int) : Int := sel (decide (sg a < sg b)) b a
def wMinu (a b : Int) : Int := sel (decide (a < b)) a b
def wMaxu (a b : Int) : Int := sel (decide (a < b)) b a

/-- what Alu answers -/
def alu (fn a b : Int) : Int :=
  if fn = 1 then wAdd a b else if fn = 2 then wSub a b else if fn = 3 then wSll a b else if fn = 4 then wSlt a b else if fn = 5 then wSltu a b
  else if fn = 6 then wXor a b else if fn = 7 then wSrl a b else if fn = 8 then wSra a b else if fn = 9 then wOr a b else if fn = 10 then wAnd a b
  else if fn = 11 then wMul a b else if fn = 12 then wMulh a b else if fn = 13 then wMulhsu a b else if fn = 14 then wMulhu a b
  else if fn = 15 then wDiv a b else if fn = 16 then wDivu a b else if fn = 17 then wRem a b else if fn = 18 then wRemu a b
  else if fn = 19 then wAddw a b else if fn = 20 then wSubw a b else if fn = 21 then wSllw a b else if fn = 22 then wSrlw a b else if fn = 23 then wSraw a b
  else if fn = 24 then wMulw a b else if fn = 25 then wDivw a b else if fn = 26 then wDivuw a b else if fn = 27 then wRemw a b else if fn = 28 then wRemuw a b
  else 0
/-- what Branch answers -/
def br (fn a b : Int) : Bool :=
  if fn = 1 then decide (a = b) else if fn = 2 then !decide (a = b) else if fn = 3 then decide (sg a < sg b) else if fn = 4 then !decide (sg a < sg b)
  else if fn = 5 then decide (a < b) else if fn = 6 then !decide (a < b) else false
/-- what an atomic stores, of words -/
def am (fn a b : Int) : Int :=
  if fn = 1 then b else if fn = 2 then wAdd a b else if fn = 3 then wXor a b else if fn = 4 then wAnd a b else if fn = 5 then wOr a b
  else if fn = 6 then wMin a b else if fn = 7 then wMax a b else if fn = 8 then wMinu a b else if fn = 9 then wMaxu a b else a
/-- what Amo answers -/
def amo (fn size a b : Int) : Int := if size = 4 then lo (am fn (ex a) (ex b)) else am fn a b
def exz (v size : Int) : Int := if size = 1 then v % 256 else if size = 2 then v % 65536 else if size = 4 then v % 4294967296 else v
def exs (v size : Int) : Int :=
  if size = 1 then ((v + 128) % 256 - 128) % 18446744073709551616 else if size = 2 then ((v + 32768) % 65536 - 32768) % 18446744073709551616
  else if size = 4 then ((v + 2147483648) % 4294967296 - 2147483648) % 18446744073709551616 else v
/-- what Extend answers -/
def ext (v size : Int) (signed : Bool) : Int := if signed then exs v size else exz v size

/-! what holds of a word -/
def isW (a : Int) : Prop := 0 ≤ a ∧ a ≤ 18446744073709551615

theorem sg_wrap (a : Int) (h0 : 0 ≤ a) (h1 : a ≤ 18446744073709551615) : wrap64 a = sg a := by unfold wrap64 sg; split <;> omega
theorem sg_bd (a : Int) (h0 : 0 ≤ a) (h1 : a ≤ 18446744073709551615) : -9223372036854775808 ≤ sg a ∧ sg a ≤ 9223372036854775807 := by unfold sg; split <;> omega
theorem sg_zero (a : Int) (h0 : 0 ≤ a) (h1 : a ≤ 18446744073709551615) : sg a = 0 ↔ a = 0 := by unfold sg; split <;> omega
theorem lo_bd (a : Int) : 0 ≤ lo a ∧ lo a ≤ 4294967295 := by unfold lo; omega
theorem ex_bd (a : Int) : 0 ≤ ex a ∧ ex a ≤ 18446744073709551615 := by unfold ex; omega
theorem sg_ex (a : Int) : sg (ex a) = wrap32 a := by unfold sg ex wrap32; split <;> omega
theorem ex_zero (a : Int) : ex a = 0 ↔ lo a = 0 := by unfold ex lo wrap32; omega
theorem ex_lo (a : Int) : ex (lo a) = ex a := by unfold ex lo wrap32; omega
theorem ex_ex (a : Int) : ex (ex a) = ex a := by unfold ex wrap32; omega
theorem lo_ex (a : Int) : lo (ex a) = lo a := by unfold ex lo wrap32; omega
theorem lo_lo (a : Int) : lo (lo a) = lo a := by unfold lo; omega
theorem ex_of_lo (a b : Int) (h : lo a = lo b) : ex a = ex b := by rw [← ex_lo a, h, ex_lo]
theorem ex_mod (a : Int) : ex (a % 18446744073709551616) = ex a := by unfold ex wrap32; omega
theorem lo_mod (a : Int) : lo (a % 18446744073709551616) = lo a := by unfold lo; omega

theorem and63 (b : Int) (h0 : 0 ≤ b) (h1 : b ≤ 18446744073709551615) : bits .and .u64 b 63 = b % 64 := by
  rw [u64_and b 63 h0 (by omega) (by omega) (by omega)]
  have := nat_mask6 b.toNat
  simp only [Int.reduceToNat]
  rw [this]; omega
theorem and31 (b : Int) (h0 : 0 ≤ b) (h1 : b ≤ 18446744073709551615) : bits .and .u64 b 31 = b % 32 := by
  rw [u64_and b 31 h0 (by omega) (by omega) (by omega)]
  have := nat_mask5 b.toNat
  simp only [Int.reduceToNat]
  rw [this]; omega
theorem and_ones (b : Int) (h0 : 0 ≤ b) (h1 : b ≤ 18446744073709551615) : bits .and .u64 18446744073709551615 b = b := by
  rw [u64_and _ b (by omega) (by omega) h0 (by omega)]
  have : (18446744073709551615 : Int).toNat &&& b.toNat = b.toNat % 2 ^ 64 := by
    rw [Nat.and_comm]; exact Nat.and_two_pow_sub_one_eq_mod b.toNat 64
  rw [this]; omega
theorem and_zero (b : Int) (h0 : 0 ≤ b) (h1 : b ≤ 18446744073709551615) : bits .and .u64 0 b = 0 := by
  rw [u64_and _ b (by omega) (by omega) h0 (by omega)]; simp

theorem div_pow_bd (a : Int) (n : Nat) (h0 : 0 ≤ a) (h1 : a ≤ 18446744073709551615) : 0 ≤ a / 2 ^ n ∧ a / 2 ^ n ≤ 18446744073709551615 := by
  have hp : (0 : Int) < 2 ^ n := Int.pow_pos (by decide)
  refine ⟨Int.ediv_nonneg h0 (Int.le_of_lt hp), ?_⟩
  have := Int.ediv_le_self (2 ^ n) h0
  omega

theorem mulhu_bd (a b : Int) (h0 : 0 ≤ a) (h1 : a ≤ 18446744073709551615) (h2 : 0 ≤ b) (h3 : b ≤ 18446744073709551615) : 0 ≤ wMulhu a b ∧ wMulhu a b ≤ 18446744073709551614 := by
  have hn := Int.mul_nonneg h0 h2
  have hl : a * b ≤ 18446744073709551615 * 18446744073709551615 := Int.mul_le_mul h1 h3 h2 (by decide)
  unfold wMulhu; omega

theorem bits_bd (o : BinOp) (ho : o = .and ∨ o = .or ∨ o = .xor) (a b : Int) (h0 : 0 ≤ a) (h1 : a ≤ 18446744073709551615) (h2 : 0 ≤ b) (h3 : b ≤ 18446744073709551615) :
    0 ≤ bits o .u64 a b ∧ bits o .u64 a b ≤ 18446744073709551615 := by
  have e1 : a.toNat < 2 ^ 64 := by omega
  have e2 : b.toNat < 2 ^ 64 := by omega
  rcases ho with rfl | rfl | rfl
  · rw [u64_and a b h0 (by omega) h2 (by omega)]; have := Nat.and_lt_two_pow a.toNat e2; omega
  · rw [u64_or a b h0 (by omega) h2 (by omega)]; have := Nat.or_lt_two_pow e1 e2; omega
  · rw [u64_xor a b h0 (by omega) h2 (by omega)]; have := Nat.xor_lt_two_pow e1 e2; omega

/-! the implementation's own spelling of each -/
theorem i_slt (a b : Int) (h0 : 0 ≤ a) (h1 : a ≤ 18446744073709551615) (h2 : 0 ≤ b) (h3 : b ≤ 18446744073709551615) : (wrap64 a < wrap64 b) = (sg a < sg b) := by
  rw [sg_wrap a h0 h1, sg_wrap b h2 h3]
theorem sra63 (a : Int) (h0 : 0 ≤ a) (h1 : a ≤ 18446744073709551615) : wSra a 63 = if 9223372036854775808 ≤ a then 18446744073709551615 else 0 := by
  unfold wSra sg
  have e : ((63 : Int) % 64).toNat = 63 := by decide
  rw [e]
  have e2 : (2 : Int) ^ 63 = 9223372036854775808 := by decide
  rw [e2]
  split <;> split <;> omega
theorem mask_and (a b : Int) (h0 : 0 ≤ a) (h1 : a ≤ 18446744073709551615) (h2 : 0 ≤ b) (h3 : b ≤ 18446744073709551615) : bits .and .u64 (wSra a 63) b = if 9223372036854775808 ≤ a then b else 0 := by
  rw [sra63 a h0 h1]
  split
  · exact and_ones b h2 h3
  · exact and_zero b h2 h3
theorem i_div (a b : Int) (h0 : 0 ≤ a) (h1 : a ≤ 18446744073709551615) (h2 : 0 ≤ b) (h3 : b ≤ 18446744073709551615) (hb : (b == 0) = false) :
    IntKind.u64.wrap (wrap64 ((wrap64 a).tdiv (wrap64 b))) = wDiv a b := by
  have hb' : b ≠ 0 := by simpa using hb
  unfold wDiv; rw [if_neg hb', sg_wrap a h0 h1, sg_wrap b h2 h3, IntKind.wrap_u64]; unfold wrap64; omega
theorem i_rem (a b : Int) (h0 : 0 ≤ a) (h1 : a ≤ 18446744073709551615) (h2 : 0 ≤ b) (h3 : b ≤ 18446744073709551615) (hb : (b == 0) = false) :
    IntKind.u64.wrap ((wrap64 a).tmod (wrap64 b)) = wRem a b := by
  have hb' : b ≠ 0 := by simpa using hb
  unfold wRem; rw [if_neg hb', sg_wrap a h0 h1, sg_wrap b h2 h3, IntKind.wrap_u64]

theorem i_divu (a b : Int) (h0 : 0 ≤ a) (h1 : a ≤ 18446744073709551615) (h2 : 0 ≤ b) (h3 : b ≤ 18446744073709551615) (hb : (b == 0) = false) :
    a / b = wDivu a b := by
  have hb' : b ≠ 0 := by simpa using hb
  unfold wDivu; rw [if_neg hb']
theorem i_remu (a b : Int) (h0 : 0 ≤ a) (h1 : a ≤ 18446744073709551615) (h2 : 0 ≤ b) (h3 : b ≤ 18446744073709551615) (hb : (b == 0) = false) :
    a % b = wRemu a b := by
  have hb' : b ≠ 0 := by simpa using hb
  unfold wRemu; rw [if_neg hb']
/-! each is a word -/
theorem emod_bd (x : Int) : 0 ≤ x % 18446744073709551616 ∧ x % 18446744073709551616 ≤ 18446744073709551615 := by omega
theorem wSra_bd (a b : Int) : 0 ≤ wSra a b ∧ wSra a b ≤ 18446744073709551615 := emod_bd _
theorem wSll_bd (a b : Int) : 0 ≤ wSll a b ∧ wSll a b ≤ 18446744073709551615 := emod_bd _
theorem wAdd_bd (a b : Int) : 0 ≤ wAdd a b ∧ wAdd a b ≤ 18446744073709551615 := emod_bd _
theorem wSub_bd (a b : Int) : 0 ≤ wSub a b ∧ wSub a b ≤ 18446744073709551615 := emod_bd _
theorem wMul_bd (a b : Int) : 0 ≤ wMul a b ∧ wMul a b ≤ 18446744073709551615 := emod_bd _
theorem wMulhsu_bd (a b : Int) : 0 ≤ wMulhsu a b ∧ wMulhsu a b ≤ 18446744073709551615 := emod_bd _
theorem wSrl_bd (a b : Int) (h0 : 0 ≤ a) (h1 : a ≤ 18446744073709551615) : 0 ≤ wSrl a b ∧ wSrl a b ≤ 18446744073709551615 := div_pow_bd a _ h0 h1
theorem wDiv_bd (a b : Int) : 0 ≤ wDiv a b ∧ wDiv a b ≤ 18446744073709551615 := by unfold wDiv; split <;> omega
theorem wRem_bd (a b : Int) (h0 : 0 ≤ a) (h1 : a ≤ 18446744073709551615) : 0 ≤ wRem a b ∧ wRem a b ≤ 18446744073709551615 := by unfold wRem; split <;> omega
theorem wDivu_bd (a b : Int) (h0 : 0 ≤ a) (h1 : a ≤ 18446744073709551615) (h2 : 0 ≤ b) : 0 ≤ wDivu a b ∧ wDivu a b ≤ 18446744073709551615 := by
  unfold wDivu; split
  · omega
  · have := Int.ediv_le_self b h0; have := Int.ediv_nonneg h0 h2; omega
theorem wRemu_bd (a b : Int) (h0 : 0 ≤ a) (h1 : a ≤ 18446744073709551615) (h2 : 0 ≤ b) : 0 ≤ wRemu a b ∧ wRemu a b ≤ 18446744073709551615 := by
  unfold wRemu; split
  · omega
  · rename_i h
    have hb : 0 < b := by omega
    have h3 := Int.emod_nonneg a (Int.ne_of_gt hb)
    have h4 := Int.emod_def a b
    have h5 := Int.mul_nonneg h2 (Int.ediv_nonneg h0 h2)
    omega
end Go.Proofs.YtooagjndelbegaaGreatDoor.A
namespace Go.Proofs.YtooagjndelbegaaGreatDoor.A
open Go.RowKit
set_option maxRecDepth 100000
set_option linter.unusedVariables false

theorem ret_int {k : IntKind} {a b : Int} (h : a = b) : Ending.returned (.int k a) = .returned (.int k b) := by rw [h]
theorem ret_bool {a b : Bool} (h : a = b) : Ending.returned (.bool a) = .returned (.bool b) := by rw [h]

theorem m_half (a : Int) (h0 : 0 ≤ a) (h1 : a ≤ 18446744073709551615) (w : World) :
    Calls Tryz.prog 218 #[.int .u64 a] w fun e w' => e = .returned (.int .u64 (lo a)) ∧ w' = w := by
  go_enter Tryz.func218, Tryz.ntmps218
  go_wp2
  go_ret
  exact ⟨rfl, rfl⟩
theorem m_extended (a : Int) (h0 : 0 ≤ a) (h1 : a ≤ 18446744073709551615) (w : World) :
    Calls Tryz.prog 217 #[.int .u64 a] w fun e w' => e = .returned (.int .u64 (ex a)) ∧ w' = w := by
  go_enter Tryz.func217, Tryz.ntmps217
  go_wp2
  go_ret
  exact ⟨ret_int (by simp only [IntKind.wrap_u64]; rfl), rfl⟩
theorem m_choose (c : Bool) (a b : Int) (w : World) :
    Calls Tryz.prog 359 #[.bool c, .int .u64 a, .int .u64 b] w fun e w' => e = .returned (.int .u64 (sel c a b)) ∧ w' = w := by
  cases c
  all_goals
    go_enter Tryz.func359, Tryz.ntmps359
    go_wp2
    go_ret
    exact ⟨rfl, rfl⟩
theorem m_oneIf (c : Bool) (w : World) :
    Calls Tryz.prog 345 #[.bool c] w fun e w' => e = .returned (.int .u64 (sel c 1 0)) ∧ w' = w := by
  go_enter Tryz.func345, Tryz.ntmps345
  go_wp2_with (go_at_call 359; refine (m_choose _ _ _ _).mono ?_; rintro e w' ⟨rfl, rfl⟩)
  go_ret
  exact ⟨rfl, rfl⟩
theorem m_add (a b : Int) (h0 : 0 ≤ a) (h1 : a ≤ 18446744073709551615) (h2 : 0 ≤ b) (h3 : b ≤ 18446744073709551615) (w : World) :
    Calls Tryz.prog 278 #[.int .u64 a, .int .u64 b] w fun e w' => e = .returned (.int .u64 (wAdd a b)) ∧ w' = w := by
  go_enter Tryz.func278, Tryz.ntmps278
  go_wp2
  go_ret
  exact ⟨ret_int (by simp only [IntKind.wrap_u64]; rfl), rfl⟩
theorem m_sub (a b : Int) (h0 : 0 ≤ a) (h1 : a ≤ 18446744073709551615) (h2 : 0 ≤ b) (h3 : b ≤ 18446744073709551615) (w : World) :
    Calls Tryz.prog 279 #[.int .u64 a, .int .u64 b] w fun e w' => e = .returned (.int .u64 (wSub a b)) ∧ w' = w := by
  go_enter Tryz.func279, Tryz.ntmps279
  go_wp2
  go_ret
  exact ⟨ret_int (by simp only [IntKind.wrap_u64]; rfl), rfl⟩
theorem m_mul (a b : Int) (h0 : 0 ≤ a) (h1 : a ≤ 18446744073709551615) (h2 : 0 ≤ b) (h3 : b ≤ 18446744073709551615) (w : World) :
    Calls Tryz.prog 288 #[.int .u64 a, .int .u64 b] w fun e w' => e = .returned (.int .u64 (wMul a b)) ∧ w' = w := by
  go_enter Tryz.func288, Tryz.ntmps288
  go_wp2
  go_ret
  exact ⟨ret_int (by simp only [IntKind.wrap_u64]; rfl), rfl⟩
theorem m_xor (a b : Int) (h0 : 0 ≤ a) (h1 : a ≤ 18446744073709551615) (h2 : 0 ≤ b) (h3 : b ≤ 18446744073709551615) (w : World) :
    Calls Tryz.prog 283 #[.int .u64 a, .int .u64 b] w fun e w' => e = .returned (.int .u64 (wXor a b)) ∧ w' = w := by
  go_enter Tryz.func283, Tryz.ntmps283
  go_wp2
  go_ret
  exact ⟨rfl, rfl⟩
theorem m_or (a b : Int) (h0 : 0 ≤ a) (h1 : a ≤ 18446744073709551615) (h2 : 0 ≤ b) (h3 : b ≤ 18446744073709551615) (w : World) :
    Calls Tryz.prog 286 #[.int .u64 a, .int .u64 b] w fun e w' => e = .returned (.int .u64 (wOr a b)) ∧ w' = w := by
  go_enter Tryz.func286, Tryz.ntmps286
  go_wp2
  go_ret
  exact ⟨rfl, rfl⟩
theorem m_and (a b : Int) (h0 : 0 ≤ a) (h1 : a ≤ 18446744073709551615) (h2 : 0 ≤ b) (h3 : b ≤ 18446744073709551615) (w : World) :
    Calls Tryz.prog 287 #[.int .u64 a, .int .u64 b] w fun e w' => e = .returned (.int .u64 (wAnd a b)) ∧ w' = w := by
  go_enter Tryz.func287, Tryz.ntmps287
  go_wp2
  go_ret
  exact ⟨rfl, rfl⟩
theorem m_swap (a b : Int) (h0 : 0 ≤ a) (h1 : a ≤ 18446744073709551615) (h2 : 0 ≤ b) (h3 : b ≤ 18446744073709551615) (w : World) :
    Calls Tryz.prog 297 #[.int .u64 a, .int .u64 b] w fun e w' => e = .returned (.int .u64 (b)) ∧ w' = w := by
  go_enter Tryz.func297, Tryz.ntmps297
  go_wp2
  go_ret
  exact ⟨rfl, rfl⟩
theorem m_keep (a b : Int) (h0 : 0 ≤ a) (h1 : a ≤ 18446744073709551615) (h2 : 0 ≤ b) (h3 : b ≤ 18446744073709551615) (w : World) :
    Calls Tryz.prog 302 #[.int .u64 a, .int .u64 b] w fun e w' => e = .returned (.int .u64 (a)) ∧ w' = w := by
  go_enter Tryz.func302, Tryz.ntmps302
  go_wp2
  go_ret
  exact ⟨rfl, rfl⟩
theorem m_zero (a b : Int) (h0 : 0 ≤ a) (h1 : a ≤ 18446744073709551615) (h2 : 0 ≤ b) (h3 : b ≤ 18446744073709551615) (w : World) :
    Calls Tryz.prog 358 #[.int .u64 a, .int .u64 b] w fun e w' => e = .returned (.int .u64 (0)) ∧ w' = w := by
  go_enter Tryz.func358, Tryz.ntmps358
  go_wp2
  go_ret
  exact ⟨rfl, rfl⟩
theorem m_sll (a b : Int) (h0 : 0 ≤ a) (h1 : a ≤ 18446744073709551615) (h2 : 0 ≤ b) (h3 : b ≤ 18446744073709551615) (w : World) :
    Calls Tryz.prog 280 #[.int .u64 a, .int .u64 b] w fun e w' => e = .returned (.int .u64 (wSll a b)) ∧ w' = w := by
  have hb := and63 b h2 h3
  go_enter Tryz.func280, Tryz.ntmps280
  go_wp2
  go_ret
  exact ⟨ret_int (by simp only [IntKind.wrap_u64]; rfl), rfl⟩
theorem m_srl (a b : Int) (h0 : 0 ≤ a) (h1 : a ≤ 18446744073709551615) (h2 : 0 ≤ b) (h3 : b ≤ 18446744073709551615) (w : World) :
    Calls Tryz.prog 284 #[.int .u64 a, .int .u64 b] w fun e w' => e = .returned (.int .u64 (wSrl a b)) ∧ w' = w := by
  have hb := and63 b h2 h3
  go_enter Tryz.func284, Tryz.ntmps284
  go_wp2
  go_ret
  exact ⟨rfl, rfl⟩
theorem m_sra (a b : Int) (h0 : 0 ≤ a) (h1 : a ≤ 18446744073709551615) (h2 : 0 ≤ b) (h3 : b ≤ 18446744073709551615) (w : World) :
    Calls Tryz.prog 285 #[.int .u64 a, .int .u64 b] w fun e w' => e = .returned (.int .u64 (wSra a b)) ∧ w' = w := by
  have hb := and63 b h2 h3
  go_enter Tryz.func285, Tryz.ntmps285
  go_wp2
  go_ret
  exact ⟨ret_int (by simp only [IntKind.wrap_u64, sg_wrap a h0 h1]; rfl), rfl⟩
theorem m_equal (a b : Int) (h0 : 0 ≤ a) (h1 : a ≤ 18446744073709551615) (h2 : 0 ≤ b) (h3 : b ≤ 18446744073709551615) (w : World) :
    Calls Tryz.prog 271 #[.int .u64 a, .int .u64 b] w fun e w' => e = .returned (.bool (decide (a = b))) ∧ w' = w := by
  go_enter Tryz.func271, Tryz.ntmps271
  go_wp2
  go_ret
  exact ⟨ret_bool (by first | rfl | simp | (rw [Bool.eq_iff_iff]; simp)), rfl⟩
theorem m_unlike (a b : Int) (h0 : 0 ≤ a) (h1 : a ≤ 18446744073709551615) (h2 : 0 ≤ b) (h3 : b ≤ 18446744073709551615) (w : World) :
    Calls Tryz.prog 272 #[.int .u64 a, .int .u64 b] w fun e w' => e = .returned (.bool (!decide (a = b))) ∧ w' = w := by
  go_enter Tryz.func272, Tryz.ntmps272
  go_wp2
  go_ret
  exact ⟨ret_bool (by first | rfl | simp | (rw [Bool.eq_iff_iff]; simp)), rfl⟩
theorem m_less (a b : Int) (h0 : 0 ≤ a) (h1 : a ≤ 18446744073709551615) (h2 : 0 ≤ b) (h3 : b ≤ 18446744073709551615) (w : World) :
    Calls Tryz.prog 273 #[.int .u64 a, .int .u64 b] w fun e w' => e = .returned (.bool (decide (sg a < sg b))) ∧ w' = w := by
  go_enter Tryz.func273, Tryz.ntmps273
  go_wp2
  go_ret
  exact ⟨ret_bool (by simp only [sg_wrap a h0 h1, sg_wrap b h2 h3]), rfl⟩
theorem m_below (a b : Int) (h0 : 0 ≤ a) (h1 : a ≤ 18446744073709551615) (h2 : 0 ≤ b) (h3 : b ≤ 18446744073709551615) (w : World) :
    Calls Tryz.prog 275 #[.int .u64 a, .int .u64 b] w fun e w' => e = .returned (.bool (decide (a < b))) ∧ w' = w := by
  go_enter Tryz.func275, Tryz.ntmps275
  go_wp2
  go_ret
  exact ⟨rfl, rfl⟩
theorem m_never (a b : Int) (h0 : 0 ≤ a) (h1 : a ≤ 18446744073709551615) (h2 : 0 ≤ b) (h3 : b ≤ 18446744073709551615) (w : World) :
    Calls Tryz.prog 277 #[.int .u64 a, .int .u64 b] w fun e w' => e = .returned (.bool (false)) ∧ w' = w := by
  go_enter Tryz.func277, Tryz.ntmps277
  go_wp2
  go_ret
  exact ⟨rfl, rfl⟩
theorem m_notLess (a b : Int) (h0 : 0 ≤ a) (h1 : a ≤ 18446744073709551615) (h2 : 0 ≤ b) (h3 : b ≤ 18446744073709551615) (w : World) :
    Calls Tryz.prog 274 #[.int .u64 a, .int .u64 b] w fun e w' => e = .returned (.bool (!decide (sg a < sg b))) ∧ w' = w := by
  go_enter Tryz.func274, Tryz.ntmps274
  go_wp2_with (go_at_call 273; refine (m_less _ _ h0 h1 h2 h3 _).mono ?_; rintro e w' ⟨rfl, rfl⟩)
  go_ret
  exact ⟨rfl, rfl⟩
theorem m_notBelow (a b : Int) (h0 : 0 ≤ a) (h1 : a ≤ 18446744073709551615) (h2 : 0 ≤ b) (h3 : b ≤ 18446744073709551615) (w : World) :
    Calls Tryz.prog 276 #[.int .u64 a, .int .u64 b] w fun e w' => e = .returned (.bool (!decide (a < b))) ∧ w' = w := by
  go_enter Tryz.func276, Tryz.ntmps276
  go_wp2_with (go_at_call 275; refine (m_below _ _ h0 h1 h2 h3 _).mono ?_; rintro e w' ⟨rfl, rfl⟩)
  go_ret
  exact ⟨rfl, rfl⟩
theorem m_slt (a b : Int) (h0 : 0 ≤ a) (h1 : a ≤ 18446744073709551615) (h2 : 0 ≤ b) (h3 : b ≤ 18446744073709551615) (w : World) :
    Calls Tryz.prog 281 #[.int .u64 a, .int .u64 b] w fun e w' => e = .returned (.int .u64 (wSlt a b)) ∧ w' = w := by
  go_enter Tryz.func281, Tryz.ntmps281
  go_wp2_with (first | (go_at_call 273; refine (m_less _ _ h0 h1 h2 h3 _).mono ?_; rintro e w' ⟨rfl, rfl⟩) | (go_at_call 345; refine (m_oneIf _ _).mono ?_; rintro e w' ⟨rfl, rfl⟩))
  go_ret
  exact ⟨rfl, rfl⟩
theorem m_sltu (a b : Int) (h0 : 0 ≤ a) (h1 : a ≤ 18446744073709551615) (h2 : 0 ≤ b) (h3 : b ≤ 18446744073709551615) (w : World) :
    Calls Tryz.prog 282 #[.int .u64 a, .int .u64 b] w fun e w' => e = .returned (.int .u64 (wSltu a b)) ∧ w' = w := by
  go_enter Tryz.func282, Tryz.ntmps282
  go_wp2_with (first | (go_at_call 275; refine (m_below _ _ h0 h1 h2 h3 _).mono ?_; rintro e w' ⟨rfl, rfl⟩) | (go_at_call 345; refine (m_oneIf _ _).mono ?_; rintro e w' ⟨rfl, rfl⟩))
  go_ret
  exact ⟨rfl, rfl⟩
theorem m_min (a b : Int) (h0 : 0 ≤ a) (h1 : a ≤ 18446744073709551615) (h2 : 0 ≤ b) (h3 : b ≤ 18446744073709551615) (w : World) :
    Calls Tryz.prog 298 #[.int .u64 a, .int .u64 b] w fun e w' => e = .returned (.int .u64 (wMin a b)) ∧ w' = w := by
  go_enter Tryz.func298, Tryz.ntmps298
  go_wp2_with (first | (go_at_call 273; refine (m_less _ _ h0 h1 h2 h3 _).mono ?_; rintro e w' ⟨rfl, rfl⟩) | (go_at_call 359; refine (m_choose _ _ _ _).mono ?_; rintro e w' ⟨rfl, rfl⟩))
  go_ret
  exact ⟨rfl, rfl⟩
theorem m_max (a b : Int) (h0 : 0 ≤ a) (h1 : a ≤ 18446744073709551615) (h2 : 0 ≤ b) (h3 : b ≤ 18446744073709551615) (w : World) :
    Calls Tryz.prog 299 #[.int .u64 a, .int .u64 b] w fun e w' => e = .returned (.int .u64 (wMax a b)) ∧ w' = w := by
  go_enter Tryz.func299, Tryz.ntmps299
  go_wp2_with (first | (go_at_call 273; refine (m_less _ _ h0 h1 h2 h3 _).mono ?_; rintro e w' ⟨rfl, rfl⟩) | (go_at_call 359; refine (m_choose _ _ _ _).mono ?_; rintro e w' ⟨rfl, rfl⟩))
  go_ret
  exact ⟨rfl, rfl⟩
theorem m_minu (a b : Int) (h0 : 0 ≤ a) (h1 : a ≤ 18446744073709551615) (h2 : 0 ≤ b) (h3 : b ≤ 18446744073709551615) (w : World) :
    Calls Tryz.prog 300 #[.int .u64 a, .int .u64 b] w fun e w' => e = .returned (.int .u64 (wMinu a b)) ∧ w' = w := by
  go_enter Tryz.func300, Tryz.ntmps300
  go_wp2_with (first | (go_at_call 275; refine (m_below _ _ h0 h1 h2 h3 _).mono ?_; rintro e w' ⟨rfl, rfl⟩) | (go_at_call 359; refine (m_choose _ _ _ _).mono ?_; rintro e w' ⟨rfl, rfl⟩))
  go_ret
  exact ⟨rfl, rfl⟩
theorem m_maxu (a b : Int) (h0 : 0 ≤ a) (h1 : a ≤ 18446744073709551615) (h2 : 0 ≤ b) (h3 : b ≤ 18446744073709551615) (w : World) :
    Calls Tryz.prog 301 #[.int .u64 a, .int .u64 b] w fun e w' => e = .returned (.int .u64 (wMaxu a b)) ∧ w' = w := by
  go_enter Tryz.func301, Tryz.ntmps301
  go_wp2_with (first | (go_at_call 275; refine (m_below _ _ h0 h1 h2 h3 _).mono ?_; rintro e w' ⟨rfl, rfl⟩) | (go_at_call 359; refine (m_choose _ _ _ _).mono ?_; rintro e w' ⟨rfl, rfl⟩))
  go_ret
  exact ⟨rfl, rfl⟩
theorem ret_tup2 {k : IntKind} {a b : Int} {v : Value} (h : a = b) : Ending.returned (.tuple #[.int k a, v]) = .returned (.tuple #[.int k b, v]) := by rw [h]
theorem u64_lt (n : Int) : IntKind.u64.wrap n < 18446744073709551616 := by rw [IntKind.wrap_u64]; omega
theorem m_mul64 (a b : Int) (h0 : 0 ≤ a) (h1 : a ≤ 18446744073709551615) (h2 : 0 ≤ b) (h3 : b ≤ 18446744073709551615) (w : World) :
    Calls Tryz.prog 347 #[.int .u64 a, .int .u64 b] w fun e w' => ∃ y, e = .returned (.tuple #[.int .u64 (wMulhu a b), .int .u64 y]) ∧ w' = w := by
  have ha := and_low32 a h0 (by omega)
  have hb := and_low32 b h2 (by omega)
  go_enter Tryz.func347, Tryz.ntmps347
  go_wp2
  go_ret2
  exact ⟨_, ret_tup2 (by rw [and_low32 _ (wrap_u64_nonneg _) (u64_lt _)]; simp only [IntKind.wrap_u64]; exact mul64_arith a b h0 (by omega) h2 (by omega)), rfl⟩
theorem m_mulhu (a b : Int) (h0 : 0 ≤ a) (h1 : a ≤ 18446744073709551615) (h2 : 0 ≤ b) (h3 : b ≤ 18446744073709551615) (w : World) :
    Calls Tryz.prog 291 #[.int .u64 a, .int .u64 b] w fun e w' => e = .returned (.int .u64 (wMulhu a b)) ∧ w' = w := by
  go_enter Tryz.func291, Tryz.ntmps291
  go_wp2_with (go_at_call 347; refine (m_mul64 _ _ h0 h1 h2 h3 _).mono ?_; rintro e w' ⟨y, rfl, rfl⟩)
  go_ret
  exact ⟨rfl, rfl⟩
theorem m_signMask (a : Int) (h0 : 0 ≤ a) (h1 : a ≤ 18446744073709551615) (w : World) :
    Calls Tryz.prog 346 #[.int .u64 a] w fun e w' => e = .returned (.int .u64 (wSra a 63)) ∧ w' = w := by
  go_enter Tryz.func346, Tryz.ntmps346
  go_wp2_with (go_at_call 285; refine (m_sra _ _ h0 h1 (by decide) (by decide) _).mono ?_; rintro e w' ⟨rfl, rfl⟩)
  go_ret
  exact ⟨rfl, rfl⟩
theorem m_mulhsu (a b : Int) (h0 : 0 ≤ a) (h1 : a ≤ 18446744073709551615) (h2 : 0 ≤ b) (h3 : b ≤ 18446744073709551615) (w : World) :
    Calls Tryz.prog 290 #[.int .u64 a, .int .u64 b] w fun e w' => e = .returned (.int .u64 (wMulhsu a b)) ∧ w' = w := by
  go_enter Tryz.func290, Tryz.ntmps290
  go_wp2_with (first | (go_at_call 291; refine (m_mulhu _ _ h0 h1 h2 h3 _).mono ?_; rintro e w' ⟨rfl, rfl⟩) | (go_at_call 346; refine (m_signMask _ h0 h1 _).mono ?_; rintro e w' ⟨rfl, rfl⟩))
  go_ret
  exact ⟨ret_int (by rw [mask_and a b h0 h1 h2 h3]; simp only [IntKind.wrap_u64]; rfl), rfl⟩
theorem m_mulh (a b : Int) (h0 : 0 ≤ a) (h1 : a ≤ 18446744073709551615) (h2 : 0 ≤ b) (h3 : b ≤ 18446744073709551615) (w : World) :
    Calls Tryz.prog 289 #[.int .u64 a, .int .u64 b] w fun e w' => e = .returned (.int .u64 (wMulh a b)) ∧ w' = w := by
  go_enter Tryz.func289, Tryz.ntmps289
  go_wp2_with (first | (go_at_call 290; refine (m_mulhsu _ _ h0 h1 h2 h3 _).mono ?_; rintro e w' ⟨rfl, rfl⟩) | (go_at_call 346; refine (m_signMask _ h2 h3 _).mono ?_; rintro e w' ⟨rfl, rfl⟩))
  go_ret
  exact ⟨ret_int (by rw [mask_and b a h2 h3 h0 h1]; simp only [IntKind.wrap_u64]; rfl), rfl⟩
theorem m_div (a b : Int) (h0 : 0 ≤ a) (h1 : a ≤ 18446744073709551615) (h2 : 0 ≤ b) (h3 : b ≤ 18446744073709551615) (w : World) :
    Calls Tryz.prog 292 #[.int .u64 a, .int .u64 b] w fun e w' => e = .returned (.int .u64 (wDiv a b)) ∧ w' = w := by
  by_cases hb : b = 0
  · subst hb
    go_enter Tryz.func292, Tryz.ntmps292
    go_wp2
    go_ret
    exact ⟨rfl, rfl⟩
  · have hz : (b == 0) = false := by simpa using hb
    have hs : ¬ wrap64 b = 0 := by rw [sg_wrap b h2 h3]; exact fun h => hb ((sg_zero b h2 h3).1 h)
    go_enter Tryz.func292, Tryz.ntmps292
    go_wp2
    go_ret
    exact ⟨ret_int (by exact i_div a b h0 h1 h2 h3 hz), rfl⟩
theorem m_rem (a b : Int) (h0 : 0 ≤ a) (h1 : a ≤ 18446744073709551615) (h2 : 0 ≤ b) (h3 : b ≤ 18446744073709551615) (w : World) :
    Calls Tryz.prog 294 #[.int .u64 a, .int .u64 b] w fun e w' => e = .returned (.int .u64 (wRem a b)) ∧ w' = w := by
  by_cases hb : b = 0
  · subst hb
    go_enter Tryz.func294, Tryz.ntmps294
    go_wp2
    go_ret
    exact ⟨rfl, rfl⟩
  · have hz : (b == 0) = false := by simpa using hb
    have hs : ¬ wrap64 b = 0 := by rw [sg_wrap b h2 h3]; exact fun h => hb ((sg_zero b h2 h3).1 h)
    go_enter Tryz.func294, Tryz.ntmps294
    go_wp2
    go_ret
    exact ⟨ret_int (by exact i_rem a b h0 h1 h2 h3 hz), rfl⟩
theorem m_divu (a b : Int) (h0 : 0 ≤ a) (h1 : a ≤ 18446744073709551615) (h2 : 0 ≤ b) (h3 : b ≤ 18446744073709551615) (w : World) :
    Calls Tryz.prog 293 #[.int .u64 a, .int .u64 b] w fun e w' => e = .returned (.int .u64 (wDivu a b)) ∧ w' = w := by
  by_cases hb : b = 0
  · subst hb
    go_enter Tryz.func293, Tryz.ntmps293
    go_wp2
    go_ret
    exact ⟨rfl, rfl⟩
  · have hz : (b == 0) = false := by simpa using hb
    have hs : ¬ wrap64 b = 0 := by rw [sg_wrap b h2 h3]; exact fun h => hb ((sg_zero b h2 h3).1 h)
    go_enter Tryz.func293, Tryz.ntmps293
    go_wp2
    go_ret
    exact ⟨ret_int (by exact i_divu a b h0 h1 h2 h3 hz), rfl⟩
theorem m_remu (a b : Int) (h0 : 0 ≤ a) (h1 : a ≤ 18446744073709551615) (h2 : 0 ≤ b) (h3 : b ≤ 18446744073709551615) (w : World) :
    Calls Tryz.prog 295 #[.int .u64 a, .int .u64 b] w fun e w' => e = .returned (.int .u64 (wRemu a b)) ∧ w' = w := by
  by_cases hb : b = 0
  · subst hb
    go_enter Tryz.func295, Tryz.ntmps295
    go_wp2
    go_ret
    exact ⟨rfl, rfl⟩
  · have hz : (b == 0) = false := by simpa using hb
    have hs : ¬ wrap64 b = 0 := by rw [sg_wrap b h2 h3]; exact fun h => hb ((sg_zero b h2 h3).1 h)
    go_enter Tryz.func295, Tryz.ntmps295
    go_wp2
    go_ret
    exact ⟨ret_int (by exact i_remu a b h0 h1 h2 h3 hz), rfl⟩
theorem m_addw (a b : Int) (h0 : 0 ≤ a) (h1 : a ≤ 18446744073709551615) (h2 : 0 ≤ b) (h3 : b ≤ 18446744073709551615) (w : World) :
    Calls Tryz.prog 348 #[.int .u64 a, .int .u64 b] w fun e w' => e = .returned (.int .u64 (wAddw a b)) ∧ w' = w := by
  have k := wAdd_bd a b
  go_enter Tryz.func348, Tryz.ntmps348
  go_wp2_with (first | (go_at_call 278; refine (m_add _ _ h0 h1 h2 h3 _).mono ?_; rintro e w' ⟨rfl, rfl⟩) | (go_at_call 217; refine (m_extended _ k.1 k.2 _).mono ?_; rintro e w' ⟨rfl, rfl⟩))
  go_ret
  exact ⟨rfl, rfl⟩
theorem m_subw (a b : Int) (h0 : 0 ≤ a) (h1 : a ≤ 18446744073709551615) (h2 : 0 ≤ b) (h3 : b ≤ 18446744073709551615) (w : World) :
    Calls Tryz.prog 349 #[.int .u64 a, .int .u64 b] w fun e w' => e = .returned (.int .u64 (wSubw a b)) ∧ w' = w := by
  have k := wSub_bd a b
  go_enter Tryz.func349, Tryz.ntmps349
  go_wp2_with (first | (go_at_call 279; refine (m_sub _ _ h0 h1 h2 h3 _).mono ?_; rintro e w' ⟨rfl, rfl⟩) | (go_at_call 217; refine (m_extended _ k.1 k.2 _).mono ?_; rintro e w' ⟨rfl, rfl⟩))
  go_ret
  exact ⟨rfl, rfl⟩
theorem m_mulw (a b : Int) (h0 : 0 ≤ a) (h1 : a ≤ 18446744073709551615) (h2 : 0 ≤ b) (h3 : b ≤ 18446744073709551615) (w : World) :
    Calls Tryz.prog 353 #[.int .u64 a, .int .u64 b] w fun e w' => e = .returned (.int .u64 (wMulw a b)) ∧ w' = w := by
  have k := wMul_bd a b
  go_enter Tryz.func353, Tryz.ntmps353
  go_wp2_with (first | (go_at_call 288; refine (m_mul _ _ h0 h1 h2 h3 _).mono ?_; rintro e w' ⟨rfl, rfl⟩) | (go_at_call 217; refine (m_extended _ k.1 k.2 _).mono ?_; rintro e w' ⟨rfl, rfl⟩))
  go_ret
  exact ⟨rfl, rfl⟩
theorem m_sllw (a b : Int) (h0 : 0 ≤ a) (h1 : a ≤ 18446744073709551615) (h2 : 0 ≤ b) (h3 : b ≤ 18446744073709551615) (w : World) :
    Calls Tryz.prog 350 #[.int .u64 a, .int .u64 b] w fun e w' => e = .returned (.int .u64 (wSllw a b)) ∧ w' = w := by
  have hb := and31 b h2 h3
  have k := wSll_bd a (b % 32)
  go_enter Tryz.func350, Tryz.ntmps350
  go_wp2_with (first | (go_at_call 280; refine (m_sll _ _ h0 h1 (by omega) (by omega) _).mono ?_; rintro e w' ⟨rfl, rfl⟩) | (go_at_call 217; refine (m_extended _ k.1 k.2 _).mono ?_; rintro e w' ⟨rfl, rfl⟩))
  go_ret
  exact ⟨rfl, rfl⟩
theorem m_srlw (a b : Int) (h0 : 0 ≤ a) (h1 : a ≤ 18446744073709551615) (h2 : 0 ≤ b) (h3 : b ≤ 18446744073709551615) (w : World) :
    Calls Tryz.prog 351 #[.int .u64 a, .int .u64 b] w fun e w' => e = .returned (.int .u64 (wSrlw a b)) ∧ w' = w := by
  have hb := and31 b h2 h3
  have l := lo_bd a
  have k := wSrl_bd (lo a) (b % 32) l.1 (by omega)
  go_enter Tryz.func351, Tryz.ntmps351
  go_wp2_with (first | (go_at_call 218; refine (m_half _ h0 h1 _).mono ?_; rintro e w' ⟨rfl, rfl⟩) | (go_at_call 284; refine (m_srl _ _ l.1 (by omega) (by omega) (by omega) _).mono ?_; rintro e w' ⟨rfl, rfl⟩) | (go_at_call 217; refine (m_extended _ k.1 k.2 _).mono ?_; rintro e w' ⟨rfl, rfl⟩))
  go_ret
  exact ⟨rfl, rfl⟩
theorem m_sraw (a b : Int) (h0 : 0 ≤ a) (h1 : a ≤ 18446744073709551615) (h2 : 0 ≤ b) (h3 : b ≤ 18446744073709551615) (w : World) :
    Calls Tryz.prog 352 #[.int .u64 a, .int .u64 b] w fun e w' => e = .returned (.int .u64 (wSraw a b)) ∧ w' = w := by
  have hb := and31 b h2 h3
  have l := ex_bd a
  go_enter Tryz.func352, Tryz.ntmps352
  go_wp2_with (first | (go_at_call 217; refine (m_extended _ h0 h1 _).mono ?_; rintro e w' ⟨rfl, rfl⟩) | (go_at_call 285; refine (m_sra _ _ l.1 l.2 (by omega) (by omega) _).mono ?_; rintro e w' ⟨rfl, rfl⟩))
  go_ret
  exact ⟨rfl, rfl⟩
theorem m_divw (a b : Int) (h0 : 0 ≤ a) (h1 : a ≤ 18446744073709551615) (h2 : 0 ≤ b) (h3 : b ≤ 18446744073709551615) (w : World) :
    Calls Tryz.prog 354 #[.int .u64 a, .int .u64 b] w fun e w' => e = .returned (.int .u64 (wDivw a b)) ∧ w' = w := by
  have l := ex_bd a
  have r := ex_bd b
  have k := wDiv_bd (ex a) (ex b)
  go_enter Tryz.func354, Tryz.ntmps354
  go_wp2_with (first | (go_at_call 217; refine (m_extended a h0 h1 _).mono ?_; rintro e w' ⟨rfl, rfl⟩) | (go_at_call 217; refine (m_extended b h2 h3 _).mono ?_; rintro e w' ⟨rfl, rfl⟩) | (go_at_call 292; refine (m_div _ _ l.1 l.2 r.1 r.2 _).mono ?_; rintro e w' ⟨rfl, rfl⟩) | (go_at_call 217; refine (m_extended _ k.1 k.2 _).mono ?_; rintro e w' ⟨rfl, rfl⟩))
  go_ret
  exact ⟨rfl, rfl⟩
theorem m_remw (a b : Int) (h0 : 0 ≤ a) (h1 : a ≤ 18446744073709551615) (h2 : 0 ≤ b) (h3 : b ≤ 18446744073709551615) (w : World) :
    Calls Tryz.prog 356 #[.int .u64 a, .int .u64 b] w fun e w' => e = .returned (.int .u64 (wRemw a b)) ∧ w' = w := by
  have l := ex_bd a
  have r := ex_bd b
  go_enter Tryz.func356, Tryz.ntmps356
  go_wp2_with (first | (go_at_call 217; refine (m_extended a h0 h1 _).mono ?_; rintro e w' ⟨rfl, rfl⟩) | (go_at_call 217; refine (m_extended b h2 h3 _).mono ?_; rintro e w' ⟨rfl, rfl⟩) | (go_at_call 294; refine (m_rem _ _ l.1 l.2 r.1 r.2 _).mono ?_; rintro e w' ⟨rfl, rfl⟩))
  go_ret
  exact ⟨rfl, rfl⟩
theorem m_divuw (a b : Int) (h0 : 0 ≤ a) (h1 : a ≤ 18446744073709551615) (h2 : 0 ≤ b) (h3 : b ≤ 18446744073709551615) (w : World) :
    Calls Tryz.prog 355 #[.int .u64 a, .int .u64 b] w fun e w' => e = .returned (.int .u64 (wDivuw a b)) ∧ w' = w := by
  have l := lo_bd a
  have r := lo_bd b
  have k := wDivu_bd (lo a) (lo b) l.1 (by omega) r.1
  go_enter Tryz.func355, Tryz.ntmps355
  go_wp2_with (first | (go_at_call 218; refine (m_half a h0 h1 _).mono ?_; rintro e w' ⟨rfl, rfl⟩) | (go_at_call 218; refine (m_half b h2 h3 _).mono ?_; rintro e w' ⟨rfl, rfl⟩) | (go_at_call 293; refine (m_divu _ _ l.1 (by omega) r.1 (by omega) _).mono ?_; rintro e w' ⟨rfl, rfl⟩) | (go_at_call 217; refine (m_extended _ k.1 k.2 _).mono ?_; rintro e w' ⟨rfl, rfl⟩))
  go_ret
  exact ⟨rfl, rfl⟩
theorem m_remuw (a b : Int) (h0 : 0 ≤ a) (h1 : a ≤ 18446744073709551615) (h2 : 0 ≤ b) (h3 : b ≤ 18446744073709551615) (w : World) :
    Calls Tryz.prog 357 #[.int .u64 a, .int .u64 b] w fun e w' => e = .returned (.int .u64 (wRemuw a b)) ∧ w' = w := by
  have l := lo_bd a
  have r := lo_bd b
  have k := wRemu_bd (lo a) (lo b) l.1 (by omega) r.1
  go_enter Tryz.func357, Tryz.ntmps357
  go_wp2_with (first | (go_at_call 218; refine (m_half a h0 h1 _).mono ?_; rintro e w' ⟨rfl, rfl⟩) | (go_at_call 218; refine (m_half b h2 h3 _).mono ?_; rintro e w' ⟨rfl, rfl⟩) | (go_at_call 295; refine (m_remu _ _ l.1 (by omega) r.1 (by omega) _).mono ?_; rintro e w' ⟨rfl, rfl⟩) | (go_at_call 217; refine (m_extended _ k.1 k.2 _).mono ?_; rintro e w' ⟨rfl, rfl⟩))
  go_ret
  exact ⟨rfl, rfl⟩
end Go.Proofs.YtooagjndelbegaaGreatDoor.A
namespace Go.Proofs.YtooagjndelbegaaGreatDoor.A
open Go.RowKit
set_option maxRecDepth 100000
set_option linter.unusedVariables false

theorem op_1 (w : World) :
    Calls Tryz.prog 214 #[.int .i64 1] w fun e w' => e = .returned (.func (.func 278) #[] #[]) ∧ w' = w := by
  go_enter Tryz.func214, Tryz.ntmps214
  go_wp2
  go_ret
  exact ⟨rfl, rfl⟩
theorem alu_1 (a b : Int) (h0 : 0 ≤ a) (h1 : a ≤ 18446744073709551615) (h2 : 0 ≤ b) (h3 : b ≤ 18446744073709551615) (w : World) :
    Calls Tryz.prog 186 #[.int .i64 1, .int .u64 a, .int .u64 b] w fun e w' => e = .returned (.int .u64 (wAdd a b)) ∧ w' = w := by
  go_enter Tryz.func186, Tryz.ntmps186
  go_wp2_with (first | (go_at_call 214; refine (op_1 _).mono ?_; rintro e w' ⟨rfl, rfl⟩) | (go_at_call 278; refine (m_add _ _ h0 h1 h2 h3 _).mono ?_; rintro e w' ⟨rfl, rfl⟩))
  go_ret
  exact ⟨rfl, rfl⟩
theorem op_2 (w : World) :
    Calls Tryz.prog 214 #[.int .i64 2] w fun e w' => e = .returned (.func (.func 279) #[] #[]) ∧ w' = w := by
  go_enter Tryz.func214, Tryz.ntmps214
  go_wp2
  go_ret
  exact ⟨rfl, rfl⟩
theorem alu_2 (a b : Int) (h0 : 0 ≤ a) (h1 : a ≤ 18446744073709551615) (h2 : 0 ≤ b) (h3 : b ≤ 18446744073709551615) (w : World) :
    Calls Tryz.prog 186 #[.int .i64 2, .int .u64 a, .int .u64 b] w fun e w' => e = .returned (.int .u64 (wSub a b)) ∧ w' = w := by
  go_enter Tryz.func186, Tryz.ntmps186
  go_wp2_with (first | (go_at_call 214; refine (op_2 _).mono ?_; rintro e w' ⟨rfl, rfl⟩) | (go_at_call 279; refine (m_sub _ _ h0 h1 h2 h3 _).mono ?_; rintro e w' ⟨rfl, rfl⟩))
  go_ret
  exact ⟨rfl, rfl⟩
theorem op_3 (w : World) :
    Calls Tryz.prog 214 #[.int .i64 3] w fun e w' => e = .returned (.func (.func 280) #[] #[]) ∧ w' = w := by
  go_enter Tryz.func214, Tryz.ntmps214
  go_wp2
  go_ret
  exact ⟨rfl, rfl⟩
theorem alu_3 (a b : Int) (h0 : 0 ≤ a) (h1 : a ≤ 18446744073709551615) (h2 : 0 ≤ b) (h3 : b ≤ 18446744073709551615) (w : World) :
    Calls Tryz.prog 186 #[.int .i64 3, .int .u64 a, .int .u64 b] w fun e w' => e = .returned (.int .u64 (wSll a b)) ∧ w' = w := by
  go_enter Tryz.func186, Tryz.ntmps186
  go_wp2_with (first | (go_at_call 214; refine (op_3 _).mono ?_; rintro e w' ⟨rfl, rfl⟩) | (go_at_call 280; refine (m_sll _ _ h0 h1 h2 h3 _).mono ?_; rintro e w' ⟨rfl, rfl⟩))
  go_ret
  exact ⟨rfl, rfl⟩
theorem op_4 (w : World) :
    Calls Tryz.prog 214 #[.int .i64 4] w fun e w' => e = .returned (.func (.func 281) #[] #[]) ∧ w' = w := by
  go_enter Tryz.func214, Tryz.ntmps214
  go_wp2
  go_ret
  exact ⟨rfl, rfl⟩
theorem alu_4 (a b : Int) (h0 : 0 ≤ a) (h1 : a ≤ 18446744073709551615) (h2 : 0 ≤ b) (h3 : b ≤ 18446744073709551615) (w : World) :
    Calls Tryz.prog 186 #[.int .i64 4, .int .u64 a, .int .u64 b] w fun e w' => e = .returned (.int .u64 (wSlt a b)) ∧ w' = w := by
  go_enter Tryz.func186, Tryz.ntmps186
  go_wp2_with (first | (go_at_call 214; refine (op_4 _).mono ?_; rintro e w' ⟨rfl, rfl⟩) | (go_at_call 281; refine (m_slt _ _ h0 h1 h2 h3 _).mono ?_; rintro e w' ⟨rfl, rfl⟩))
  go_ret
  exact ⟨rfl, rfl⟩
theorem op_5 (w : World) :
    Calls Tryz.prog 214 #[.int .i64 5] w fun e w' => e = .returned (.func (.func 282) #[] #[]) ∧ w' = w := by
  go_enter Tryz.func214, Tryz.ntmps214
  go_wp2
  go_ret
  exact ⟨rfl, rfl⟩
theorem alu_5 (a b : Int) (h0 : 0 ≤ a) (h1 : a ≤ 18446744073709551615) (h2 : 0 ≤ b) (h3 : b ≤ 18446744073709551615) (w : World) :
    Calls Tryz.prog 186 #[.int .i64 5, .int .u64 a, .int .u64 b] w fun e w' => e = .returned (.int .u64 (wSltu a b)) ∧ w' = w := by
  go_enter Tryz.func186, Tryz.ntmps186
  go_wp2_with (first | (go_at_call 214; refine (op_5 _).mono ?_; rintro e w' ⟨rfl, rfl⟩) | (go_at_call 282; refine (m_sltu _ _ h0 h1 h2 h3 _).mono ?_; rintro e w' ⟨rfl, rfl⟩))
  go_ret
  exact ⟨rfl, rfl⟩
theorem op_6 (w : World) :
    Calls Tryz.prog 214 #[.int .i64 6] w fun e w' => e = .returned (.func (.func 283) #[] #[]) ∧ w' = w := by
  go_enter Tryz.func214, Tryz.ntmps214
  go_wp2
  go_ret
  exact ⟨rfl, rfl⟩
theorem alu_6 (a b : Int) (h0 : 0 ≤ a) (h1 : a ≤ 18446744073709551615) (h2 : 0 ≤ b) (h3 : b ≤ 18446744073709551615) (w : World) :
    Calls Tryz.prog 186 #[.int .i64 6, .int .u64 a, .int .u64 b] w fun e w' => e = .returned (.int .u64 (wXor a b)) ∧ w' = w := by
  go_enter Tryz.func186, Tryz.ntmps186
  go_wp2_with (first | (go_at_call 214; refine (op_6 _).mono ?_; rintro e w' ⟨rfl, rfl⟩) | (go_at_call 283; refine (m_xor _ _ h0 h1 h2 h3 _).mono ?_; rintro e w' ⟨rfl, rfl⟩))
  go_ret
  exact ⟨rfl, rfl⟩
theorem op_7 (w : World) :
    Calls Tryz.prog 214 #[.int .i64 7] w fun e w' => e = .returned (.func (.func 284) #[] #[]) ∧ w' = w := by
  go_enter Tryz.func214, Tryz.ntmps214
  go_wp2
  go_ret
  exact ⟨rfl, rfl⟩
theorem alu_7 (a b : Int) (h0 : 0 ≤ a) (h1 : a ≤ 18446744073709551615) (h2 : 0 ≤ b) (h3 : b ≤ 18446744073709551615) (w : World) :
    Calls Tryz.prog 186 #[.int .i64 7, .int .u64 a, .int .u64 b] w fun e w' => e = .returned (.int .u64 (wSrl a b)) ∧ w' = w := by
  go_enter Tryz.func186, Tryz.ntmps186
  go_wp2_with (first | (go_at_call 214; refine (op_7 _).mono ?_; rintro e w' ⟨rfl, rfl⟩) | (go_at_call 284; refine (m_srl _ _ h0 h1 h2 h3 _).mono ?_; rintro e w' ⟨rfl, rfl⟩))
  go_ret
  exact ⟨rfl, rfl⟩
theorem op_8 (w : World) :
    Calls Tryz.prog 214 #[.int .i64 8] w fun e w' => e = .returned (.func (.func 285) #[] #[]) ∧ w' = w := by
  go_enter Tryz.func214, Tryz.ntmps214
  go_wp2
  go_ret
  exact ⟨rfl, rfl⟩
theorem alu_8 (a b : Int) (h0 : 0 ≤ a) (h1 : a ≤ 18446744073709551615) (h2 : 0 ≤ b) (h3 : b ≤ 18446744073709551615) (w : World) :
    Calls Tryz.prog 186 #[.int .i64 8, .int .u64 a, .int .u64 b] w fun e w' => e = .returned (.int .u64 (wSra a b)) ∧ w' = w := by
  go_enter Tryz.func186, Tryz.ntmps186
  go_wp2_with (first | (go_at_call 214; refine (op_8 _).mono ?_; rintro e w' ⟨rfl, rfl⟩) | (go_at_call 285; refine (m_sra _ _ h0 h1 h2 h3 _).mono ?_; rintro e w' ⟨rfl, rfl⟩))
  go_ret
  exact ⟨rfl, rfl⟩
theorem op_9 (w : World) :
    Calls Tryz.prog 214 #[.int .i64 9] w fun e w' => e = .returned (.func (.func 286) #[] #[]) ∧ w' = w := by
  go_enter Tryz.func214, Tryz.ntmps214
  go_wp2
  go_ret
  exact ⟨rfl, rfl⟩
theorem alu_9 (a b : Int) (h0 : 0 ≤ a) (h1 : a ≤ 18446744073709551615) (h2 : 0 ≤ b) (h3 : b ≤ 18446744073709551615) (w : World) :
    Calls Tryz.prog 186 #[.int .i64 9, .int .u64 a, .int .u64 b] w fun e w' => e = .returned (.int .u64 (wOr a b)) ∧ w' = w := by
  go_enter Tryz.func186, Tryz.ntmps186
  go_wp2_with (first | (go_at_call 214; refine (op_9 _).mono ?_; rintro e w' ⟨rfl, rfl⟩) | (go_at_call 286; refine (m_or _ _ h0 h1 h2 h3 _).mono ?_; rintro e w' ⟨rfl, rfl⟩))
  go_ret
  exact ⟨rfl, rfl⟩
theorem op_10 (w : World) :
    Calls Tryz.prog 214 #[.int .i64 10] w fun e w' => e = .returned (.func (.func 287) #[] #[]) ∧ w' = w := by
  go_enter Tryz.func214, Tryz.ntmps214
  go_wp2
  go_ret
  exact ⟨rfl, rfl⟩
theorem alu_10 (a b : Int) (h0 : 0 ≤ a) (h1 : a ≤ 18446744073709551615) (h2 : 0 ≤ b) (h3 : b ≤ 18446744073709551615) (w : World) :
    Calls Tryz.prog 186 #[.int .i64 10, .int .u64 a, .int .u64 b] w fun e w' => e = .returned (.int .u64 (wAnd a b)) ∧ w' = w := by
  go_enter Tryz.func186, Tryz.ntmps186
  go_wp2_with (first | (go_at_call 214; refine (op_10 _).mono ?_; rintro e w' ⟨rfl, rfl⟩) | (go_at_call 287; refine (m_and _ _ h0 h1 h2 h3 _).mono ?_; rintro e w' ⟨rfl, rfl⟩))
  go_ret
  exact ⟨rfl, rfl⟩
theorem op_11 (w : World) :
    Calls Tryz.prog 214 #[.int .i64 11] w fun e w' => e = .returned (.func (.func 288) #[] #[]) ∧ w' = w := by
  go_enter Tryz.func214, Tryz.ntmps214
  go_wp2
  go_ret
  exact ⟨rfl, rfl⟩
theorem alu_11 (a b : Int) (h0 : 0 ≤ a) (h1 : a ≤ 18446744073709551615) (h2 : 0 ≤ b) (h3 : b ≤ 18446744073709551615) (w : World) :
    Calls Tryz.prog 186 #[.int .i64 11, .int .u64 a, .int .u64 b] w fun e w' => e = .returned (.int .u64 (wMul a b)) ∧ w' = w := by
  go_enter Tryz.func186, Tryz.ntmps186
  go_wp2_with (first | (go_at_call 214; refine (op_11 _).mono ?_; rintro e w' ⟨rfl, rfl⟩) | (go_at_call 288; refine (m_mul _ _ h0 h1 h2 h3 _).mono ?_; rintro e w' ⟨rfl, rfl⟩))
  go_ret
  exact ⟨rfl, rfl⟩
theorem op_12 (w : World) :
    Calls Tryz.prog 214 #[.int .i64 12] w fun e w' => e = .returned (.func (.func 289) #[] #[]) ∧ w' = w := by
  go_enter Tryz.func214, Tryz.ntmps214
  go_wp2
  go_ret
  exact ⟨rfl, rfl⟩
theorem alu_12 (a b : Int) (h0 : 0 ≤ a) (h1 : a ≤ 18446744073709551615) (h2 : 0 ≤ b) (h3 : b ≤ 18446744073709551615) (w : World) :
    Calls Tryz.prog 186 #[.int .i64 12, .int .u64 a, .int .u64 b] w fun e w' => e = .returned (.int .u64 (wMulh a b)) ∧ w' = w := by
  go_enter Tryz.func186, Tryz.ntmps186
  go_wp2_with (first | (go_at_call 214; refine (op_12 _).mono ?_; rintro e w' ⟨rfl, rfl⟩) | (go_at_call 289; refine (m_mulh _ _ h0 h1 h2 h3 _).mono ?_; rintro e w' ⟨rfl, rfl⟩))
  go_ret
  exact ⟨rfl, rfl⟩
theorem op_13 (w : World) :
    Calls Tryz.prog 214 #[.int .i64 13] w fun e w' => e = .returned (.func (.func 290) #[] #[]) ∧ w' = w := by
  go_enter Tryz.func214, Tryz.ntmps214
  go_wp2
  go_ret
  exact ⟨rfl, rfl⟩
theorem alu_13 (a b : Int) (h0 : 0 ≤ a) (h1 : a ≤ 18446744073709551615) (h2 : 0 ≤ b) (h3 : b ≤ 18446744073709551615) (w : World) :
    Calls Tryz.prog 186 #[.int .i64 13, .int .u64 a, .int .u64 b] w fun e w' => e = .returned (.int .u64 (wMulhsu a b)) ∧ w' = w := by
  go_enter Tryz.func186, Tryz.ntmps186
  go_wp2_with (first | (go_at_call 214; refine (op_13 _).mono ?_; rintro e w' ⟨rfl, rfl⟩) | (go_at_call 290; refine (m_mulhsu _ _ h0 h1 h2 h3 _).mono ?_; rintro e w' ⟨rfl, rfl⟩))
  go_ret
  exact ⟨rfl, rfl⟩
theorem op_14 (w : World) :
    Calls Tryz.prog 214 #[.int .i64 14] w fun e w' => e = .returned (.func (.func 291) #[] #[]) ∧ w' = w := by
  go_enter Tryz.func214, Tryz.ntmps214
  go_wp2
  go_ret
  exact ⟨rfl, rfl⟩
theorem alu_14 (a b : Int) (h0 : 0 ≤ a) (h1 : a ≤ 18446744073709551615) (h2 : 0 ≤ b) (h3 : b ≤ 18446744073709551615) (w : World) :
    Calls Tryz.prog 186 #[.int .i64 14, .int .u64 a, .int .u64 b] w fun e w' => e = .returned (.int .u64 (wMulhu a b)) ∧ w' = w := by
  go_enter Tryz.func186, Tryz.ntmps186
  go_wp2_with (first | (go_at_call 214; refine (op_14 _).mono ?_; rintro e w' ⟨rfl, rfl⟩) | (go_at_call 291; refine (m_mulhu _ _ h0 h1 h2 h3 _).mono ?_; rintro e w' ⟨rfl, rfl⟩))
  go_ret
  exact ⟨rfl, rfl⟩
theorem op_15 (w : World) :
    Calls Tryz.prog 214 #[.int .i64 15] w fun e w' => e = .returned (.func (.func 292) #[] #[]) ∧ w' = w := by
  go_enter Tryz.func214, Tryz.ntmps214
  go_wp2
  go_ret
  exact ⟨rfl, rfl⟩
theorem alu_15 (a b : Int) (h0 : 0 ≤ a) (h1 : a ≤ 18446744073709551615) (h2 : 0 ≤ b) (h3 : b ≤ 18446744073709551615) (w : World) :
    Calls Tryz.prog 186 #[.int .i64 15, .int .u64 a, .int .u64 b] w fun e w' => e = .returned (.int .u64 (wDiv a b)) ∧ w' = w := by
  go_enter Tryz.func186, Tryz.ntmps186
  go_wp2_with (first | (go_at_call 214; refine (op_15 _).mono ?_; rintro e w' ⟨rfl, rfl⟩) | (go_at_call 292; refine (m_div _ _ h0 h1 h2 h3 _).mono ?_; rintro e w' ⟨rfl, rfl⟩))
  go_ret
  exact ⟨rfl, rfl⟩
theorem op_16 (w : World) :
    Calls Tryz.prog 214 #[.int .i64 16] w fun e w' => e = .returned (.func (.func 293) #[] #[]) ∧ w' = w := by
  go_enter Tryz.func214, Tryz.ntmps214
  go_wp2
  go_ret
  exact ⟨rfl, rfl⟩
theorem alu_16 (a b : Int) (h0 : 0 ≤ a) (h1 : a ≤ 18446744073709551615) (h2 : 0 ≤ b) (h3 : b ≤ 18446744073709551615) (w : World) :
    Calls Tryz.prog 186 #[.int .i64 16, .int .u64 a, .int .u64 b] w fun e w' => e = .returned (.int .u64 (wDivu a b)) ∧ w' = w := by
  go_enter Tryz.func186, Tryz.ntmps186
  go_wp2_with (first | (go_at_call 214; refine (op_16 _).mono ?_; rintro e w' ⟨rfl, rfl⟩) | (go_at_call 293; refine (m_divu _ _ h0 h1 h2 h3 _).mono ?_; rintro e w' ⟨rfl, rfl⟩))
  go_ret
  exact ⟨rfl, rfl⟩
theorem op_17 (w : World) :
    Calls Tryz.prog 214 #[.int .i64 17] w fun e w' => e = .returned (.func (.func 294) #[] #[]) ∧ w' = w := by
  go_enter Tryz.func214, Tryz.ntmps214
  go_wp2
  go_ret
  exact ⟨rfl, rfl⟩
theorem alu_17 (a b : Int) (h0 : 0 ≤ a) (h1 : a ≤ 18446744073709551615) (h2 : 0 ≤ b) (h3 : b ≤ 18446744073709551615) (w : World) :
    Calls Tryz.prog 186 #[.int .i64 17, .int .u64 a, .int .u64 b] w fun e w' => e = .returned (.int .u64 (wRem a b)) ∧ w' = w := by
  go_enter Tryz.func186, Tryz.ntmps186
  go_wp2_with (first | (go_at_call 214; refine (op_17 _).mono ?_; rintro e w' ⟨rfl, rfl⟩) | (go_at_call 294; refine (m_rem _ _ h0 h1 h2 h3 _).mono ?_; rintro e w' ⟨rfl, rfl⟩))
  go_ret
  exact ⟨rfl, rfl⟩
theorem op_18 (w : World) :
    Calls Tryz.prog 214 #[.int .i64 18] w fun e w' => e = .returned (.func (.func 295) #[] #[]) ∧ w' = w := by
  go_enter Tryz.func214, Tryz.ntmps214
  go_wp2
  go_ret
  exact ⟨rfl, rfl⟩
theorem alu_18 (a b : Int) (h0 : 0 ≤ a) (h1 : a ≤ 18446744073709551615) (h2 : 0 ≤ b) (h3 : b ≤ 18446744073709551615) (w : World) :
    Calls Tryz.prog 186 #[.int .i64 18, .int .u64 a, .int .u64 b] w fun e w' => e = .returned (.int .u64 (wRemu a b)) ∧ w' = w := by
  go_enter Tryz.func186, Tryz.ntmps186
  go_wp2_with (first | (go_at_call 214; refine (op_18 _).mono ?_; rintro e w' ⟨rfl, rfl⟩) | (go_at_call 295; refine (m_remu _ _ h0 h1 h2 h3 _).mono ?_; rintro e w' ⟨rfl, rfl⟩))
  go_ret
  exact ⟨rfl, rfl⟩
theorem op_19 (w : World) :
    Calls Tryz.prog 214 #[.int .i64 19] w fun e w' => e = .returned (.func (.func 348) #[] #[]) ∧ w' = w := by
  go_enter Tryz.func214, Tryz.ntmps214
  go_wp2
  go_ret
  exact ⟨rfl, rfl⟩
theorem alu_19 (a b : Int) (h0 : 0 ≤ a) (h1 : a ≤ 18446744073709551615) (h2 : 0 ≤ b) (h3 : b ≤ 18446744073709551615) (w : World) :
    Calls Tryz.prog 186 #[.int .i64 19, .int .u64 a, .int .u64 b] w fun e w' => e = .returned (.int .u64 (wAddw a b)) ∧ w' = w := by
  go_enter Tryz.func186, Tryz.ntmps186
  go_wp2_with (first | (go_at_call 214; refine (op_19 _).mono ?_; rintro e w' ⟨rfl, rfl⟩) | (go_at_call 348; refine (m_addw _ _ h0 h1 h2 h3 _).mono ?_; rintro e w' ⟨rfl, rfl⟩))
  go_ret
  exact ⟨rfl, rfl⟩
theorem op_20 (w : World) :
    Calls Tryz.prog 214 #[.int .i64 20] w fun e w' => e = .returned (.func (.func 349) #[] #[]) ∧ w' = w := by
  go_enter Tryz.func214, Tryz.ntmps214
  go_wp2
  go_ret
  exact ⟨rfl, rfl⟩
theorem alu_20 (a b : Int) (h0 : 0 ≤ a) (h1 : a ≤ 18446744073709551615) (h2 : 0 ≤ b) (h3 : b ≤ 18446744073709551615) (w : World) :
    Calls Tryz.prog 186 #[.int .i64 20, .int .u64 a, .int .u64 b] w fun e w' => e = .returned (.int .u64 (wSubw a b)) ∧ w' = w := by
  go_enter Tryz.func186, Tryz.ntmps186
  go_wp2_with (first | (go_at_call 214; refine (op_20 _).mono ?_; rintro e w' ⟨rfl, rfl⟩) | (go_at_call 349; refine (m_subw _ _ h0 h1 h2 h3 _).mono ?_; rintro e w' ⟨rfl, rfl⟩))
  go_ret
  exact ⟨rfl, rfl⟩
theorem op_21 (w : World) :
    Calls Tryz.prog 214 #[.int .i64 21] w fun e w' => e = .returned (.func (.func 350) #[] #[]) ∧ w' = w := by
  go_enter Tryz.func214, Tryz.ntmps214
  go_wp2
  go_ret
  exact ⟨rfl, rfl⟩
theorem alu_21 (a b : Int) (h0 : 0 ≤ a) (h1 : a ≤ 18446744073709551615) (h2 : 0 ≤ b) (h3 : b ≤ 18446744073709551615) (w : World) :
    Calls Tryz.prog 186 #[.int .i64 21, .int .u64 a, .int .u64 b] w fun e w' => e = .returned (.int .u64 (wSllw a b)) ∧ w' = w := by
  go_enter Tryz.func186, Tryz.ntmps186
  go_wp2_with (first | (go_at_call 214; refine (op_21 _).mono ?_; rintro e w' ⟨rfl, rfl⟩) | (go_at_call 350; refine (m_sllw _ _ h0 h1 h2 h3 _).mono ?_; rintro e w' ⟨rfl, rfl⟩))
  go_ret
  exact ⟨rfl, rfl⟩
theorem op_22 (w : World) :
    Calls Tryz.prog 214 #[.int .i64 22] w fun e w' => e = .returned (.func (.func 351) #[] #[]) ∧ w' = w := by
  go_enter Tryz.func214, Tryz.ntmps214
  go_wp2
  go_ret
  exact ⟨rfl, rfl⟩
theorem alu_22 (a b : Int) (h0 : 0 ≤ a) (h1 : a ≤ 18446744073709551615) (h2 : 0 ≤ b) (h3 : b ≤ 18446744073709551615) (w : World) :
    Calls Tryz.prog 186 #[.int .i64 22, .int .u64 a, .int .u64 b] w fun e w' => e = .returned (.int .u64 (wSrlw a b)) ∧ w' = w := by
  go_enter Tryz.func186, Tryz.ntmps186
  go_wp2_with (first | (go_at_call 214; refine (op_22 _).mono ?_; rintro e w' ⟨rfl, rfl⟩) | (go_at_call 351; refine (m_srlw _ _ h0 h1 h2 h3 _).mono ?_; rintro e w' ⟨rfl, rfl⟩))
  go_ret
  exact ⟨rfl, rfl⟩
theorem op_23 (w : World) :
    Calls Tryz.prog 214 #[.int .i64 23] w fun e w' => e = .returned (.func (.func 352) #[] #[]) ∧ w' = w := by
  go_enter Tryz.func214, Tryz.ntmps214
  go_wp2
  go_ret
  exact ⟨rfl, rfl⟩
theorem alu_23 (a b : Int) (h0 : 0 ≤ a) (h1 : a ≤ 18446744073709551615) (h2 : 0 ≤ b) (h3 : b ≤ 18446744073709551615) (w : World) :
    Calls Tryz.prog 186 #[.int .i64 23, .int .u64 a, .int .u64 b] w fun e w' => e = .returned (.int .u64 (wSraw a b)) ∧ w' = w := by
  go_enter Tryz.func186, Tryz.ntmps186
  go_wp2_with (first | (go_at_call 214; refine (op_23 _).mono ?_; rintro e w' ⟨rfl, rfl⟩) | (go_at_call 352; refine (m_sraw _ _ h0 h1 h2 h3 _).mono ?_; rintro e w' ⟨rfl, rfl⟩))
  go_ret
  exact ⟨rfl, rfl⟩
theorem op_24 (w : World) :
    Calls Tryz.prog 214 #[.int .i64 24] w fun e w' => e = .returned (.func (.func 353) #[] #[]) ∧ w' = w := by
  go_enter Tryz.func214, Tryz.ntmps214
  go_wp2
  go_ret
  exact ⟨rfl, rfl⟩
theorem alu_24 (a b : Int) (h0 : 0 ≤ a) (h1 : a ≤ 18446744073709551615) (h2 : 0 ≤ b) (h3 : b ≤ 18446744073709551615) (w : World) :
    Calls Tryz.prog 186 #[.int .i64 24, .int .u64 a, .int .u64 b] w fun e w' => e = .returned (.int .u64 (wMulw a b)) ∧ w' = w := by
  go_enter Tryz.func186, Tryz.ntmps186
  go_wp2_with (first | (go_at_call 214; refine (op_24 _).mono ?_; rintro e w' ⟨rfl, rfl⟩) | (go_at_call 353; refine (m_mulw _ _ h0 h1 h2 h3 _).mono ?_; rintro e w' ⟨rfl, rfl⟩))
  go_ret
  exact ⟨rfl, rfl⟩
theorem op_25 (w : World) :
    Calls Tryz.prog 214 #[.int .i64 25] w fun e w' => e = .returned (.func (.func 354) #[] #[]) ∧ w' = w := by
  go_enter Tryz.func214, Tryz.ntmps214
  go_wp2
  go_ret
  exact ⟨rfl, rfl⟩
theorem alu_25 (a b : Int) (h0 : 0 ≤ a) (h1 : a ≤ 18446744073709551615) (h2 : 0 ≤ b) (h3 : b ≤ 18446744073709551615) (w : World) :
    Calls Tryz.prog 186 #[.int .i64 25, .int .u64 a, .int .u64 b] w fun e w' => e = .returned (.int .u64 (wDivw a b)) ∧ w' = w := by
  go_enter Tryz.func186, Tryz.ntmps186
  go_wp2_with (first | (go_at_call 214; refine (op_25 _).mono ?_; rintro e w' ⟨rfl, rfl⟩) | (go_at_call 354; refine (m_divw _ _ h0 h1 h2 h3 _).mono ?_; rintro e w' ⟨rfl, rfl⟩))
  go_ret
  exact ⟨rfl, rfl⟩
theorem op_26 (w : World) :
    Calls Tryz.prog 214 #[.int .i64 26] w fun e w' => e = .returned (.func (.func 355) #[] #[]) ∧ w' = w := by
  go_enter Tryz.func214, Tryz.ntmps214
  go_wp2
  go_ret
  exact ⟨rfl, rfl⟩
theorem alu_26 (a b : Int) (h0 : 0 ≤ a) (h1 : a ≤ 18446744073709551615) (h2 : 0 ≤ b) (h3 : b ≤ 18446744073709551615) (w : World) :
    Calls Tryz.prog 186 #[.int .i64 26, .int .u64 a, .int .u64 b] w fun e w' => e = .returned (.int .u64 (wDivuw a b)) ∧ w' = w := by
  go_enter Tryz.func186, Tryz.ntmps186
  go_wp2_with (first | (go_at_call 214; refine (op_26 _).mono ?_; rintro e w' ⟨rfl, rfl⟩) | (go_at_call 355; refine (m_divuw _ _ h0 h1 h2 h3 _).mono ?_; rintro e w' ⟨rfl, rfl⟩))
  go_ret
  exact ⟨rfl, rfl⟩
theorem op_27 (w : World) :
    Calls Tryz.prog 214 #[.int .i64 27] w fun e w' => e = .returned (.func (.func 356) #[] #[]) ∧ w' = w := by
  go_enter Tryz.func214, Tryz.ntmps214
  go_wp2
  go_ret
  exact ⟨rfl, rfl⟩
theorem alu_27 (a b : Int) (h0 : 0 ≤ a) (h1 : a ≤ 18446744073709551615) (h2 : 0 ≤ b) (h3 : b ≤ 18446744073709551615) (w : World) :
    Calls Tryz.prog 186 #[.int .i64 27, .int .u64 a, .int .u64 b] w fun e w' => e = .returned (.int .u64 (wRemw a b)) ∧ w' = w := by
  go_enter Tryz.func186, Tryz.ntmps186
  go_wp2_with (first | (go_at_call 214; refine (op_27 _).mono ?_; rintro e w' ⟨rfl, rfl⟩) | (go_at_call 356; refine (m_remw _ _ h0 h1 h2 h3 _).mono ?_; rintro e w' ⟨rfl, rfl⟩))
  go_ret
  exact ⟨rfl, rfl⟩
theorem op_28 (w : World) :
    Calls Tryz.prog 214 #[.int .i64 28] w fun e w' => e = .returned (.func (.func 357) #[] #[]) ∧ w' = w := by
  go_enter Tryz.func214, Tryz.ntmps214
  go_wp2
  go_ret
  exact ⟨rfl, rfl⟩
theorem alu_28 (a b : Int) (h0 : 0 ≤ a) (h1 : a ≤ 18446744073709551615) (h2 : 0 ≤ b) (h3 : b ≤ 18446744073709551615) (w : World) :
    Calls Tryz.prog 186 #[.int .i64 28, .int .u64 a, .int .u64 b] w fun e w' => e = .returned (.int .u64 (wRemuw a b)) ∧ w' = w := by
  go_enter Tryz.func186, Tryz.ntmps186
  go_wp2_with (first | (go_at_call 214; refine (op_28 _).mono ?_; rintro e w' ⟨rfl, rfl⟩) | (go_at_call 357; refine (m_remuw _ _ h0 h1 h2 h3 _).mono ?_; rintro e w' ⟨rfl, rfl⟩))
  go_ret
  exact ⟨rfl, rfl⟩
theorem alu_none (fn a b : Int) (h0 : 0 ≤ a) (h1 : a ≤ 18446744073709551615) (h2 : 0 ≤ b) (h3 : b ≤ 18446744073709551615) (w : World) (e1 : ¬ fn = 1) (e2 : ¬ fn = 2) (e3 : ¬ fn = 3) (e4 : ¬ fn = 4) (e5 : ¬ fn = 5) (e6 : ¬ fn = 6) (e7 : ¬ fn = 7) (e8 : ¬ fn = 8) (e9 : ¬ fn = 9) (e10 : ¬ fn = 10) (e11 : ¬ fn = 11) (e12 : ¬ fn = 12) (e13 : ¬ fn = 13) (e14 : ¬ fn = 14) (e15 : ¬ fn = 15) (e16 : ¬ fn = 16) (e17 : ¬ fn = 17) (e18 : ¬ fn = 18) (e19 : ¬ fn = 19) (e20 : ¬ fn = 20) (e21 : ¬ fn = 21) (e22 : ¬ fn = 22) (e23 : ¬ fn = 23) (e24 : ¬ fn = 24) (e25 : ¬ fn = 25) (e26 : ¬ fn = 26) (e27 : ¬ fn = 27) (e28 : ¬ fn = 28) :
    Calls Tryz.prog 186 #[.int .i64 fn, .int .u64 a, .int .u64 b] w fun e w' => e = .returned (.int .u64 0) ∧ w' = w := by
  have d1 : (fn == 1) = false := by simpa using e1
  have d2 : (fn == 2) = false := by simpa using e2
  have d3 : (fn == 3) = false := by simpa using e3
  have d4 : (fn == 4) = false := by simpa using e4
  have d5 : (fn == 5) = false := by simpa using e5
  have d6 : (fn == 6) = false := by simpa using e6
  have d7 : (fn == 7) = false := by simpa using e7
  have d8 : (fn == 8) = false := by simpa using e8
  have d9 : (fn == 9) = false := by simpa using e9
  have d10 : (fn == 10) = false := by simpa using e10
  have d11 : (fn == 11) = false := by simpa using e11
  have d12 : (fn == 12) = false := by simpa using e12
  have d13 : (fn == 13) = false := by simpa using e13
  have d14 : (fn == 14) = false := by simpa using e14
  have d15 : (fn == 15) = false := by simpa using e15
  have d16 : (fn == 16) = false := by simpa using e16
  have d17 : (fn == 17) = false := by simpa using e17
  have d18 : (fn == 18) = false := by simpa using e18
  have d19 : (fn == 19) = false := by simpa using e19
  have d20 : (fn == 20) = false := by simpa using e20
  have d21 : (fn == 21) = false := by simpa using e21
  have d22 : (fn == 22) = false := by simpa using e22
  have d23 : (fn == 23) = false := by simpa using e23
  have d24 : (fn == 24) = false := by simpa using e24
  have d25 : (fn == 25) = false := by simpa using e25
  have d26 : (fn == 26) = false := by simpa using e26
  have d27 : (fn == 27) = false := by simpa using e27
  have d28 : (fn == 28) = false := by simpa using e28
  go_enter Tryz.func186, Tryz.ntmps186
  go_wp2
  go_ret
  exact ⟨rfl, rfl⟩
theorem alu_off (fn a b : Int) (e1 : ¬ fn = 1) (e2 : ¬ fn = 2) (e3 : ¬ fn = 3) (e4 : ¬ fn = 4) (e5 : ¬ fn = 5) (e6 : ¬ fn = 6) (e7 : ¬ fn = 7) (e8 : ¬ fn = 8) (e9 : ¬ fn = 9) (e10 : ¬ fn = 10) (e11 : ¬ fn = 11) (e12 : ¬ fn = 12) (e13 : ¬ fn = 13) (e14 : ¬ fn = 14) (e15 : ¬ fn = 15) (e16 : ¬ fn = 16) (e17 : ¬ fn = 17) (e18 : ¬ fn = 18) (e19 : ¬ fn = 19) (e20 : ¬ fn = 20) (e21 : ¬ fn = 21) (e22 : ¬ fn = 22) (e23 : ¬ fn = 23) (e24 : ¬ fn = 24) (e25 : ¬ fn = 25) (e26 : ¬ fn = 26) (e27 : ¬ fn = 27) (e28 : ¬ fn = 28) : alu fn a b = 0 := by
  unfold alu
  rw [if_neg e1, if_neg e2, if_neg e3, if_neg e4, if_neg e5, if_neg e6, if_neg e7, if_neg e8, if_neg e9, if_neg e10, if_neg e11, if_neg e12, if_neg e13, if_neg e14, if_neg e15, if_neg e16, if_neg e17, if_neg e18, if_neg e19, if_neg e20, if_neg e21, if_neg e22, if_neg e23, if_neg e24, if_neg e25, if_neg e26, if_neg e27, if_neg e28]
theorem m_Alu (fn a b : Int) (h0 : 0 ≤ a) (h1 : a ≤ 18446744073709551615) (h2 : 0 ≤ b) (h3 : b ≤ 18446744073709551615) (w : World) :
    Calls Tryz.prog 186 #[.int .i64 fn, .int .u64 a, .int .u64 b] w fun e w' => e = .returned (.int .u64 (alu fn a b)) ∧ w' = w := by
  by_cases e1 : fn = 1
  · subst e1; exact alu_1 a b h0 h1 h2 h3 w
  by_cases e2 : fn = 2
  · subst e2; exact alu_2 a b h0 h1 h2 h3 w
  by_cases e3 : fn = 3
  · subst e3; exact alu_3 a b h0 h1 h2 h3 w
  by_cases e4 : fn = 4
  · subst e4; exact alu_4 a b h0 h1 h2 h3 w
  by_cases e5 : fn = 5
  · subst e5; exact alu_5 a b h0 h1 h2 h3 w
  by_cases e6 : fn = 6
  · subst e6; exact alu_6 a b h0 h1 h2 h3 w
  by_cases e7 : fn = 7
  · subst e7; exact alu_7 a b h0 h1 h2 h3 w
  by_cases e8 : fn = 8
  · subst e8; exact alu_8 a b h0 h1 h2 h3 w
  by_cases e9 : fn = 9
  · subst e9; exact alu_9 a b h0 h1 h2 h3 w
  by_cases e10 : fn = 10
  · subst e10; exact alu_10 a b h0 h1 h2 h3 w
  by_cases e11 : fn = 11
  · subst e11; exact alu_11 a b h0 h1 h2 h3 w
  by_cases e12 : fn = 12
  · subst e12; exact alu_12 a b h0 h1 h2 h3 w
  by_cases e13 : fn = 13
  · subst e13; exact alu_13 a b h0 h1 h2 h3 w
  by_cases e14 : fn = 14
  · subst e14; exact alu_14 a b h0 h1 h2 h3 w
  by_cases e15 : fn = 15
  · subst e15; exact alu_15 a b h0 h1 h2 h3 w
  by_cases e16 : fn = 16
  · subst e16; exact alu_16 a b h0 h1 h2 h3 w
  by_cases e17 : fn = 17
  · subst e17; exact alu_17 a b h0 h1 h2 h3 w
  by_cases e18 : fn = 18
  · subst e18; exact alu_18 a b h0 h1 h2 h3 w
  by_cases e19 : fn = 19
  · subst e19; exact alu_19 a b h0 h1 h2 h3 w
  by_cases e20 : fn = 20
  · subst e20; exact alu_20 a b h0 h1 h2 h3 w
  by_cases e21 : fn = 21
  · subst e21; exact alu_21 a b h0 h1 h2 h3 w
  by_cases e22 : fn = 22
  · subst e22; exact alu_22 a b h0 h1 h2 h3 w
  by_cases e23 : fn = 23
  · subst e23; exact alu_23 a b h0 h1 h2 h3 w
  by_cases e24 : fn = 24
  · subst e24; exact alu_24 a b h0 h1 h2 h3 w
  by_cases e25 : fn = 25
  · subst e25; exact alu_25 a b h0 h1 h2 h3 w
  by_cases e26 : fn = 26
  · subst e26; exact alu_26 a b h0 h1 h2 h3 w
  by_cases e27 : fn = 27
  · subst e27; exact alu_27 a b h0 h1 h2 h3 w
  by_cases e28 : fn = 28
  · subst e28; exact alu_28 a b h0 h1 h2 h3 w
  rw [alu_off fn a b e1 e2 e3 e4 e5 e6 e7 e8 e9 e10 e11 e12 e13 e14 e15 e16 e17 e18 e19 e20 e21 e22 e23 e24 e25 e26 e27 e28]
  exact alu_none fn a b h0 h1 h2 h3 w e1 e2 e3 e4 e5 e6 e7 e8 e9 e10 e11 e12 e13 e14 e15 e16 e17 e18 e19 e20 e21 e22 e23 e24 e25 e26 e27 e28
end Go.Proofs.YtooagjndelbegaaGreatDoor.A
