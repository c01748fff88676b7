/- number and bytesOf: a number and its eight bytes. -/
import Derived.Test.YtioodijiejipiaaRT
import Derived.Laws.Bits64b
namespace Go.Proofs.Ytioodijiejipiaa
open Go.RowKit
set_option linter.unusedVariables false

def nu (b : Nat → Int) : Nat → Int
  | 0 => 0
  | k + 1 => nu b k + b k * 256 ^ k
theorem nu_lt (b : Nat → Int) (hb : ∀ j, 0 ≤ b j ∧ b j < 256) : ∀ k, 0 ≤ nu b k ∧ nu b k < 256 ^ k
  | 0 => by simp [nu]
  | k + 1 => by
    have ih := nu_lt b hb k
    have h := hb k
    have hp : (0 : Int) < 256 ^ k := Int.pow_pos (by decide)
    have h1 : b k * 256 ^ k ≤ 255 * 256 ^ k := Int.mul_le_mul_of_nonneg_right (by omega) (by omega)
    have h2 : 0 ≤ b k * 256 ^ k := Int.mul_nonneg h.1 (by omega)
    have h3 : (256 : Int) ^ (k + 1) = 256 * 256 ^ k := by rw [Int.pow_succ]; omega
    simp only [nu]
    omega
theorem or_nu (x y : Int) (k : Nat) (hk : k < 8) (h0 : 0 ≤ x) (h1 : x < 256 ^ k) (h2 : 0 ≤ y) (h3 : y < 256) : bits .or .u64 x (y * 256 ^ k) = x + y * 256 ^ k := by
  obtain ⟨a, rfl⟩ := Int.eq_ofNat_of_zero_le h0
  obtain ⟨b, rfl⟩ := Int.eq_ofNat_of_zero_le h2
  have e : (256 : Nat) ^ k = 2 ^ (8 * k) := by rw [Nat.pow_mul]
  have ec : (256 : Int) ^ k = ((256 ^ k : Nat) : Int) := (Int.natCast_pow 256 k).symm
  have ha : a < 2 ^ (8 * k) := by rw [← e]; rw [ec] at h1; exact Int.ofNat_lt.1 h1
  have hp : 2 ^ (8 * k) * 256 ≤ 2 ^ 64 := by
    have : 2 ^ (8 * k) ≤ 2 ^ 56 := Nat.pow_le_pow_right (by decide) (by omega)
    omega
  have hb : b < 256 := by omega
  have hbk : b * 2 ^ (8 * k) ≤ 255 * 2 ^ (8 * k) := Nat.mul_le_mul_right _ (by omega)
  have hy : (b : Int) * 256 ^ k = ((b * 2 ^ (8 * k) : Nat) : Int) := by rw [ec, e]; exact (Int.natCast_mul _ _).symm
  have hor := Nat.two_pow_add_eq_or_of_lt ha b
  rw [hy, bits_or_u64_nat _ _ (by omega) (by omega), Nat.or_comm, Nat.mul_comm b, ← hor]
  omega
theorem nu_step (b : Nat → Int) (k : Nat) : nu b k + b k * 256 ^ k = nu b (k + 1) := rfl
set_option maxHeartbeats 1000000 in
theorem c_number (b : Nat → Int) (hb : ∀ j, 0 ≤ b j ∧ b j < 256) (w : World) :
    Calls Try.prog 37 #[.agg #[.int .u8 (b 0), .int .u8 (b 1), .int .u8 (b 2), .int .u8 (b 3), .int .u8 (b 4), .int .u8 (b 5), .int .u8 (b 6), .int .u8 (b 7)]] w fun e w' => e = .returned (.int .u64 (nu b 8)) ∧ Below w.heap.size w w' := by
  go_enter Try.func37, Try.ntmps37
  go_wp2
  go_loop [3, 7] (fun v i => ∃ k : Nat, k ≤ 8 ∧ i = .int .i64 k ∧ v = .int .u64 (nu b k)) (fun _ i => 8 - (intOf i).toNat)
  case atStart => exact ⟨0, by omega, rfl, rfl⟩
  case round =>
    obtain ⟨k, hk, rfl, rfl⟩ := hrel
    have h0 := hb 0
    have hn := nu_lt b hb k
    rcases (show k = 0 ∨ k = 1 ∨ k = 2 ∨ k = 3 ∨ k = 4 ∨ k = 5 ∨ k = 6 ∨ k = 7 ∨ k = 8 by omega) with rfl | rfl | rfl | rfl | rfl | rfl | rfl | rfl | rfl
    · have hx : ∀ W, (Instr.index 71 (.agg #[.int .u8 (b 0), .int .u8 (b 1), .int .u8 (b 2), .int .u8 (b 3), .int .u8 (b 4), .int .u8 (b 5), .int .u8 (b 6), .int .u8 (b 7)]) (.int .i64 0)).run Try.prog W = .ok (.int .u8 (b 0)) W := fun W => by kernel_rfl
      have hk := hb 0
      have hor := or_nu (nu b 0) (b 0) 0 (by decide) hn.1 hn.2 hk.1 hk.2
      clear hn h0
      go_wp2
      go_round
      case rel => exact ⟨1, by omega, by go_num, congrArg (Value.int .u64) (by simpa using hor.trans (nu_step b 0))⟩
      case measure => simp [intOf]
    · have hx : ∀ W, (Instr.index 71 (.agg #[.int .u8 (b 0), .int .u8 (b 1), .int .u8 (b 2), .int .u8 (b 3), .int .u8 (b 4), .int .u8 (b 5), .int .u8 (b 6), .int .u8 (b 7)]) (.int .i64 1)).run Try.prog W = .ok (.int .u8 (b 1)) W := fun W => by kernel_rfl
      have hk := hb 1
      have hor := or_nu (nu b 1) (b 1) 1 (by decide) hn.1 hn.2 hk.1 hk.2
      clear hn h0
      go_wp2
      go_round
      case rel => exact ⟨2, by omega, by go_num, congrArg (Value.int .u64) (hor.trans (nu_step b 1))⟩
      case measure => simp [intOf]
    · have hx : ∀ W, (Instr.index 71 (.agg #[.int .u8 (b 0), .int .u8 (b 1), .int .u8 (b 2), .int .u8 (b 3), .int .u8 (b 4), .int .u8 (b 5), .int .u8 (b 6), .int .u8 (b 7)]) (.int .i64 2)).run Try.prog W = .ok (.int .u8 (b 2)) W := fun W => by kernel_rfl
      have hk := hb 2
      have hor := or_nu (nu b 2) (b 2) 2 (by decide) hn.1 hn.2 hk.1 hk.2
      clear hn h0
      go_wp2
      go_round
      case rel => exact ⟨3, by omega, by go_num, congrArg (Value.int .u64) (hor.trans (nu_step b 2))⟩
      case measure => simp [intOf]
    · have hx : ∀ W, (Instr.index 71 (.agg #[.int .u8 (b 0), .int .u8 (b 1), .int .u8 (b 2), .int .u8 (b 3), .int .u8 (b 4), .int .u8 (b 5), .int .u8 (b 6), .int .u8 (b 7)]) (.int .i64 3)).run Try.prog W = .ok (.int .u8 (b 3)) W := fun W => by kernel_rfl
      have hk := hb 3
      have hor := or_nu (nu b 3) (b 3) 3 (by decide) hn.1 hn.2 hk.1 hk.2
      clear hn h0
      go_wp2
      go_round
      case rel => exact ⟨4, by omega, by go_num, congrArg (Value.int .u64) (hor.trans (nu_step b 3))⟩
      case measure => simp [intOf]
    · have hx : ∀ W, (Instr.index 71 (.agg #[.int .u8 (b 0), .int .u8 (b 1), .int .u8 (b 2), .int .u8 (b 3), .int .u8 (b 4), .int .u8 (b 5), .int .u8 (b 6), .int .u8 (b 7)]) (.int .i64 4)).run Try.prog W = .ok (.int .u8 (b 4)) W := fun W => by kernel_rfl
      have hk := hb 4
      have hor := or_nu (nu b 4) (b 4) 4 (by decide) hn.1 hn.2 hk.1 hk.2
      clear hn h0
      go_wp2
      go_round
      case rel => exact ⟨5, by omega, by go_num, congrArg (Value.int .u64) (hor.trans (nu_step b 4))⟩
      case measure => simp [intOf]
    · have hx : ∀ W, (Instr.index 71 (.agg #[.int .u8 (b 0), .int .u8 (b 1), .int .u8 (b 2), .int .u8 (b 3), .int .u8 (b 4), .int .u8 (b 5), .int .u8 (b 6), .int .u8 (b 7)]) (.int .i64 5)).run Try.prog W = .ok (.int .u8 (b 5)) W := fun W => by kernel_rfl
      have hk := hb 5
      have hor := or_nu (nu b 5) (b 5) 5 (by decide) hn.1 hn.2 hk.1 hk.2
      clear hn h0
      go_wp2
      go_round
      case rel => exact ⟨6, by omega, by go_num, congrArg (Value.int .u64) (hor.trans (nu_step b 5))⟩
      case measure => simp [intOf]
    · have hx : ∀ W, (Instr.index 71 (.agg #[.int .u8 (b 0), .int .u8 (b 1), .int .u8 (b 2), .int .u8 (b 3), .int .u8 (b 4), .int .u8 (b 5), .int .u8 (b 6), .int .u8 (b 7)]) (.int .i64 6)).run Try.prog W = .ok (.int .u8 (b 6)) W := fun W => by kernel_rfl
      have hk := hb 6
      have hor := or_nu (nu b 6) (b 6) 6 (by decide) hn.1 hn.2 hk.1 hk.2
      clear hn h0
      go_wp2
      go_round
      case rel => exact ⟨7, by omega, by go_num, congrArg (Value.int .u64) (hor.trans (nu_step b 6))⟩
      case measure => simp [intOf]
    · have hx : ∀ W, (Instr.index 71 (.agg #[.int .u8 (b 0), .int .u8 (b 1), .int .u8 (b 2), .int .u8 (b 3), .int .u8 (b 4), .int .u8 (b 5), .int .u8 (b 6), .int .u8 (b 7)]) (.int .i64 7)).run Try.prog W = .ok (.int .u8 (b 7)) W := fun W => by kernel_rfl
      have hk := hb 7
      have hor := or_nu (nu b 7) (b 7) 7 (by decide) hn.1 hn.2 hk.1 hk.2
      clear hn h0
      go_wp2
      go_round
      case rel => exact ⟨8, by omega, by go_num, congrArg (Value.int .u64) (hor.trans (nu_step b 7))⟩
      case measure => simp [intOf]
    · go_wp2
      go_ret
      exact ⟨rfl, (Below.refl _ _).alloc (Nat.le_refl _) _⟩
end Go.Proofs.Ytioodijiejipiaa
