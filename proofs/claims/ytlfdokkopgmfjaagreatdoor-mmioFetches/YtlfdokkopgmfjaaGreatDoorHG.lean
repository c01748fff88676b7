/- The program's Trap is the document's. -/
import Derived.Test.YtlfdokkopgmfjaaGreatDoorHB
import Derived.Test.YtlfdokkopgmfjaaGreatDoorMH1
import Derived.Test.YtlfdokkopgmfjaaGreatDoorMH2
namespace Go.Proofs.YtlfdokkopgmfjaaGreatDoor
open Go.RowKit
set_option linter.unusedVariables false
set_option maxRecDepth 100000

theorem and_one (a : Int) (h0 : 0 ≤ a) (h1 : a < 18446744073709551616) : bits .and .u64 a 1 = a % 2 := by
  obtain ⟨n, rfl⟩ := Int.eq_ofNat_of_zero_le h0
  have e : bits .and .u64 (n : Int) 1 = ((n &&& 1 : Nat) : Int) := u64_and_nat n 1 (by omega) (by omega)
  rw [e, Nat.and_one_is_mod]
  omega
theorem and_63 (a : Int) (h0 : 0 ≤ a) (h1 : a < 18446744073709551616) : bits .and .u64 a 9223372036854775808 = if 9223372036854775808 ≤ a then 9223372036854775808 else 0 := by
  obtain ⟨n, rfl⟩ := Int.eq_ofNat_of_zero_le h0
  have e : bits .and .u64 (n : Int) 9223372036854775808 = ((n &&& 9223372036854775808 : Nat) : Int) := u64_and_nat n 9223372036854775808 (by omega) (by omega)
  rw [e]
  have d : (n &&& 9223372036854775808) / 9223372036854775808 = n / 9223372036854775808 := by
    have := Nat.and_div_two_pow (a := n) (b := 9223372036854775808) (n := 63)
    simp only [show (2 : Nat) ^ 63 = 9223372036854775808 by decide] at this
    rw [this]
    simp only [show (9223372036854775808 : Nat) / 9223372036854775808 = 1 by decide, Nat.and_one_is_mod]
    omega
  have m : (n &&& 9223372036854775808) % 9223372036854775808 = 0 := by
    have := Nat.and_mod_two_pow (a := n) (b := 9223372036854775808) (n := 63)
    simp only [show (2 : Nat) ^ 63 = 9223372036854775808 by decide] at this
    rw [this]
    simp
  split <;> omega
end Go.Proofs.YtlfdokkopgmfjaaGreatDoor
