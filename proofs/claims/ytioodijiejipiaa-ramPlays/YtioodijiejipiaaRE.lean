/- Read, Write where the bytes do not lie in the memory; RamEnds answers true: the walk. -/
import Derived.Test.YtioodijiejipiaaRY
namespace Go.Proofs.Ytioodijiejipiaa
open Go.RowKit
set_option linter.unusedVariables false

theorem c_Read_bad (w : World) (S : Nat → Prop) (p : Nat) (base : Int) (n : Nat) (f : Nat → Int) (h : Mem w S p base n f) (addr size : Int) (a0 : 0 ≤ addr) (a1 : addr < 18446744073709551616) (s0 : -9223372036854775808 ≤ size) (s1 : size ≤ 9223372036854775807) (hb : hasB base n addr size = false) :
    Calls Try.prog 15 #[.pointer (some ⟨p, 0, none⟩), .int .u64 addr, .int .i64 size] w fun e w' => e = .returned (.tuple #[.int .u64 0, .bool false]) ∧ Still w w' := by
  obtain ⟨g, hs, hr, rfl, hS⟩ := h
  go_enter Try.func15, Try.ntmps15
  cases hwd : decide (size = 1 ∨ size = 2 ∨ size = 4 ∨ size = 8) with
  | false =>
    go_wp2_with (first
      | (go_at_call 31; refine (c_isWidth _ w).mono ?_; rintro e w1 ⟨rfl, hw1⟩; obtain rfl := hw1.symm; rw [hwd]))
    go_ret2
    exact ⟨rfl, .refl w⟩
  | true =>
    go_wp2_with (first
      | (go_at_call 31; refine (c_isWidth _ w).mono ?_; rintro e w1 ⟨rfl, hw1⟩; obtain rfl := hw1.symm; rw [hwd])
      | (go_at_call 10; refine (c_Has w p g base hs f hr _ _ a0 a1 s0 s1).mono ?_; rintro e w1 ⟨rfl, hst⟩; rw [hb]))
    go_ret2
    exact ⟨rfl, hst⟩
theorem c_Write_bad (w : World) (S : Nat → Prop) (p : Nat) (base : Int) (n : Nat) (f : Nat → Int) (h : Mem w S p base n f) (addr size v : Int) (a0 : 0 ≤ addr) (a1 : addr < 18446744073709551616) (s0 : -9223372036854775808 ≤ size) (s1 : size ≤ 9223372036854775807) (hb : hasB base n addr size = false) :
    Calls Try.prog 13 #[.pointer (some ⟨p, 0, none⟩), .int .u64 addr, .int .i64 size, .int .u64 v] w fun e w' => e = .returned (.bool false) ∧ Still w w' := by
  obtain ⟨g, hs, hr, rfl, hS⟩ := h
  go_enter Try.func13, Try.ntmps13
  cases hwd : decide (size = 1 ∨ size = 2 ∨ size = 4 ∨ size = 8) with
  | false =>
    go_wp2_with (first
      | (go_at_call 31; refine (c_isWidth _ w).mono ?_; rintro e w1 ⟨rfl, hw1⟩; obtain rfl := hw1.symm; rw [hwd]))
    go_ret
    exact ⟨rfl, .refl w⟩
  | true =>
    go_wp2_with (first
      | (go_at_call 31; refine (c_isWidth _ w).mono ?_; rintro e w1 ⟨rfl, hw1⟩; obtain rfl := hw1.symm; rw [hwd])
      | (go_at_call 10; refine (c_Has w p g base hs f hr _ _ a0 a1 s0 s1).mono ?_; rintro e w1 ⟨rfl, hst⟩; rw [hb]))
    go_ret
    exact ⟨rfl, hst⟩
theorem c_HasM (w : World) (S : Nat → Prop) (p : Nat) (base : Int) (n : Nat) (f : Nat → Int) (h : Mem w S p base n f) (addr size : Int) (a0 : 0 ≤ addr) (a1 : addr < 18446744073709551616) (s0 : -9223372036854775808 ≤ size) (s1 : size ≤ 9223372036854775807) (r : Bool) (hb : hasB base n addr size = r) :
    Calls Try.prog 10 #[.pointer (some ⟨p, 0, none⟩), .int .u64 addr, .int .i64 size] w fun e w' => e = .returned (.bool r) ∧ Still w w' := by
  obtain ⟨g, hs, hr, rfl, hS⟩ := h
  rw [← hb]
  exact c_Has w p g base hs f hr addr size a0 a1 s0 s1
end Go.Proofs.Ytioodijiejipiaa
