/- The plain arithmetic of the words of 64 bits, over Int: what each operation of package word answers, by one Lean function each, and what the reference's own ways come to. Nothing here speaks of the program. -/
import Derived.WalkKit
import Derived.Laws.MathBits
import Derived.Laws.BitsAllLaws
import Derived.Test.YtlfdokkopgmfjaaGreatDoorProg
import Derived.ProofKit
import Derived.Outline
namespace Go.Proofs.YtlfdokkopgmfjaaGreatDoor.A
open Go.RowKit
set_option linter.unusedVariables false
set_option maxRecDepth 100000
def exz (v size : Int) : Int := if size = 1 then v % 256 else if size = 2 then v % 65536 else if size = 4 then v % 4294967296 else v
def exs (v size : Int) : Int :=
  if size = 1 then ((v + 128) % 256 - 128) % 18446744073709551616 else if size = 2 then ((v + 32768) % 65536 - 32768) % 18446744073709551616
  else if size = 4 then ((v + 2147483648) % 4294967296 - 2147483648) % 18446744073709551616 else v
/-- what Extend answers -/
def ext (v size : Int) (signed : Bool) : Int := if signed then exs v size else exz v size
/-! what holds of a word -/
/-! the implementation's own spelling of each -/
/-! each is a word -/
end Go.Proofs.YtlfdokkopgmfjaaGreatDoor.A
namespace Go.Proofs.YtlfdokkopgmfjaaGreatDoor.A
open Go.RowKit
set_option linter.unusedVariables false
set_option maxRecDepth 100000
theorem ret_int {k : IntKind} {a b : Int} (h : a = b) : Ending.returned (.int k a) = .returned (.int k b) := by rw [h]
end Go.Proofs.YtlfdokkopgmfjaaGreatDoor.A
namespace Go.Proofs.YtlfdokkopgmfjaaGreatDoor.A
open Go.RowKit
set_option linter.unusedVariables false
set_option maxRecDepth 100000
theorem ext_1_true (v : Int) (h0 : 0 ≤ v) (h1 : v ≤ 18446744073709551615) (w : World) :
    Calls Tryz.prog 67 #[.int .u64 v, .int .i64 1, .bool true] w fun e w' => e = .returned (.int .u64 (exs v 1)) ∧ w' = w := by
  go_enter Tryz.func67, Tryz.ntmps67
  go_wp2
  go_ret
  exact ⟨ret_int (by simp only [IntKind.wrap_u64, exs]; (try unfold wrap64); simp; omega), rfl⟩
theorem ext_1_false (v : Int) (h0 : 0 ≤ v) (h1 : v ≤ 18446744073709551615) (w : World) :
    Calls Tryz.prog 67 #[.int .u64 v, .int .i64 1, .bool false] w fun e w' => e = .returned (.int .u64 (exz v 1)) ∧ w' = w := by
  go_enter Tryz.func67, Tryz.ntmps67
  go_wp2
  go_ret
  exact ⟨ret_int (by simp only [IntKind.wrap_u64, exz]; (try unfold wrap64); simp; omega), rfl⟩
theorem ext_2_true (v : Int) (h0 : 0 ≤ v) (h1 : v ≤ 18446744073709551615) (w : World) :
    Calls Tryz.prog 67 #[.int .u64 v, .int .i64 2, .bool true] w fun e w' => e = .returned (.int .u64 (exs v 2)) ∧ w' = w := by
  go_enter Tryz.func67, Tryz.ntmps67
  go_wp2
  go_ret
  exact ⟨ret_int (by simp only [IntKind.wrap_u64, exs]; (try unfold wrap64); simp; omega), rfl⟩
theorem ext_2_false (v : Int) (h0 : 0 ≤ v) (h1 : v ≤ 18446744073709551615) (w : World) :
    Calls Tryz.prog 67 #[.int .u64 v, .int .i64 2, .bool false] w fun e w' => e = .returned (.int .u64 (exz v 2)) ∧ w' = w := by
  go_enter Tryz.func67, Tryz.ntmps67
  go_wp2
  go_ret
  exact ⟨ret_int (by simp only [IntKind.wrap_u64, exz]; (try unfold wrap64); simp; omega), rfl⟩
theorem ext_4_true (v : Int) (h0 : 0 ≤ v) (h1 : v ≤ 18446744073709551615) (w : World) :
    Calls Tryz.prog 67 #[.int .u64 v, .int .i64 4, .bool true] w fun e w' => e = .returned (.int .u64 (exs v 4)) ∧ w' = w := by
  go_enter Tryz.func67, Tryz.ntmps67
  go_wp2
  go_ret
  exact ⟨ret_int (by simp only [IntKind.wrap_u64, exs]; (try unfold wrap64); simp; omega), rfl⟩
theorem ext_4_false (v : Int) (h0 : 0 ≤ v) (h1 : v ≤ 18446744073709551615) (w : World) :
    Calls Tryz.prog 67 #[.int .u64 v, .int .i64 4, .bool false] w fun e w' => e = .returned (.int .u64 (exz v 4)) ∧ w' = w := by
  go_enter Tryz.func67, Tryz.ntmps67
  go_wp2
  go_ret
  exact ⟨ret_int (by simp only [IntKind.wrap_u64, exz]; (try unfold wrap64); simp; omega), rfl⟩
theorem ext_none (v size : Int) (g : Bool) (h0 : 0 ≤ v) (h1 : v ≤ 18446744073709551615) (w : World) (e1 : ¬ size = 1) (e2 : ¬ size = 2) (e4 : ¬ size = 4) :
    Calls Tryz.prog 67 #[.int .u64 v, .int .i64 size, .bool g] w fun e w' => e = .returned (.int .u64 v) ∧ w' = w := by
  have d1 : (size != 1) = true := by simpa using e1
  have d2 : (size != 2) = true := by simpa using e2
  have d4 : (size != 4) = true := by simpa using e4
  go_enter Tryz.func67, Tryz.ntmps67
  go_wp2
  go_ret
  exact ⟨rfl, rfl⟩
theorem ext_f (v s : Int) : ext v s false = exz v s := by simp [ext]
theorem ext_t (v s : Int) : ext v s true = exs v s := by simp [ext]
theorem m_Extend (v size : Int) (g : Bool) (h0 : 0 ≤ v) (h1 : v ≤ 18446744073709551615) (w : World) :
    Calls Tryz.prog 67 #[.int .u64 v, .int .i64 size, .bool g] w fun e w' => e = .returned (.int .u64 (ext v size g)) ∧ w' = w := by
  by_cases e1 : size = 1
  · subst e1; cases g
    · rw [ext_f]; exact ext_1_false v h0 h1 w
    · rw [ext_t]; exact ext_1_true v h0 h1 w
  by_cases e2 : size = 2
  · subst e2; cases g
    · rw [ext_f]; exact ext_2_false v h0 h1 w
    · rw [ext_t]; exact ext_2_true v h0 h1 w
  by_cases e4 : size = 4
  · subst e4; cases g
    · rw [ext_f]; exact ext_4_false v h0 h1 w
    · rw [ext_t]; exact ext_4_true v h0 h1 w
  have e : ext v size g = v := by
    cases g
    · rw [ext_f]; unfold exz; rw [if_neg e1, if_neg e2, if_neg e4]
    · rw [ext_t]; unfold exs; rw [if_neg e1, if_neg e2, if_neg e4]
  rw [e]
  exact ext_none v size g h0 h1 w e1 e2 e4
end Go.Proofs.YtlfdokkopgmfjaaGreatDoor.A
namespace Go.Proofs.YtlfdokkopgmfjaaGreatDoor.A
open Go.RowKit
set_option linter.unusedVariables false
set_option maxRecDepth 100000
/-! the halves -/
end Go.Proofs.YtlfdokkopgmfjaaGreatDoor.A
namespace Go.Proofs.YtlfdokkopgmfjaaGreatDoor.A
open Go.RowKit
set_option linter.unusedVariables false
set_option maxRecDepth 100000
end Go.Proofs.YtlfdokkopgmfjaaGreatDoor.A
namespace Go.Proofs.YtlfdokkopgmfjaaGreatDoor.A
open Go.RowKit
set_option linter.unusedVariables false
set_option maxRecDepth 100000
end Go.Proofs.YtlfdokkopgmfjaaGreatDoor.A
