/- The reference's fields by name, the element of a list. The world stands. -/
import Derived.Test.YtioodijiejipiaaGreatDoorRF
import Derived.Test.YtioodijiejipiaaGreatDoorIB
namespace Go.Proofs.YtioodijiejipiaaGreatDoor
open Go.RowKit
set_option linter.unusedVariables false

theorem g_op (a : Int) (h0 : 0 ≤ a) (h1 : a < 4294967296) (w : World) : Calls Tryz.prog 16 #[.int .u32 a, .int .i64 6, .int .i64 0] w fun e w' => e = .returned (.int .i64 (fOp a)) ∧ w' = w := by
  go_enter Tryz.func16, Tryz.ntmps16
  go_wp2
  go_ret
  exact ⟨ret_int (by unfold fOp; omega), rfl⟩
theorem g_f3 (a : Int) (h0 : 0 ≤ a) (h1 : a < 4294967296) (w : World) : Calls Tryz.prog 16 #[.int .u32 a, .int .i64 14, .int .i64 12] w fun e w' => e = .returned (.int .i64 (fF3 a)) ∧ w' = w := by
  go_enter Tryz.func16, Tryz.ntmps16
  go_wp2
  go_ret
  exact ⟨ret_int (by unfold fF3; omega), rfl⟩
theorem g_f7 (a : Int) (h0 : 0 ≤ a) (h1 : a < 4294967296) (w : World) : Calls Tryz.prog 16 #[.int .u32 a, .int .i64 31, .int .i64 25] w fun e w' => e = .returned (.int .i64 (fF7 a)) ∧ w' = w := by
  go_enter Tryz.func16, Tryz.ntmps16
  go_wp2
  go_ret
  exact ⟨ret_int (by unfold fF7; omega), rfl⟩
theorem g_rd (a : Int) (h0 : 0 ≤ a) (h1 : a < 4294967296) (w : World) : Calls Tryz.prog 16 #[.int .u32 a, .int .i64 11, .int .i64 7] w fun e w' => e = .returned (.int .i64 (fRd a)) ∧ w' = w := by
  go_enter Tryz.func16, Tryz.ntmps16
  go_wp2
  go_ret
  exact ⟨ret_int (by unfold fRd; omega), rfl⟩
theorem g_rs1 (a : Int) (h0 : 0 ≤ a) (h1 : a < 4294967296) (w : World) : Calls Tryz.prog 16 #[.int .u32 a, .int .i64 19, .int .i64 15] w fun e w' => e = .returned (.int .i64 (fRs1 a)) ∧ w' = w := by
  go_enter Tryz.func16, Tryz.ntmps16
  go_wp2
  go_ret
  exact ⟨ret_int (by unfold fRs1; omega), rfl⟩
theorem g_rs2 (a : Int) (h0 : 0 ≤ a) (h1 : a < 4294967296) (w : World) : Calls Tryz.prog 16 #[.int .u32 a, .int .i64 24, .int .i64 20] w fun e w' => e = .returned (.int .i64 (fRs2 a)) ∧ w' = w := by
  go_enter Tryz.func16, Tryz.ntmps16
  go_wp2
  go_ret
  exact ⟨ret_int (by unfold fRs2; omega), rfl⟩
theorem g_f6 (a : Int) (h0 : 0 ≤ a) (h1 : a < 4294967296) (w : World) : Calls Tryz.prog 16 #[.int .u32 a, .int .i64 31, .int .i64 26] w fun e w' => e = .returned (.int .i64 (fF6 a)) ∧ w' = w := by
  go_enter Tryz.func16, Tryz.ntmps16
  go_wp2
  go_ret
  exact ⟨ret_int (by unfold fF6; omega), rfl⟩
theorem g_f5 (a : Int) (h0 : 0 ≤ a) (h1 : a < 4294967296) (w : World) : Calls Tryz.prog 16 #[.int .u32 a, .int .i64 31, .int .i64 27] w fun e w' => e = .returned (.int .i64 (fF5 a)) ∧ w' = w := by
  go_enter Tryz.func16, Tryz.ntmps16
  go_wp2
  go_ret
  exact ⟨ret_int (by unfold fF5; omega), rfl⟩
theorem g_sh (a : Int) (h0 : 0 ≤ a) (h1 : a < 4294967296) (w : World) : Calls Tryz.prog 16 #[.int .u32 a, .int .i64 25, .int .i64 20] w fun e w' => e = .returned (.int .i64 (fSh a)) ∧ w' = w := by
  go_enter Tryz.func16, Tryz.ntmps16
  go_wp2
  go_ret
  exact ⟨ret_int (by unfold fSh; omega), rfl⟩
theorem g_cs (a : Int) (h0 : 0 ≤ a) (h1 : a < 4294967296) (w : World) : Calls Tryz.prog 16 #[.int .u32 a, .int .i64 31, .int .i64 20] w fun e w' => e = .returned (.int .i64 (fCs a)) ∧ w' = w := by
  go_enter Tryz.func16, Tryz.ntmps16
  go_wp2
  go_ret
  exact ⟨ret_int (by unfold fCs; omega), rfl⟩
/-- the element of a list, or 0 -/
def pk (L : List Int) (i : Int) : Int := if 0 ≤ i ∧ i < L.length then L.getD i.toNat 0 else 0
theorem r_pick (b n : Nat) (L : List Int) (hn : L.length = n) (i : Int) (w : World) (hc : ∀ k : Nat, k < n → w.cell? ⟨b, k, none⟩ = some (.int .i64 (L.getD k 0))) (i0 : -9223372036854775808 ≤ i) (i1 : i < 9223372036854775808) (hn' : n < 100) :
    Calls Tryz.prog 20 #[.slice (some ⟨b, 0, none⟩) n n, .int .i64 i] w fun e w' => e = .returned (.int .i64 (pk L i)) ∧ w' = w := by
  by_cases p : i < 0
  · have e : pk L i = 0 := if_neg (by omega)
    rw [e]
    go_enter Tryz.func20, Tryz.ntmps20
    go_wp2
    go_ret
    exact ⟨rfl, rfl⟩
  by_cases q : (n : Int) ≤ i
  · have e : pk L i = 0 := if_neg (by omega)
    rw [e]
    go_enter Tryz.func20, Tryz.ntmps20
    go_wp2
    go_ret
    exact ⟨rfl, rfl⟩
  · have e : pk L i = L.getD i.toNat 0 := if_pos (by omega)
    rw [e]
    have hk := hc i.toNat (by omega)
    have hlt : i.toNat < n := by omega
    go_enter Tryz.func20, Tryz.ntmps20
    go_wp2
    go_ret
    exact ⟨rfl, rfl⟩
end Go.Proofs.YtioodijiejipiaaGreatDoor
