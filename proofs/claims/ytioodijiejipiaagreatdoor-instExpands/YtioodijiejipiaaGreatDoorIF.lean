/- What each field of a word is: one contract a method; the world stands. -/
import Derived.Test.YtioodijiejipiaaGreatDoorRows
import Derived.Test.YtioodijiejipiaaGreatDoorIM
import Derived.WalkKit
import Derived.ProofKit
import Derived.Outline
namespace Go.Proofs.YtioodijiejipiaaGreatDoor
open Go.RowKit
set_option linter.unusedVariables false

theorem ret_int {k : IntKind} {a b : Int} (h : a = b) : Ending.returned (.int k a) = .returned (.int k b) := by rw [h]
theorem ret_bool {a b : Bool} (h : a = b) : Ending.returned (.bool a) = .returned (.bool b) := by rw [h]
theorem m_op (a : Int) (h0 : 0 ≤ a) (h1 : a < 4294967296) (w : World) :
    Calls Tryz.prog 36 #[.int .u32 a] w fun e w' => e = .returned (.int .i64 (fOp a)) ∧ w' = w := by
  go_enter Tryz.func36, Tryz.ntmps36
  go_wp2
  go_ret
  exact ⟨ret_int (by unfold fOp; omega), rfl⟩
theorem m_f3 (a : Int) (h0 : 0 ≤ a) (h1 : a < 4294967296) (w : World) :
    Calls Tryz.prog 107 #[.int .u32 a] w fun e w' => e = .returned (.int .i64 (fF3 a)) ∧ w' = w := by
  go_enter Tryz.func107, Tryz.ntmps107
  go_wp2
  go_ret
  exact ⟨ret_int (by unfold fF3; omega), rfl⟩
theorem m_f5 (a : Int) (h0 : 0 ≤ a) (h1 : a < 4294967296) (w : World) :
    Calls Tryz.prog 108 #[.int .u32 a] w fun e w' => e = .returned (.int .i64 (fF5 a)) ∧ w' = w := by
  go_enter Tryz.func108, Tryz.ntmps108
  go_wp2
  go_ret
  exact ⟨ret_int (by unfold fF5; omega), rfl⟩
theorem m_f6 (a : Int) (h0 : 0 ≤ a) (h1 : a < 4294967296) (w : World) :
    Calls Tryz.prog 117 #[.int .u32 a] w fun e w' => e = .returned (.int .i64 (fF6 a)) ∧ w' = w := by
  go_enter Tryz.func117, Tryz.ntmps117
  go_wp2
  go_ret
  exact ⟨ret_int (by unfold fF6; omega), rfl⟩
theorem m_f7 (a : Int) (h0 : 0 ≤ a) (h1 : a < 4294967296) (w : World) :
    Calls Tryz.prog 118 #[.int .u32 a] w fun e w' => e = .returned (.int .i64 (fF7 a)) ∧ w' = w := by
  go_enter Tryz.func118, Tryz.ntmps118
  go_wp2
  go_ret
  exact ⟨ret_int (by unfold fF7; omega), rfl⟩
theorem m_rd (a : Int) (h0 : 0 ≤ a) (h1 : a < 4294967296) (w : World) :
    Calls Tryz.prog 85 #[.int .u32 a] w fun e w' => e = .returned (.int .i64 (fRd a)) ∧ w' = w := by
  go_enter Tryz.func85, Tryz.ntmps85
  go_wp2
  go_ret
  exact ⟨ret_int (by unfold fRd; omega), rfl⟩
theorem m_rs1 (a : Int) (h0 : 0 ≤ a) (h1 : a < 4294967296) (w : World) :
    Calls Tryz.prog 90 #[.int .u32 a] w fun e w' => e = .returned (.int .i64 (fRs1 a)) ∧ w' = w := by
  go_enter Tryz.func90, Tryz.ntmps90
  go_wp2
  go_ret
  exact ⟨ret_int (by unfold fRs1; omega), rfl⟩
theorem m_rs2 (a : Int) (h0 : 0 ≤ a) (h1 : a < 4294967296) (w : World) :
    Calls Tryz.prog 95 #[.int .u32 a] w fun e w' => e = .returned (.int .i64 (fRs2 a)) ∧ w' = w := by
  go_enter Tryz.func95, Tryz.ntmps95
  go_wp2
  go_ret
  exact ⟨ret_int (by unfold fRs2; omega), rfl⟩
theorem m_none (a : Int) (h0 : 0 ≤ a) (h1 : a < 4294967296) (w : World) :
    Calls Tryz.prog 86 #[.int .u32 a] w fun e w' => e = .returned (.int .i64 0) ∧ w' = w := by
  go_enter Tryz.func86, Tryz.ntmps86
  go_wp2
  go_ret
  exact ⟨rfl, rfl⟩
theorem m_immI (a : Int) (h0 : 0 ≤ a) (h1 : a < 4294967296) (w : World) :
    Calls Tryz.prog 103 #[.int .u32 a] w fun e w' => e = .returned (.int .i64 (iI a)) ∧ w' = w := by
  have hs := s32_b a h0 h1
  have hw := wrap32_s a h0 h1
  go_enter Tryz.func103, Tryz.ntmps103
  go_wp2
  go_ret
  exact ⟨ret_int (by first | rfl | (unfold iI; omega)), rfl⟩
theorem m_immU (a : Int) (h0 : 0 ≤ a) (h1 : a < 4294967296) (w : World) :
    Calls Tryz.prog 87 #[.int .u32 a] w fun e w' => e = .returned (.int .i64 (iU a)) ∧ w' = w := by
  have hs := s32_b a h0 h1
  have hw := wrap32_s a h0 h1
  go_enter Tryz.func87, Tryz.ntmps87
  go_wp2
  go_ret
  exact ⟨ret_int (by first | rfl | (unfold iU; omega)), rfl⟩
theorem m_immS (a : Int) (h0 : 0 ≤ a) (h1 : a < 4294967296) (w : World) :
    Calls Tryz.prog 105 #[.int .u32 a] w fun e w' => e = .returned (.int .i64 (iS a)) ∧ w' = w := by
  have hs := s32_b a h0 h1
  have hw := wrap32_s a h0 h1
  go_enter Tryz.func105, Tryz.ntmps105
  go_wp2
  go_ret
  refine ⟨ret_int ?_, rfl⟩
  rw [or64_5 _ _ (by omega) (by omega) (by omega) (by omega) (by omega)]
  unfold iS; omega
theorem m_immB (a : Int) (h0 : 0 ≤ a) (h1 : a < 4294967296) (w : World) :
    Calls Tryz.prog 104 #[.int .u32 a] w fun e w' => e = .returned (.int .i64 (iB a)) ∧ w' = w := by
  have hs := s32_b a h0 h1
  have hw := wrap32_s a h0 h1
  go_enter Tryz.func104, Tryz.ntmps104
  go_wp2
  go_ret
  refine ⟨ret_int ?_, rfl⟩
  rw [or_B _ _ _ _ (by omega) (by omega) (by omega) (by omega) (by omega) (by omega) (by omega) (by omega) (by omega) (by omega) (by omega)]
  unfold iB; omega
theorem m_immJ (a : Int) (h0 : 0 ≤ a) (h1 : a < 4294967296) (w : World) :
    Calls Tryz.prog 101 #[.int .u32 a] w fun e w' => e = .returned (.int .i64 (iJ a)) ∧ w' = w := by
  have hs := s32_b a h0 h1
  have hw := wrap32_s a h0 h1
  go_enter Tryz.func101, Tryz.ntmps101
  go_wp2
  go_ret
  refine ⟨ret_int ?_, rfl⟩
  rw [or_J _ _ _ _ (by omega) (by omega) (by omega) (by omega) (by omega) (by omega) (by omega) (by omega) (by omega) (by omega) (by omega)]
  unfold iJ; omega
theorem m_shifts (a : Int) (h0 : 0 ≤ a) (h1 : a < 4294967296) (w : World) :
    Calls Tryz.prog 115 #[.int .u32 a] w fun e w' => e = .returned (.bool (shf a)) ∧ w' = w := by
  go_enter Tryz.func115, Tryz.ntmps115
  go_wp2_with (go_at_call 107; refine (m_f3 _ h0 h1 _).mono ?_; rintro e w' ⟨rfl, rfl⟩)
  all_goals
    go_ret
    exact ⟨ret_bool (by simp_all [shf]), rfl⟩
theorem m_operand (a : Int) (h0 : 0 ≤ a) (h1 : a < 4294967296) (w : World) :
    Calls Tryz.prog 91 #[.int .u32 a] w fun e w' => e = .returned (.int .i64 (iOpnd a)) ∧ w' = w := by
  cases hh : shf a
  · have e1 : iOpnd a = iI a := by unfold iOpnd; rw [hh]; rfl
    rw [e1]
    go_enter Tryz.func91, Tryz.ntmps91
    go_wp2_with (first | (go_at_call 115; refine (m_shifts _ h0 h1 _).mono ?_; rintro e w' ⟨rfl, rfl⟩) | (go_at_call 103; refine (m_immI _ h0 h1 _).mono ?_; rintro e w' ⟨rfl, rfl⟩))
    go_ret
    exact ⟨rfl, rfl⟩
  · have e1 : iOpnd a = fSh a := by unfold iOpnd; rw [hh]; rfl
    rw [e1]
    go_enter Tryz.func91, Tryz.ntmps91
    go_wp2_with (first | (go_at_call 115; refine (m_shifts _ h0 h1 _).mono ?_; rintro e w' ⟨rfl, rfl⟩) | (go_at_call 48; go_in))
    go_ret
    exact ⟨ret_int (by unfold fSh; omega), rfl⟩
theorem m_operandW (a : Int) (h0 : 0 ≤ a) (h1 : a < 4294967296) (w : World) :
    Calls Tryz.prog 93 #[.int .u32 a] w fun e w' => e = .returned (.int .i64 (iOpndW a)) ∧ w' = w := by
  cases hh : shf a
  · have e1 : iOpndW a = iI a := by unfold iOpndW; rw [hh]; rfl
    rw [e1]
    go_enter Tryz.func93, Tryz.ntmps93
    go_wp2_with (first | (go_at_call 115; refine (m_shifts _ h0 h1 _).mono ?_; rintro e w' ⟨rfl, rfl⟩) | (go_at_call 103; refine (m_immI _ h0 h1 _).mono ?_; rintro e w' ⟨rfl, rfl⟩))
    go_ret
    exact ⟨rfl, rfl⟩
  · have e1 : iOpndW a = fRs2 a := by unfold iOpndW; rw [hh]; rfl
    rw [e1]
    go_enter Tryz.func93, Tryz.ntmps93
    go_wp2_with (first | (go_at_call 115; refine (m_shifts _ h0 h1 _).mono ?_; rintro e w' ⟨rfl, rfl⟩) | (go_at_call 48; go_in))
    go_ret
    exact ⟨ret_int (by unfold fRs2; omega), rfl⟩
theorem m_csr (a : Int) (h0 : 0 ≤ a) (h1 : a < 4294967296) (w : World) :
    Calls Tryz.prog 99 #[.int .u32 a] w fun e w' => e = .returned (.int .i64 (iCsr a)) ∧ w' = w := by
  by_cases h : fF3 a = 0
  · have e1 : iCsr a = 0 := if_pos h
    rw [e1]
    go_enter Tryz.func99, Tryz.ntmps99
    go_wp2_with (first | (go_at_call 107; refine (m_f3 _ h0 h1 _).mono ?_; rintro e w' ⟨rfl, rfl⟩))
    go_ret
    exact ⟨rfl, rfl⟩
  · have e1 : iCsr a = fCs a := if_neg h
    rw [e1]
    go_enter Tryz.func99, Tryz.ntmps99
    go_wp2_with (first | (go_at_call 107; refine (m_f3 _ h0 h1 _).mono ?_; rintro e w' ⟨rfl, rfl⟩) | (go_at_call 48; go_in))
    go_ret
    exact ⟨ret_int (by unfold fCs; omega), rfl⟩
theorem m_space (a : Int) (h0 : 0 ≤ a) (h1 : a < 4294967296) (w : World) :
    Calls Tryz.prog 98 #[.int .u32 a] w fun e w' => e = .returned (.int .i64 (rSpace a)) ∧ w' = w := by
  by_cases h : fF3 a = 0
  · by_cases h7 : fF7 a = 9
    · have e1 : rSpace a = fRs2 a := if_pos ⟨h, h7⟩
      rw [e1]
      go_enter Tryz.func98, Tryz.ntmps98
      go_wp2_with (first | (go_at_call 107; refine (m_f3 _ h0 h1 _).mono ?_; rintro e w' ⟨rfl, rfl⟩) | (go_at_call 118; refine (m_f7 _ h0 h1 _).mono ?_; rintro e w' ⟨rfl, rfl⟩) | (go_at_call 95; refine (m_rs2 _ h0 h1 _).mono ?_; rintro e w' ⟨rfl, rfl⟩))
      go_ret
      exact ⟨rfl, rfl⟩
    · have e1 : rSpace a = 0 := if_neg (fun x => h7 x.2)
      rw [e1]
      go_enter Tryz.func98, Tryz.ntmps98
      go_wp2_with (first | (go_at_call 107; refine (m_f3 _ h0 h1 _).mono ?_; rintro e w' ⟨rfl, rfl⟩) | (go_at_call 118; refine (m_f7 _ h0 h1 _).mono ?_; rintro e w' ⟨rfl, rfl⟩) | (go_at_call 95; refine (m_rs2 _ h0 h1 _).mono ?_; rintro e w' ⟨rfl, rfl⟩))
      go_ret
      exact ⟨rfl, rfl⟩
  · have e1 : rSpace a = 0 := if_neg (fun x => h x.1)
    rw [e1]
    go_enter Tryz.func98, Tryz.ntmps98
    go_wp2_with (first | (go_at_call 107; refine (m_f3 _ h0 h1 _).mono ?_; rintro e w' ⟨rfl, rfl⟩))
    go_ret
    exact ⟨rfl, rfl⟩
end Go.Proofs.YtioodijiejipiaaGreatDoor
