/- What each field of a word is: one contract a method; the world stands. -/
import Derived.Test.YtedkkdjmikhejaaDoorRows
import Derived.Test.YtedkkdjmikhejaaDoorIM
import Derived.WalkKit
import Derived.ProofKit
import Derived.Outline
namespace Go.Proofs.YtedkkdjmikhejaaDoor
open Go.RowKit
set_option linter.unusedVariables false

theorem ret_int {k : IntKind} {a b : Int} (h : a = b) : Ending.returned (.int k a) = .returned (.int k b) := by rw [h]
theorem ret_bool {a b : Bool} (h : a = b) : Ending.returned (.bool a) = .returned (.bool b) := by rw [h]
theorem m_op (a : Int) (h0 : 0 ≤ a) (h1 : a < 4294967296) (w : World) :
    Calls Tryd.prog 19 #[.int .u32 a] w fun e w' => e = .returned (.int .i64 (fOp a)) ∧ w' = w := by
  go_enter Tryd.func19, Tryd.ntmps19
  go_wp2
  go_ret
  exact ⟨ret_int (by unfold fOp; omega), rfl⟩
theorem m_f3 (a : Int) (h0 : 0 ≤ a) (h1 : a < 4294967296) (w : World) :
    Calls Tryd.prog 62 #[.int .u32 a] w fun e w' => e = .returned (.int .i64 (fF3 a)) ∧ w' = w := by
  go_enter Tryd.func62, Tryd.ntmps62
  go_wp2
  go_ret
  exact ⟨ret_int (by unfold fF3; omega), rfl⟩
theorem m_f5 (a : Int) (h0 : 0 ≤ a) (h1 : a < 4294967296) (w : World) :
    Calls Tryd.prog 67 #[.int .u32 a] w fun e w' => e = .returned (.int .i64 (fF5 a)) ∧ w' = w := by
  go_enter Tryd.func67, Tryd.ntmps67
  go_wp2
  go_ret
  exact ⟨ret_int (by unfold fF5; omega), rfl⟩
theorem m_f6 (a : Int) (h0 : 0 ≤ a) (h1 : a < 4294967296) (w : World) :
    Calls Tryd.prog 95 #[.int .u32 a] w fun e w' => e = .returned (.int .i64 (fF6 a)) ∧ w' = w := by
  go_enter Tryd.func95, Tryd.ntmps95
  go_wp2
  go_ret
  exact ⟨ret_int (by unfold fF6; omega), rfl⟩
theorem m_f7 (a : Int) (h0 : 0 ≤ a) (h1 : a < 4294967296) (w : World) :
    Calls Tryd.prog 93 #[.int .u32 a] w fun e w' => e = .returned (.int .i64 (fF7 a)) ∧ w' = w := by
  go_enter Tryd.func93, Tryd.ntmps93
  go_wp2
  go_ret
  exact ⟨ret_int (by unfold fF7; omega), rfl⟩
theorem m_rd (a : Int) (h0 : 0 ≤ a) (h1 : a < 4294967296) (w : World) :
    Calls Tryd.prog 71 #[.int .u32 a] w fun e w' => e = .returned (.int .i64 (fRd a)) ∧ w' = w := by
  go_enter Tryd.func71, Tryd.ntmps71
  go_wp2
  go_ret
  exact ⟨ret_int (by unfold fRd; omega), rfl⟩
theorem m_rs1 (a : Int) (h0 : 0 ≤ a) (h1 : a < 4294967296) (w : World) :
    Calls Tryd.prog 75 #[.int .u32 a] w fun e w' => e = .returned (.int .i64 (fRs1 a)) ∧ w' = w := by
  go_enter Tryd.func75, Tryd.ntmps75
  go_wp2
  go_ret
  exact ⟨ret_int (by unfold fRs1; omega), rfl⟩
theorem m_rs2 (a : Int) (h0 : 0 ≤ a) (h1 : a < 4294967296) (w : World) :
    Calls Tryd.prog 68 #[.int .u32 a] w fun e w' => e = .returned (.int .i64 (fRs2 a)) ∧ w' = w := by
  go_enter Tryd.func68, Tryd.ntmps68
  go_wp2
  go_ret
  exact ⟨ret_int (by unfold fRs2; omega), rfl⟩
theorem m_none (a : Int) (h0 : 0 ≤ a) (h1 : a < 4294967296) (w : World) :
    Calls Tryd.prog 72 #[.int .u32 a] w fun e w' => e = .returned (.int .i64 0) ∧ w' = w := by
  go_enter Tryd.func72, Tryd.ntmps72
  go_wp2
  go_ret
  exact ⟨rfl, rfl⟩
theorem m_immI (a : Int) (h0 : 0 ≤ a) (h1 : a < 4294967296) (w : World) :
    Calls Tryd.prog 83 #[.int .u32 a] w fun e w' => e = .returned (.int .i64 (iI a)) ∧ w' = w := by
  have hs := s32_b a h0 h1
  have hw := wrap32_s a h0 h1
  go_enter Tryd.func83, Tryd.ntmps83
  go_wp2
  go_ret
  exact ⟨ret_int (by first | rfl | (unfold iI; omega)), rfl⟩
theorem m_immU (a : Int) (h0 : 0 ≤ a) (h1 : a < 4294967296) (w : World) :
    Calls Tryd.prog 73 #[.int .u32 a] w fun e w' => e = .returned (.int .i64 (iU a)) ∧ w' = w := by
  have hs := s32_b a h0 h1
  have hw := wrap32_s a h0 h1
  go_enter Tryd.func73, Tryd.ntmps73
  go_wp2
  go_ret
  exact ⟨ret_int (by first | rfl | (unfold iU; omega)), rfl⟩
theorem m_immS (a : Int) (h0 : 0 ≤ a) (h1 : a < 4294967296) (w : World) :
    Calls Tryd.prog 85 #[.int .u32 a] w fun e w' => e = .returned (.int .i64 (iS a)) ∧ w' = w := by
  have hs := s32_b a h0 h1
  have hw := wrap32_s a h0 h1
  go_enter Tryd.func85, Tryd.ntmps85
  go_wp2
  go_ret
  refine ⟨ret_int ?_, rfl⟩
  rw [or64_5 _ _ (by omega) (by omega) (by omega) (by omega) (by omega)]
  unfold iS; omega
theorem m_immB (a : Int) (h0 : 0 ≤ a) (h1 : a < 4294967296) (w : World) :
    Calls Tryd.prog 84 #[.int .u32 a] w fun e w' => e = .returned (.int .i64 (iB a)) ∧ w' = w := by
  have hs := s32_b a h0 h1
  have hw := wrap32_s a h0 h1
  go_enter Tryd.func84, Tryd.ntmps84
  go_wp2
  go_ret
  refine ⟨ret_int ?_, rfl⟩
  rw [or_B _ _ _ _ (by omega) (by omega) (by omega) (by omega) (by omega) (by omega) (by omega) (by omega) (by omega) (by omega) (by omega)]
  unfold iB; omega
theorem m_immJ (a : Int) (h0 : 0 ≤ a) (h1 : a < 4294967296) (w : World) :
    Calls Tryd.prog 81 #[.int .u32 a] w fun e w' => e = .returned (.int .i64 (iJ a)) ∧ w' = w := by
  have hs := s32_b a h0 h1
  have hw := wrap32_s a h0 h1
  go_enter Tryd.func81, Tryd.ntmps81
  go_wp2
  go_ret
  refine ⟨ret_int ?_, rfl⟩
  rw [or_J _ _ _ _ (by omega) (by omega) (by omega) (by omega) (by omega) (by omega) (by omega) (by omega) (by omega) (by omega) (by omega)]
  unfold iJ; omega
theorem m_shifts (a : Int) (h0 : 0 ≤ a) (h1 : a < 4294967296) (w : World) :
    Calls Tryd.prog 94 #[.int .u32 a] w fun e w' => e = .returned (.bool (shf a)) ∧ w' = w := by
  go_enter Tryd.func94, Tryd.ntmps94
  go_wp2_with (go_at_call 62; refine (m_f3 _ h0 h1 _).mono ?_; rintro e w' ⟨rfl, rfl⟩)
  all_goals
    go_ret
    exact ⟨ret_bool (by simp_all [shf]), rfl⟩
theorem m_operand (a : Int) (h0 : 0 ≤ a) (h1 : a < 4294967296) (w : World) :
    Calls Tryd.prog 76 #[.int .u32 a] w fun e w' => e = .returned (.int .i64 (iOpnd a)) ∧ w' = w := by
  cases hh : shf a
  · have e1 : iOpnd a = iI a := by unfold iOpnd; rw [hh]; rfl
    rw [e1]
    go_enter Tryd.func76, Tryd.ntmps76
    go_wp2_with (first | (go_at_call 94; refine (m_shifts _ h0 h1 _).mono ?_; rintro e w' ⟨rfl, rfl⟩) | (go_at_call 83; refine (m_immI _ h0 h1 _).mono ?_; rintro e w' ⟨rfl, rfl⟩))
    go_ret
    exact ⟨rfl, rfl⟩
  · have e1 : iOpnd a = fSh a := by unfold iOpnd; rw [hh]; rfl
    rw [e1]
    go_enter Tryd.func76, Tryd.ntmps76
    go_wp2_with (first | (go_at_call 94; refine (m_shifts _ h0 h1 _).mono ?_; rintro e w' ⟨rfl, rfl⟩) | (go_at_call 36; go_in))
    go_ret
    exact ⟨ret_int (by unfold fSh; omega), rfl⟩
theorem m_operandW (a : Int) (h0 : 0 ≤ a) (h1 : a < 4294967296) (w : World) :
    Calls Tryd.prog 77 #[.int .u32 a] w fun e w' => e = .returned (.int .i64 (iOpndW a)) ∧ w' = w := by
  cases hh : shf a
  · have e1 : iOpndW a = iI a := by unfold iOpndW; rw [hh]; rfl
    rw [e1]
    go_enter Tryd.func77, Tryd.ntmps77
    go_wp2_with (first | (go_at_call 94; refine (m_shifts _ h0 h1 _).mono ?_; rintro e w' ⟨rfl, rfl⟩) | (go_at_call 83; refine (m_immI _ h0 h1 _).mono ?_; rintro e w' ⟨rfl, rfl⟩))
    go_ret
    exact ⟨rfl, rfl⟩
  · have e1 : iOpndW a = fRs2 a := by unfold iOpndW; rw [hh]; rfl
    rw [e1]
    go_enter Tryd.func77, Tryd.ntmps77
    go_wp2_with (first | (go_at_call 94; refine (m_shifts _ h0 h1 _).mono ?_; rintro e w' ⟨rfl, rfl⟩) | (go_at_call 36; go_in))
    go_ret
    exact ⟨ret_int (by unfold fRs2; omega), rfl⟩
theorem m_csr (a : Int) (h0 : 0 ≤ a) (h1 : a < 4294967296) (w : World) :
    Calls Tryd.prog 79 #[.int .u32 a] w fun e w' => e = .returned (.int .i64 (iCsr a)) ∧ w' = w := by
  by_cases h : fF3 a = 0
  · have e1 : iCsr a = 0 := if_pos h
    rw [e1]
    go_enter Tryd.func79, Tryd.ntmps79
    go_wp2_with (first | (go_at_call 62; refine (m_f3 _ h0 h1 _).mono ?_; rintro e w' ⟨rfl, rfl⟩))
    go_ret
    exact ⟨rfl, rfl⟩
  · have e1 : iCsr a = fCs a := if_neg h
    rw [e1]
    go_enter Tryd.func79, Tryd.ntmps79
    go_wp2_with (first | (go_at_call 62; refine (m_f3 _ h0 h1 _).mono ?_; rintro e w' ⟨rfl, rfl⟩) | (go_at_call 36; go_in))
    go_ret
    exact ⟨ret_int (by unfold fCs; omega), rfl⟩
theorem m_space (a : Int) (h0 : 0 ≤ a) (h1 : a < 4294967296) (w : World) :
    Calls Tryd.prog 78 #[.int .u32 a] w fun e w' => e = .returned (.int .i64 (rSpace a)) ∧ w' = w := by
  by_cases h : fF3 a = 0
  · by_cases h7 : fF7 a = 9
    · have e1 : rSpace a = fRs2 a := if_pos ⟨h, h7⟩
      rw [e1]
      go_enter Tryd.func78, Tryd.ntmps78
      go_wp2_with (first | (go_at_call 62; refine (m_f3 _ h0 h1 _).mono ?_; rintro e w' ⟨rfl, rfl⟩) | (go_at_call 93; refine (m_f7 _ h0 h1 _).mono ?_; rintro e w' ⟨rfl, rfl⟩) | (go_at_call 68; refine (m_rs2 _ h0 h1 _).mono ?_; rintro e w' ⟨rfl, rfl⟩))
      go_ret
      exact ⟨rfl, rfl⟩
    · have e1 : rSpace a = 0 := if_neg (fun x => h7 x.2)
      rw [e1]
      go_enter Tryd.func78, Tryd.ntmps78
      go_wp2_with (first | (go_at_call 62; refine (m_f3 _ h0 h1 _).mono ?_; rintro e w' ⟨rfl, rfl⟩) | (go_at_call 93; refine (m_f7 _ h0 h1 _).mono ?_; rintro e w' ⟨rfl, rfl⟩) | (go_at_call 68; refine (m_rs2 _ h0 h1 _).mono ?_; rintro e w' ⟨rfl, rfl⟩))
      go_ret
      exact ⟨rfl, rfl⟩
  · have e1 : rSpace a = 0 := if_neg (fun x => h x.1)
    rw [e1]
    go_enter Tryd.func78, Tryd.ntmps78
    go_wp2_with (first | (go_at_call 62; refine (m_f3 _ h0 h1 _).mono ?_; rintro e w' ⟨rfl, rfl⟩))
    go_ret
    exact ⟨rfl, rfl⟩
end Go.Proofs.YtedkkdjmikhejaaDoor
