/- The answers that the document tells, by name: 'awake' answers true. -/
import Derived.Test.YtdpnojlmiopniabAlu
import Derived.Test.YtdpnojlmiopniabAmo
namespace Go.Proofs.Ytdpnojlmiopniab
open Go.RowKit

theorem aw1 : alu 8 9223372036854775808 63 = 18446744073709551615 := by
  show wSra 9223372036854775808 63 = _
  rw [sra63 _ (by omega) (by omega)]; rfl
theorem aw2 : alu 15 7 0 = 18446744073709551615 := by
  show wDiv 7 0 = _
  unfold wDiv; rw [if_pos rfl]
theorem aw3 : alu 19 2147483647 1 = 18446744071562067968 := by
  show ex (wAdd 2147483647 1) = _
  unfold ex wAdd wrap32; omega
theorem aw4 : amo 7 4 2147483648 1 = 1 := by
  show lo (wMax (ex 2147483648) (ex 1)) = _
  unfold wMax; rw [sg_ex, sg_ex]
  have e : decide (wrap32 2147483648 < wrap32 1) = true := by unfold wrap32; simp
  rw [e]
  show lo (ex 1) = 1
  rw [lo_ex]; unfold lo; omega
theorem m_awake (w : World) :
    Calls Try.prog 9 #[] w fun e w' => e = .returned (.bool true) ∧ w' = w := by
  have q1 := aw1
  have q2 := aw2
  have q3 := aw3
  have q4 := aw4
  go_enter Try.func9, Try.ntmps9
  go_wp2_with (first | (go_at_call 10; refine (m_Alu _ _ _ ?_ ?_ ?_ ?_ _).mono ?_; omega; omega; omega; omega; rintro e w' ⟨rfl, rfl⟩) | (go_at_call 13; refine (m_Amo _ _ _ _ ?_ ?_ ?_ ?_ _).mono ?_; omega; omega; omega; omega; rintro e w' ⟨rfl, rfl⟩))
  go_ret
  exact ⟨rfl, rfl⟩
end Go.Proofs.Ytdpnojlmiopniab
