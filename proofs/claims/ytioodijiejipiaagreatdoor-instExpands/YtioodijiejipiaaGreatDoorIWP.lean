/- The walk of InstExpands: every compressed instruction stands for what the document says. -/
import Derived.Test.YtioodijiejipiaaGreatDoorIL
import Derived.Test.YtioodijiejipiaaGreatDoorRZ
namespace Go.Proofs.YtioodijiejipiaaGreatDoor
open Go.RowKit
set_option linter.unusedVariables false

set_option maxHeartbeats 1000000 in
set_option maxRecDepth 100000 in
theorem pw (c : Int) (h0 : 0 ≤ c) (h1 : c ≤ 65535) (w : World) (hG : G w) :
    Calls Tryz.prog 5 #[.int .u16 c] w fun e w' => e = .returned (.bool true) ∧ Below w.heap.size w w' := by
  have hE := m_Expand c h0 h1
  have hR := r_Expand c h0 h1
  obtain ⟨x, hx⟩ : ∃ x, x = expF c := ⟨_, rfl⟩
  rw [← hx] at hE hR
  clear hx
  obtain ⟨x, b⟩ := x
  go_enter Tryz.func5, Tryz.ntmps5
  go_wp2_with (first | (go_at_call 11; with_reducible refine (hE _ hG).mono ?_; rintro e w1 ⟨rfl, hb⟩) | (go_at_call 12; with_reducible refine (hR _).mono ?_; rintro e w2 ⟨rfl, hb2⟩; have hB2 := belowT hb hb2) | (go_at_call 13; with_reducible refine (m_Size c h0 h1 _).mono ?_; rintro e w0 ⟨rfl, rfl⟩) | (go_at_call 14; with_reducible refine (r_Size c h0 h1 _).mono ?_; rintro e w0 ⟨rfl, rfl⟩) | (go_at_call 8; with_reducible refine (m_awake _ (hG.below hB2)).mono ?_; rintro e w3 ⟨rfl, hb3⟩))
  go_ret
  exact ⟨rfl, belowT hB2 hb3⟩
end Go.Proofs.YtioodijiejipiaaGreatDoor
