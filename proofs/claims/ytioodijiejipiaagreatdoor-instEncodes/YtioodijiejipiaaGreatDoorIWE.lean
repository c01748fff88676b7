/- The walk of InstEncodes: every instruction is written as the document writes it. -/
import Derived.Test.YtioodijiejipiaaGreatDoorIL
import Derived.Test.YtioodijiejipiaaGreatDoorRX
namespace Go.Proofs.YtioodijiejipiaaGreatDoor
open Go.RowKit
set_option linter.unusedVariables false

set_option maxHeartbeats 1000000 in
set_option maxRecDepth 100000 in
theorem ew (i : I) (w : World) (hG : G w) :
    Calls Tryz.prog 4 #[i.v] w fun e w' => e = .returned (.bool true) ∧ Below w.heap.size w w' := by
  have hE := m_Encode i
  have hR := r_Encode i
  obtain ⟨x, hx⟩ : ∃ x, x = encF i := ⟨_, rfl⟩
  rw [← hx] at hE hR
  clear hx
  obtain ⟨x, b⟩ := x
  go_enter Tryz.func4, Tryz.ntmps4
  go_wp2_with (first | (go_at_call 9; with_reducible refine (hE _ (hG.alloc _)).mono ?_; rintro e w1 ⟨rfl, hb⟩; obtain ⟨hc1, hf1⟩ := bcell hb; have hz1 := belowS hb) | (go_at_call 10; with_reducible refine (hR _).mono ?_; rintro e w2 ⟨rfl, hb2⟩; have hB2 := belowT (belowA hb) hb2) | (go_at_call 8; with_reducible refine (m_awake _ (hG.below hB2)).mono ?_; rintro e w3 ⟨rfl, hb3⟩))
  go_ret
  exact ⟨rfl, belowT hB2 hb3⟩
end Go.Proofs.YtioodijiejipiaaGreatDoor
