/- The walk of InstDecodes: every word is read as the document reads it. -/
import Derived.Test.YtioodijiejipiaaGreatDoorIL
import Derived.Test.YtioodijiejipiaaGreatDoorRJ
namespace Go.Proofs.YtioodijiejipiaaGreatDoor
open Go.RowKit
set_option linter.unusedVariables false

set_option maxHeartbeats 1000000 in
set_option maxRecDepth 100000 in
theorem dw (a : Int) (h0 : 0 ≤ a) (h1 : a ≤ 4294967295) (w : World) (hG : G w) :
    Calls Tryz.prog 3 #[.int .u32 a] w fun e w' => e = .returned (.bool true) ∧ Below w.heap.size w w' := by
  have heq := run_eq8
  have hD := m_Decode a h0 (by omega)
  have hR := r_Decode a h0 (by omega)
  have n5 : eqI ⟨(D a).1.kind, (D a).1.fn, (D a).1.rd, (D a).1.rs1, (D a).1.rs2, (D a).1.imm, (D a).1.size, (D a).1.sg⟩ ⟨(D a).1.kind, (D a).1.fn, (D a).1.rd, (D a).1.rs1, (D a).1.rs2, (D a).1.imm, (D a).1.size, (D a).1.sg⟩ = true := eqI_self (D a).1
  go_enter Tryz.func3, Tryz.ntmps3
  go_wp2_with (first | (go_at_call 6; with_reducible refine (hD _ hG).mono ?_; rintro e w1 ⟨rfl, hb⟩) | (go_at_call 7; with_reducible refine (hR _).mono ?_; rintro e w2 ⟨rfl, hb2⟩; obtain ⟨hc2, hf2⟩ := bcell hb2; have hz2 := belowS hb2; have hB2 := belowT hb (belowA hb2)) | (go_at_call 8; with_reducible refine (m_awake _ ((hG.below hB2).alloc _)).mono ?_; rintro e w3 ⟨rfl, hb3⟩))
  go_ret
  exact ⟨rfl, belowT hB2 (belowA hb3)⟩
end Go.Proofs.YtioodijiejipiaaGreatDoor
