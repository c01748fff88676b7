/- The walk of InstFull: what a compressed instruction stands for is an instruction of 4 bytes that is one. -/
import Derived.Test.YtedkkdjmikhejaaDoorIL
import Derived.Test.YtedkkdjmikhejaaDoorIMX
namespace Go.Proofs.YtedkkdjmikhejaaDoor
open Go.RowKit
set_option linter.unusedVariables false

set_option maxHeartbeats 1000000 in
set_option maxRecDepth 100000 in
theorem xw_0 (c : Int) (h0 : 0 ≤ c) (h1 : c ≤ 65535) (w : World) (hG : G w) (hk : (X c).2 = false) :
    Calls Tryd.prog 4 #[.int .u16 c] w fun e w' => e = .returned (.bool true) ∧ Below w.heap.size w w' := by
  have hE := fun w => m_Expand c h0 h1 w
  rw [show expF c = (0, false) from if_neg (by rw [hk]; simp)] at hE
  go_enter Tryd.func4, Tryd.ntmps4
  go_wp2_with (first | (go_at_call 9; refine (hE _ hG).mono ?_; rintro e w1 ⟨rfl, hb⟩) | (go_at_call 8; refine (m_awake _ (hG.below hb)).mono ?_; rintro e w2 ⟨rfl, hb2⟩))
  go_ret
  exact ⟨rfl, belowT hb hb2⟩
set_option maxHeartbeats 1000000 in
set_option maxRecDepth 100000 in
theorem xw_1 (c : Int) (h0 : 0 ≤ c) (h1 : c ≤ 65535) (w : World) (hG : G w) (hk : (X c).2 = true) :
    Calls Tryd.prog 4 #[.int .u16 c] w fun e w' => e = .returned (.bool true) ∧ Below w.heap.size w w' := by
  obtain ⟨d0, d1⟩ := draftF_b (X c).1
  obtain ⟨r, hq⟩ := full c hk
  have hd := r.draft
  have he : encF (X c).1 = (draftF (X c).1, true) := by
    unfold encF
    rw [if_pos (by rw [hd]; exact ⟨rfl, eqI_self _⟩)]
  have hE := fun w => m_Expand c h0 h1 w
  rw [show expF c = (draftF (X c).1, true) from if_pos hk] at hE
  have hD := m_Decode (draftF (X c).1) d0 d1
  rw [hd] at hD
  have hC := m_Encode (X c).1
  rw [he] at hC
  have z1 : szF c = 2 := if_neg hq
  have lo := D_low (draftF (X c).1) d0 (by rw [hd])
  have z2 : szF (draftF (X c).1 % 65536) = 4 := if_pos lo
  have l0 : 0 ≤ draftF (X c).1 % 65536 := by omega
  have l1 : draftF (X c).1 % 65536 ≤ 65535 := by omega
  clear hd he r hq lo hk
  have hw := IntKind.wrap_u16 (draftF (X c).1)
  go_enter Tryd.func4, Tryd.ntmps4
  go_wp2_with (first | (go_at_call 9; with_reducible refine (hE _ hG).mono ?_; rintro e w1 ⟨rfl, hb⟩) | (go_at_call 7; with_reducible refine (hD _ (hG.below hb)).mono ?_; rintro e w2 ⟨rfl, hb2⟩; have hB2 := belowT hb hb2) | (go_at_call 6; with_reducible refine (hC _ ((hG.below hB2).alloc _)).mono ?_; rintro e w3 ⟨rfl, hb3⟩; have hB3 := belowT hB2 (belowA hb3)) | (go_at_call 10; with_reducible refine (m_Size _ ?_ ?_ _).mono ?_; (first | exact h0 | exact l0); (first | exact h1 | exact l1); rintro e w' ⟨rfl, rfl⟩) | (go_at_call 8; with_reducible refine (m_awake _ (hG.below hB3)).mono ?_; rintro e w4 ⟨rfl, hb4⟩))
  go_ret
  exact ⟨rfl, belowT hB3 hb4⟩
theorem xw (c : Int) (h0 : 0 ≤ c) (h1 : c ≤ 65535) (w : World) (hG : G w) :
    Calls Tryd.prog 4 #[.int .u16 c] w fun e w' => e = .returned (.bool true) ∧ Below w.heap.size w w' := by
  cases hk : (X c).2
  · exact xw_0 c h0 h1 w hG hk
  · exact xw_1 c h0 h1 w hG hk
end Go.Proofs.YtedkkdjmikhejaaDoor
