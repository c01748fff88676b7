/- The answer that layer 3 is asked for. -/
import Derived.Test.YtioodijiejipiaaRY
namespace Go.Proofs.Ytioodijiejipiaa
open Go.RowKit
set_option linter.unusedVariables false

theorem nu_awake : nu (fun j => put (fun _ => 0) 0 8 (byt 72623859790382856) (1 + j)) 2 = 1543 := by decide
theorem c_awake (w : World) : Calls Try.prog 7 #[] w fun e w' => e = .returned (.bool true) ∧ Below w.heap.size w w' := by
  have hA := nu_awake
  go_enter Try.func7, Try.ntmps7
  go_wp2_with (first
    | (go_at_call 5; refine (c_New w 4096 1 (by decide) (by decide) (by decide) (by decide) (by decide)).mono ?_; rintro e w1 ⟨p, S, rfl, hm, hb, hS⟩; have HM := hid (hm); have HB := hid (hb); have HS := hid (hS); clear hm hb hS)
    | (go_at_call 13; refine (c_Write w1 S p 4096 1 _ HM.out 0 8 (by decide) (by decide) _ rfl 72623859790382856 (by decide) (by decide)).mono ?_; rintro e w2 ⟨S', rfl, hm2, ho2, hS2⟩; have HM2 := hid (hm2); have HO2 := hid (ho2); clear hm2 ho2 hS2)
    | (go_at_call 15; refine (c_Read w2 S' p 4096 1 _ HM2.out 1 2 (by decide) (by decide) _ rfl).mono ?_; rintro e w3 ⟨rfl, hb3⟩; rw [hA]; have HB3 := hid (hb3); clear hb3))
  go_ret
  exact ⟨rfl, (HB.out.trans (HO2.out.below _ HB.out.size HS.out)).trans (HB3.out.mono (Nat.le_trans HB.out.size HO2.out.size))⟩
end Go.Proofs.Ytioodijiejipiaa
