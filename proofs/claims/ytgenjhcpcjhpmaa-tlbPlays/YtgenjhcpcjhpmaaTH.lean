/- awake. -/
import Derived.Test.YtgenjhcpcjhpmaaTG
namespace Go.Proofs.Ytgenjhcpcjhpmaa
open Go.RowKit
set_option linter.unusedVariables false

def xa : TV := ⟨1, 5, 9, 2⟩
theorem pu_xa : pu 2 [] xa = [xa] := rfl
theorem lk_xa : lk [xa] 1 5 = (xa, true) := by rfl
set_option maxHeartbeats 1000000 in
theorem c_awake (w : World) : Calls Try.prog 8 #[] w fun e w' => e = .returned (.bool true) ∧ Below w.heap.size w w' := by
  have heq := run_eqT xa
  go_enter Try.func8, Try.ntmps8
  go_wp2_with (first
    | (go_at_call 6; refine (c_New _ 2 (by decide) (by decide) 2 rfl).mono ?_; rintro e w1 ⟨p, g, rfl, hm, hb, hf⟩; have HM1 := hid hm; have HB1 := hid hb; have HF1 := hid hf; have hpl := hm.lt (.inl rfl); have hgl := hm.lt (.inr rfl); clear hm hb hf)
    | (go_at_call 10; refine (c_Put _ p g 2 [] (TM.below HM1.out ((Below.refl _ _).alloc (Nat.le_refl _) _)) xa).mono ?_; rintro e w2 ⟨rfl, hm, ho⟩; rw [pu_xa] at hm; have HM2 := hid hm; have HO2 := hid ho; have HX := hid (ho.rw (show Rw (w1.alloc (.cells #[.int .i64 1, .int .u64 5, .int .u64 9, .int .i64 2] 33)) w1.heap.size [xa] from heap_alloc_new w1 _) (by rintro (q | q) <;> omega)); clear hm ho)
    | (go_at_call 12; refine (c_Look _ p g 2 [xa] HM2.out 1 5).mono ?_; rintro e w3 ⟨rfl, hb⟩; rw [lk_xa]; have HB3 := hid hb; have HX3 := hid (HX.out.below hb); have hxl := HX3.out.lt; obtain ⟨x0, x1, x2, x3⟩ := cells1 HX3.out; clear hb))
  go_ret
  have q1 := HB1.out.size
  have q2 := HO2.out.size
  simp at q2
  refine ⟨rfl, ?_⟩
  have b1 : Below w.heap.size w w2 := (HB1.out.alloc HB1.out.size _).trans (HO2.out.below _ (by simp; omega) (fun k hk => HF1.out k hk))
  exact (b1.trans (HB3.out.mono b1.size)).alloc (Nat.le_trans b1.size HB3.out.size) _
end Go.Proofs.Ytgenjhcpcjhpmaa
