/- PageStores answers true. -/
import Derived.Test.YtfoafgbhelgjcaaCPSW
namespace Go.Proofs.Ytfoafgbhelgjcaa.C
open Go.RowKit
set_option linter.unusedVariables false
set_option maxRecDepth 100000

theorem w_PageStores (w : World) (ad : Option Addr) (la cap ab ao : Nat) (X : Nat → Int × Int) (hX : Cl w ad la cap ab ao X) (a b : Int) (c d e : Bool) (sa0 : 0 ≤ a) (sa1 : a < 18446744073709551616) (b0 : 0 ≤ b) (b1 : b < 18446744073709551616) (gpa : Int) (g0 : 0 ≤ gpa) (g1 : gpa < 18446744073709551616) :
    Calls Try.prog 14 #[.agg #[.slice ad la cap, .int .u64 a, .int .u64 b, .bool c, .bool d, .bool e], .int .u64 gpa] w fun r w' => r = .returned (.bool true) ∧ Below w.heap.size w w' := by
  obtain ⟨rt, hrt, hr0, hr1, hr2⟩ : ∃ rt : Int, ((b = 0 ∧ rt = 1) ∨ (b ≠ 0 ∧ rt = b)) ∧ rt ≠ 0 ∧ 0 ≤ rt ∧ rt < 18446744073709551616 := by
    by_cases hb : b = 0
    · exact ⟨1, .inl ⟨hb, rfl⟩, by decide, by decide, by decide⟩
    · exact ⟨b, .inr ⟨hb, rfl⟩, hb, b0, b1⟩
  obtain ⟨P, f, hf, hc⟩ := gst_cases (rdm_ok 8 (fcl 8 X la) (fcl_byt 8 X la)) rt gpa hr0 hr1 hr2
  rcases hc with ⟨q3, q2, q1⟩ | ⟨q3, q2, q1⟩ | ⟨q3, q2, q1⟩ | ⟨q3, q2, q1⟩ | ⟨q3, q2, q1⟩ | ⟨q3, q2, q1⟩
  · exact w_PageStores_f w ad la cap ab ao X hX a b rt c d e hrt hr1 hr2 gpa g0 g1 P f (by omega) q3 q2 q1
  · exact w_PageStores_a w ad la cap ab ao X hX a b rt c d e hrt hr1 hr2 gpa g0 g1 P f q3 q2 q1
  · exact w_PageStores_b w ad la cap ab ao X hX a b rt c d e hrt hr1 hr2 gpa g0 g1 P f q3 q2 q1
  · exact w_PageStores_c w ad la cap ab ao X hX a b rt c d e hrt hr1 hr2 gpa g0 g1 P f q3 q2 q1
  · exact w_PageStores_d w ad la cap ab ao X hX a b rt c d e hrt hr1 hr2 gpa g0 g1 P f q3 q2 q1
  · exact w_PageStores_e w ad la cap ab ao X hX a b rt c d e hrt hr1 hr2 gpa g0 g1 P f q3 q2 q1
end Go.Proofs.Ytfoafgbhelgjcaa.C
