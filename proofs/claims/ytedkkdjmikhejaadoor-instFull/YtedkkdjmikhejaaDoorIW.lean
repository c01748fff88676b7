/- The answers that the document tells, by name: 'awake' answers true. New blocks alone. -/
import Derived.Test.YtedkkdjmikhejaaDoorID5
namespace Go.Proofs.YtedkkdjmikhejaaDoor
open Go.RowKit
set_option linter.unusedVariables false

theorem aw_D : D 5243027 = (⟨9, 1, 1, 0, 0, 5, 0, false⟩, true) := by kernel_rfl
theorem aw_d : draftF ⟨6, 0, 10, 11, 0, 0, 4, true⟩ = 369923 := by kernel_rfl
theorem s_load (z d r n : Int) (w : World) : Calls Tryd.prog 42 #[.int .i64 z, .int .i64 d, .int .i64 r, .int .i64 n] w fun e w' => e = .returned (I.v ⟨6, 0, d, r, 0, n, z, true⟩) ∧ Below w.heap.size w w' := by
  go_enter Tryd.func42, Tryd.ntmps42
  go_wp2
  exact bodyPost_ret (v := I.v ⟨6, 0, d, r, 0, n, z, true⟩) (by simp [results, Tryd.results42, go_sem]) rfl ⟨rfl, below1 _⟩
set_option maxRecDepth 100000 in
theorem aw_first (w : World) : Calls Tryd.prog 20 #[.int .u16 16776] w fun e w' => e = .returned (.tuple #[I.v ⟨6, 0, 10, 11, 0, 0, 4, true⟩, .bool true]) ∧ Below w.heap.size w w' := by
  have q : bits .or .i64 0 0 = 0 := by decide
  go_enter Tryd.func20, Tryd.ntmps20
  go_wp2_with (first | (go_at_call 42; refine (s_load _ _ _ _ _).mono ?_; rintro e w1 ⟨rfl, hb⟩; obtain ⟨hc1, hf1⟩ := bcell hb) | (go_at_call 37; go_in) | (go_at_call 43; go_in) | (go_at_call 40; go_in) | (go_at_call 44; go_in) | (go_at_call 23; go_in) | (go_at_call 36; go_in))
  exact bodyPost_ret (v := .tuple #[I.v ⟨6, 0, 10, 11, 0, 0, 4, true⟩, .bool true]) (by simp [results, Tryd.results20, go_sem, hc1]) rfl ⟨rfl, below8 (belowA hb) (Nat.le_refl _) _ _ _ _ _ _ _ _⟩
set_option maxRecDepth 100000 in
theorem aw_read (w : World) : Calls Tryd.prog 13 #[.int .u16 16776] w fun e w' => e = .returned (.tuple #[I.v ⟨6, 0, 10, 11, 0, 0, 4, true⟩, .bool true]) ∧ Below w.heap.size w w' := by
  go_enter Tryd.func13, Tryd.ntmps13
  go_wp2_with (first | (go_at_call 20; refine (aw_first _).mono ?_; rintro e w1 ⟨rfl, hb⟩; obtain ⟨hc1, hf1⟩ := bcell hb) | (go_at_call 14; go_in) | (go_at_call 23; go_in) | (go_at_call 36; go_in))
  exact bodyPost_ret (v := .tuple #[I.v ⟨6, 0, 10, 11, 0, 0, 4, true⟩, .bool true]) (by simp [results, Tryd.results13, go_sem, hc1]) rfl ⟨rfl, below8 (belowA hb) (Nat.le_refl _) _ _ _ _ _ _ _ _⟩
theorem aw_Expand (w : World) (hG : G w) : Calls Tryd.prog 9 #[.int .u16 16776] w fun e w' => e = .returned (.tuple #[.int .u32 369923, .bool true]) ∧ Below w.heap.size w w' := by
  have q := aw_d
  go_enter Tryd.func9, Tryd.ntmps9
  go_wp2_with (first | (go_at_call 13; refine (aw_read _).mono ?_; rintro e w1 ⟨rfl, hb⟩) | (go_at_call 11; refine (m_draft ⟨6, 0, 10, 11, 0, 0, 4, true⟩ _ ((hG.below hb).alloc _)).mono ?_; rintro e w2 ⟨rfl, hb2⟩))
  go_ret2
  exact ⟨rfl, belowT hb (belowA hb2)⟩
set_option maxRecDepth 100000 in
theorem m_awake (w : World) (hG : G w) : Calls Tryd.prog 8 #[] w fun e w' => e = .returned (.bool true) ∧ Below w.heap.size w w' := by
  have heq := run_eq8
  have hd := m_Decode 5243027 (by omega) (by omega)
  rw [aw_D] at hd
  have q : eqI ⟨9, 1, 1, 0, 0, 5, 0, false⟩ ⟨9, 1, 1, 0, 0, 5, 0, false⟩ = true := eqI_self _
  go_enter Tryd.func8, Tryd.ntmps8
  go_wp2_with (first | (go_at_call 7; refine (hd _ hG).mono ?_; rintro e w1 ⟨rfl, hb⟩) | (go_at_call 9; refine (aw_Expand _ ((hG.below hb).alloc _)).mono ?_; rintro e w2 ⟨rfl, hb2⟩; obtain ⟨hc2, hf2⟩ := bcell hb2) | (go_at_call 10; go_in) | (go_at_call 14; go_in) | (go_at_call 23; go_in) | (go_at_call 36; go_in))
  go_ret
  exact ⟨rfl, belowT hb (belowA hb2)⟩
end Go.Proofs.YtedkkdjmikhejaaDoor
