/- The answers that the document tells, by name: 'awake' answers true. New blocks alone. -/
import Derived.Test.YtioodijiejipiaaGreatDoorID5
namespace Go.Proofs.YtioodijiejipiaaGreatDoor
open Go.RowKit
set_option linter.unusedVariables false

theorem aw_D : D 5243027 = (⟨9, 1, 1, 0, 0, 5, 0, false⟩, true) := by kernel_rfl
theorem aw_d : draftF ⟨6, 0, 10, 11, 0, 0, 4, true⟩ = 369923 := by kernel_rfl
theorem s_load (z d r n : Int) (w : World) : Calls Tryz.prog 64 #[.int .i64 z, .int .i64 d, .int .i64 r, .int .i64 n] w fun e w' => e = .returned (I.v ⟨6, 0, d, r, 0, n, z, true⟩) ∧ Below w.heap.size w w' := by
  go_enter Tryz.func64, Tryz.ntmps64
  go_wp2
  exact bodyPost_ret (v := I.v ⟨6, 0, d, r, 0, n, z, true⟩) (by simp [results, Tryz.results64, go_sem]) rfl ⟨rfl, below1 _⟩
set_option maxRecDepth 100000 in
theorem aw_first (w : World) : Calls Tryz.prog 42 #[.int .u16 16776] w fun e w' => e = .returned (.tuple #[I.v ⟨6, 0, 10, 11, 0, 0, 4, true⟩, .bool true]) ∧ Below w.heap.size w w' := by
  have q : bits .or .i64 0 0 = 0 := by decide
  go_enter Tryz.func42, Tryz.ntmps42
  go_wp2_with (first | (go_at_call 64; refine (s_load _ _ _ _ _).mono ?_; rintro e w1 ⟨rfl, hb⟩; obtain ⟨hc1, hf1⟩ := bcell hb) | (go_at_call 59; go_in) | (go_at_call 65; go_in) | (go_at_call 62; go_in) | (go_at_call 66; go_in) | (go_at_call 45; go_in) | (go_at_call 48; go_in))
  exact bodyPost_ret (v := .tuple #[I.v ⟨6, 0, 10, 11, 0, 0, 4, true⟩, .bool true]) (by simp [results, Tryz.results42, go_sem, hc1]) rfl ⟨rfl, below8 (belowA hb) (Nat.le_refl _) _ _ _ _ _ _ _ _⟩
set_option maxRecDepth 100000 in
theorem aw_read (w : World) : Calls Tryz.prog 28 #[.int .u16 16776] w fun e w' => e = .returned (.tuple #[I.v ⟨6, 0, 10, 11, 0, 0, 4, true⟩, .bool true]) ∧ Below w.heap.size w w' := by
  go_enter Tryz.func28, Tryz.ntmps28
  go_wp2_with (first | (go_at_call 42; refine (aw_first _).mono ?_; rintro e w1 ⟨rfl, hb⟩; obtain ⟨hc1, hf1⟩ := bcell hb) | (go_at_call 34; go_in) | (go_at_call 45; go_in) | (go_at_call 48; go_in))
  exact bodyPost_ret (v := .tuple #[I.v ⟨6, 0, 10, 11, 0, 0, 4, true⟩, .bool true]) (by simp [results, Tryz.results28, go_sem, hc1]) rfl ⟨rfl, below8 (belowA hb) (Nat.le_refl _) _ _ _ _ _ _ _ _⟩
theorem aw_Expand (w : World) (hG : G w) : Calls Tryz.prog 11 #[.int .u16 16776] w fun e w' => e = .returned (.tuple #[.int .u32 369923, .bool true]) ∧ Below w.heap.size w w' := by
  have q := aw_d
  go_enter Tryz.func11, Tryz.ntmps11
  go_wp2_with (first | (go_at_call 28; refine (aw_read _).mono ?_; rintro e w1 ⟨rfl, hb⟩) | (go_at_call 25; refine (m_draft ⟨6, 0, 10, 11, 0, 0, 4, true⟩ _ ((hG.below hb).alloc _)).mono ?_; rintro e w2 ⟨rfl, hb2⟩))
  go_ret2
  exact ⟨rfl, belowT hb (belowA hb2)⟩
set_option maxRecDepth 100000 in
theorem m_awake (w : World) (hG : G w) : Calls Tryz.prog 8 #[] w fun e w' => e = .returned (.bool true) ∧ Below w.heap.size w w' := by
  have heq := run_eq8
  have hd := m_Decode 5243027 (by omega) (by omega)
  rw [aw_D] at hd
  have q : eqI ⟨9, 1, 1, 0, 0, 5, 0, false⟩ ⟨9, 1, 1, 0, 0, 5, 0, false⟩ = true := eqI_self _
  go_enter Tryz.func8, Tryz.ntmps8
  go_wp2_with (first | (go_at_call 6; refine (hd _ hG).mono ?_; rintro e w1 ⟨rfl, hb⟩) | (go_at_call 11; refine (aw_Expand _ ((hG.below hb).alloc _)).mono ?_; rintro e w2 ⟨rfl, hb2⟩; obtain ⟨hc2, hf2⟩ := bcell hb2) | (go_at_call 13; go_in) | (go_at_call 34; go_in) | (go_at_call 45; go_in) | (go_at_call 48; go_in))
  go_ret
  exact ⟨rfl, belowT hb (belowA hb2)⟩
end Go.Proofs.YtioodijiejipiaaGreatDoor
