/- What the statements of layer 4 ask of a case, and the answer that they ask for. -/
import Derived.Test.YtieoingbinfdiaaPF
namespace Go.Proofs.Ytieoingbinfdiaa
open Go.RowKit
set_option linter.unusedVariables false

def aw3 : Nat → Int × Int
  | 0 => (512, 2049)
  | 1 => (1024, 3073)
  | _ => (1541, 7383)
theorem gst_awake : gst (rdm 8 (fcl 8 aw3 3)) 1 20771 2 = (28963, 6, 0) := of_decide_eq_true (by kernel_rfl)
theorem cl_awake {ab : Nat} (w : World) (ty : TypeId) (h : w.heap[ab]? = some (.cells #[.int .i64 512, .int .u64 2049, .int .i64 1024, .int .u64 3073, .int .i64 1541, .int .u64 7383] ty (0, 0))) : Cl w (some ⟨ab, 0, none⟩) 3 3 ab 0 aw3 := by
  refine ⟨Nat.le_refl _, by decide, fun _ => ⟨rfl, lt_of_block h⟩, fun i hi => ?_, fun i hi => ?_⟩
  · rcases (show i = 0 ∨ i = 1 ∨ i = 2 by omega) with rfl | rfl | rfl
    · exact ⟨by rw [cell_of_row w ab _ _ _ _ h]; rfl, by rw [cell_of_row w ab _ _ _ _ h]; rfl⟩
    · exact ⟨by rw [cell_of_row w ab _ _ _ _ h]; rfl, by rw [cell_of_row w ab _ _ _ _ h]; rfl⟩
    · exact ⟨by rw [cell_of_row w ab _ _ _ _ h]; rfl, by rw [cell_of_row w ab _ _ _ _ h]; rfl⟩
  · rcases (show i = 0 ∨ i = 1 ∨ i = 2 by omega) with rfl | rfl | rfl
    · exact ⟨⟨by decide, by decide⟩, by decide, by decide⟩
    · exact ⟨⟨by decide, by decide⟩, by decide, by decide⟩
    · exact ⟨⟨by decide, by decide⟩, by decide, by decide⟩
set_option maxRecDepth 100000 in
theorem c_awake4 (w : World) : Calls Try.prog 30 #[] w fun e w' => e = .returned (.bool true) ∧ Below w.heap.size w w' := by
  obtain ⟨wa, hwa⟩ : ∃ wa, wa = w.alloc (.cells #[.int .i64 512, .int .u64 2049, .int .i64 1024, .int .u64 3073, .int .i64 1541, .int .u64 7383] 57) := ⟨_, rfl⟩
  have HA : Hid (Below w.heap.size w wa) := by rw [hwa]; exact (Below.refl _ _).alloc (Nat.le_refl _) _
  have HC : Hid (Cl wa (some ⟨w.heap.size, 0, none⟩) 3 3 w.heap.size 0 aw3) := by
    rw [hwa]; exact cl_awake _ _ (heap_alloc_new w _)
  have HWA := hid hwa
  clear hwa
  go_enter Try.func30, Try.ntmps30
  go_wp2_with (first
    | (go_at_call 28; rw [← HWA.out]; refine (c_Memory wa 8 (by decide) (by decide) _ 3 3 w.heap.size 0 aw3 HC.out).mono ?_; rintro r w1 ⟨p, q, U, rfl, ht, hb, hu⟩; obtain ⟨S, T, h1, h2, h3, h4⟩ := ht; have HM := hid h1; have HB := hid hb; clear h1 h2 h3 h4 hb hu)
    | (go_at_call 43; refine (c_Guest _ S p 8 _ (Mem.below HM.out ((Below.refl _ _).alloc (Nat.le_refl _) _)) 1 20771 2 (by decide) (by decide) (by decide) (by decide) _ _ _ gst_awake).mono ?_; rintro r w2 ⟨rfl, hb2⟩; have HB2 := hid hb2; clear hb2))
  go_ret
  have a1 := HA.out.trans (HB.out.mono HA.out.size)
  exact ⟨rfl, (a1.alloc a1.size _).trans (HB2.out.mono (by have := a1.size; simp; omega))⟩
end Go.Proofs.Ytieoingbinfdiaa
