/- What Encode answers, for every instruction: the base of every kind. New blocks alone. -/
import Derived.Test.YtioodijiejipiaaGreatDoorID3
namespace Go.Proofs.YtioodijiejipiaaGreatDoor
open Go.RowKit
set_option linter.unusedVariables false

theorem systemBase_10 (fn rd r1 r2 im sz : Int) (sg : Bool) (w : World) (hG : G w) : Calls Tryz.prog 57 #[I.v ⟨10, fn, rd, r1, r2, im, sz, sg⟩] w fun e w' => e = .returned (.int .u32 15) ∧ Below w.heap.size w w' := by
  go_enter Tryz.func57, Tryz.ntmps57
  go_wp2
  go_ret
  exact ⟨rfl, below1 _⟩
theorem systemBase_11 (fn rd r1 r2 im sz : Int) (sg : Bool) (w : World) (hG : G w) : Calls Tryz.prog 57 #[I.v ⟨11, fn, rd, r1, r2, im, sz, sg⟩] w fun e w' => e = .returned (.int .u32 115) ∧ Below w.heap.size w w' := by
  go_enter Tryz.func57, Tryz.ntmps57
  go_wp2
  go_ret
  exact ⟨rfl, below1 _⟩
theorem systemBase_12 (fn rd r1 r2 im sz : Int) (sg : Bool) (w : World) (hG : G w) : Calls Tryz.prog 57 #[I.v ⟨12, fn, rd, r1, r2, im, sz, sg⟩] w fun e w' => e = .returned (.int .u32 1048691) ∧ Below w.heap.size w w' := by
  go_enter Tryz.func57, Tryz.ntmps57
  go_wp2
  go_ret
  exact ⟨rfl, below1 _⟩
theorem systemBase_18 (fn rd r1 r2 im sz : Int) (sg : Bool) (w : World) (hG : G w) : Calls Tryz.prog 57 #[I.v ⟨18, fn, rd, r1, r2, im, sz, sg⟩] w fun e w' => e = .returned (.int .u32 270532723) ∧ Below w.heap.size w w' := by
  go_enter Tryz.func57, Tryz.ntmps57
  go_wp2
  go_ret
  exact ⟨rfl, below1 _⟩
theorem systemBase_19 (fn rd r1 r2 im sz : Int) (sg : Bool) (w : World) (hG : G w) : Calls Tryz.prog 57 #[I.v ⟨19, fn, rd, r1, r2, im, sz, sg⟩] w fun e w' => e = .returned (.int .u32 273678451) ∧ Below w.heap.size w w' := by
  go_enter Tryz.func57, Tryz.ntmps57
  go_wp2
  go_ret
  exact ⟨rfl, below1 _⟩
theorem systemBase_20 (fn rd r1 r2 im sz : Int) (sg : Bool) (w : World) (hG : G w) : Calls Tryz.prog 57 #[I.v ⟨20, fn, rd, r1, r2, im, sz, sg⟩] w fun e w' => e = .returned (.int .u32 301990003) ∧ Below w.heap.size w w' := by
  go_enter Tryz.func57, Tryz.ntmps57
  go_wp2
  go_ret
  exact ⟨rfl, below1 _⟩
theorem systemBase_13 (fn rd r1 r2 im sz : Int) (sg : Bool) (w : World) (hG : G w) : Calls Tryz.prog 57 #[I.v ⟨13, fn, rd, r1, r2, im, sz, sg⟩] w fun e w' => e = .returned (.int .u32 (namedF nSys 115 ⟨13, fn, rd, r1, r2, im, sz, sg⟩)) ∧ Below w.heap.size w w' := by
  go_enter Tryz.func57, Tryz.ntmps57
  go_wp2_with (go_at_call 49; with_reducible refine (m_named 97 nSys _ ⟨13, fn, rd, r1, r2, im, sz, sg⟩ _ (hG.alloc _) Tryz.call97 (fun a x y => n_system a x y)).mono ?_; rintro e w1 ⟨rfl, hb⟩)
  go_ret
  exact ⟨rfl, belowA hb⟩
theorem systemBase_14 (fn rd r1 r2 im sz : Int) (sg : Bool) (w : World) (hG : G w) : Calls Tryz.prog 57 #[I.v ⟨14, fn, rd, r1, r2, im, sz, sg⟩] w fun e w' => e = .returned (.int .u32 (namedF nSys 115 ⟨14, fn, rd, r1, r2, im, sz, sg⟩)) ∧ Below w.heap.size w w' := by
  go_enter Tryz.func57, Tryz.ntmps57
  go_wp2_with (go_at_call 49; with_reducible refine (m_named 97 nSys _ ⟨14, fn, rd, r1, r2, im, sz, sg⟩ _ (hG.alloc _) Tryz.call97 (fun a x y => n_system a x y)).mono ?_; rintro e w1 ⟨rfl, hb⟩)
  go_ret
  exact ⟨rfl, belowA hb⟩
theorem systemBase_else (k : Int) (fn rd r1 r2 im sz : Int) (sg : Bool) (w : World) (hG : G w) (h10 : k ≠ 10) (h11 : k ≠ 11) (h12 : k ≠ 12) (h18 : k ≠ 18) (h19 : k ≠ 19) (h20 : k ≠ 20) (h13 : k ≠ 13) (h14 : k ≠ 14) : Calls Tryz.prog 57 #[I.v ⟨k, fn, rd, r1, r2, im, sz, sg⟩] w fun e w' => e = .returned (.int .u32 0) ∧ Below w.heap.size w w' := by
  go_enter Tryz.func57, Tryz.ntmps57
  go_wp2
  go_ret
  exact ⟨rfl, below1 _⟩
theorem m_systemBase (i : I) (w : World) (hG : G w) : Calls Tryz.prog 57 #[i.v] w fun e w' => e = .returned (.int .u32 (sysF i)) ∧ Below w.heap.size w w' := by
  obtain ⟨k, fn, rd, r1, r2, im, sz, sg⟩ := i
  unfold sysF
  by_cases h10 : k = 10
  · subst h10; exact systemBase_10 fn rd r1 r2 im sz sg w hG
  simp only [if_neg h10]
  by_cases h11 : k = 11
  · subst h11; exact systemBase_11 fn rd r1 r2 im sz sg w hG
  simp only [if_neg h11]
  by_cases h12 : k = 12
  · subst h12; exact systemBase_12 fn rd r1 r2 im sz sg w hG
  simp only [if_neg h12]
  by_cases h18 : k = 18
  · subst h18; exact systemBase_18 fn rd r1 r2 im sz sg w hG
  simp only [if_neg h18]
  by_cases h19 : k = 19
  · subst h19; exact systemBase_19 fn rd r1 r2 im sz sg w hG
  simp only [if_neg h19]
  by_cases h20 : k = 20
  · subst h20; exact systemBase_20 fn rd r1 r2 im sz sg w hG
  simp only [if_neg h20]
  by_cases h13 : k = 13
  · subst h13; exact systemBase_13 fn rd r1 r2 im sz sg w hG
  by_cases h14 : k = 14
  · subst h14; exact systemBase_14 fn rd r1 r2 im sz sg w hG
  simp only [h13, h14, or_self, if_false]
  exact systemBase_else k fn rd r1 r2 im sz sg w hG h10 h11 h12 h18 h19 h20 h13 h14
theorem base_1 (fn rd r1 r2 im sz : Int) (sg : Bool) (w : World) (hG : G w) : Calls Tryz.prog 37 #[I.v ⟨1, fn, rd, r1, r2, im, sz, sg⟩] w fun e w' => e = .returned (.int .u32 55) ∧ Below w.heap.size w w' := by
  go_enter Tryz.func37, Tryz.ntmps37
  go_wp2
  go_ret
  exact ⟨rfl, below1 _⟩
theorem base_2 (fn rd r1 r2 im sz : Int) (sg : Bool) (w : World) (hG : G w) : Calls Tryz.prog 37 #[I.v ⟨2, fn, rd, r1, r2, im, sz, sg⟩] w fun e w' => e = .returned (.int .u32 23) ∧ Below w.heap.size w w' := by
  go_enter Tryz.func37, Tryz.ntmps37
  go_wp2
  go_ret
  exact ⟨rfl, below1 _⟩
theorem base_3 (fn rd r1 r2 im sz : Int) (sg : Bool) (w : World) (hG : G w) : Calls Tryz.prog 37 #[I.v ⟨3, fn, rd, r1, r2, im, sz, sg⟩] w fun e w' => e = .returned (.int .u32 111) ∧ Below w.heap.size w w' := by
  go_enter Tryz.func37, Tryz.ntmps37
  go_wp2
  go_ret
  exact ⟨rfl, below1 _⟩
theorem base_4 (fn rd r1 r2 im sz : Int) (sg : Bool) (w : World) (hG : G w) : Calls Tryz.prog 37 #[I.v ⟨4, fn, rd, r1, r2, im, sz, sg⟩] w fun e w' => e = .returned (.int .u32 103) ∧ Below w.heap.size w w' := by
  go_enter Tryz.func37, Tryz.ntmps37
  go_wp2
  go_ret
  exact ⟨rfl, below1 _⟩
theorem base_5 (fn rd r1 r2 im sz : Int) (sg : Bool) (w : World) (hG : G w) : Calls Tryz.prog 37 #[I.v ⟨5, fn, rd, r1, r2, im, sz, sg⟩] w fun e w' => e = .returned (.int .u32 (namedF nBranch 99 ⟨5, fn, rd, r1, r2, im, sz, sg⟩)) ∧ Below w.heap.size w w' := by
  go_enter Tryz.func37, Tryz.ntmps37
  go_wp2_with (go_at_call 49; with_reducible refine (m_named 50 nBranch _ ⟨5, fn, rd, r1, r2, im, sz, sg⟩ _ (hG.alloc _) Tryz.call50 (fun a x y => n_branch a x y)).mono ?_; rintro e w1 ⟨rfl, hb⟩)
  go_ret
  exact ⟨rfl, belowA hb⟩
theorem base_6 (fn rd r1 r2 im sz : Int) (sg : Bool) (w : World) (hG : G w) : Calls Tryz.prog 37 #[I.v ⟨6, fn, rd, r1, r2, im, sz, sg⟩] w fun e w' => e = .returned (.int .u32 (namedF nLoad 3 ⟨6, fn, rd, r1, r2, im, sz, sg⟩)) ∧ Below w.heap.size w w' := by
  go_enter Tryz.func37, Tryz.ntmps37
  go_wp2_with (go_at_call 49; with_reducible refine (m_named 51 nLoad _ ⟨6, fn, rd, r1, r2, im, sz, sg⟩ _ (hG.alloc _) Tryz.call51 (fun a x y => n_load a x y)).mono ?_; rintro e w1 ⟨rfl, hb⟩)
  go_ret
  exact ⟨rfl, belowA hb⟩
theorem base_7 (fn rd r1 r2 im sz : Int) (sg : Bool) (w : World) (hG : G w) : Calls Tryz.prog 37 #[I.v ⟨7, fn, rd, r1, r2, im, sz, sg⟩] w fun e w' => e = .returned (.int .u32 (namedF nStore 35 ⟨7, fn, rd, r1, r2, im, sz, sg⟩)) ∧ Below w.heap.size w w' := by
  go_enter Tryz.func37, Tryz.ntmps37
  go_wp2_with (go_at_call 49; with_reducible refine (m_named 52 nStore _ ⟨7, fn, rd, r1, r2, im, sz, sg⟩ _ (hG.alloc _) Tryz.call52 (fun a x y => n_store a x y)).mono ?_; rintro e w1 ⟨rfl, hb⟩)
  go_ret
  exact ⟨rfl, belowA hb⟩
theorem base_8 (fn rd r1 r2 im sz : Int) (sg : Bool) (w : World) (hG : G w) : Calls Tryz.prog 37 #[I.v ⟨8, fn, rd, r1, r2, im, sz, sg⟩] w fun e w' => e = .returned (.int .u32 (aluF ⟨8, fn, rd, r1, r2, im, sz, sg⟩)) ∧ Below w.heap.size w w' := by
  go_enter Tryz.func37, Tryz.ntmps37
  go_wp2_with (go_at_call 53; with_reducible refine (m_aluBase ⟨8, fn, rd, r1, r2, im, sz, sg⟩ _ (hG.alloc _)).mono ?_; rintro e w1 ⟨rfl, hb⟩)
  go_ret
  exact ⟨rfl, belowA hb⟩
theorem base_9 (fn rd r1 r2 im sz : Int) (sg : Bool) (w : World) (hG : G w) : Calls Tryz.prog 37 #[I.v ⟨9, fn, rd, r1, r2, im, sz, sg⟩] w fun e w' => e = .returned (.int .u32 (aluImmF ⟨9, fn, rd, r1, r2, im, sz, sg⟩)) ∧ Below w.heap.size w w' := by
  go_enter Tryz.func37, Tryz.ntmps37
  go_wp2_with (go_at_call 54; with_reducible refine (m_aluImmBase ⟨9, fn, rd, r1, r2, im, sz, sg⟩ _ (hG.alloc _)).mono ?_; rintro e w1 ⟨rfl, hb⟩)
  go_ret
  exact ⟨rfl, belowA hb⟩
theorem base_15 (fn rd r1 r2 im sz : Int) (sg : Bool) (w : World) (hG : G w) : Calls Tryz.prog 37 #[I.v ⟨15, fn, rd, r1, r2, im, sz, sg⟩] w fun e w' => e = .returned (.int .u32 (namedF nAto 268435503 ⟨15, fn, rd, r1, r2, im, sz, sg⟩)) ∧ Below w.heap.size w w' := by
  go_enter Tryz.func37, Tryz.ntmps37
  go_wp2_with (go_at_call 49; with_reducible refine (m_named 55 nAto _ ⟨15, fn, rd, r1, r2, im, sz, sg⟩ _ (hG.alloc _) Tryz.call55 (fun a x y => n_atomic a x y)).mono ?_; rintro e w1 ⟨rfl, hb⟩)
  go_ret
  exact ⟨rfl, belowA hb⟩
theorem base_16 (fn rd r1 r2 im sz : Int) (sg : Bool) (w : World) (hG : G w) : Calls Tryz.prog 37 #[I.v ⟨16, fn, rd, r1, r2, im, sz, sg⟩] w fun e w' => e = .returned (.int .u32 (namedF nAto 402653231 ⟨16, fn, rd, r1, r2, im, sz, sg⟩)) ∧ Below w.heap.size w w' := by
  go_enter Tryz.func37, Tryz.ntmps37
  go_wp2_with (go_at_call 49; with_reducible refine (m_named 55 nAto _ ⟨16, fn, rd, r1, r2, im, sz, sg⟩ _ (hG.alloc _) Tryz.call55 (fun a x y => n_atomic a x y)).mono ?_; rintro e w1 ⟨rfl, hb⟩)
  go_ret
  exact ⟨rfl, belowA hb⟩
set_option maxHeartbeats 1000000 in
theorem base_17 (fn rd r1 r2 im sz : Int) (sg : Bool) (w : World) (hG : G w) : Calls Tryz.prog 37 #[I.v ⟨17, fn, rd, r1, r2, im, sz, sg⟩] w fun e w' => e = .returned (.int .u32 (namedF nAto (bits .or .u32 47 (amoF fn)) ⟨17, fn, rd, r1, r2, im, sz, sg⟩)) ∧ Below w.heap.size w w' := by
  have hGd : ∀ o, G (w.alloc o).drew := fun o => (hG.alloc o).below (Below.refl _ _).drew
  go_enter Tryz.func37, Tryz.ntmps37
  go_wp2
  go_region_with (first | (go_at_call 56; with_reducible refine (m_amo _ _ (hGd _)).mono ?_; rintro e w' ⟨rfl, rfl⟩) | (go_at_call 49; with_reducible refine (m_named 55 nAto _ ⟨17, fn, rd, r1, r2, im, sz, sg⟩ _ (hGd _) Tryz.call55 (fun a x y => n_atomic a x y)).mono ?_; rintro e w1 ⟨rfl, hb⟩))
  all_goals
    go_wp2
    go_ret
    exact ⟨rfl, belowT ((below1 _).drew) hb⟩
theorem base_else (k : Int) (fn rd r1 r2 im sz : Int) (sg : Bool) (w : World) (hG : G w) (h1 : k ≠ 1) (h2 : k ≠ 2) (h3 : k ≠ 3) (h4 : k ≠ 4) (h5 : k ≠ 5) (h6 : k ≠ 6) (h7 : k ≠ 7) (h8 : k ≠ 8) (h9 : k ≠ 9) (h15 : k ≠ 15) (h16 : k ≠ 16) (h17 : k ≠ 17) : Calls Tryz.prog 37 #[I.v ⟨k, fn, rd, r1, r2, im, sz, sg⟩] w fun e w' => e = .returned (.int .u32 (sysF ⟨k, fn, rd, r1, r2, im, sz, sg⟩)) ∧ Below w.heap.size w w' := by
  go_enter Tryz.func37, Tryz.ntmps37
  go_wp2_with (go_at_call 57; with_reducible refine (m_systemBase ⟨k, fn, rd, r1, r2, im, sz, sg⟩ _ (hG.alloc _)).mono ?_; rintro e w1 ⟨rfl, hb⟩)
  go_ret
  exact ⟨rfl, belowA hb⟩
theorem m_base (i : I) (w : World) (hG : G w) : Calls Tryz.prog 37 #[i.v] w fun e w' => e = .returned (.int .u32 (baseF i)) ∧ Below w.heap.size w w' := by
  obtain ⟨k, fn, rd, r1, r2, im, sz, sg⟩ := i
  unfold baseF
  by_cases h1 : k = 1
  · subst h1; exact base_1 fn rd r1 r2 im sz sg w hG
  simp only [if_neg h1]
  by_cases h2 : k = 2
  · subst h2; exact base_2 fn rd r1 r2 im sz sg w hG
  simp only [if_neg h2]
  by_cases h3 : k = 3
  · subst h3; exact base_3 fn rd r1 r2 im sz sg w hG
  simp only [if_neg h3]
  by_cases h4 : k = 4
  · subst h4; exact base_4 fn rd r1 r2 im sz sg w hG
  simp only [if_neg h4]
  by_cases h5 : k = 5
  · subst h5; exact base_5 fn rd r1 r2 im sz sg w hG
  simp only [if_neg h5]
  by_cases h6 : k = 6
  · subst h6; exact base_6 fn rd r1 r2 im sz sg w hG
  simp only [if_neg h6]
  by_cases h7 : k = 7
  · subst h7; exact base_7 fn rd r1 r2 im sz sg w hG
  simp only [if_neg h7]
  by_cases h8 : k = 8
  · subst h8; exact base_8 fn rd r1 r2 im sz sg w hG
  simp only [if_neg h8]
  by_cases h9 : k = 9
  · subst h9; exact base_9 fn rd r1 r2 im sz sg w hG
  simp only [if_neg h9]
  by_cases h15 : k = 15
  · subst h15; exact base_15 fn rd r1 r2 im sz sg w hG
  simp only [if_neg h15]
  by_cases h16 : k = 16
  · subst h16; exact base_16 fn rd r1 r2 im sz sg w hG
  simp only [if_neg h16]
  by_cases h17 : k = 17
  · subst h17; exact base_17 fn rd r1 r2 im sz sg w hG
  simp only [if_neg h17]
  exact base_else k fn rd r1 r2 im sz sg w hG h1 h2 h3 h4 h5 h6 h7 h8 h9 h15 h16 h17
end Go.Proofs.YtioodijiejipiaaGreatDoor
