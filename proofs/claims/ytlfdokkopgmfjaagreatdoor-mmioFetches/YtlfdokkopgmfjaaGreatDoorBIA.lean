/- What the words of the arithmetic are named. New blocks alone. -/
import Derived.Test.YtlfdokkopgmfjaaGreatDoorMB2
namespace Go.Proofs.YtlfdokkopgmfjaaGreatDoor.B
open Go.RowKit
set_option linter.unusedVariables false
set_option maxRecDepth 100000
theorem belowN (w : World) (n : Nat) : Below w.heap.size w (w.drewN n) := ⟨rfl, rfl, rfl, Nat.le_refl _, fun _ _ => rfl⟩
theorem belowAN {w w' : World} {o : Obj} {n : Nat} (h : Below ((w.alloc o).drewN n).heap.size ((w.alloc o).drewN n) w') : Below w.heap.size w w' := belowT (below1 o) (belowT (belowN _ n) h)
theorem n_alu (a : Int) (h0 : 0 ≤ a) (h1 : a < 4294967296) (w : World) (hG : G w) :
    Calls Tryz.prog 162 #[.int .u32 a] w fun e w' => e = .returned (.tuple #[(nAlu a).1.v, .bool (nAlu a).2]) ∧ Below w.heap.size w w' := by
  have e1 : nAlu a = (onl ⟨8, chos (fF7 a) (tBas (fF3 a)) (tAlt (fF3 a)) (tPro (fF3 a)), 0, 0, 0, 0, 0, false⟩ (chos (fF7 a) (tBas (fF3 a)) (tAlt (fF3 a)) (tPro (fF3 a)))) := rfl
  rw [e1]
  obtain ⟨gs_bas, gc_bas⟩ := hG.bas
  have hc_bas := gc_bas (fF3 a) (fF3_b a).1 (fF3_b a).2
  clear gc_bas
  obtain ⟨gs_alt, gc_alt⟩ := hG.alt
  have hc_alt := gc_alt (fF3 a) (fF3_b a).1 (fF3_b a).2
  clear gc_alt
  obtain ⟨gs_pro, gc_pro⟩ := hG.pro
  have hc_pro := gc_pro (fF3 a) (fF3_b a).1 (fF3_b a).2
  clear gc_pro
  obtain ⟨bl_fF3, bu_fF3⟩ := fF3_b a
  obtain ⟨bl_fF7, bu_fF7⟩ := fF7_b a
  go_enter Tryz.func162, Tryz.ntmps162
  go_wp2
  go_quiet (first | (go_at_call 196; exact Calls.quiet_of_same (m_f7 _ h0 h1 _)) | (go_at_call 190; exact Calls.quiet_of_same (m_f3 _ h0 h1 _)) | (go_at_call 194; exact Calls.quiet_of_same (m_chosen _ _ _ _ _)))
  go_wp2_with (first | (go_at_call 118; refine (m_only _ _ _ _ _ _ _ _ _ _).mono ?_; rintro e w1 ⟨rfl, hb⟩; obtain ⟨hc1, hf1⟩ := bcell hb))
  exact bodyPost_ret (v := .tuple #[(onl ⟨8, chos (fF7 a) (tBas (fF3 a)) (tAlt (fF3 a)) (tPro (fF3 a)), 0, 0, 0, 0, 0, false⟩ (chos (fF7 a) (tBas (fF3 a)) (tAlt (fF3 a)) (tPro (fF3 a)))).1.v, .bool (onl ⟨8, chos (fF7 a) (tBas (fF3 a)) (tAlt (fF3 a)) (tPro (fF3 a)), 0, 0, 0, 0, 0, false⟩ (chos (fF7 a) (tBas (fF3 a)) (tAlt (fF3 a)) (tPro (fF3 a)))).2]) (by simp [results, Tryz.results162, go_sem, hc1]) rfl ⟨rfl, below8 (belowAN hb) (Nat.le_refl _) _ _ _ _ _ _ _ _⟩
theorem n_aluW (a : Int) (h0 : 0 ≤ a) (h1 : a < 4294967296) (w : World) (hG : G w) :
    Calls Tryz.prog 164 #[.int .u32 a] w fun e w' => e = .returned (.tuple #[(nAluW a).1.v, .bool (nAluW a).2]) ∧ Below w.heap.size w w' := by
  have e1 : nAluW a = (onl ⟨8, chos (fF7 a) (tBasW (fF3 a)) (tAltW (fF3 a)) (tProW (fF3 a)), 0, 0, 0, 0, 0, false⟩ (chos (fF7 a) (tBasW (fF3 a)) (tAltW (fF3 a)) (tProW (fF3 a)))) := rfl
  rw [e1]
  obtain ⟨gs_bas, gc_bas⟩ := hG.basW
  have hc_bas := gc_bas (fF3 a) (fF3_b a).1 (fF3_b a).2
  clear gc_bas
  obtain ⟨gs_alt, gc_alt⟩ := hG.altW
  have hc_alt := gc_alt (fF3 a) (fF3_b a).1 (fF3_b a).2
  clear gc_alt
  obtain ⟨gs_pro, gc_pro⟩ := hG.proW
  have hc_pro := gc_pro (fF3 a) (fF3_b a).1 (fF3_b a).2
  clear gc_pro
  obtain ⟨bl_fF3, bu_fF3⟩ := fF3_b a
  obtain ⟨bl_fF7, bu_fF7⟩ := fF7_b a
  go_enter Tryz.func164, Tryz.ntmps164
  go_wp2
  go_quiet (first | (go_at_call 196; exact Calls.quiet_of_same (m_f7 _ h0 h1 _)) | (go_at_call 190; exact Calls.quiet_of_same (m_f3 _ h0 h1 _)) | (go_at_call 194; exact Calls.quiet_of_same (m_chosen _ _ _ _ _)))
  go_wp2_with (first | (go_at_call 118; refine (m_only _ _ _ _ _ _ _ _ _ _).mono ?_; rintro e w1 ⟨rfl, hb⟩; obtain ⟨hc1, hf1⟩ := bcell hb))
  exact bodyPost_ret (v := .tuple #[(onl ⟨8, chos (fF7 a) (tBasW (fF3 a)) (tAltW (fF3 a)) (tProW (fF3 a)), 0, 0, 0, 0, 0, false⟩ (chos (fF7 a) (tBasW (fF3 a)) (tAltW (fF3 a)) (tProW (fF3 a)))).1.v, .bool (onl ⟨8, chos (fF7 a) (tBasW (fF3 a)) (tAltW (fF3 a)) (tProW (fF3 a)), 0, 0, 0, 0, 0, false⟩ (chos (fF7 a) (tBasW (fF3 a)) (tAltW (fF3 a)) (tProW (fF3 a)))).2]) (by simp [results, Tryz.results164, go_sem, hc1]) rfl ⟨rfl, below8 (belowAN hb) (Nat.le_refl _) _ _ _ _ _ _ _ _⟩
theorem n_aluImm (a : Int) (h0 : 0 ≤ a) (h1 : a < 4294967296) (w : World) (hG : G w) :
    Calls Tryz.prog 157 #[.int .u32 a] w fun e w' => e = .returned (.tuple #[(nImm a).1.v, .bool (nImm a).2]) ∧ Below w.heap.size w w' := by
  obtain ⟨gs_bas, gc_bas⟩ := hG.bas
  have hc_bas := gc_bas (fF3 a) (fF3_b a).1 (fF3_b a).2
  clear gc_bas
  obtain ⟨gs_alt, gc_alt⟩ := hG.alt
  have hc_alt := gc_alt (fF3 a) (fF3_b a).1 (fF3_b a).2
  clear gc_alt
  obtain ⟨bl_fF3, bu_fF3⟩ := fF3_b a
  obtain ⟨bl_fF6, bu_fF6⟩ := fF6_b a
  obtain ⟨bl_fF7, bu_fF7⟩ := fF7_b a
  have hw : IntKind.i64.wrap (fF6 a * 2) = fF6 a * 2 := by rw [IntKind.wrap_i64]; omega
  have hw2 : wrap64 (fF6 a * 2) = fF6 a * 2 := by unfold wrap64; omega
  cases hh : shf a
  · have e1 : nImm a = (onl ⟨9, tBas (fF3 a), 0, 0, 0, 0, 0, false⟩ (tBas (fF3 a))) := by unfold nImm fnImm; rw [hh]; rfl
    rw [e1]
    go_enter Tryz.func157, Tryz.ntmps157
    go_wp2_with (first | (go_at_call 190; refine (m_f3 _ h0 h1 _).mono ?_; rintro e w' ⟨rfl, rfl⟩) | (go_at_call 193; refine (m_shifts _ h0 h1 _).mono ?_; rintro e w' ⟨rfl, rfl⟩) | (go_at_call 118; refine (m_only _ _ _ _ _ _ _ _ _ _).mono ?_; rintro e w1 ⟨rfl, hb⟩; obtain ⟨hc1, hf1⟩ := bcell hb))
    exact bodyPost_ret (v := .tuple #[(onl ⟨9, tBas (fF3 a), 0, 0, 0, 0, 0, false⟩ (tBas (fF3 a))).1.v, .bool (onl ⟨9, tBas (fF3 a), 0, 0, 0, 0, 0, false⟩ (tBas (fF3 a))).2]) (by simp [results, Tryz.results157, go_sem, hc1]) rfl ⟨rfl, below8 (belowA hb) (Nat.le_refl _) _ _ _ _ _ _ _ _⟩
  · have e1 : nImm a = (onl ⟨9, chos (fF6 a * 2) (tBas (fF3 a)) (tAlt (fF3 a)) 0, 0, 0, 0, 0, 0, false⟩ (chos (fF6 a * 2) (tBas (fF3 a)) (tAlt (fF3 a)) 0)) := by unfold nImm fnImm; rw [hh]; rfl
    rw [e1]
    go_enter Tryz.func157, Tryz.ntmps157
    go_wp2_with (first | (go_at_call 190; refine (m_f3 _ h0 h1 _).mono ?_; rintro e w' ⟨rfl, rfl⟩) | (go_at_call 193; refine (m_shifts _ h0 h1 _).mono ?_; rintro e w' ⟨rfl, rfl⟩) | (go_at_call 118; refine (m_only _ _ _ _ _ _ _ _ _ _).mono ?_; rintro e w1 ⟨rfl, hb⟩; obtain ⟨hc1, hf1⟩ := bcell hb))
    go_quiet (first | (go_at_call 195; exact Calls.quiet_of_same (m_f6 _ h0 h1 _)) | (go_at_call 190; exact Calls.quiet_of_same (m_f3 _ h0 h1 _)) | (go_at_call 194; exact Calls.quiet_of_same (m_chosen _ _ _ _ _)))
    go_wp2_with (first | (go_at_call 118; refine (m_only _ _ _ _ _ _ _ _ _ _).mono ?_; rintro e w1 ⟨rfl, hb⟩; obtain ⟨hc1, hf1⟩ := bcell hb))
    exact bodyPost_ret (v := .tuple #[(onl ⟨9, chos (fF6 a * 2) (tBas (fF3 a)) (tAlt (fF3 a)) 0, 0, 0, 0, 0, 0, false⟩ (chos (fF6 a * 2) (tBas (fF3 a)) (tAlt (fF3 a)) 0)).1.v, .bool (onl ⟨9, chos (fF6 a * 2) (tBas (fF3 a)) (tAlt (fF3 a)) 0, 0, 0, 0, 0, 0, false⟩ (chos (fF6 a * 2) (tBas (fF3 a)) (tAlt (fF3 a)) 0)).2]) (by simp [results, Tryz.results157, go_sem, hc1]) rfl ⟨rfl, below8 (belowAN hb) (Nat.le_refl _) _ _ _ _ _ _ _ _⟩
theorem n_aluImmW (a : Int) (h0 : 0 ≤ a) (h1 : a < 4294967296) (w : World) (hG : G w) :
    Calls Tryz.prog 160 #[.int .u32 a] w fun e w' => e = .returned (.tuple #[(nImmW a).1.v, .bool (nImmW a).2]) ∧ Below w.heap.size w w' := by
  obtain ⟨gs_bas, gc_bas⟩ := hG.basW
  have hc_bas := gc_bas (fF3 a) (fF3_b a).1 (fF3_b a).2
  clear gc_bas
  obtain ⟨gs_alt, gc_alt⟩ := hG.altW
  have hc_alt := gc_alt (fF3 a) (fF3_b a).1 (fF3_b a).2
  clear gc_alt
  obtain ⟨bl_fF3, bu_fF3⟩ := fF3_b a
  obtain ⟨bl_fF6, bu_fF6⟩ := fF6_b a
  obtain ⟨bl_fF7, bu_fF7⟩ := fF7_b a
  have hw : IntKind.i64.wrap (fF6 a * 2) = fF6 a * 2 := by rw [IntKind.wrap_i64]; omega
  have hw2 : wrap64 (fF6 a * 2) = fF6 a * 2 := by unfold wrap64; omega
  cases hh : shf a
  · have e1 : nImmW a = (onl ⟨9, tBasW (fF3 a), 0, 0, 0, 0, 0, false⟩ (tBasW (fF3 a))) := by unfold nImmW fnImmW; rw [hh]; rfl
    rw [e1]
    go_enter Tryz.func160, Tryz.ntmps160
    go_wp2_with (first | (go_at_call 190; refine (m_f3 _ h0 h1 _).mono ?_; rintro e w' ⟨rfl, rfl⟩) | (go_at_call 193; refine (m_shifts _ h0 h1 _).mono ?_; rintro e w' ⟨rfl, rfl⟩) | (go_at_call 118; refine (m_only _ _ _ _ _ _ _ _ _ _).mono ?_; rintro e w1 ⟨rfl, hb⟩; obtain ⟨hc1, hf1⟩ := bcell hb))
    exact bodyPost_ret (v := .tuple #[(onl ⟨9, tBasW (fF3 a), 0, 0, 0, 0, 0, false⟩ (tBasW (fF3 a))).1.v, .bool (onl ⟨9, tBasW (fF3 a), 0, 0, 0, 0, 0, false⟩ (tBasW (fF3 a))).2]) (by simp [results, Tryz.results160, go_sem, hc1]) rfl ⟨rfl, below8 (belowA hb) (Nat.le_refl _) _ _ _ _ _ _ _ _⟩
  · have e1 : nImmW a = (onl ⟨9, chos (fF7 a) (tBasW (fF3 a)) (tAltW (fF3 a)) 0, 0, 0, 0, 0, 0, false⟩ (chos (fF7 a) (tBasW (fF3 a)) (tAltW (fF3 a)) 0)) := by unfold nImmW fnImmW; rw [hh]; rfl
    rw [e1]
    go_enter Tryz.func160, Tryz.ntmps160
    go_wp2_with (first | (go_at_call 190; refine (m_f3 _ h0 h1 _).mono ?_; rintro e w' ⟨rfl, rfl⟩) | (go_at_call 193; refine (m_shifts _ h0 h1 _).mono ?_; rintro e w' ⟨rfl, rfl⟩) | (go_at_call 118; refine (m_only _ _ _ _ _ _ _ _ _ _).mono ?_; rintro e w1 ⟨rfl, hb⟩; obtain ⟨hc1, hf1⟩ := bcell hb))
    go_quiet (first | (go_at_call 196; exact Calls.quiet_of_same (m_f7 _ h0 h1 _)) | (go_at_call 190; exact Calls.quiet_of_same (m_f3 _ h0 h1 _)) | (go_at_call 194; exact Calls.quiet_of_same (m_chosen _ _ _ _ _)))
    go_wp2_with (first | (go_at_call 118; refine (m_only _ _ _ _ _ _ _ _ _ _).mono ?_; rintro e w1 ⟨rfl, hb⟩; obtain ⟨hc1, hf1⟩ := bcell hb))
    exact bodyPost_ret (v := .tuple #[(onl ⟨9, chos (fF7 a) (tBasW (fF3 a)) (tAltW (fF3 a)) 0, 0, 0, 0, 0, 0, false⟩ (chos (fF7 a) (tBasW (fF3 a)) (tAltW (fF3 a)) 0)).1.v, .bool (onl ⟨9, chos (fF7 a) (tBasW (fF3 a)) (tAltW (fF3 a)) 0, 0, 0, 0, 0, 0, false⟩ (chos (fF7 a) (tBasW (fF3 a)) (tAltW (fF3 a)) 0)).2]) (by simp [results, Tryz.results160, go_sem, hc1]) rfl ⟨rfl, below8 (belowAN hb) (Nat.le_refl _) _ _ _ _ _ _ _ _⟩
end Go.Proofs.YtlfdokkopgmfjaaGreatDoor.B
