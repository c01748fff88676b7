/- What the reference reads a word as: what the program reads it as. New blocks alone. -/
import Derived.Test.YtioodijiejipiaaGreatDoorRI
import Derived.Test.YtioodijiejipiaaGreatDoorIME
namespace Go.Proofs.YtioodijiejipiaaGreatDoor
open Go.RowKit
set_option linter.unusedVariables false

set_option maxRecDepth 100000 in
theorem d_115 (a : Int) (h0 : 0 ≤ a) (h1 : a < 4294967296) (w : World) (ho : fOp a = 115) :
    Calls Tryz.prog 7 #[.int .u32 a] w fun e w' => e = .returned (.tuple #[(syF a).1.v, .bool (syF a).2]) ∧ Below w.heap.size w w' := by
  have hz : w.heap.size < w.heap.size + 1 + 1 := by omega
  go_enter Tryz.func7, Tryz.ntmps7
  go_wp2_with (first | (go_at_call 16; first | ((with_reducible refine (g_f3 a h0 h1 _).mono ?_); rintro e w1 ⟨rfl, rfl⟩) | ((with_reducible refine (g_f7 a h0 h1 _).mono ?_); rintro e w1 ⟨rfl, rfl⟩) | ((with_reducible refine (g_rd a h0 h1 _).mono ?_); rintro e w1 ⟨rfl, rfl⟩) | ((with_reducible refine (g_rs1 a h0 h1 _).mono ?_); rintro e w1 ⟨rfl, rfl⟩) | ((with_reducible refine (g_rs2 a h0 h1 _).mono ?_); rintro e w1 ⟨rfl, rfl⟩) | ((with_reducible refine (g_op a h0 h1 _).mono ?_); rintro e w1 ⟨rfl, rfl⟩)) | (go_at_call 23; refine (r_system a h0 h1 _).mono ?_; rintro e w1 ⟨rfl, hb⟩; obtain ⟨hc1, hf1⟩ := bcell hb))
  exact bodyPost_ret (v := .tuple #[(syF a).1.v, .bool (syF a).2]) (by simp [results, Tryz.results7, go_sem, hc1, hz]) rfl ⟨rfl, below8 ((below2 _ _).trans (hb.mono (by simp; omega))) (Nat.le_refl _) _ _ _ _ _ _ _ _⟩
set_option maxRecDepth 100000 in
theorem d_47 (a : Int) (h0 : 0 ≤ a) (h1 : a < 4294967296) (w : World) (ho : fOp a = 47) :
    Calls Tryz.prog 7 #[.int .u32 a] w fun e w' => e = .returned (.tuple #[(atF a).1.v, .bool (atF a).2]) ∧ Below w.heap.size w w' := by
  have hz : w.heap.size < w.heap.size + 1 + 1 := by omega
  go_enter Tryz.func7, Tryz.ntmps7
  go_wp2_with (first | (go_at_call 16; first | ((with_reducible refine (g_f3 a h0 h1 _).mono ?_); rintro e w1 ⟨rfl, rfl⟩) | ((with_reducible refine (g_f7 a h0 h1 _).mono ?_); rintro e w1 ⟨rfl, rfl⟩) | ((with_reducible refine (g_rd a h0 h1 _).mono ?_); rintro e w1 ⟨rfl, rfl⟩) | ((with_reducible refine (g_rs1 a h0 h1 _).mono ?_); rintro e w1 ⟨rfl, rfl⟩) | ((with_reducible refine (g_rs2 a h0 h1 _).mono ?_); rintro e w1 ⟨rfl, rfl⟩) | ((with_reducible refine (g_op a h0 h1 _).mono ?_); rintro e w1 ⟨rfl, rfl⟩)) | (go_at_call 24; refine (r_atomic a h0 h1 _).mono ?_; rintro e w1 ⟨rfl, hb⟩; obtain ⟨hc1, hf1⟩ := bcell hb))
  exact bodyPost_ret (v := .tuple #[(atF a).1.v, .bool (atF a).2]) (by simp [results, Tryz.results7, go_sem, hc1, hz]) rfl ⟨rfl, below8 ((below2 _ _).trans (hb.mono (by simp; omega))) (Nat.le_refl _) _ _ _ _ _ _ _ _⟩
theorem r_Decode (a : Int) (h0 : 0 ≤ a) (h1 : a < 4294967296) (w : World) :
    Calls Tryz.prog 7 #[.int .u32 a] w fun e w' => e = .returned (.tuple #[(D a).1.v, .bool (D a).2]) ∧ Below w.heap.size w w' := by
  by_cases h55 : fOp a = 55
  · rw [show D a = (⟨1, 0, fRd a, 0, 0, iU a, 0, false⟩, true) by rw [D_55 a h55]; rfl]
    exact d_55 a h0 h1 w h55
  by_cases h23 : fOp a = 23
  · rw [show D a = (⟨2, 0, fRd a, 0, 0, iU a, 0, false⟩, true) by rw [D_23 a h23]; rfl]
    exact d_23 a h0 h1 w h23
  by_cases h19 : fOp a = 19
  · by_cases q1 : fF3 a = 1
    · have s : shf a = true := by unfold shf; rw [q1]; rfl
      by_cases t : fF6 a = 0
      · rw [show D a = (⟨9, 3, fRd a, fRs1 a, 0, fSh a, 0, false⟩, true) by rw [D_19 a h19]; unfold nImm fnImm iOpnd; rw [s, q1, t]; rfl]
        exact d_19_1 a h0 h1 w h19 q1 t
      · rw [show D a = (⟨0, 0, 0, 0, 0, 0, 0, false⟩, false) by
          rw [D_19 a h19]; unfold nImm fnImm; rw [s, q1]
          have c : chos (fF6 a * 2) (tBas 1) (tAlt 1) 0 = 0 := by
            unfold chos; rw [if_neg (by omega)]; split; rfl; split <;> rfl
          rw [if_pos rfl, c]; rfl]
        exact d_19_1n a h0 h1 w h19 q1 t
    by_cases q5 : fF3 a = 5
    · have s : shf a = true := by unfold shf; rw [q5]; rfl
      by_cases t : fF6 a = 0
      · rw [show D a = (⟨9, 7, fRd a, fRs1 a, 0, fSh a, 0, false⟩, true) by rw [D_19 a h19]; unfold nImm fnImm iOpnd; rw [s, q5, t]; rfl]
        exact d_19_5 a h0 h1 w h19 q5 t
      by_cases t2 : fF6 a = 16
      · rw [show D a = (⟨9, 8, fRd a, fRs1 a, 0, fSh a, 0, false⟩, true) by rw [D_19 a h19]; unfold nImm fnImm iOpnd; rw [s, q5, t2]; rfl]
        exact d_19_5a a h0 h1 w h19 q5 t2
      · rw [show D a = (⟨0, 0, 0, 0, 0, 0, 0, false⟩, false) by
          rw [D_19 a h19]; unfold nImm fnImm; rw [s, q5]
          have c : chos (fF6 a * 2) (tBas 5) (tAlt 5) 0 = 0 := by
            unfold chos; rw [if_neg (by omega), if_neg (by omega)]; split <;> rfl
          rw [if_pos rfl, c]; rfl]
        exact d_19_5n a h0 h1 w h19 q5 t t2
    · have s : shf a = false := by unfold shf; simp [q1, q5]
      rw [show D a = (⟨9, tBas (fF3 a), fRd a, fRs1 a, 0, iI a, 0, false⟩, true) by
        rw [D_19 a h19]; unfold nImm fnImm iOpnd; rw [s]; show withF (onl ⟨9, tBas (fF3 a), 0, 0, 0, 0, 0, false⟩ (tBas (fF3 a))) (fRd a) (fRs1 a) 0 (iI a) = _; unfold onl; rw [if_neg (tBas_nz a)]; rfl]
      exact d_19 a h0 h1 w h19 q1 q5
  by_cases h27 : fOp a = 27
  · by_cases q1 : fF3 a = 1
    · have s : shf a = true := by unfold shf; rw [q1]; rfl
      by_cases t : fF7 a = 0
      · rw [show D a = (⟨9, 21, fRd a, fRs1 a, 0, fRs2 a, 0, false⟩, true) by rw [D_27 a h27]; unfold nImmW fnImmW iOpndW; rw [s, q1, t]; rfl]
        exact d_27_1 a h0 h1 w h27 q1 t
      · rw [show D a = (⟨0, 0, 0, 0, 0, 0, 0, false⟩, false) by
          rw [D_27 a h27]; unfold nImmW fnImmW; rw [s, q1]
          have c : chos (fF7 a) (tBasW 1) (tAltW 1) 0 = 0 := by
            unfold chos; rw [if_neg t]; split; rfl; split <;> rfl
          rw [if_pos rfl, c]; rfl]
        exact d_27_1n a h0 h1 w h27 q1 t
    by_cases q5 : fF3 a = 5
    · have s : shf a = true := by unfold shf; rw [q5]; rfl
      by_cases t : fF7 a = 0
      · rw [show D a = (⟨9, 22, fRd a, fRs1 a, 0, fRs2 a, 0, false⟩, true) by rw [D_27 a h27]; unfold nImmW fnImmW iOpndW; rw [s, q5, t]; rfl]
        exact d_27_5 a h0 h1 w h27 q5 t
      by_cases t2 : fF7 a = 32
      · rw [show D a = (⟨9, 23, fRd a, fRs1 a, 0, fRs2 a, 0, false⟩, true) by rw [D_27 a h27]; unfold nImmW fnImmW iOpndW; rw [s, q5, t2]; rfl]
        exact d_27_5a a h0 h1 w h27 q5 t2
      · rw [show D a = (⟨0, 0, 0, 0, 0, 0, 0, false⟩, false) by
          rw [D_27 a h27]; unfold nImmW fnImmW; rw [s, q5]
          have c : chos (fF7 a) (tBasW 5) (tAltW 5) 0 = 0 := by
            unfold chos; rw [if_neg t, if_neg t2]; split <;> rfl
          rw [if_pos rfl, c]; rfl]
        exact d_27_5n a h0 h1 w h27 q5 t t2
    · have s : shf a = false := by unfold shf; simp [q1, q5]
      by_cases q0 : fF3 a = 0
      · rw [show D a = (⟨9, 19, fRd a, fRs1 a, 0, iI a, 0, false⟩, true) by
          rw [D_27 a h27]; unfold nImmW fnImmW iOpndW; rw [s, q0]; rfl]
        exact d_27 a h0 h1 w h27 q0
      · rw [show D a = (⟨0, 0, 0, 0, 0, 0, 0, false⟩, false) by
          have z : tBasW (fF3 a) = 0 := by
            rcases eight8 (fF3_b a) with h | h | h | h | h | h | h | h <;> first | exact absurd h q0 | exact absurd h q1 | exact absurd h q5 | (rw [h]; rfl)
          rw [D_27 a h27]; unfold nImmW fnImmW; rw [s, z]; rfl]
        exact d_27n a h0 h1 w h27 q0 q1 q5
  by_cases h51 : fOp a = 51
  · by_cases t : fF7 a = 0
    · by_cases z : tBas (fF3 a) = 0
      · exact absurd z (tBas_nz a)
      · rw [show D a = (⟨8, tBas (fF3 a), fRd a, fRs1 a, fRs2 a, 0, 0, false⟩, true) by
          rw [D_51 a h51]; unfold nAlu fnAlu chos onl; rw [if_pos t, if_neg z]; rfl]
        exact d_51_0 a h0 h1 w h51 t z
    by_cases t1 : fF7 a = 32
    · by_cases z : tAlt (fF3 a) = 0
      · rw [show D a = (⟨0, 0, 0, 0, 0, 0, 0, false⟩, false) by rw [D_51 a h51]; unfold nAlu fnAlu; rw [t1, z]; rfl]
        exact d_51_32n a h0 h1 w h51 t1 z
      · rw [show D a = (⟨8, tAlt (fF3 a), fRd a, fRs1 a, fRs2 a, 0, 0, false⟩, true) by
          rw [D_51 a h51]; unfold nAlu fnAlu chos onl; rw [if_neg t, if_pos t1, if_neg z]; rfl]
        exact d_51_32 a h0 h1 w h51 t1 z
    by_cases t2 : fF7 a = 1
    · by_cases z : tPro (fF3 a) = 0
      · exact absurd z (tPro_nz a)
      · rw [show D a = (⟨8, tPro (fF3 a), fRd a, fRs1 a, fRs2 a, 0, 0, false⟩, true) by
          rw [D_51 a h51]; unfold nAlu fnAlu chos onl; rw [if_neg t, if_neg t1, if_pos t2, if_neg z]; rfl]
        exact d_51_1 a h0 h1 w h51 t2 z
    · rw [show D a = (⟨0, 0, 0, 0, 0, 0, 0, false⟩, false) by
        rw [D_51 a h51]; unfold nAlu fnAlu chos; rw [if_neg t, if_neg t1, if_neg t2]; rfl]
      exact d_51n a h0 h1 w h51 t t1 t2
  by_cases h59 : fOp a = 59
  · by_cases t : fF7 a = 0
    · by_cases z : tBasW (fF3 a) = 0
      · rw [show D a = (⟨0, 0, 0, 0, 0, 0, 0, false⟩, false) by rw [D_59 a h59]; unfold nAluW fnAluW; rw [t, z]; rfl]
        exact d_59_0n a h0 h1 w h59 t z
      · rw [show D a = (⟨8, tBasW (fF3 a), fRd a, fRs1 a, fRs2 a, 0, 0, false⟩, true) by
          rw [D_59 a h59]; unfold nAluW fnAluW chos onl; rw [if_pos t, if_neg z]; rfl]
        exact d_59_0 a h0 h1 w h59 t z
    by_cases t1 : fF7 a = 32
    · by_cases z : tAltW (fF3 a) = 0
      · rw [show D a = (⟨0, 0, 0, 0, 0, 0, 0, false⟩, false) by rw [D_59 a h59]; unfold nAluW fnAluW; rw [t1, z]; rfl]
        exact d_59_32n a h0 h1 w h59 t1 z
      · rw [show D a = (⟨8, tAltW (fF3 a), fRd a, fRs1 a, fRs2 a, 0, 0, false⟩, true) by
          rw [D_59 a h59]; unfold nAluW fnAluW chos onl; rw [if_neg t, if_pos t1, if_neg z]; rfl]
        exact d_59_32 a h0 h1 w h59 t1 z
    by_cases t2 : fF7 a = 1
    · by_cases z : tProW (fF3 a) = 0
      · rw [show D a = (⟨0, 0, 0, 0, 0, 0, 0, false⟩, false) by rw [D_59 a h59]; unfold nAluW fnAluW; rw [t2, z]; rfl]
        exact d_59_1n a h0 h1 w h59 t2 z
      · rw [show D a = (⟨8, tProW (fF3 a), fRd a, fRs1 a, fRs2 a, 0, 0, false⟩, true) by
          rw [D_59 a h59]; unfold nAluW fnAluW chos onl; rw [if_neg t, if_neg t1, if_pos t2, if_neg z]; rfl]
        exact d_59_1 a h0 h1 w h59 t2 z
    · rw [show D a = (⟨0, 0, 0, 0, 0, 0, 0, false⟩, false) by
        rw [D_59 a h59]; unfold nAluW fnAluW chos; rw [if_neg t, if_neg t1, if_neg t2]; rfl]
      exact d_59n a h0 h1 w h59 t t1 t2
  by_cases h115 : fOp a = 115
  · rw [show D a = syF a from D_115 a h115]; exact d_115 a h0 h1 w h115
  by_cases h111 : fOp a = 111
  · rw [show D a = (⟨3, 0, fRd a, 0, 0, iJ a, 0, false⟩, true) by rw [D_111 a h111]; rfl]; exact d_111 a h0 h1 w h111
  by_cases h103 : fOp a = 103
  · by_cases q : fF3 a = 0
    · rw [show D a = (⟨4, 0, fRd a, fRs1 a, 0, iI a, 0, false⟩, true) by rw [D_103 a h103]; unfold nJalr; rw [if_pos q]; rfl]; exact d_103 a h0 h1 w h103 q
    · rw [show D a = (⟨0, 0, 0, 0, 0, 0, 0, false⟩, false) by rw [D_103 a h103]; unfold nJalr; rw [if_neg q]; rfl]; exact d_103n a h0 h1 w h103 q
  by_cases h99 : fOp a = 99
  · by_cases q : tCond (fF3 a) = 0
    · rw [show D a = (⟨0, 0, 0, 0, 0, 0, 0, false⟩, false) by rw [D_99 a h99]; unfold nBranch onl; rw [if_pos q]; rfl]; exact d_99n a h0 h1 w h99 q
    · rw [show D a = (⟨5, tCond (fF3 a), 0, fRs1 a, fRs2 a, iB a, 0, false⟩, true) by rw [D_99 a h99]; unfold nBranch onl; rw [if_neg q]; rfl]; exact d_99 a h0 h1 w h99 q
  by_cases h3 : fOp a = 3
  · by_cases q : tLoad (fF3 a) = 0
    · rw [show D a = (⟨0, 0, 0, 0, 0, 0, 0, false⟩, false) by rw [D_3 a h3]; unfold nLoad onl; rw [if_pos q]; rfl]; exact d_3n a h0 h1 w h3 q
    · by_cases s : fF3 a < 4
      · rw [show D a = (⟨6, 0, fRd a, fRs1 a, 0, iI a, tLoad (fF3 a), true⟩, true) by rw [D_3 a h3]; unfold nLoad onl; rw [if_neg q, lt4_t s]; rfl]; exact d_3s a h0 h1 w h3 q s
      · rw [show D a = (⟨6, 0, fRd a, fRs1 a, 0, iI a, tLoad (fF3 a), false⟩, true) by rw [D_3 a h3]; unfold nLoad onl; rw [if_neg q, lt4_f s]; rfl]; exact d_3u a h0 h1 w h3 q s
  by_cases h35 : fOp a = 35
  · by_cases q : tStore (fF3 a) = 0
    · rw [show D a = (⟨0, 0, 0, 0, 0, 0, 0, false⟩, false) by rw [D_35 a h35]; unfold nStore onl; rw [if_pos q]; rfl]; exact d_35n a h0 h1 w h35 q
    · rw [show D a = (⟨7, 0, 0, fRs1 a, fRs2 a, iS a, tStore (fF3 a), false⟩, true) by rw [D_35 a h35]; unfold nStore onl; rw [if_neg q]; rfl]; exact d_35 a h0 h1 w h35 q
  by_cases h15 : fOp a = 15
  · by_cases q : fF3 a < 2
    · rw [show D a = (⟨10, 0, 0, 0, 0, 0, 0, false⟩, true) by rw [D_15 a h15]; unfold nFence; rw [if_pos (by omega)]; rfl]; exact d_15 a h0 h1 w h15 q
    · rw [show D a = (⟨0, 0, 0, 0, 0, 0, 0, false⟩, false) by rw [D_15 a h15]; unfold nFence; rw [if_neg (by omega)]; rfl]; exact d_15n a h0 h1 w h15 q
  by_cases h47 : fOp a = 47
  · rw [show D a = atF a from D_47 a h47]; exact d_47 a h0 h1 w h47
  rw [show D a = (⟨0, 0, 0, 0, 0, 0, 0, false⟩, false) from D_else a h55 h23 h19 h27 h51 h59 h115 h111 h103 h99 h3 h35 h15 h47]
  exact d_e a h0 h1 w h55 h23 h19 h27 h51 h59 h115 h111 h103 h99 h3 h35 h15 h47
end Go.Proofs.YtioodijiejipiaaGreatDoor
