/- What is read is written as a word that is read the same: every word. Nothing here speaks of the program. -/
import Derived.Test.YtioodijiejipiaaGreatDoorIMC
namespace Go.Proofs.YtioodijiejipiaaGreatDoor
open Go.RowKit
set_option linter.unusedVariables false

theorem D_55 (a : Int) (h : fOp a = 55) : D a = withF (nLui a) (fRd a) 0 0 (iU a) := by
  unfold D
  rw [if_pos h]
theorem D_23 (a : Int) (h : fOp a = 23) : D a = withF (nAuipc a) (fRd a) 0 0 (iU a) := by
  unfold D
  rw [if_neg (by omega)]
  rw [if_pos h]
theorem D_19 (a : Int) (h : fOp a = 19) : D a = withF (nImm a) (fRd a) (fRs1 a) 0 (iOpnd a) := by
  unfold D
  rw [if_neg (by omega)]
  rw [if_neg (by omega)]
  rw [if_pos h]
theorem D_27 (a : Int) (h : fOp a = 27) : D a = withF (nImmW a) (fRd a) (fRs1 a) 0 (iOpndW a) := by
  unfold D
  rw [if_neg (by omega)]
  rw [if_neg (by omega)]
  rw [if_neg (by omega)]
  rw [if_pos h]
theorem D_51 (a : Int) (h : fOp a = 51) : D a = withF (nAlu a) (fRd a) (fRs1 a) (fRs2 a) 0 := by
  unfold D
  rw [if_neg (by omega)]
  rw [if_neg (by omega)]
  rw [if_neg (by omega)]
  rw [if_neg (by omega)]
  rw [if_pos h]
theorem D_59 (a : Int) (h : fOp a = 59) : D a = withF (nAluW a) (fRd a) (fRs1 a) (fRs2 a) 0 := by
  unfold D
  rw [if_neg (by omega)]
  rw [if_neg (by omega)]
  rw [if_neg (by omega)]
  rw [if_neg (by omega)]
  rw [if_neg (by omega)]
  rw [if_pos h]
theorem D_115 (a : Int) (h : fOp a = 115) : D a = withF (nSys a) (fRd a) (fRs1 a) (rSpace a) (iCsr a) := by
  unfold D
  rw [if_neg (by omega)]
  rw [if_neg (by omega)]
  rw [if_neg (by omega)]
  rw [if_neg (by omega)]
  rw [if_neg (by omega)]
  rw [if_neg (by omega)]
  rw [if_pos h]
theorem D_111 (a : Int) (h : fOp a = 111) : D a = withF (nJal a) (fRd a) 0 0 (iJ a) := by
  unfold D
  rw [if_neg (by omega)]
  rw [if_neg (by omega)]
  rw [if_neg (by omega)]
  rw [if_neg (by omega)]
  rw [if_neg (by omega)]
  rw [if_neg (by omega)]
  rw [if_neg (by omega)]
  rw [if_pos h]
theorem D_103 (a : Int) (h : fOp a = 103) : D a = withF (nJalr a) (fRd a) (fRs1 a) 0 (iI a) := by
  unfold D
  rw [if_neg (by omega)]
  rw [if_neg (by omega)]
  rw [if_neg (by omega)]
  rw [if_neg (by omega)]
  rw [if_neg (by omega)]
  rw [if_neg (by omega)]
  rw [if_neg (by omega)]
  rw [if_neg (by omega)]
  rw [if_pos h]
theorem D_99 (a : Int) (h : fOp a = 99) : D a = withF (nBranch a) 0 (fRs1 a) (fRs2 a) (iB a) := by
  unfold D
  rw [if_neg (by omega)]
  rw [if_neg (by omega)]
  rw [if_neg (by omega)]
  rw [if_neg (by omega)]
  rw [if_neg (by omega)]
  rw [if_neg (by omega)]
  rw [if_neg (by omega)]
  rw [if_neg (by omega)]
  rw [if_neg (by omega)]
  rw [if_pos h]
theorem D_3 (a : Int) (h : fOp a = 3) : D a = withF (nLoad a) (fRd a) (fRs1 a) 0 (iI a) := by
  unfold D
  rw [if_neg (by omega)]
  rw [if_neg (by omega)]
  rw [if_neg (by omega)]
  rw [if_neg (by omega)]
  rw [if_neg (by omega)]
  rw [if_neg (by omega)]
  rw [if_neg (by omega)]
  rw [if_neg (by omega)]
  rw [if_neg (by omega)]
  rw [if_neg (by omega)]
  rw [if_pos h]
theorem D_35 (a : Int) (h : fOp a = 35) : D a = withF (nStore a) 0 (fRs1 a) (fRs2 a) (iS a) := by
  unfold D
  rw [if_neg (by omega)]
  rw [if_neg (by omega)]
  rw [if_neg (by omega)]
  rw [if_neg (by omega)]
  rw [if_neg (by omega)]
  rw [if_neg (by omega)]
  rw [if_neg (by omega)]
  rw [if_neg (by omega)]
  rw [if_neg (by omega)]
  rw [if_neg (by omega)]
  rw [if_neg (by omega)]
  rw [if_pos h]
theorem D_15 (a : Int) (h : fOp a = 15) : D a = withF (nFence a) 0 0 0 0 := by
  unfold D
  rw [if_neg (by omega)]
  rw [if_neg (by omega)]
  rw [if_neg (by omega)]
  rw [if_neg (by omega)]
  rw [if_neg (by omega)]
  rw [if_neg (by omega)]
  rw [if_neg (by omega)]
  rw [if_neg (by omega)]
  rw [if_neg (by omega)]
  rw [if_neg (by omega)]
  rw [if_neg (by omega)]
  rw [if_neg (by omega)]
  rw [if_pos h]
theorem D_47 (a : Int) (h : fOp a = 47) : D a = withF (nAto a) (fRd a) (fRs1 a) (fRs2 a) 0 := by
  unfold D
  rw [if_neg (by omega)]
  rw [if_neg (by omega)]
  rw [if_neg (by omega)]
  rw [if_neg (by omega)]
  rw [if_neg (by omega)]
  rw [if_neg (by omega)]
  rw [if_neg (by omega)]
  rw [if_neg (by omega)]
  rw [if_neg (by omega)]
  rw [if_neg (by omega)]
  rw [if_neg (by omega)]
  rw [if_neg (by omega)]
  rw [if_neg (by omega)]
  rw [if_pos h]
theorem D_else (a : Int) (h55 : fOp a ≠ 55) (h23 : fOp a ≠ 23) (h19 : fOp a ≠ 19) (h27 : fOp a ≠ 27) (h51 : fOp a ≠ 51) (h59 : fOp a ≠ 59) (h115 : fOp a ≠ 115) (h111 : fOp a ≠ 111) (h103 : fOp a ≠ 103) (h99 : fOp a ≠ 99) (h3 : fOp a ≠ 3) (h35 : fOp a ≠ 35) (h15 : fOp a ≠ 15) (h47 : fOp a ≠ 47) : D a = no := by
  unfold D
  rw [if_neg h55]
  rw [if_neg h23]
  rw [if_neg h19]
  rw [if_neg h27]
  rw [if_neg h51]
  rw [if_neg h59]
  rw [if_neg h115]
  rw [if_neg h111]
  rw [if_neg h103]
  rw [if_neg h99]
  rw [if_neg h3]
  rw [if_neg h35]
  rw [if_neg h15]
  rw [if_neg h47]
theorem shf_t {a : Int} (h : shf a = true) : fF3 a = 1 ∨ fF3 a = 5 := by simpa [shf] using h
theorem shf_f {a : Int} (h : shf a = false) : fF3 a ≠ 1 ∧ fF3 a ≠ 5 := by simpa [shf] using h
/-- a word of a class whose draft is itself -/
theorem back_of {a : Int} {i : I} (e : (D a).1 = i) (d : draftF i = a) : D (draftF (D a).1) = D a := by rw [e, d]
theorem bk_55 (a : Int) (h0 : 0 ≤ a) (h1 : a < 4294967296) (ho : fOp a = 55) : D (draftF (D a).1) = D a := back_of (by rw [D_55 a ho]; rfl) (dr_lui a h0 h1 ho)
theorem bk_23 (a : Int) (h0 : 0 ≤ a) (h1 : a < 4294967296) (ho : fOp a = 23) : D (draftF (D a).1) = D a := back_of (by rw [D_23 a ho]; rfl) (dr_auipc a h0 h1 ho)
theorem bk_111 (a : Int) (h0 : 0 ≤ a) (h1 : a < 4294967296) (ho : fOp a = 111) : D (draftF (D a).1) = D a := back_of (by rw [D_111 a ho]; rfl) (dr_jal a h0 h1 ho)
theorem bk_103 (a : Int) (h0 : 0 ≤ a) (h1 : a < 4294967296) (ho : fOp a = 103) (h : (D a).2 = true) : D (draftF (D a).1) = D a := by
  by_cases q : fF3 a = 0
  · exact back_of (by rw [D_103 a ho]; unfold nJalr; rw [if_pos q]; rfl) (dr_jalr a h0 h1 ho q)
  · rw [D_103 a ho] at h; unfold nJalr at h; rw [if_neg q] at h; cases h
theorem bk_99 (a : Int) (h0 : 0 ≤ a) (h1 : a < 4294967296) (ho : fOp a = 99) (h : (D a).2 = true) : D (draftF (D a).1) = D a := by
  rw [D_99 a ho] at h
  obtain ⟨p, e⟩ := withF_ok h
  obtain ⟨hn, hi⟩ := onl_ok p
  have hi' : (nBranch a).1 = _ := hi
  exact back_of (by rw [D_99 a ho, e, hi'] <;> rfl) (dr_branch a h0 h1 ho hn)
theorem bk_3 (a : Int) (h0 : 0 ≤ a) (h1 : a < 4294967296) (ho : fOp a = 3) (h : (D a).2 = true) : D (draftF (D a).1) = D a := by
  rw [D_3 a ho] at h
  obtain ⟨p, e⟩ := withF_ok h
  obtain ⟨hn, hi⟩ := onl_ok p
  have hi' : (nLoad a).1 = _ := hi
  exact back_of (by rw [D_3 a ho, e, hi'] <;> rfl) (dr_load a h0 h1 ho hn)
theorem bk_35 (a : Int) (h0 : 0 ≤ a) (h1 : a < 4294967296) (ho : fOp a = 35) (h : (D a).2 = true) : D (draftF (D a).1) = D a := by
  rw [D_35 a ho] at h
  obtain ⟨p, e⟩ := withF_ok h
  obtain ⟨hn, hi⟩ := onl_ok p
  have hi' : (nStore a).1 = _ := hi
  exact back_of (by rw [D_35 a ho, e, hi'] <;> rfl) (dr_store a h0 h1 ho hn)
theorem bk_51 (a : Int) (h0 : 0 ≤ a) (h1 : a < 4294967296) (ho : fOp a = 51) (h : (D a).2 = true) : D (draftF (D a).1) = D a := by
  rw [D_51 a ho] at h
  obtain ⟨p, e⟩ := withF_ok h
  obtain ⟨hn, hi⟩ := onl_ok p
  have hi' : (nAlu a).1 = _ := hi
  exact back_of (by rw [D_51 a ho, e, hi'] <;> rfl) (dr_alu a h0 h1 ho hn)
theorem bk_59 (a : Int) (h0 : 0 ≤ a) (h1 : a < 4294967296) (ho : fOp a = 59) (h : (D a).2 = true) : D (draftF (D a).1) = D a := by
  rw [D_59 a ho] at h
  obtain ⟨p, e⟩ := withF_ok h
  obtain ⟨hn, hi⟩ := onl_ok p
  have hi' : (nAluW a).1 = _ := hi
  exact back_of (by rw [D_59 a ho, e, hi'] <;> rfl) (dr_aluW a h0 h1 ho hn)
theorem bk_19 (a : Int) (h0 : 0 ≤ a) (h1 : a < 4294967296) (ho : fOp a = 19) (h : (D a).2 = true) : D (draftF (D a).1) = D a := by
  rw [D_19 a ho] at h
  obtain ⟨p, e⟩ := withF_ok h
  obtain ⟨hn, hi⟩ := onl_ok p
  have hi' : (nImm a).1 = _ := hi
  cases hh : shf a
  · have hf := shf_f hh
    have e1 : fnImm a = tBas (fF3 a) := by unfold fnImm; rw [hh]; rfl
    have e2 : iOpnd a = iI a := by unfold iOpnd; rw [hh]; rfl
    rw [e1] at hn hi'
    exact back_of (by rw [D_19 a ho, e, hi', e2]) (dr_imm a h0 h1 ho hf.1 hf.2)
  · have hf := shf_t hh
    have e1 : fnImm a = chos (fF6 a * 2) (tBas (fF3 a)) (tAlt (fF3 a)) 0 := by unfold fnImm; rw [hh]; rfl
    have e2 : iOpnd a = fSh a := by unfold iOpnd; rw [hh]; rfl
    rw [e1] at hn hi'
    exact back_of (by rw [D_19 a ho, e, hi', e2]) (dr_sh a h0 h1 ho hf hn)
theorem bk_27 (a : Int) (h0 : 0 ≤ a) (h1 : a < 4294967296) (ho : fOp a = 27) (h : (D a).2 = true) : D (draftF (D a).1) = D a := by
  rw [D_27 a ho] at h
  obtain ⟨p, e⟩ := withF_ok h
  obtain ⟨hn, hi⟩ := onl_ok p
  have hi' : (nImmW a).1 = _ := hi
  cases hh : shf a
  · have hf := shf_f hh
    have e1 : fnImmW a = tBasW (fF3 a) := by unfold fnImmW; rw [hh]; rfl
    have e2 : iOpndW a = iI a := by unfold iOpndW; rw [hh]; rfl
    rw [e1] at hn hi'
    exact back_of (by rw [D_27 a ho, e, hi', e2]) (dr_immW a h0 h1 ho hf.1 hf.2 hn)
  · have hf := shf_t hh
    have e1 : fnImmW a = chos (fF7 a) (tBasW (fF3 a)) (tAltW (fF3 a)) 0 := by unfold fnImmW; rw [hh]; rfl
    have e2 : iOpndW a = fRs2 a := by unfold iOpndW; rw [hh]; rfl
    rw [e1] at hn hi'
    exact back_of (by rw [D_27 a ho, e, hi', e2]) (dr_shW a h0 h1 ho hf hn)
theorem bk_e1 : D (draftF (D 115).1) = D 115 := by kernel_rfl
theorem bk_e2 : D (draftF (D 1048691).1) = D 1048691 := by kernel_rfl
theorem bk_e3 : D (draftF (D 270532723).1) = D 270532723 := by kernel_rfl
theorem bk_e4 : D (draftF (D 273678451).1) = D 273678451 := by kernel_rfl
theorem bk_f : D (draftF ⟨10, 0, 0, 0, 0, 0, 0, false⟩) = (⟨10, 0, 0, 0, 0, 0, 0, false⟩, true) := by kernel_rfl
theorem bk_115 (a : Int) (h0 : 0 ≤ a) (h1 : a < 4294967296) (ho : fOp a = 115) (h : (D a).2 = true) : D (draftF (D a).1) = D a := by
  have h3 := fF3_b a
  rw [D_115 a ho] at h
  obtain ⟨p, e⟩ := withF_ok h
  by_cases q : fF3 a = 0
  · by_cases q1 : a = 115
    · subst q1; exact bk_e1
    by_cases q2 : a = 1048691
    · subst q2; exact bk_e2
    by_cases q3 : a = 270532723
    · subst q3; exact bk_e3
    by_cases q4 : a = 273678451
    · subst q4; exact bk_e4
    by_cases q5 : fF7 a = 9 ∧ fRd a = 0
    · have e1 : nSys a = named0 20 := by unfold nSys nPriv; rw [if_pos q, if_neg q1, if_neg q2, if_neg q3, if_neg q4, if_pos q5]
      have e2 : rSpace a = fRs2 a := if_pos ⟨q, q5.1⟩
      have e3 : iCsr a = 0 := if_pos q
      exact back_of (by rw [D_115 a ho, e, e1, e2, e3, q5.2]; rfl) (dr_sfence a h0 h1 ho q q5.1 q5.2)
    · unfold nSys nPriv at p; rw [if_pos q, if_neg q1, if_neg q2, if_neg q3, if_neg q4, if_neg q5] at p; cases p
  · have e2 : rSpace a = 0 := if_neg (fun x => q x.1)
    have e3 : iCsr a = fCs a := if_neg q
    by_cases q4 : fF3 a < 4
    · have e1 : nSys a = (⟨13, fF3 a, 0, 0, 0, 0, 0, false⟩, true) := by unfold nSys; rw [if_neg q, if_pos q4]
      exact back_of (by rw [D_115 a ho, e, e1, e2, e3]) (dr_csr a h0 h1 ho (by omega))
    · by_cases q5 : 4 < fF3 a
      · have e1 : nSys a = (⟨14, fF3 a - 4, 0, 0, 0, 0, 0, false⟩, true) := by unfold nSys; rw [if_neg q, if_neg q4, if_pos q5]
        exact back_of (by rw [D_115 a ho, e, e1, e2, e3]) (dr_csrI a h0 h1 ho (by omega))
      · unfold nSys at p; rw [if_neg q, if_neg q4, if_neg q5] at p; cases p
theorem bk_15 (a : Int) (h0 : 0 ≤ a) (h1 : a < 4294967296) (ho : fOp a = 15) (h : (D a).2 = true) : D (draftF (D a).1) = D a := by
  by_cases q : fF3 a ≤ 1
  · have e : D a = (⟨10, 0, 0, 0, 0, 0, 0, false⟩, true) := by rw [D_15 a ho]; unfold nFence; rw [if_pos q]; rfl
    rw [e]; exact bk_f
  · rw [D_15 a ho] at h; unfold nFence at h; rw [if_neg q] at h; cases h
/-- a word of the atomics, its two free bits cleared -/
def clr (a : Int) : Int := a - a / 33554432 % 4 * 33554432
theorem clr_D (a : Int) (h0 : 0 ≤ a) (h1 : a < 4294967296) (ho : fOp a = 47) : D (clr a) = D a := by
  have g1 : fOp (clr a) = 47 := by unfold clr fOp at *; omega
  have g2 : fRd (clr a) = fRd a := by unfold clr fRd; omega
  have g3 : fRs1 (clr a) = fRs1 a := by unfold clr fRs1; omega
  have g4 : fRs2 (clr a) = fRs2 a := by unfold clr fRs2; omega
  have g5 : fF3 (clr a) = fF3 a := by unfold clr fF3; omega
  have g6 : fF5 (clr a) = fF5 a := by unfold clr fF5; omega
  have g7 : nAto (clr a) = nAto a := by unfold nAto; rw [g4, g5, g6]
  rw [D_47 _ g1, D_47 _ ho, g2, g3, g4, g7]
theorem dr_at (a : Int) (h0 : 0 ≤ a) (h1 : a < 4294967296) (ho : fOp a = 47) (i : I) (hk : i.kind = 15 ∨ i.kind = 16 ∨ i.kind = 17) (e1 : i.rd = fRd a) (e2 : i.rs1 = fRs1 a) (e3 : i.rs2 = fRs2 a) (e4 : i.imm = 0) (hb : baseF i = 47 + fF3 a * 4096 + fF5 a * 134217728) : draftF i = clr a := by
  have hr := fRd_b a
  have hs := fRs1_b a
  have ht := fRs2_b a
  have h3 := fF3_b a
  have h5 := fF5_b a
  have hi : imm i.kind i.imm = 0 := by rw [e4]; exact imm0 _ (by omega)
  rw [draft_sum i (m0 := 47 ||| (2 ^ 3 - 1) * 2 ^ 12 ||| (2 ^ 5 - 1) * 2 ^ 27) (m1 := (2 ^ 5 - 1) * 2 ^ 7) (m2 := (2 ^ 5 - 1) * 2 ^ 15) (m3 := (2 ^ 5 - 1) * 2 ^ 20) (m4 := 0) (by rw [hb]; exact in_f3f 47 (by decide) _ h3 5 27 _ h5.1 (by have := h5.2; omega) (by decide) (by decide) (by decide)) (in_rd _) (in_rs1 _) (in_rs2 _) (by rw [hi]; exact In.zero 0) (by decide)]
  rw [hb, hi, e1, e2, e3, reg_id hr, reg_id hs, reg_id ht]
  unfold clr
  simp only [fOp, fRd, fF3, fRs1, fRs2, fF5] at *
  omega
theorem bk_47 (a : Int) (h0 : 0 ≤ a) (h1 : a < 4294967296) (ho : fOp a = 47) (h : (D a).2 = true) : D (draftF (D a).1) = D a := by
  have h3 := fF3_b a
  have h5 := fF5_b a
  rw [D_47 a ho] at h
  obtain ⟨p, e⟩ := withF_ok h
  have key : draftF (D a).1 = clr a := by
    rw [D_47 a ho, e]
    by_cases q : tAto (fF5 a) = 0
    · by_cases q2 : fF5 a = 2 ∧ fRs2 a = 0
      · have n : nAto a = onl ⟨15, 0, 0, 0, 0, 0, tWid (fF3 a), false⟩ (tWid (fF3 a)) := by unfold nAto; rw [if_pos q, if_pos q2]
        rw [n] at p ⊢
        obtain ⟨hn, hi⟩ := onl_ok p
        rw [hi]
        exact dr_at a h0 h1 ho _ (Or.inl rfl) rfl rfl rfl rfl (by rw [q2.1]; exact b_lr _ h3 hn _ _ _ _)
      · by_cases q3 : fF5 a = 3
        · have n : nAto a = onl ⟨16, 0, 0, 0, 0, 0, tWid (fF3 a), false⟩ (tWid (fF3 a)) := by unfold nAto; rw [if_pos q, if_neg q2, if_pos q3]
          rw [n] at p ⊢
          obtain ⟨hn, hi⟩ := onl_ok p
          rw [hi]
          exact dr_at a h0 h1 ho _ (Or.inr (Or.inl rfl)) rfl rfl rfl rfl (by rw [q3]; exact b_sc _ h3 hn _ _ _ _)
        · unfold nAto at p; rw [if_pos q, if_neg q2, if_neg q3] at p; cases p
    · have n : nAto a = onl ⟨17, tAto (fF5 a), 0, 0, 0, 0, tWid (fF3 a), false⟩ (tWid (fF3 a)) := by unfold nAto; rw [if_neg q]
      rw [n] at p ⊢
      obtain ⟨hn, hi⟩ := onl_ok p
      rw [hi]
      exact dr_at a h0 h1 ho _ (Or.inr (Or.inr rfl)) rfl rfl rfl rfl (b_amo _ _ h3 hn h5 q _ _ _ _)
  rw [key]; exact clr_D a h0 h1 ho
theorem back (a : Int) (h0 : 0 ≤ a) (h1 : a < 4294967296) (h : (D a).2 = true) : D (draftF (D a).1) = D a := by
  by_cases h55 : fOp a = 55
  · exact bk_55 a h0 h1 h55
  by_cases h23 : fOp a = 23
  · exact bk_23 a h0 h1 h23
  by_cases h19 : fOp a = 19
  · exact bk_19 a h0 h1 h19 h
  by_cases h27 : fOp a = 27
  · exact bk_27 a h0 h1 h27 h
  by_cases h51 : fOp a = 51
  · exact bk_51 a h0 h1 h51 h
  by_cases h59 : fOp a = 59
  · exact bk_59 a h0 h1 h59 h
  by_cases h115 : fOp a = 115
  · exact bk_115 a h0 h1 h115 h
  by_cases h111 : fOp a = 111
  · exact bk_111 a h0 h1 h111
  by_cases h103 : fOp a = 103
  · exact bk_103 a h0 h1 h103 h
  by_cases h99 : fOp a = 99
  · exact bk_99 a h0 h1 h99 h
  by_cases h3 : fOp a = 3
  · exact bk_3 a h0 h1 h3 h
  by_cases h35 : fOp a = 35
  · exact bk_35 a h0 h1 h35 h
  by_cases h15 : fOp a = 15
  · exact bk_15 a h0 h1 h15 h
  by_cases h47 : fOp a = 47
  · exact bk_47 a h0 h1 h47 h
  rw [D_else a h55 h23 h19 h27 h51 h59 h115 h111 h103 h99 h3 h35 h15 h47] at h; cases h
theorem not_ok (a : Int) (h : (D a).2 = false) : (D a).1 = I.zero := by
  have w : ∀ (p : I × Bool) (rd r1 r2 im : Int), (withF p rd r1 r2 im).2 = false → (withF p rd r1 r2 im).1 = I.zero := by
    intro p rd r1 r2 im h
    unfold withF at *
    by_cases q : p.2 = true
    · rw [if_pos q] at h; cases h
    · rw [if_neg q]; rfl
  by_cases h55 : fOp a = 55
  · rw [D_55 a h55] at *; exact w _ _ _ _ _ h
  by_cases h23 : fOp a = 23
  · rw [D_23 a h23] at *; exact w _ _ _ _ _ h
  by_cases h19 : fOp a = 19
  · rw [D_19 a h19] at *; exact w _ _ _ _ _ h
  by_cases h27 : fOp a = 27
  · rw [D_27 a h27] at *; exact w _ _ _ _ _ h
  by_cases h51 : fOp a = 51
  · rw [D_51 a h51] at *; exact w _ _ _ _ _ h
  by_cases h59 : fOp a = 59
  · rw [D_59 a h59] at *; exact w _ _ _ _ _ h
  by_cases h115 : fOp a = 115
  · rw [D_115 a h115] at *; exact w _ _ _ _ _ h
  by_cases h111 : fOp a = 111
  · rw [D_111 a h111] at *; exact w _ _ _ _ _ h
  by_cases h103 : fOp a = 103
  · rw [D_103 a h103] at *; exact w _ _ _ _ _ h
  by_cases h99 : fOp a = 99
  · rw [D_99 a h99] at *; exact w _ _ _ _ _ h
  by_cases h3 : fOp a = 3
  · rw [D_3 a h3] at *; exact w _ _ _ _ _ h
  by_cases h35 : fOp a = 35
  · rw [D_35 a h35] at *; exact w _ _ _ _ _ h
  by_cases h15 : fOp a = 15
  · rw [D_15 a h15] at *; exact w _ _ _ _ _ h
  by_cases h47 : fOp a = 47
  · rw [D_47 a h47] at *; exact w _ _ _ _ _ h
  rw [D_else a h55 h23 h19 h27 h51 h59 h115 h111 h103 h99 h3 h35 h15 h47]; rfl
theorem enc_back (a : Int) (h0 : 0 ≤ a) (h1 : a < 4294967296) (h : (D a).2 = true) : encF (D a).1 = (draftF (D a).1, true) := by
  have b := back a h0 h1 h
  unfold encF
  rw [if_pos (by rw [b]; exact ⟨h, eqI_self _⟩)]
end Go.Proofs.YtioodijiejipiaaGreatDoor
