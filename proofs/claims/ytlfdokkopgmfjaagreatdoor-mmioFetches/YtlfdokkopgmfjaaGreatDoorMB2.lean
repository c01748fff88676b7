/- What is read is written as a word that is read the same: every word. Nothing here speaks of the program. -/
import Derived.Test.YtlfdokkopgmfjaaGreatDoorMB1
import Derived.Test.YtlfdokkopgmfjaaGreatDoorBRI
import Derived.Deep.QuietTactic
import Derived.BigQuiet
namespace Go.Proofs.YtlfdokkopgmfjaaGreatDoor.B
open Go.RowKit
set_option linter.unusedVariables false
set_option maxRecDepth 100000
theorem D_55 (a : Int) (h : fOp a = 55) : D a = withF (nLui a) (fRd a) 0 0 (iU a) := by
  unfold D
  rw [if_pos h]
theorem D_23 (a : Int) (h : fOp a = 23) : D a = withF (nAuipc a) (fRd a) 0 0 (iU a) := by
  unfold D
  rw [if_neg (by omega)]
  rw [if_pos h]
theorem D_19 (a : Int) (h : fOp a = 19) : D a = withF (nImm a) (fRd a) (fRs1 a) 0 (iOpnd a) := by
  unfold D
  rw [if_neg (by omega)]
  rw [if_neg (by omega)]
  rw [if_pos h]
theorem D_27 (a : Int) (h : fOp a = 27) : D a = withF (nImmW a) (fRd a) (fRs1 a) 0 (iOpndW a) := by
  unfold D
  rw [if_neg (by omega)]
  rw [if_neg (by omega)]
  rw [if_neg (by omega)]
  rw [if_pos h]
theorem D_51 (a : Int) (h : fOp a = 51) : D a = withF (nAlu a) (fRd a) (fRs1 a) (fRs2 a) 0 := by
  unfold D
  rw [if_neg (by omega)]
  rw [if_neg (by omega)]
  rw [if_neg (by omega)]
  rw [if_neg (by omega)]
  rw [if_pos h]
theorem D_59 (a : Int) (h : fOp a = 59) : D a = withF (nAluW a) (fRd a) (fRs1 a) (fRs2 a) 0 := by
  unfold D
  rw [if_neg (by omega)]
  rw [if_neg (by omega)]
  rw [if_neg (by omega)]
  rw [if_neg (by omega)]
  rw [if_neg (by omega)]
  rw [if_pos h]
theorem D_115 (a : Int) (h : fOp a = 115) : D a = withF (nSys a) (fRd a) (fRs1 a) (rSpace a) (iCsr a) := by
  unfold D
  rw [if_neg (by omega)]
  rw [if_neg (by omega)]
  rw [if_neg (by omega)]
  rw [if_neg (by omega)]
  rw [if_neg (by omega)]
  rw [if_neg (by omega)]
  rw [if_pos h]
theorem D_111 (a : Int) (h : fOp a = 111) : D a = withF (nJal a) (fRd a) 0 0 (iJ a) := by
  unfold D
  rw [if_neg (by omega)]
  rw [if_neg (by omega)]
  rw [if_neg (by omega)]
  rw [if_neg (by omega)]
  rw [if_neg (by omega)]
  rw [if_neg (by omega)]
  rw [if_neg (by omega)]
  rw [if_pos h]
theorem D_103 (a : Int) (h : fOp a = 103) : D a = withF (nJalr a) (fRd a) (fRs1 a) 0 (iI a) := by
  unfold D
  rw [if_neg (by omega)]
  rw [if_neg (by omega)]
  rw [if_neg (by omega)]
  rw [if_neg (by omega)]
  rw [if_neg (by omega)]
  rw [if_neg (by omega)]
  rw [if_neg (by omega)]
  rw [if_neg (by omega)]
  rw [if_pos h]
theorem D_99 (a : Int) (h : fOp a = 99) : D a = withF (nBranch a) 0 (fRs1 a) (fRs2 a) (iB a) := by
  unfold D
  rw [if_neg (by omega)]
  rw [if_neg (by omega)]
  rw [if_neg (by omega)]
  rw [if_neg (by omega)]
  rw [if_neg (by omega)]
  rw [if_neg (by omega)]
  rw [if_neg (by omega)]
  rw [if_neg (by omega)]
  rw [if_neg (by omega)]
  rw [if_pos h]
theorem D_3 (a : Int) (h : fOp a = 3) : D a = withF (nLoad a) (fRd a) (fRs1 a) 0 (iI a) := by
  unfold D
  rw [if_neg (by omega)]
  rw [if_neg (by omega)]
  rw [if_neg (by omega)]
  rw [if_neg (by omega)]
  rw [if_neg (by omega)]
  rw [if_neg (by omega)]
  rw [if_neg (by omega)]
  rw [if_neg (by omega)]
  rw [if_neg (by omega)]
  rw [if_neg (by omega)]
  rw [if_pos h]
theorem D_35 (a : Int) (h : fOp a = 35) : D a = withF (nStore a) 0 (fRs1 a) (fRs2 a) (iS a) := by
  unfold D
  rw [if_neg (by omega)]
  rw [if_neg (by omega)]
  rw [if_neg (by omega)]
  rw [if_neg (by omega)]
  rw [if_neg (by omega)]
  rw [if_neg (by omega)]
  rw [if_neg (by omega)]
  rw [if_neg (by omega)]
  rw [if_neg (by omega)]
  rw [if_neg (by omega)]
  rw [if_neg (by omega)]
  rw [if_pos h]
theorem D_15 (a : Int) (h : fOp a = 15) : D a = withF (nFence a) 0 0 0 0 := by
  unfold D
  rw [if_neg (by omega)]
  rw [if_neg (by omega)]
  rw [if_neg (by omega)]
  rw [if_neg (by omega)]
  rw [if_neg (by omega)]
  rw [if_neg (by omega)]
  rw [if_neg (by omega)]
  rw [if_neg (by omega)]
  rw [if_neg (by omega)]
  rw [if_neg (by omega)]
  rw [if_neg (by omega)]
  rw [if_neg (by omega)]
  rw [if_pos h]
theorem D_47 (a : Int) (h : fOp a = 47) : D a = withF (nAto a) (fRd a) (fRs1 a) (fRs2 a) 0 := by
  unfold D
  rw [if_neg (by omega)]
  rw [if_neg (by omega)]
  rw [if_neg (by omega)]
  rw [if_neg (by omega)]
  rw [if_neg (by omega)]
  rw [if_neg (by omega)]
  rw [if_neg (by omega)]
  rw [if_neg (by omega)]
  rw [if_neg (by omega)]
  rw [if_neg (by omega)]
  rw [if_neg (by omega)]
  rw [if_neg (by omega)]
  rw [if_neg (by omega)]
  rw [if_pos h]
theorem D_else (a : Int) (h55 : fOp a ≠ 55) (h23 : fOp a ≠ 23) (h19 : fOp a ≠ 19) (h27 : fOp a ≠ 27) (h51 : fOp a ≠ 51) (h59 : fOp a ≠ 59) (h115 : fOp a ≠ 115) (h111 : fOp a ≠ 111) (h103 : fOp a ≠ 103) (h99 : fOp a ≠ 99) (h3 : fOp a ≠ 3) (h35 : fOp a ≠ 35) (h15 : fOp a ≠ 15) (h47 : fOp a ≠ 47) : D a = no := by
  unfold D
  rw [if_neg h55]
  rw [if_neg h23]
  rw [if_neg h19]
  rw [if_neg h27]
  rw [if_neg h51]
  rw [if_neg h59]
  rw [if_neg h115]
  rw [if_neg h111]
  rw [if_neg h103]
  rw [if_neg h99]
  rw [if_neg h3]
  rw [if_neg h35]
  rw [if_neg h15]
  rw [if_neg h47]
theorem shf_t {a : Int} (h : shf a = true) : fF3 a = 1 ∨ fF3 a = 5 := by simpa [shf] using h
theorem shf_f {a : Int} (h : shf a = false) : fF3 a ≠ 1 ∧ fF3 a ≠ 5 := by simpa [shf] using h
/-- a word of a class whose draft is itself -/
theorem back_of {a : Int} {i : I} (e : (D a).1 = i) (d : draftF i = a) : D (draftF (D a).1) = D a := by rw [e, d]
theorem bk_55 (a : Int) (h0 : 0 ≤ a) (h1 : a < 4294967296) (ho : fOp a = 55) : D (draftF (D a).1) = D a := back_of (by rw [D_55 a ho]; rfl) (dr_lui a h0 h1 ho)
theorem bk_23 (a : Int) (h0 : 0 ≤ a) (h1 : a < 4294967296) (ho : fOp a = 23) : D (draftF (D a).1) = D a := back_of (by rw [D_23 a ho]; rfl) (dr_auipc a h0 h1 ho)
theorem bk_111 (a : Int) (h0 : 0 ≤ a) (h1 : a < 4294967296) (ho : fOp a = 111) : D (draftF (D a).1) = D a := back_of (by rw [D_111 a ho]; rfl) (dr_jal a h0 h1 ho)
theorem bk_103 (a : Int) (h0 : 0 ≤ a) (h1 : a < 4294967296) (ho : fOp a = 103) (h : (D a).2 = true) : D (draftF (D a).1) = D a := by
  by_cases q : fF3 a = 0
  · exact back_of (by rw [D_103 a ho]; unfold nJalr; rw [if_pos q]; rfl) (dr_jalr a h0 h1 ho q)
  · rw [D_103 a ho] at h; unfold nJalr at h; rw [if_neg q] at h; cases h
theorem bk_99 (a : Int) (h0 : 0 ≤ a) (h1 : a < 4294967296) (ho : fOp a = 99) (h : (D a).2 = true) : D (draftF (D a).1) = D a := by
  rw [D_99 a ho] at h
  obtain ⟨p, e⟩ := withF_ok h
  obtain ⟨hn, hi⟩ := onl_ok p
  have hi' : (nBranch a).1 = _ := hi
  exact back_of (by rw [D_99 a ho, e, hi'] <;> rfl) (dr_branch a h0 h1 ho hn)
theorem bk_3 (a : Int) (h0 : 0 ≤ a) (h1 : a < 4294967296) (ho : fOp a = 3) (h : (D a).2 = true) : D (draftF (D a).1) = D a := by
  rw [D_3 a ho] at h
  obtain ⟨p, e⟩ := withF_ok h
  obtain ⟨hn, hi⟩ := onl_ok p
  have hi' : (nLoad a).1 = _ := hi
  exact back_of (by rw [D_3 a ho, e, hi'] <;> rfl) (dr_load a h0 h1 ho hn)
theorem bk_35 (a : Int) (h0 : 0 ≤ a) (h1 : a < 4294967296) (ho : fOp a = 35) (h : (D a).2 = true) : D (draftF (D a).1) = D a := by
  rw [D_35 a ho] at h
  obtain ⟨p, e⟩ := withF_ok h
  obtain ⟨hn, hi⟩ := onl_ok p
  have hi' : (nStore a).1 = _ := hi
  exact back_of (by rw [D_35 a ho, e, hi'] <;> rfl) (dr_store a h0 h1 ho hn)
theorem bk_51 (a : Int) (h0 : 0 ≤ a) (h1 : a < 4294967296) (ho : fOp a = 51) (h : (D a).2 = true) : D (draftF (D a).1) = D a := by
  rw [D_51 a ho] at h
  obtain ⟨p, e⟩ := withF_ok h
  obtain ⟨hn, hi⟩ := onl_ok p
  have hi' : (nAlu a).1 = _ := hi
  exact back_of (by rw [D_51 a ho, e, hi'] <;> rfl) (dr_alu a h0 h1 ho hn)
theorem bk_59 (a : Int) (h0 : 0 ≤ a) (h1 : a < 4294967296) (ho : fOp a = 59) (h : (D a).2 = true) : D (draftF (D a).1) = D a := by
  rw [D_59 a ho] at h
  obtain ⟨p, e⟩ := withF_ok h
  obtain ⟨hn, hi⟩ := onl_ok p
  have hi' : (nAluW a).1 = _ := hi
  exact back_of (by rw [D_59 a ho, e, hi'] <;> rfl) (dr_aluW a h0 h1 ho hn)
theorem bk_19 (a : Int) (h0 : 0 ≤ a) (h1 : a < 4294967296) (ho : fOp a = 19) (h : (D a).2 = true) : D (draftF (D a).1) = D a := by
  rw [D_19 a ho] at h
  obtain ⟨p, e⟩ := withF_ok h
  obtain ⟨hn, hi⟩ := onl_ok p
  have hi' : (nImm a).1 = _ := hi
  cases hh : shf a
  · have hf := shf_f hh
    have e1 : fnImm a = tBas (fF3 a) := by unfold fnImm; rw [hh]; rfl
    have e2 : iOpnd a = iI a := by unfold iOpnd; rw [hh]; rfl
    rw [e1] at hn hi'
    exact back_of (by rw [D_19 a ho, e, hi', e2]) (dr_imm a h0 h1 ho hf.1 hf.2)
  · have hf := shf_t hh
    have e1 : fnImm a = chos (fF6 a * 2) (tBas (fF3 a)) (tAlt (fF3 a)) 0 := by unfold fnImm; rw [hh]; rfl
    have e2 : iOpnd a = fSh a := by unfold iOpnd; rw [hh]; rfl
    rw [e1] at hn hi'
    exact back_of (by rw [D_19 a ho, e, hi', e2]) (dr_sh a h0 h1 ho hf hn)
theorem bk_27 (a : Int) (h0 : 0 ≤ a) (h1 : a < 4294967296) (ho : fOp a = 27) (h : (D a).2 = true) : D (draftF (D a).1) = D a := by
  rw [D_27 a ho] at h
  obtain ⟨p, e⟩ := withF_ok h
  obtain ⟨hn, hi⟩ := onl_ok p
  have hi' : (nImmW a).1 = _ := hi
  cases hh : shf a
  · have hf := shf_f hh
    have e1 : fnImmW a = tBasW (fF3 a) := by unfold fnImmW; rw [hh]; rfl
    have e2 : iOpndW a = iI a := by unfold iOpndW; rw [hh]; rfl
    rw [e1] at hn hi'
    exact back_of (by rw [D_27 a ho, e, hi', e2]) (dr_immW a h0 h1 ho hf.1 hf.2 hn)
  · have hf := shf_t hh
    have e1 : fnImmW a = chos (fF7 a) (tBasW (fF3 a)) (tAltW (fF3 a)) 0 := by unfold fnImmW; rw [hh]; rfl
    have e2 : iOpndW a = fRs2 a := by unfold iOpndW; rw [hh]; rfl
    rw [e1] at hn hi'
    exact back_of (by rw [D_27 a ho, e, hi', e2]) (dr_shW a h0 h1 ho hf hn)
theorem bk_e1 : D (draftF (D 115).1) = D 115 := by kernel_rfl
theorem bk_e2 : D (draftF (D 1048691).1) = D 1048691 := by kernel_rfl
theorem bk_e3 : D (draftF (D 270532723).1) = D 270532723 := by kernel_rfl
theorem bk_e4 : D (draftF (D 273678451).1) = D 273678451 := by kernel_rfl
theorem bk_f : D (draftF ⟨10, 0, 0, 0, 0, 0, 0, false⟩) = (⟨10, 0, 0, 0, 0, 0, 0, false⟩, true) := by kernel_rfl
theorem bk_115 (a : Int) (h0 : 0 ≤ a) (h1 : a < 4294967296) (ho : fOp a = 115) (h : (D a).2 = true) : D (draftF (D a).1) = D a := by
  have h3 := fF3_b a
  rw [D_115 a ho] at h
  obtain ⟨p, e⟩ := withF_ok h
  by_cases q : fF3 a = 0
  · by_cases q1 : a = 115
    · subst q1; exact bk_e1
    by_cases q2 : a = 1048691
    · subst q2; exact bk_e2
    by_cases q3 : a = 270532723
    · subst q3; exact bk_e3
    by_cases q4 : a = 273678451
    · subst q4; exact bk_e4
    by_cases q5 : fF7 a = 9 ∧ fRd a = 0
    · have e1 : nSys a = named0 20 := by unfold nSys nPriv; rw [if_pos q, if_neg q1, if_neg q2, if_neg q3, if_neg q4, if_pos q5]
      have e2 : rSpace a = fRs2 a := if_pos ⟨q, q5.1⟩
      have e3 : iCsr a = 0 := if_pos q
      exact back_of (by rw [D_115 a ho, e, e1, e2, e3, q5.2]; rfl) (dr_sfence a h0 h1 ho q q5.1 q5.2)
    · unfold nSys nPriv at p; rw [if_pos q, if_neg q1, if_neg q2, if_neg q3, if_neg q4, if_neg q5] at p; cases p
  · have e2 : rSpace a = 0 := if_neg (fun x => q x.1)
    have e3 : iCsr a = fCs a := if_neg q
    by_cases q4 : fF3 a < 4
    · have e1 : nSys a = (⟨13, fF3 a, 0, 0, 0, 0, 0, false⟩, true) := by unfold nSys; rw [if_neg q, if_pos q4]
      exact back_of (by rw [D_115 a ho, e, e1, e2, e3]) (dr_csr a h0 h1 ho (by omega))
    · by_cases q5 : 4 < fF3 a
      · have e1 : nSys a = (⟨14, fF3 a - 4, 0, 0, 0, 0, 0, false⟩, true) := by unfold nSys; rw [if_neg q, if_neg q4, if_pos q5]
        exact back_of (by rw [D_115 a ho, e, e1, e2, e3]) (dr_csrI a h0 h1 ho (by omega))
      · unfold nSys at p; rw [if_neg q, if_neg q4, if_neg q5] at p; cases p
theorem bk_15 (a : Int) (h0 : 0 ≤ a) (h1 : a < 4294967296) (ho : fOp a = 15) (h : (D a).2 = true) : D (draftF (D a).1) = D a := by
  by_cases q : fF3 a ≤ 1
  · have e : D a = (⟨10, 0, 0, 0, 0, 0, 0, false⟩, true) := by rw [D_15 a ho]; unfold nFence; rw [if_pos q]; rfl
    rw [e]; exact bk_f
  · rw [D_15 a ho] at h; unfold nFence at h; rw [if_neg q] at h; cases h
/-- a word of the atomics, its two free bits cleared -/
def clr (a : Int) : Int := a - a / 33554432 % 4 * 33554432
theorem clr_D (a : Int) (h0 : 0 ≤ a) (h1 : a < 4294967296) (ho : fOp a = 47) : D (clr a) = D a := by
  have g1 : fOp (clr a) = 47 := by unfold clr fOp at *; omega
  have g2 : fRd (clr a) = fRd a := by unfold clr fRd; omega
  have g3 : fRs1 (clr a) = fRs1 a := by unfold clr fRs1; omega
  have g4 : fRs2 (clr a) = fRs2 a := by unfold clr fRs2; omega
  have g5 : fF3 (clr a) = fF3 a := by unfold clr fF3; omega
  have g6 : fF5 (clr a) = fF5 a := by unfold clr fF5; omega
  have g7 : nAto (clr a) = nAto a := by unfold nAto; rw [g4, g5, g6]
  rw [D_47 _ g1, D_47 _ ho, g2, g3, g4, g7]
theorem dr_at (a : Int) (h0 : 0 ≤ a) (h1 : a < 4294967296) (ho : fOp a = 47) (i : I) (hk : i.kind = 15 ∨ i.kind = 16 ∨ i.kind = 17) (e1 : i.rd = fRd a) (e2 : i.rs1 = fRs1 a) (e3 : i.rs2 = fRs2 a) (e4 : i.imm = 0) (hb : baseF i = 47 + fF3 a * 4096 + fF5 a * 134217728) : draftF i = clr a := by
  have hr := fRd_b a
  have hs := fRs1_b a
  have ht := fRs2_b a
  have h3 := fF3_b a
  have h5 := fF5_b a
  have hi : imm i.kind i.imm = 0 := by rw [e4]; exact imm0 _ (by omega)
  rw [draft_sum i (m0 := 47 ||| (2 ^ 3 - 1) * 2 ^ 12 ||| (2 ^ 5 - 1) * 2 ^ 27) (m1 := (2 ^ 5 - 1) * 2 ^ 7) (m2 := (2 ^ 5 - 1) * 2 ^ 15) (m3 := (2 ^ 5 - 1) * 2 ^ 20) (m4 := 0) (by rw [hb]; exact in_f3f 47 (by decide) _ h3 5 27 _ h5.1 (by have := h5.2; omega) (by decide) (by decide) (by decide)) (in_rd _) (in_rs1 _) (in_rs2 _) (by rw [hi]; exact In.zero 0) (by decide)]
  rw [hb, hi, e1, e2, e3, reg_id hr, reg_id hs, reg_id ht]
  unfold clr
  simp only [fOp, fRd, fF3, fRs1, fRs2, fF5] at *
  omega
theorem bk_47 (a : Int) (h0 : 0 ≤ a) (h1 : a < 4294967296) (ho : fOp a = 47) (h : (D a).2 = true) : D (draftF (D a).1) = D a := by
  have h3 := fF3_b a
  have h5 := fF5_b a
  rw [D_47 a ho] at h
  obtain ⟨p, e⟩ := withF_ok h
  have key : draftF (D a).1 = clr a := by
    rw [D_47 a ho, e]
    by_cases q : tAto (fF5 a) = 0
    · by_cases q2 : fF5 a = 2 ∧ fRs2 a = 0
      · have n : nAto a = onl ⟨15, 0, 0, 0, 0, 0, tWid (fF3 a), false⟩ (tWid (fF3 a)) := by unfold nAto; rw [if_pos q, if_pos q2]
        rw [n] at p ⊢
        obtain ⟨hn, hi⟩ := onl_ok p
        rw [hi]
        exact dr_at a h0 h1 ho _ (Or.inl rfl) rfl rfl rfl rfl (by rw [q2.1]; exact b_lr _ h3 hn _ _ _ _)
      · by_cases q3 : fF5 a = 3
        · have n : nAto a = onl ⟨16, 0, 0, 0, 0, 0, tWid (fF3 a), false⟩ (tWid (fF3 a)) := by unfold nAto; rw [if_pos q, if_neg q2, if_pos q3]
          rw [n] at p ⊢
          obtain ⟨hn, hi⟩ := onl_ok p
          rw [hi]
          exact dr_at a h0 h1 ho _ (Or.inr (Or.inl rfl)) rfl rfl rfl rfl (by rw [q3]; exact b_sc _ h3 hn _ _ _ _)
        · unfold nAto at p; rw [if_pos q, if_neg q2, if_neg q3] at p; cases p
    · have n : nAto a = onl ⟨17, tAto (fF5 a), 0, 0, 0, 0, tWid (fF3 a), false⟩ (tWid (fF3 a)) := by unfold nAto; rw [if_neg q]
      rw [n] at p ⊢
      obtain ⟨hn, hi⟩ := onl_ok p
      rw [hi]
      exact dr_at a h0 h1 ho _ (Or.inr (Or.inr rfl)) rfl rfl rfl rfl (b_amo _ _ h3 hn h5 q _ _ _ _)
  rw [key]; exact clr_D a h0 h1 ho
theorem back (a : Int) (h0 : 0 ≤ a) (h1 : a < 4294967296) (h : (D a).2 = true) : D (draftF (D a).1) = D a := by
  by_cases h55 : fOp a = 55
  · exact bk_55 a h0 h1 h55
  by_cases h23 : fOp a = 23
  · exact bk_23 a h0 h1 h23
  by_cases h19 : fOp a = 19
  · exact bk_19 a h0 h1 h19 h
  by_cases h27 : fOp a = 27
  · exact bk_27 a h0 h1 h27 h
  by_cases h51 : fOp a = 51
  · exact bk_51 a h0 h1 h51 h
  by_cases h59 : fOp a = 59
  · exact bk_59 a h0 h1 h59 h
  by_cases h115 : fOp a = 115
  · exact bk_115 a h0 h1 h115 h
  by_cases h111 : fOp a = 111
  · exact bk_111 a h0 h1 h111
  by_cases h103 : fOp a = 103
  · exact bk_103 a h0 h1 h103 h
  by_cases h99 : fOp a = 99
  · exact bk_99 a h0 h1 h99 h
  by_cases h3 : fOp a = 3
  · exact bk_3 a h0 h1 h3 h
  by_cases h35 : fOp a = 35
  · exact bk_35 a h0 h1 h35 h
  by_cases h15 : fOp a = 15
  · exact bk_15 a h0 h1 h15 h
  by_cases h47 : fOp a = 47
  · exact bk_47 a h0 h1 h47 h
  rw [D_else a h55 h23 h19 h27 h51 h59 h115 h111 h103 h99 h3 h35 h15 h47] at h; cases h
theorem enc_back (a : Int) (h0 : 0 ≤ a) (h1 : a < 4294967296) (h : (D a).2 = true) : encF (D a).1 = (draftF (D a).1, true) := by
  have b := back a h0 h1 h
  unfold encF
  rw [if_pos (by rw [b]; exact ⟨h, eqI_self _⟩)]
end Go.Proofs.YtlfdokkopgmfjaaGreatDoor.B
namespace Go.Proofs.YtlfdokkopgmfjaaGreatDoor.B
open Go.RowKit
set_option linter.unusedVariables false
set_option maxRecDepth 100000
theorem d_115 (a : Int) (h0 : 0 ≤ a) (h1 : a < 4294967296) (w : World) (ho : fOp a = 115) :
    Calls Tryz.prog 86 #[.int .u32 a] w fun e w' => e = .returned (.tuple #[(syF a).1.v, .bool (syF a).2]) ∧ Below w.heap.size w w' := by
  have hz : w.heap.size < w.heap.size + 1 + 1 := by omega
  go_enter Tryz.func86, Tryz.ntmps86
  go_wp2_with (first | (go_at_call 61; (with_reducible first | refine (g_f3 a h0 h1 _).mono ?_ | refine (g_f7 a h0 h1 _).mono ?_ | refine (g_rd a h0 h1 _).mono ?_ | refine (g_rs1 a h0 h1 _).mono ?_ | refine (g_rs2 a h0 h1 _).mono ?_ | refine (g_op a h0 h1 _).mono ?_); rintro e w1 ⟨rfl, rfl⟩) | (go_at_call 106; refine (r_system a h0 h1 _).mono ?_; rintro e w1 ⟨rfl, hb⟩; obtain ⟨hc1, hf1⟩ := bcell hb))
  exact bodyPost_ret (v := .tuple #[(syF a).1.v, .bool (syF a).2]) (by simp [results, Tryz.results86, go_sem, hc1, hz]) rfl ⟨rfl, below8 ((below2 _ _).trans (hb.mono (by simp; omega))) (Nat.le_refl _) _ _ _ _ _ _ _ _⟩
theorem d_47 (a : Int) (h0 : 0 ≤ a) (h1 : a < 4294967296) (w : World) (ho : fOp a = 47) :
    Calls Tryz.prog 86 #[.int .u32 a] w fun e w' => e = .returned (.tuple #[(atF a).1.v, .bool (atF a).2]) ∧ Below w.heap.size w w' := by
  have hz : w.heap.size < w.heap.size + 1 + 1 := by omega
  go_enter Tryz.func86, Tryz.ntmps86
  go_wp2_with (first | (go_at_call 61; (with_reducible first | refine (g_f3 a h0 h1 _).mono ?_ | refine (g_f7 a h0 h1 _).mono ?_ | refine (g_rd a h0 h1 _).mono ?_ | refine (g_rs1 a h0 h1 _).mono ?_ | refine (g_rs2 a h0 h1 _).mono ?_ | refine (g_op a h0 h1 _).mono ?_); rintro e w1 ⟨rfl, rfl⟩) | (go_at_call 107; refine (r_atomic a h0 h1 _).mono ?_; rintro e w1 ⟨rfl, hb⟩; obtain ⟨hc1, hf1⟩ := bcell hb))
  exact bodyPost_ret (v := .tuple #[(atF a).1.v, .bool (atF a).2]) (by simp [results, Tryz.results86, go_sem, hc1, hz]) rfl ⟨rfl, below8 ((below2 _ _).trans (hb.mono (by simp; omega))) (Nat.le_refl _) _ _ _ _ _ _ _ _⟩
theorem r_Decode (a : Int) (h0 : 0 ≤ a) (h1 : a < 4294967296) (w : World) :
    Calls Tryz.prog 86 #[.int .u32 a] w fun e w' => e = .returned (.tuple #[(D a).1.v, .bool (D a).2]) ∧ Below w.heap.size w w' := by
  by_cases h55 : fOp a = 55
  · rw [show D a = (⟨1, 0, fRd a, 0, 0, iU a, 0, false⟩, true) by rw [D_55 a h55]; rfl]
    exact d_55 a h0 h1 w h55
  by_cases h23 : fOp a = 23
  · rw [show D a = (⟨2, 0, fRd a, 0, 0, iU a, 0, false⟩, true) by rw [D_23 a h23]; rfl]
    exact d_23 a h0 h1 w h23
  by_cases h19 : fOp a = 19
  · by_cases q1 : fF3 a = 1
    · have s : shf a = true := by unfold shf; rw [q1]; rfl
      by_cases t : fF6 a = 0
      · rw [show D a = (⟨9, 3, fRd a, fRs1 a, 0, fSh a, 0, false⟩, true) by rw [D_19 a h19]; unfold nImm fnImm iOpnd; rw [s, q1, t]; rfl]
        exact d_19_1 a h0 h1 w h19 q1 t
      · rw [show D a = (⟨0, 0, 0, 0, 0, 0, 0, false⟩, false) by
          rw [D_19 a h19]; unfold nImm fnImm; rw [s, q1]
          have c : chos (fF6 a * 2) (tBas 1) (tAlt 1) 0 = 0 := by
            unfold chos; rw [if_neg (by omega)]; split; rfl; split <;> rfl
          rw [if_pos rfl, c]; rfl]
        exact d_19_1n a h0 h1 w h19 q1 t
    by_cases q5 : fF3 a = 5
    · have s : shf a = true := by unfold shf; rw [q5]; rfl
      by_cases t : fF6 a = 0
      · rw [show D a = (⟨9, 7, fRd a, fRs1 a, 0, fSh a, 0, false⟩, true) by rw [D_19 a h19]; unfold nImm fnImm iOpnd; rw [s, q5, t]; rfl]
        exact d_19_5 a h0 h1 w h19 q5 t
      by_cases t2 : fF6 a = 16
      · rw [show D a = (⟨9, 8, fRd a, fRs1 a, 0, fSh a, 0, false⟩, true) by rw [D_19 a h19]; unfold nImm fnImm iOpnd; rw [s, q5, t2]; rfl]
        exact d_19_5a a h0 h1 w h19 q5 t2
      · rw [show D a = (⟨0, 0, 0, 0, 0, 0, 0, false⟩, false) by
          rw [D_19 a h19]; unfold nImm fnImm; rw [s, q5]
          have c : chos (fF6 a * 2) (tBas 5) (tAlt 5) 0 = 0 := by
            unfold chos; rw [if_neg (by omega), if_neg (by omega)]; split <;> rfl
          rw [if_pos rfl, c]; rfl]
        exact d_19_5n a h0 h1 w h19 q5 t t2
    · have s : shf a = false := by unfold shf; simp [q1, q5]
      rw [show D a = (⟨9, tBas (fF3 a), fRd a, fRs1 a, 0, iI a, 0, false⟩, true) by
        rw [D_19 a h19]; unfold nImm fnImm iOpnd; rw [s]; show withF (onl ⟨9, tBas (fF3 a), 0, 0, 0, 0, 0, false⟩ (tBas (fF3 a))) (fRd a) (fRs1 a) 0 (iI a) = _; unfold onl; rw [if_neg (tBas_nz a)]; rfl]
      exact d_19 a h0 h1 w h19 q1 q5
  by_cases h27 : fOp a = 27
  · by_cases q1 : fF3 a = 1
    · have s : shf a = true := by unfold shf; rw [q1]; rfl
      by_cases t : fF7 a = 0
      · rw [show D a = (⟨9, 21, fRd a, fRs1 a, 0, fRs2 a, 0, false⟩, true) by rw [D_27 a h27]; unfold nImmW fnImmW iOpndW; rw [s, q1, t]; rfl]
        exact d_27_1 a h0 h1 w h27 q1 t
      · rw [show D a = (⟨0, 0, 0, 0, 0, 0, 0, false⟩, false) by
          rw [D_27 a h27]; unfold nImmW fnImmW; rw [s, q1]
          have c : chos (fF7 a) (tBasW 1) (tAltW 1) 0 = 0 := by
            unfold chos; rw [if_neg t]; split; rfl; split <;> rfl
          rw [if_pos rfl, c]; rfl]
        exact d_27_1n a h0 h1 w h27 q1 t
    by_cases q5 : fF3 a = 5
    · have s : shf a = true := by unfold shf; rw [q5]; rfl
      by_cases t : fF7 a = 0
      · rw [show D a = (⟨9, 22, fRd a, fRs1 a, 0, fRs2 a, 0, false⟩, true) by rw [D_27 a h27]; unfold nImmW fnImmW iOpndW; rw [s, q5, t]; rfl]
        exact d_27_5 a h0 h1 w h27 q5 t
      by_cases t2 : fF7 a = 32
      · rw [show D a = (⟨9, 23, fRd a, fRs1 a, 0, fRs2 a, 0, false⟩, true) by rw [D_27 a h27]; unfold nImmW fnImmW iOpndW; rw [s, q5, t2]; rfl]
        exact d_27_5a a h0 h1 w h27 q5 t2
      · rw [show D a = (⟨0, 0, 0, 0, 0, 0, 0, false⟩, false) by
          rw [D_27 a h27]; unfold nImmW fnImmW; rw [s, q5]
          have c : chos (fF7 a) (tBasW 5) (tAltW 5) 0 = 0 := by
            unfold chos; rw [if_neg t, if_neg t2]; split <;> rfl
          rw [if_pos rfl, c]; rfl]
        exact d_27_5n a h0 h1 w h27 q5 t t2
    · have s : shf a = false := by unfold shf; simp [q1, q5]
      by_cases q0 : fF3 a = 0
      · rw [show D a = (⟨9, 19, fRd a, fRs1 a, 0, iI a, 0, false⟩, true) by
          rw [D_27 a h27]; unfold nImmW fnImmW iOpndW; rw [s, q0]; rfl]
        exact d_27 a h0 h1 w h27 q0
      · rw [show D a = (⟨0, 0, 0, 0, 0, 0, 0, false⟩, false) by
          have z : tBasW (fF3 a) = 0 := by
            rcases eight8 (fF3_b a) with h | h | h | h | h | h | h | h <;> first | exact absurd h q0 | exact absurd h q1 | exact absurd h q5 | (rw [h]; rfl)
          rw [D_27 a h27]; unfold nImmW fnImmW; rw [s, z]; rfl]
        exact d_27n a h0 h1 w h27 q0 q1 q5
  by_cases h51 : fOp a = 51
  · by_cases t : fF7 a = 0
    · by_cases z : tBas (fF3 a) = 0
      · exact absurd z (tBas_nz a)
      · rw [show D a = (⟨8, tBas (fF3 a), fRd a, fRs1 a, fRs2 a, 0, 0, false⟩, true) by
          rw [D_51 a h51]; unfold nAlu fnAlu chos onl; rw [if_pos t, if_neg z]; rfl]
        exact d_51_0 a h0 h1 w h51 t z
    by_cases t1 : fF7 a = 32
    · by_cases z : tAlt (fF3 a) = 0
      · rw [show D a = (⟨0, 0, 0, 0, 0, 0, 0, false⟩, false) by rw [D_51 a h51]; unfold nAlu fnAlu; rw [t1, z]; rfl]
        exact d_51_32n a h0 h1 w h51 t1 z
      · rw [show D a = (⟨8, tAlt (fF3 a), fRd a, fRs1 a, fRs2 a, 0, 0, false⟩, true) by
          rw [D_51 a h51]; unfold nAlu fnAlu chos onl; rw [if_neg t, if_pos t1, if_neg z]; rfl]
        exact d_51_32 a h0 h1 w h51 t1 z
    by_cases t2 : fF7 a = 1
    · by_cases z : tPro (fF3 a) = 0
      · exact absurd z (tPro_nz a)
      · rw [show D a = (⟨8, tPro (fF3 a), fRd a, fRs1 a, fRs2 a, 0, 0, false⟩, true) by
          rw [D_51 a h51]; unfold nAlu fnAlu chos onl; rw [if_neg t, if_neg t1, if_pos t2, if_neg z]; rfl]
        exact d_51_1 a h0 h1 w h51 t2 z
    · rw [show D a = (⟨0, 0, 0, 0, 0, 0, 0, false⟩, false) by
        rw [D_51 a h51]; unfold nAlu fnAlu chos; rw [if_neg t, if_neg t1, if_neg t2]; rfl]
      exact d_51n a h0 h1 w h51 t t1 t2
  by_cases h59 : fOp a = 59
  · by_cases t : fF7 a = 0
    · by_cases z : tBasW (fF3 a) = 0
      · rw [show D a = (⟨0, 0, 0, 0, 0, 0, 0, false⟩, false) by rw [D_59 a h59]; unfold nAluW fnAluW; rw [t, z]; rfl]
        exact d_59_0n a h0 h1 w h59 t z
      · rw [show D a = (⟨8, tBasW (fF3 a), fRd a, fRs1 a, fRs2 a, 0, 0, false⟩, true) by
          rw [D_59 a h59]; unfold nAluW fnAluW chos onl; rw [if_pos t, if_neg z]; rfl]
        exact d_59_0 a h0 h1 w h59 t z
    by_cases t1 : fF7 a = 32
    · by_cases z : tAltW (fF3 a) = 0
      · rw [show D a = (⟨0, 0, 0, 0, 0, 0, 0, false⟩, false) by rw [D_59 a h59]; unfold nAluW fnAluW; rw [t1, z]; rfl]
        exact d_59_32n a h0 h1 w h59 t1 z
      · rw [show D a = (⟨8, tAltW (fF3 a), fRd a, fRs1 a, fRs2 a, 0, 0, false⟩, true) by
          rw [D_59 a h59]; unfold nAluW fnAluW chos onl; rw [if_neg t, if_pos t1, if_neg z]; rfl]
        exact d_59_32 a h0 h1 w h59 t1 z
    by_cases t2 : fF7 a = 1
    · by_cases z : tProW (fF3 a) = 0
      · rw [show D a = (⟨0, 0, 0, 0, 0, 0, 0, false⟩, false) by rw [D_59 a h59]; unfold nAluW fnAluW; rw [t2, z]; rfl]
        exact d_59_1n a h0 h1 w h59 t2 z
      · rw [show D a = (⟨8, tProW (fF3 a), fRd a, fRs1 a, fRs2 a, 0, 0, false⟩, true) by
          rw [D_59 a h59]; unfold nAluW fnAluW chos onl; rw [if_neg t, if_neg t1, if_pos t2, if_neg z]; rfl]
        exact d_59_1 a h0 h1 w h59 t2 z
    · rw [show D a = (⟨0, 0, 0, 0, 0, 0, 0, false⟩, false) by
        rw [D_59 a h59]; unfold nAluW fnAluW chos; rw [if_neg t, if_neg t1, if_neg t2]; rfl]
      exact d_59n a h0 h1 w h59 t t1 t2
  by_cases h115 : fOp a = 115
  · rw [show D a = syF a from D_115 a h115]; exact d_115 a h0 h1 w h115
  by_cases h111 : fOp a = 111
  · rw [show D a = (⟨3, 0, fRd a, 0, 0, iJ a, 0, false⟩, true) by rw [D_111 a h111]; rfl]; exact d_111 a h0 h1 w h111
  by_cases h103 : fOp a = 103
  · by_cases q : fF3 a = 0
    · rw [show D a = (⟨4, 0, fRd a, fRs1 a, 0, iI a, 0, false⟩, true) by rw [D_103 a h103]; unfold nJalr; rw [if_pos q]; rfl]; exact d_103 a h0 h1 w h103 q
    · rw [show D a = (⟨0, 0, 0, 0, 0, 0, 0, false⟩, false) by rw [D_103 a h103]; unfold nJalr; rw [if_neg q]; rfl]; exact d_103n a h0 h1 w h103 q
  by_cases h99 : fOp a = 99
  · by_cases q : tCond (fF3 a) = 0
    · rw [show D a = (⟨0, 0, 0, 0, 0, 0, 0, false⟩, false) by rw [D_99 a h99]; unfold nBranch onl; rw [if_pos q]; rfl]; exact d_99n a h0 h1 w h99 q
    · rw [show D a = (⟨5, tCond (fF3 a), 0, fRs1 a, fRs2 a, iB a, 0, false⟩, true) by rw [D_99 a h99]; unfold nBranch onl; rw [if_neg q]; rfl]; exact d_99 a h0 h1 w h99 q
  by_cases h3 : fOp a = 3
  · by_cases q : tLoad (fF3 a) = 0
    · rw [show D a = (⟨0, 0, 0, 0, 0, 0, 0, false⟩, false) by rw [D_3 a h3]; unfold nLoad onl; rw [if_pos q]; rfl]; exact d_3n a h0 h1 w h3 q
    · by_cases s : fF3 a < 4
      · rw [show D a = (⟨6, 0, fRd a, fRs1 a, 0, iI a, tLoad (fF3 a), true⟩, true) by rw [D_3 a h3]; unfold nLoad onl; rw [if_neg q, lt4_t s]; rfl]; exact d_3s a h0 h1 w h3 q s
      · rw [show D a = (⟨6, 0, fRd a, fRs1 a, 0, iI a, tLoad (fF3 a), false⟩, true) by rw [D_3 a h3]; unfold nLoad onl; rw [if_neg q, lt4_f s]; rfl]; exact d_3u a h0 h1 w h3 q s
  by_cases h35 : fOp a = 35
  · by_cases q : tStore (fF3 a) = 0
    · rw [show D a = (⟨0, 0, 0, 0, 0, 0, 0, false⟩, false) by rw [D_35 a h35]; unfold nStore onl; rw [if_pos q]; rfl]; exact d_35n a h0 h1 w h35 q
    · rw [show D a = (⟨7, 0, 0, fRs1 a, fRs2 a, iS a, tStore (fF3 a), false⟩, true) by rw [D_35 a h35]; unfold nStore onl; rw [if_neg q]; rfl]; exact d_35 a h0 h1 w h35 q
  by_cases h15 : fOp a = 15
  · by_cases q : fF3 a < 2
    · rw [show D a = (⟨10, 0, 0, 0, 0, 0, 0, false⟩, true) by rw [D_15 a h15]; unfold nFence; rw [if_pos (by omega)]; rfl]; exact d_15 a h0 h1 w h15 q
    · rw [show D a = (⟨0, 0, 0, 0, 0, 0, 0, false⟩, false) by rw [D_15 a h15]; unfold nFence; rw [if_neg (by omega)]; rfl]; exact d_15n a h0 h1 w h15 q
  by_cases h47 : fOp a = 47
  · rw [show D a = atF a from D_47 a h47]; exact d_47 a h0 h1 w h47
  rw [show D a = (⟨0, 0, 0, 0, 0, 0, 0, false⟩, false) from D_else a h55 h23 h19 h27 h51 h59 h115 h111 h103 h99 h3 h35 h15 h47]
  exact d_e a h0 h1 w h55 h23 h19 h27 h51 h59 h115 h111 h103 h99 h3 h35 h15 h47
end Go.Proofs.YtlfdokkopgmfjaaGreatDoor.B
namespace Go.Proofs.YtlfdokkopgmfjaaGreatDoor.B
open Go.RowKit
set_option linter.unusedVariables false
set_option maxRecDepth 100000
theorem m_only (k f rd r1 r2 im sz : Int) (sg : Bool) (n : Int) (w : World) :
    Calls Tryz.prog 118 #[.agg #[.int .i64 k, .int .i64 f, .int .i64 rd, .int .i64 r1, .int .i64 r2, .int .i64 im, .int .i64 sz, .bool sg], .int .i64 n] w
      fun e w' => e = .returned (.tuple #[(onl ⟨k, f, rd, r1, r2, im, sz, sg⟩ n).1.v, .bool (onl ⟨k, f, rd, r1, r2, im, sz, sg⟩ n).2]) ∧ Below w.heap.size w w' := by
  by_cases hn : n = 0
  · subst hn
    go_enter Tryz.func118, Tryz.ntmps118
    go_wp2
    exact bodyPost_ret (v := .tuple #[I.zero.v, .bool false]) (by simp [results, Tryz.results118, go_sem, I.zero]) rfl ⟨rfl, (below1 _).alloc (by simp) _⟩
  · have e : onl ⟨k, f, rd, r1, r2, im, sz, sg⟩ n = (⟨k, f, rd, r1, r2, im, sz, sg⟩, true) := if_neg hn
    rw [e]
    go_enter Tryz.func118, Tryz.ntmps118
    go_wp2
    exact bodyPost_ret (v := .tuple #[.agg #[.int .i64 k, .int .i64 f, .int .i64 rd, .int .i64 r1, .int .i64 r2, .int .i64 im, .int .i64 sz, .bool sg], .bool true]) (by simp [results, Tryz.results118, go_sem]) rfl ⟨rfl, (below1 _).alloc (by simp) _⟩
theorem m_chosen (f p o t : Int) (w : World) :
    Calls Tryz.prog 194 #[.int .i64 f, .int .i64 p, .int .i64 o, .int .i64 t] w fun e w' => e = .returned (.int .i64 (chos f p o t)) ∧ w' = w := by
  unfold chos
  by_cases h1 : f = 0
  · subst h1
    go_enter Tryz.func194, Tryz.ntmps194
    go_wp2
    go_ret
    exact ⟨rfl, rfl⟩
  · rw [if_neg h1]
    by_cases h2 : f = 32
    · subst h2
      go_enter Tryz.func194, Tryz.ntmps194
      go_wp2
      go_ret
      exact ⟨rfl, rfl⟩
    · rw [if_neg h2]
      by_cases h3 : f = 1
      · subst h3
        go_enter Tryz.func194, Tryz.ntmps194
        go_wp2
        go_ret
        exact ⟨rfl, rfl⟩
      · rw [if_neg h3]
        go_enter Tryz.func194, Tryz.ntmps194
        go_wp2
        go_ret
        exact ⟨rfl, rfl⟩
theorem n_lui (a : Int) (h0 : 0 ≤ a) (h1 : a < 4294967296) (w : World) (hG : G w) :
    Calls Tryz.prog 152 #[.int .u32 a] w fun e w' => e = .returned (.tuple #[(nLui a).1.v, .bool (nLui a).2]) ∧ Below w.heap.size w w' := by
  go_enter Tryz.func152, Tryz.ntmps152
  go_wp2
  exact bodyPost_ret (v := .tuple #[I.v ⟨1, 0, 0, 0, 0, 0, 0, false⟩, .bool true]) (by simp [results, Tryz.results152, go_sem]) rfl ⟨rfl, below1 _⟩
theorem n_auipc (a : Int) (h0 : 0 ≤ a) (h1 : a < 4294967296) (w : World) (hG : G w) :
    Calls Tryz.prog 156 #[.int .u32 a] w fun e w' => e = .returned (.tuple #[(nAuipc a).1.v, .bool (nAuipc a).2]) ∧ Below w.heap.size w w' := by
  go_enter Tryz.func156, Tryz.ntmps156
  go_wp2
  exact bodyPost_ret (v := .tuple #[I.v ⟨2, 0, 0, 0, 0, 0, 0, false⟩, .bool true]) (by simp [results, Tryz.results156, go_sem]) rfl ⟨rfl, below1 _⟩
theorem n_jal (a : Int) (h0 : 0 ≤ a) (h1 : a < 4294967296) (w : World) (hG : G w) :
    Calls Tryz.prog 168 #[.int .u32 a] w fun e w' => e = .returned (.tuple #[(nJal a).1.v, .bool (nJal a).2]) ∧ Below w.heap.size w w' := by
  go_enter Tryz.func168, Tryz.ntmps168
  go_wp2
  exact bodyPost_ret (v := .tuple #[I.v ⟨3, 0, 0, 0, 0, 0, 0, false⟩, .bool true]) (by simp [results, Tryz.results168, go_sem]) rfl ⟨rfl, below1 _⟩
theorem n_jalr (a : Int) (h0 : 0 ≤ a) (h1 : a < 4294967296) (w : World) (hG : G w) :
    Calls Tryz.prog 170 #[.int .u32 a] w fun e w' => e = .returned (.tuple #[(nJalr a).1.v, .bool (nJalr a).2]) ∧ Below w.heap.size w w' := by
  by_cases h : fF3 a = 0
  · have e1 : nJalr a = named0 4 := if_pos h
    rw [e1]
    go_enter Tryz.func170, Tryz.ntmps170
    go_wp2_with (first | (go_at_call 190; refine (m_f3 _ h0 h1 _).mono ?_; rintro e w' ⟨rfl, rfl⟩))
    exact bodyPost_ret (v := .tuple #[I.v ⟨4, 0, 0, 0, 0, 0, 0, false⟩, .bool true]) (by simp [results, Tryz.results170, go_sem]) rfl ⟨rfl, below1 _⟩
  · have e1 : nJalr a = no := if_neg h
    rw [e1]
    go_enter Tryz.func170, Tryz.ntmps170
    go_wp2_with (first | (go_at_call 190; refine (m_f3 _ h0 h1 _).mono ?_; rintro e w' ⟨rfl, rfl⟩))
    exact bodyPost_ret (v := .tuple #[I.v ⟨0, 0, 0, 0, 0, 0, 0, false⟩, .bool false]) (by simp [results, Tryz.results170, go_sem]) rfl ⟨rfl, below1 _⟩
theorem n_fence (a : Int) (h0 : 0 ≤ a) (h1 : a < 4294967296) (w : World) (hG : G w) :
    Calls Tryz.prog 174 #[.int .u32 a] w fun e w' => e = .returned (.tuple #[(nFence a).1.v, .bool (nFence a).2]) ∧ Below w.heap.size w w' := by
  by_cases h : fF3 a ≤ 1
  · have e1 : nFence a = named0 10 := if_pos h
    rw [e1]
    go_enter Tryz.func174, Tryz.ntmps174
    go_wp2_with (first | (go_at_call 190; refine (m_f3 _ h0 h1 _).mono ?_; rintro e w' ⟨rfl, rfl⟩))
    exact bodyPost_ret (v := .tuple #[I.v ⟨10, 0, 0, 0, 0, 0, 0, false⟩, .bool true]) (by simp [results, Tryz.results174, go_sem]) rfl ⟨rfl, below1 _⟩
  · have e1 : nFence a = no := if_neg h
    rw [e1]
    have h' : 1 < fF3 a := by omega
    go_enter Tryz.func174, Tryz.ntmps174
    go_wp2_with (first | (go_at_call 190; refine (m_f3 _ h0 h1 _).mono ?_; rintro e w' ⟨rfl, rfl⟩))
    exact bodyPost_ret (v := .tuple #[I.v ⟨0, 0, 0, 0, 0, 0, 0, false⟩, .bool false]) (by simp [results, Tryz.results174, go_sem]) rfl ⟨rfl, below1 _⟩
theorem n_branch (a : Int) (h0 : 0 ≤ a) (h1 : a < 4294967296) (w : World) (hG : G w) :
    Calls Tryz.prog 143 #[.int .u32 a] w fun e w' => e = .returned (.tuple #[(nBranch a).1.v, .bool (nBranch a).2]) ∧ Below w.heap.size w w' := by
  have e1 : nBranch a = (onl ⟨5, tCond (fF3 a), 0, 0, 0, 0, 0, false⟩ (tCond (fF3 a))) := rfl
  rw [e1]
  obtain ⟨gs_x, gc_x⟩ := hG.cond
  have hc_x := gc_x (fF3 a) (fF3_b a).1 (fF3_b a).2
  clear gc_x
  obtain ⟨bl_fF3, bu_fF3⟩ := fF3_b a
  go_enter Tryz.func143, Tryz.ntmps143
  go_wp2_with (first | (go_at_call 190; refine (m_f3 _ h0 h1 _).mono ?_; rintro e w' ⟨rfl, rfl⟩) | (go_at_call 118; refine (m_only _ _ _ _ _ _ _ _ _ _).mono ?_; rintro e w1 ⟨rfl, hb⟩; obtain ⟨hc1, hf1⟩ := bcell hb))
  exact bodyPost_ret (v := .tuple #[(onl ⟨5, tCond (fF3 a), 0, 0, 0, 0, 0, false⟩ (tCond (fF3 a))).1.v, .bool (onl ⟨5, tCond (fF3 a), 0, 0, 0, 0, 0, false⟩ (tCond (fF3 a))).2]) (by simp [results, Tryz.results143, go_sem, hc1]) rfl ⟨rfl, below8 (belowA hb) (Nat.le_refl _) _ _ _ _ _ _ _ _⟩
theorem n_store (a : Int) (h0 : 0 ≤ a) (h1 : a < 4294967296) (w : World) (hG : G w) :
    Calls Tryz.prog 145 #[.int .u32 a] w fun e w' => e = .returned (.tuple #[(nStore a).1.v, .bool (nStore a).2]) ∧ Below w.heap.size w w' := by
  have e1 : nStore a = (onl ⟨7, 0, 0, 0, 0, 0, tStore (fF3 a), false⟩ (tStore (fF3 a))) := rfl
  rw [e1]
  obtain ⟨gs_x, gc_x⟩ := hG.store
  have hc_x := gc_x (fF3 a) (fF3_b a).1 (fF3_b a).2
  clear gc_x
  obtain ⟨bl_fF3, bu_fF3⟩ := fF3_b a
  go_enter Tryz.func145, Tryz.ntmps145
  go_wp2_with (first | (go_at_call 190; refine (m_f3 _ h0 h1 _).mono ?_; rintro e w' ⟨rfl, rfl⟩) | (go_at_call 118; refine (m_only _ _ _ _ _ _ _ _ _ _).mono ?_; rintro e w1 ⟨rfl, hb⟩; obtain ⟨hc1, hf1⟩ := bcell hb))
  exact bodyPost_ret (v := .tuple #[(onl ⟨7, 0, 0, 0, 0, 0, tStore (fF3 a), false⟩ (tStore (fF3 a))).1.v, .bool (onl ⟨7, 0, 0, 0, 0, 0, tStore (fF3 a), false⟩ (tStore (fF3 a))).2]) (by simp [results, Tryz.results145, go_sem, hc1]) rfl ⟨rfl, below8 (belowA hb) (Nat.le_refl _) _ _ _ _ _ _ _ _⟩
theorem n_load (a : Int) (h0 : 0 ≤ a) (h1 : a < 4294967296) (w : World) (hG : G w) :
    Calls Tryz.prog 144 #[.int .u32 a] w fun e w' => e = .returned (.tuple #[(nLoad a).1.v, .bool (nLoad a).2]) ∧ Below w.heap.size w w' := by
  have e1 : nLoad a = (onl ⟨6, 0, 0, 0, 0, 0, tLoad (fF3 a), decide (fF3 a < 4)⟩ (tLoad (fF3 a))) := rfl
  rw [e1]
  obtain ⟨gs_x, gc_x⟩ := hG.load
  have hc_x := gc_x (fF3 a) (fF3_b a).1 (fF3_b a).2
  clear gc_x
  obtain ⟨bl_fF3, bu_fF3⟩ := fF3_b a
  go_enter Tryz.func144, Tryz.ntmps144
  go_wp2_with (first | (go_at_call 190; refine (m_f3 _ h0 h1 _).mono ?_; rintro e w' ⟨rfl, rfl⟩) | (go_at_call 118; refine (m_only _ _ _ _ _ _ _ _ _ _).mono ?_; rintro e w1 ⟨rfl, hb⟩; obtain ⟨hc1, hf1⟩ := bcell hb))
  exact bodyPost_ret (v := .tuple #[(onl ⟨6, 0, 0, 0, 0, 0, tLoad (fF3 a), decide (fF3 a < 4)⟩ (tLoad (fF3 a))).1.v, .bool (onl ⟨6, 0, 0, 0, 0, 0, tLoad (fF3 a), decide (fF3 a < 4)⟩ (tLoad (fF3 a))).2]) (by simp [results, Tryz.results144, go_sem, hc1]) rfl ⟨rfl, below8 (belowA hb) (Nat.le_refl _) _ _ _ _ _ _ _ _⟩
theorem n_privileged (a : Int) (h0 : 0 ≤ a) (h1 : a < 4294967296) (w : World) (hG : G w) :
    Calls Tryz.prog 197 #[.int .u32 a] w fun e w' => e = .returned (.tuple #[(nPriv a).1.v, .bool (nPriv a).2]) ∧ Below w.heap.size w w' := by
  unfold nPriv
  by_cases h11 : a = 115
  · subst h11
    simp only [if_true]
    go_enter Tryz.func197, Tryz.ntmps197
    go_wp2
    exact bodyPost_ret (v := .tuple #[I.v ⟨11, 0, 0, 0, 0, 0, 0, false⟩, .bool true]) (by simp [results, Tryz.results197, go_sem]) rfl ⟨rfl, below1 _⟩
  · rw [if_neg h11]
    by_cases h12 : a = 1048691
    · subst h12
      simp only [if_true]
      go_enter Tryz.func197, Tryz.ntmps197
      go_wp2
      exact bodyPost_ret (v := .tuple #[I.v ⟨12, 0, 0, 0, 0, 0, 0, false⟩, .bool true]) (by simp [results, Tryz.results197, go_sem]) rfl ⟨rfl, below1 _⟩
    · rw [if_neg h12]
      by_cases h18 : a = 270532723
      · subst h18
        simp only [if_true]
        go_enter Tryz.func197, Tryz.ntmps197
        go_wp2
        exact bodyPost_ret (v := .tuple #[I.v ⟨18, 0, 0, 0, 0, 0, 0, false⟩, .bool true]) (by simp [results, Tryz.results197, go_sem]) rfl ⟨rfl, below1 _⟩
      · rw [if_neg h18]
        by_cases h19 : a = 273678451
        · subst h19
          simp only [if_true]
          go_enter Tryz.func197, Tryz.ntmps197
          go_wp2
          exact bodyPost_ret (v := .tuple #[I.v ⟨19, 0, 0, 0, 0, 0, 0, false⟩, .bool true]) (by simp [results, Tryz.results197, go_sem]) rfl ⟨rfl, below1 _⟩
        · rw [if_neg h19]
          by_cases h7 : fF7 a = 9
          · by_cases hd : fRd a = 0
            · rw [if_pos ⟨h7, hd⟩]
              go_enter Tryz.func197, Tryz.ntmps197
              go_wp2_with (first | (go_at_call 196; refine (m_f7 _ h0 h1 _).mono ?_; rintro e w' ⟨rfl, rfl⟩) | (go_at_call 153; refine (m_rd _ h0 h1 _).mono ?_; rintro e w' ⟨rfl, rfl⟩))
              exact bodyPost_ret (v := .tuple #[I.v ⟨20, 0, 0, 0, 0, 0, 0, false⟩, .bool true]) (by simp [results, Tryz.results197, go_sem]) rfl ⟨rfl, below1 _⟩
            · rw [if_neg (fun x => hd x.2)]
              go_enter Tryz.func197, Tryz.ntmps197
              go_wp2_with (first | (go_at_call 196; refine (m_f7 _ h0 h1 _).mono ?_; rintro e w' ⟨rfl, rfl⟩) | (go_at_call 153; refine (m_rd _ h0 h1 _).mono ?_; rintro e w' ⟨rfl, rfl⟩))
              exact bodyPost_ret (v := .tuple #[I.v ⟨0, 0, 0, 0, 0, 0, 0, false⟩, .bool false]) (by simp [results, Tryz.results197, go_sem]) rfl ⟨rfl, below1 _⟩
          · rw [if_neg (fun x => h7 x.1)]
            go_enter Tryz.func197, Tryz.ntmps197
            go_wp2_with (first | (go_at_call 196; refine (m_f7 _ h0 h1 _).mono ?_; rintro e w' ⟨rfl, rfl⟩) | (go_at_call 153; refine (m_rd _ h0 h1 _).mono ?_; rintro e w' ⟨rfl, rfl⟩))
            exact bodyPost_ret (v := .tuple #[I.v ⟨0, 0, 0, 0, 0, 0, 0, false⟩, .bool false]) (by simp [results, Tryz.results197, go_sem]) rfl ⟨rfl, below1 _⟩
theorem n_system (a : Int) (h0 : 0 ≤ a) (h1 : a < 4294967296) (w : World) (hG : G w) :
    Calls Tryz.prog 165 #[.int .u32 a] w fun e w' => e = .returned (.tuple #[(nSys a).1.v, .bool (nSys a).2]) ∧ Below w.heap.size w w' := by
  obtain ⟨bl, bu⟩ := fF3_b a
  unfold nSys
  by_cases h : fF3 a = 0
  · rw [if_pos h]
    go_enter Tryz.func165, Tryz.ntmps165
    go_wp2_with (first | (go_at_call 190; refine (m_f3 _ h0 h1 _).mono ?_; rintro e w' ⟨rfl, rfl⟩) | (go_at_call 197; refine (n_privileged _ h0 h1 _ (hG.alloc _)).mono ?_; rintro e w1 ⟨rfl, hb⟩; obtain ⟨hc1, hf1⟩ := bcell hb))
    exact bodyPost_ret (v := .tuple #[(nPriv a).1.v, .bool (nPriv a).2]) (by simp [results, Tryz.results165, go_sem, hc1]) rfl ⟨rfl, below8 (belowA hb) (Nat.le_refl _) _ _ _ _ _ _ _ _⟩
  · rw [if_neg h]
    by_cases h4 : fF3 a < 4
    · rw [if_pos h4]
      go_enter Tryz.func165, Tryz.ntmps165
      go_wp2_with (first | (go_at_call 190; refine (m_f3 _ h0 h1 _).mono ?_; rintro e w' ⟨rfl, rfl⟩))
      exact bodyPost_ret (v := .tuple #[I.v ⟨13, fF3 a, 0, 0, 0, 0, 0, false⟩, .bool true]) (by simp [results, Tryz.results165, go_sem]) rfl ⟨rfl, below1 _⟩
    · rw [if_neg h4]
      have h4' : 4 ≤ fF3 a := by omega
      by_cases h5 : 4 < fF3 a
      · rw [if_pos h5]
        go_enter Tryz.func165, Tryz.ntmps165
        go_wp2_with (first | (go_at_call 190; refine (m_f3 _ h0 h1 _).mono ?_; rintro e w' ⟨rfl, rfl⟩))
        exact bodyPost_ret (v := .tuple #[I.v ⟨14, fF3 a - 4, 0, 0, 0, 0, 0, false⟩, .bool true]) (by simp [results, Tryz.results165, go_sem]) rfl ⟨rfl, below1 _⟩
      · rw [if_neg h5]
        have h5' : fF3 a ≤ 4 := by omega
        go_enter Tryz.func165, Tryz.ntmps165
        go_wp2_with (first | (go_at_call 190; refine (m_f3 _ h0 h1 _).mono ?_; rintro e w' ⟨rfl, rfl⟩))
        exact bodyPost_ret (v := .tuple #[I.v ⟨0, 0, 0, 0, 0, 0, 0, false⟩, .bool false]) (by simp [results, Tryz.results165, go_sem]) rfl ⟨rfl, below1 _⟩
theorem n_atomic (a : Int) (h0 : 0 ≤ a) (h1 : a < 4294967296) (w : World) (hG : G w) :
    Calls Tryz.prog 148 #[.int .u32 a] w fun e w' => e = .returned (.tuple #[(nAto a).1.v, .bool (nAto a).2]) ∧ Below w.heap.size w w' := by
  obtain ⟨gs_x, gc_x⟩ := hG.wid
  have hc_x := gc_x (fF3 a) (fF3_b a).1 (fF3_b a).2
  clear gc_x
  obtain ⟨bl_fF3, bu_fF3⟩ := fF3_b a
  obtain ⟨gs_y, gc_y⟩ := hG.ato
  have hc_y := gc_y (fF5 a) (fF5_b a).1 (fF5_b a).2
  clear gc_y
  obtain ⟨bl_fF5, bu_fF5⟩ := fF5_b a
  unfold nAto
  by_cases h : tAto (fF5 a) = 0
  · rw [if_pos h]
    by_cases h2 : fF5 a = 2
    · have hy2 : w.cell? ⟨4, 2, none⟩ = some (.int .i64 0) := by have q := hc_y; rw [h2] at q; exact q
      clear hc_y
      by_cases hr : fRs2 a = 0
      · rw [if_pos ⟨h2, hr⟩]
        go_enter Tryz.func148, Tryz.ntmps148
        go_wp2_with (first | (go_at_call 190; refine (m_f3 _ h0 h1 _).mono ?_; rintro e w' ⟨rfl, rfl⟩) | (go_at_call 191; refine (m_f5 _ h0 h1 _).mono ?_; rintro e w' ⟨rfl, rfl⟩) | (go_at_call 163; refine (m_rs2 _ h0 h1 _).mono ?_; rintro e w' ⟨rfl, rfl⟩) | (go_at_call 118; refine (m_only _ _ _ _ _ _ _ _ _ _).mono ?_; rintro e w1 ⟨rfl, hb⟩; obtain ⟨hc1, hf1⟩ := bcell hb))
        exact bodyPost_ret (v := .tuple #[(onl ⟨15, 0, 0, 0, 0, 0, tWid (fF3 a), false⟩ (tWid (fF3 a))).1.v, .bool (onl ⟨15, 0, 0, 0, 0, 0, tWid (fF3 a), false⟩ (tWid (fF3 a))).2]) (by simp [results, Tryz.results148, go_sem, hc1]) rfl ⟨rfl, below8 (belowA hb) (Nat.le_refl _) _ _ _ _ _ _ _ _⟩
      · rw [if_neg (fun x => hr x.2), if_neg (by omega)]
        go_enter Tryz.func148, Tryz.ntmps148
        go_wp2_with (first | (go_at_call 190; refine (m_f3 _ h0 h1 _).mono ?_; rintro e w' ⟨rfl, rfl⟩) | (go_at_call 191; refine (m_f5 _ h0 h1 _).mono ?_; rintro e w' ⟨rfl, rfl⟩) | (go_at_call 163; refine (m_rs2 _ h0 h1 _).mono ?_; rintro e w' ⟨rfl, rfl⟩) | (go_at_call 118; refine (m_only _ _ _ _ _ _ _ _ _ _).mono ?_; rintro e w1 ⟨rfl, hb⟩; obtain ⟨hc1, hf1⟩ := bcell hb))
        exact bodyPost_ret (v := .tuple #[I.v ⟨0, 0, 0, 0, 0, 0, 0, false⟩, .bool false]) (by simp [results, Tryz.results148, go_sem]) rfl ⟨rfl, below1 _⟩
    · rw [if_neg (fun x => h2 x.1)]
      by_cases h3 : fF5 a = 3
      · rw [if_pos h3]
        have hy2 : w.cell? ⟨4, 3, none⟩ = some (.int .i64 0) := by have q := hc_y; rw [h3] at q; exact q
        clear hc_y
        go_enter Tryz.func148, Tryz.ntmps148
        go_wp2_with (first | (go_at_call 190; refine (m_f3 _ h0 h1 _).mono ?_; rintro e w' ⟨rfl, rfl⟩) | (go_at_call 191; refine (m_f5 _ h0 h1 _).mono ?_; rintro e w' ⟨rfl, rfl⟩) | (go_at_call 163; refine (m_rs2 _ h0 h1 _).mono ?_; rintro e w' ⟨rfl, rfl⟩) | (go_at_call 118; refine (m_only _ _ _ _ _ _ _ _ _ _).mono ?_; rintro e w1 ⟨rfl, hb⟩; obtain ⟨hc1, hf1⟩ := bcell hb))
        exact bodyPost_ret (v := .tuple #[(onl ⟨16, 0, 0, 0, 0, 0, tWid (fF3 a), false⟩ (tWid (fF3 a))).1.v, .bool (onl ⟨16, 0, 0, 0, 0, 0, tWid (fF3 a), false⟩ (tWid (fF3 a))).2]) (by simp [results, Tryz.results148, go_sem, hc1]) rfl ⟨rfl, below8 (belowA hb) (Nat.le_refl _) _ _ _ _ _ _ _ _⟩
      · rw [if_neg h3]
        go_enter Tryz.func148, Tryz.ntmps148
        go_wp2_with (first | (go_at_call 190; refine (m_f3 _ h0 h1 _).mono ?_; rintro e w' ⟨rfl, rfl⟩) | (go_at_call 191; refine (m_f5 _ h0 h1 _).mono ?_; rintro e w' ⟨rfl, rfl⟩) | (go_at_call 163; refine (m_rs2 _ h0 h1 _).mono ?_; rintro e w' ⟨rfl, rfl⟩) | (go_at_call 118; refine (m_only _ _ _ _ _ _ _ _ _ _).mono ?_; rintro e w1 ⟨rfl, hb⟩; obtain ⟨hc1, hf1⟩ := bcell hb))
        exact bodyPost_ret (v := .tuple #[I.v ⟨0, 0, 0, 0, 0, 0, 0, false⟩, .bool false]) (by simp [results, Tryz.results148, go_sem]) rfl ⟨rfl, below1 _⟩
  · rw [if_neg h]
    go_enter Tryz.func148, Tryz.ntmps148
    go_wp2_with (first | (go_at_call 190; refine (m_f3 _ h0 h1 _).mono ?_; rintro e w' ⟨rfl, rfl⟩) | (go_at_call 191; refine (m_f5 _ h0 h1 _).mono ?_; rintro e w' ⟨rfl, rfl⟩) | (go_at_call 163; refine (m_rs2 _ h0 h1 _).mono ?_; rintro e w' ⟨rfl, rfl⟩) | (go_at_call 118; refine (m_only _ _ _ _ _ _ _ _ _ _).mono ?_; rintro e w1 ⟨rfl, hb⟩; obtain ⟨hc1, hf1⟩ := bcell hb))
    exact bodyPost_ret (v := .tuple #[(onl ⟨17, tAto (fF5 a), 0, 0, 0, 0, tWid (fF3 a), false⟩ (tWid (fF3 a))).1.v, .bool (onl ⟨17, tAto (fF5 a), 0, 0, 0, 0, tWid (fF3 a), false⟩ (tWid (fF3 a))).2]) (by simp [results, Tryz.results148, go_sem, hc1]) rfl ⟨rfl, below8 (belowA hb) (Nat.le_refl _) _ _ _ _ _ _ _ _⟩
end Go.Proofs.YtlfdokkopgmfjaaGreatDoor.B
