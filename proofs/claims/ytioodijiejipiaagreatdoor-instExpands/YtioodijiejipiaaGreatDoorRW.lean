/- What the reference's Encode answers is what the program's answers. Nothing here speaks of walks. -/
import Derived.Test.YtioodijiejipiaaGreatDoorRV
namespace Go.Proofs.YtioodijiejipiaaGreatDoor
open Go.RowKit
set_option linter.unusedVariables false

theorem wb_of {a x : Int} {i : I} (e : (D a).1 = i) (p : wordX i = x) (q : draftF i = x) : wordX (D a).1 = draftF (D a).1 := by rw [e, p, q]
theorem wk_19 (a : Int) (h0 : 0 ≤ a) (h1 : a < 4294967296) (ho : fOp a = 19) (h : (D a).2 = true) : wordX (D a).1 = draftF (D a).1 := by
  rw [D_19 a ho] at h
  obtain ⟨p, e⟩ := withF_ok h
  obtain ⟨hn, hi⟩ := onl_ok p
  have hi' : (nImm a).1 = _ := hi
  cases hh : shf a
  · have hf := shf_f hh
    have e1 : fnImm a = tBas (fF3 a) := by unfold fnImm; rw [hh]; rfl
    have e2 : iOpnd a = iI a := by unfold iOpnd; rw [hh]; rfl
    rw [e1] at hn hi'
    exact wb_of (by rw [D_19 a ho, e, hi', e2]) (wd_imm a h0 h1 ho hf.1 hf.2) (dr_imm a h0 h1 ho hf.1 hf.2)
  · have hf := shf_t hh
    have e1 : fnImm a = chos (fF6 a * 2) (tBas (fF3 a)) (tAlt (fF3 a)) 0 := by unfold fnImm; rw [hh]; rfl
    have e2 : iOpnd a = fSh a := by unfold iOpnd; rw [hh]; rfl
    rw [e1] at hn hi'
    have d := dr_sh a h0 h1 ho hf hn
    rcases chos_n hn with ⟨q, n⟩ | ⟨q, n⟩ | ⟨q, n⟩
    · have q6 : fF6 a = 0 := by omega
      rcases hf with f | f
      · have c : chos (fF6 a * 2) (tBas (fF3 a)) (tAlt (fF3 a)) 0 = 3 := by rw [q6, f]; rfl
        rw [c] at d hi'
        exact wb_of (by rw [D_19 a ho, e, hi', e2]) (wd_sll a h0 h1 ho f q6) d
      · have c : chos (fF6 a * 2) (tBas (fF3 a)) (tAlt (fF3 a)) 0 = 7 := by rw [q6, f]; rfl
        rw [c] at d hi'
        exact wb_of (by rw [D_19 a ho, e, hi', e2]) (wd_srl a h0 h1 ho f q6) d
    · have q6 : fF6 a = 16 := by omega
      rcases hf with f | f
      · rw [f] at n; exact absurd rfl n
      · have c : chos (fF6 a * 2) (tBas (fF3 a)) (tAlt (fF3 a)) 0 = 8 := by rw [q6, f]; rfl
        rw [c] at d hi'
        exact wb_of (by rw [D_19 a ho, e, hi', e2]) (wd_sra a h0 h1 ho f q6) d
    · exact absurd rfl n
theorem wk_27 (a : Int) (h0 : 0 ≤ a) (h1 : a < 4294967296) (ho : fOp a = 27) (h : (D a).2 = true) : wordX (D a).1 = draftF (D a).1 := by
  rw [D_27 a ho] at h
  obtain ⟨p, e⟩ := withF_ok h
  obtain ⟨hn, hi⟩ := onl_ok p
  have hi' : (nImmW a).1 = _ := hi
  cases hh : shf a
  · have hf := shf_f hh
    have e1 : fnImmW a = tBasW (fF3 a) := by unfold fnImmW; rw [hh]; rfl
    have e2 : iOpndW a = iI a := by unfold iOpndW; rw [hh]; rfl
    rw [e1] at hn hi'
    have d := dr_immW a h0 h1 ho hf.1 hf.2 hn
    have f : fF3 a = 0 := by
      rcases eight (fF3_b a) with q | q | q | q | q | q | q | q <;> first | exact q | exact absurd q hf.1 | exact absurd q hf.2 | (rw [q] at hn; exact absurd rfl hn)
    have c : tBasW (fF3 a) = 19 := by rw [f]; rfl
    rw [c] at d hi'
    exact wb_of (by rw [D_27 a ho, e, hi', e2]) (wd_immW a h0 h1 ho f) d
  · have hf := shf_t hh
    have e1 : fnImmW a = chos (fF7 a) (tBasW (fF3 a)) (tAltW (fF3 a)) 0 := by unfold fnImmW; rw [hh]; rfl
    have e2 : iOpndW a = fRs2 a := by unfold iOpndW; rw [hh]; rfl
    rw [e1] at hn hi'
    have d := dr_shW a h0 h1 ho hf hn
    rcases chos_n hn with ⟨q, n⟩ | ⟨q, n⟩ | ⟨q, n⟩
    · rcases hf with f | f
      · have c : chos (fF7 a) (tBasW (fF3 a)) (tAltW (fF3 a)) 0 = 21 := by rw [q, f]; rfl
        rw [c] at d hi'
        exact wb_of (by rw [D_27 a ho, e, hi', e2]) (wd_sllw a h0 h1 ho f q) d
      · have c : chos (fF7 a) (tBasW (fF3 a)) (tAltW (fF3 a)) 0 = 22 := by rw [q, f]; rfl
        rw [c] at d hi'
        exact wb_of (by rw [D_27 a ho, e, hi', e2]) (wd_srlw a h0 h1 ho f q) d
    · rcases hf with f | f
      · rw [f] at n; exact absurd rfl n
      · have c : chos (fF7 a) (tBasW (fF3 a)) (tAltW (fF3 a)) 0 = 23 := by rw [q, f]; rfl
        rw [c] at d hi'
        exact wb_of (by rw [D_27 a ho, e, hi', e2]) (wd_sraw a h0 h1 ho f q) d
    · exact absurd rfl n
theorem wk_51 (a : Int) (h0 : 0 ≤ a) (h1 : a < 4294967296) (ho : fOp a = 51) (h : (D a).2 = true) : wordX (D a).1 = draftF (D a).1 := by
  rw [D_51 a ho] at h
  obtain ⟨p, e⟩ := withF_ok h
  obtain ⟨hn, hi⟩ := onl_ok p
  have hi' : (nAlu a).1 = _ := hi
  have e1 : fnAlu a = chos (fF7 a) (tBas (fF3 a)) (tAlt (fF3 a)) (tPro (fF3 a)) := rfl
  rw [e1] at hn hi'
  have d := dr_alu a h0 h1 ho hn
  rcases chos_n hn with ⟨q, n⟩ | ⟨q, n⟩ | ⟨q, n⟩
  · have c : chos (fF7 a) (tBas (fF3 a)) (tAlt (fF3 a)) (tPro (fF3 a)) = tBas (fF3 a) := by unfold chos; rw [if_pos q]
    rw [c] at d hi'
    exact wb_of (by rw [D_51 a ho, e, hi']) (wd_51_0 a h0 h1 ho q n) d
  · have c : chos (fF7 a) (tBas (fF3 a)) (tAlt (fF3 a)) (tPro (fF3 a)) = tAlt (fF3 a) := by unfold chos; rw [if_neg (by omega), if_pos q]
    rw [c] at d hi'
    exact wb_of (by rw [D_51 a ho, e, hi']) (wd_51_32 a h0 h1 ho q n) d
  · have c : chos (fF7 a) (tBas (fF3 a)) (tAlt (fF3 a)) (tPro (fF3 a)) = tPro (fF3 a) := by unfold chos; rw [if_neg (by omega), if_neg (by omega), if_pos q]
    rw [c] at d hi'
    exact wb_of (by rw [D_51 a ho, e, hi']) (wd_51_1 a h0 h1 ho q n) d
theorem wk_59 (a : Int) (h0 : 0 ≤ a) (h1 : a < 4294967296) (ho : fOp a = 59) (h : (D a).2 = true) : wordX (D a).1 = draftF (D a).1 := by
  rw [D_59 a ho] at h
  obtain ⟨p, e⟩ := withF_ok h
  obtain ⟨hn, hi⟩ := onl_ok p
  have hi' : (nAluW a).1 = _ := hi
  have e1 : fnAluW a = chos (fF7 a) (tBasW (fF3 a)) (tAltW (fF3 a)) (tProW (fF3 a)) := rfl
  rw [e1] at hn hi'
  have d := dr_aluW a h0 h1 ho hn
  rcases chos_n hn with ⟨q, n⟩ | ⟨q, n⟩ | ⟨q, n⟩
  · have c : chos (fF7 a) (tBasW (fF3 a)) (tAltW (fF3 a)) (tProW (fF3 a)) = tBasW (fF3 a) := by unfold chos; rw [if_pos q]
    rw [c] at d hi'
    exact wb_of (by rw [D_59 a ho, e, hi']) (wd_59_0 a h0 h1 ho q n) d
  · have c : chos (fF7 a) (tBasW (fF3 a)) (tAltW (fF3 a)) (tProW (fF3 a)) = tAltW (fF3 a) := by unfold chos; rw [if_neg (by omega), if_pos q]
    rw [c] at d hi'
    exact wb_of (by rw [D_59 a ho, e, hi']) (wd_59_32 a h0 h1 ho q n) d
  · have c : chos (fF7 a) (tBasW (fF3 a)) (tAltW (fF3 a)) (tProW (fF3 a)) = tProW (fF3 a) := by unfold chos; rw [if_neg (by omega), if_neg (by omega), if_pos q]
    rw [c] at d hi'
    exact wb_of (by rw [D_59 a ho, e, hi']) (wd_59_1 a h0 h1 ho q n) d
theorem wk_e1 : wordX (D 115).1 = draftF (D 115).1 := by kernel_rfl
theorem wk_e2 : wordX (D 1048691).1 = draftF (D 1048691).1 := by kernel_rfl
theorem wk_e3 : wordX (D 270532723).1 = draftF (D 270532723).1 := by kernel_rfl
theorem wk_e4 : wordX (D 273678451).1 = draftF (D 273678451).1 := by kernel_rfl
theorem wk_f : wordX ⟨10, 0, 0, 0, 0, 0, 0, false⟩ = draftF ⟨10, 0, 0, 0, 0, 0, 0, false⟩ := by kernel_rfl
theorem wk_115 (a : Int) (h0 : 0 ≤ a) (h1 : a < 4294967296) (ho : fOp a = 115) (h : (D a).2 = true) : wordX (D a).1 = draftF (D a).1 := by
  have h3 := fF3_b a
  rw [D_115 a ho] at h
  obtain ⟨p, e⟩ := withF_ok h
  by_cases q : fF3 a = 0
  · by_cases q1 : a = 115
    · subst q1; exact wk_e1
    by_cases q2 : a = 1048691
    · subst q2; exact wk_e2
    by_cases q3 : a = 270532723
    · subst q3; exact wk_e3
    by_cases q4 : a = 273678451
    · subst q4; exact wk_e4
    by_cases q5 : fF7 a = 9 ∧ fRd a = 0
    · have e1 : nSys a = named0 20 := by unfold nSys nPriv; rw [if_pos q, if_neg q1, if_neg q2, if_neg q3, if_neg q4, if_pos q5]
      have e2 : rSpace a = fRs2 a := if_pos ⟨q, q5.1⟩
      have e3 : iCsr a = 0 := if_pos q
      exact wb_of (by rw [D_115 a ho, e, e1, e2, e3, q5.2]; rfl) (wd_sfence a h0 h1 ho q q5.1 q5.2) (dr_sfence a h0 h1 ho q q5.1 q5.2)
    · unfold nSys nPriv at p; rw [if_pos q, if_neg q1, if_neg q2, if_neg q3, if_neg q4, if_neg q5] at p; cases p
  · have e2 : rSpace a = 0 := if_neg (fun x => q x.1)
    have e3 : iCsr a = fCs a := if_neg q
    by_cases q4 : fF3 a < 4
    · have e1 : nSys a = (⟨13, fF3 a, 0, 0, 0, 0, 0, false⟩, true) := by unfold nSys; rw [if_neg q, if_pos q4]
      have d := dr_csr a h0 h1 ho (by omega)
      rcases (by omega : fF3 a = 1 ∨ fF3 a = 2 ∨ fF3 a = 3) with f | f | f <;> rw [f] at d e1
      · exact wb_of (by rw [D_115 a ho, e, e1, e2, e3]) (wd_csr1 a h0 h1 ho f) d
      · exact wb_of (by rw [D_115 a ho, e, e1, e2, e3]) (wd_csr2 a h0 h1 ho f) d
      · exact wb_of (by rw [D_115 a ho, e, e1, e2, e3]) (wd_csr3 a h0 h1 ho f) d
    · by_cases q5 : 4 < fF3 a
      · have e1 : nSys a = (⟨14, fF3 a - 4, 0, 0, 0, 0, 0, false⟩, true) := by unfold nSys; rw [if_neg q, if_neg q4, if_pos q5]
        have d := dr_csrI a h0 h1 ho (by omega)
        rcases (by omega : fF3 a = 5 ∨ fF3 a = 6 ∨ fF3 a = 7) with f | f | f <;> rw [f] at d e1
        · exact wb_of (by rw [D_115 a ho, e, e1, e2, e3]; rfl) (wd_csr5 a h0 h1 ho f) d
        · exact wb_of (by rw [D_115 a ho, e, e1, e2, e3]; rfl) (wd_csr6 a h0 h1 ho f) d
        · exact wb_of (by rw [D_115 a ho, e, e1, e2, e3]; rfl) (wd_csr7 a h0 h1 ho f) d
      · unfold nSys at p; rw [if_neg q, if_neg q4, if_neg q5] at p; cases p
theorem wk_47 (a : Int) (h0 : 0 ≤ a) (h1 : a < 4294967296) (ho : fOp a = 47) (h : (D a).2 = true) : wordX (D a).1 = draftF (D a).1 := by
  have h3 := fF3_b a
  have h5 := fF5_b a
  rw [D_47 a ho] at h
  obtain ⟨p, e⟩ := withF_ok h
  rw [D_47 a ho, e]
  by_cases q : tAto (fF5 a) = 0
  · by_cases q2 : fF5 a = 2 ∧ fRs2 a = 0
    · have n : nAto a = onl ⟨15, 0, 0, 0, 0, 0, tWid (fF3 a), false⟩ (tWid (fF3 a)) := by unfold nAto; rw [if_pos q, if_pos q2]
      rw [n] at p ⊢
      obtain ⟨hn, hi⟩ := onl_ok p
      rw [hi]
      have d := dr_at a h0 h1 ho ⟨15, 0, fRd a, fRs1 a, fRs2 a, 0, tWid (fF3 a), false⟩ (Or.inl rfl) rfl rfl rfl rfl (by rw [q2.1]; exact b_lr _ h3 hn _ _ _ _)
      have x := wd_lr a h0 h1 ho hn q2.1 q2.2
      show wordX ⟨15, 0, fRd a, fRs1 a, fRs2 a, 0, tWid (fF3 a), false⟩ = draftF ⟨15, 0, fRd a, fRs1 a, fRs2 a, 0, tWid (fF3 a), false⟩
      rw [q2.2] at d ⊢
      rw [d, x]
    · by_cases q3 : fF5 a = 3
      · have n : nAto a = onl ⟨16, 0, 0, 0, 0, 0, tWid (fF3 a), false⟩ (tWid (fF3 a)) := by unfold nAto; rw [if_pos q, if_neg q2, if_pos q3]
        rw [n] at p ⊢
        obtain ⟨hn, hi⟩ := onl_ok p
        rw [hi]
        have d := dr_at a h0 h1 ho ⟨16, 0, fRd a, fRs1 a, fRs2 a, 0, tWid (fF3 a), false⟩ (Or.inr (Or.inl rfl)) rfl rfl rfl rfl (by rw [q3]; exact b_sc _ h3 hn _ _ _ _)
        exact (wd_sc a h0 h1 ho hn q3).trans d.symm
      · unfold nAto at p; rw [if_pos q, if_neg q2, if_neg q3] at p; cases p
  · have n : nAto a = onl ⟨17, tAto (fF5 a), 0, 0, 0, 0, tWid (fF3 a), false⟩ (tWid (fF3 a)) := by unfold nAto; rw [if_neg q]
    rw [n] at p ⊢
    obtain ⟨hn, hi⟩ := onl_ok p
    rw [hi]
    have d := dr_at a h0 h1 ho ⟨17, tAto (fF5 a), fRd a, fRs1 a, fRs2 a, 0, tWid (fF3 a), false⟩ (Or.inr (Or.inr rfl)) rfl rfl rfl rfl (b_amo _ _ h3 hn h5 q _ _ _ _)
    exact (wd_amo a h0 h1 ho hn q).trans d.symm
/-- the reference's word of what is read is the program's draft of it -/
theorem word_back (a : Int) (h0 : 0 ≤ a) (h1 : a < 4294967296) (h : (D a).2 = true) : wordX (D a).1 = draftF (D a).1 := by
  by_cases h55 : fOp a = 55
  · exact wb_of (by rw [D_55 a h55]; rfl) (wd_lui a h0 h1 h55) (dr_lui a h0 h1 h55)
  by_cases h23 : fOp a = 23
  · exact wb_of (by rw [D_23 a h23]; rfl) (wd_auipc a h0 h1 h23) (dr_auipc a h0 h1 h23)
  by_cases h19 : fOp a = 19
  · exact wk_19 a h0 h1 h19 h
  by_cases h27 : fOp a = 27
  · exact wk_27 a h0 h1 h27 h
  by_cases h51 : fOp a = 51
  · exact wk_51 a h0 h1 h51 h
  by_cases h59 : fOp a = 59
  · exact wk_59 a h0 h1 h59 h
  by_cases h115 : fOp a = 115
  · exact wk_115 a h0 h1 h115 h
  by_cases h111 : fOp a = 111
  · exact wb_of (by rw [D_111 a h111]; rfl) (wd_jal a h0 h1 h111) (dr_jal a h0 h1 h111)
  by_cases h103 : fOp a = 103
  · by_cases q : fF3 a = 0
    · exact wb_of (by rw [D_103 a h103]; unfold nJalr; rw [if_pos q]; rfl) (wd_jalr a h0 h1 h103 q) (dr_jalr a h0 h1 h103 q)
    · rw [D_103 a h103] at h; unfold nJalr at h; rw [if_neg q] at h; cases h
  by_cases h99 : fOp a = 99
  · rw [D_99 a h99] at h
    obtain ⟨p, e⟩ := withF_ok h
    obtain ⟨hn, hi⟩ := onl_ok p
    have hi' : (nBranch a).1 = _ := hi
    exact wb_of (by rw [D_99 a h99, e, hi'] <;> rfl) (wd_branch a h0 h1 h99 hn) (dr_branch a h0 h1 h99 hn)
  by_cases h3 : fOp a = 3
  · rw [D_3 a h3] at h
    obtain ⟨p, e⟩ := withF_ok h
    obtain ⟨hn, hi⟩ := onl_ok p
    have hi' : (nLoad a).1 = _ := hi
    exact wb_of (by rw [D_3 a h3, e, hi'] <;> rfl) (wd_load a h0 h1 h3 hn) (dr_load a h0 h1 h3 hn)
  by_cases h35 : fOp a = 35
  · rw [D_35 a h35] at h
    obtain ⟨p, e⟩ := withF_ok h
    obtain ⟨hn, hi⟩ := onl_ok p
    have hi' : (nStore a).1 = _ := hi
    exact wb_of (by rw [D_35 a h35, e, hi'] <;> rfl) (wd_store a h0 h1 h35 hn) (dr_store a h0 h1 h35 hn)
  by_cases h15 : fOp a = 15
  · by_cases q : fF3 a ≤ 1
    · have e : D a = (⟨10, 0, 0, 0, 0, 0, 0, false⟩, true) := by rw [D_15 a h15]; unfold nFence; rw [if_pos q]; rfl
      rw [e]; exact wk_f
    · rw [D_15 a h15] at h; unfold nFence at h; rw [if_neg q] at h; cases h
  by_cases h47 : fOp a = 47
  · exact wk_47 a h0 h1 h47 h
  rw [D_else a h55 h23 h19 h27 h51 h59 h115 h111 h103 h99 h3 h35 h15 h47] at h; cases h
def B32 (x : Int) : Prop := 0 ≤ x ∧ x < 4294967296
theorem ite_b {c : Prop} [Decidable c] {x y : Int} (hx : B32 x) (hy : B32 y) : B32 (if c then x else y) := by split; exact hx; exact hy
theorem wordX_b (i : I) : 0 ≤ wordX i ∧ wordX i < 4294967296 := by
  show B32 (wordX i)
  unfold wordX
  repeat' (first | exact or32_b _ _ | apply ite_b)
  all_goals exact ⟨by decide, by decide⟩
theorem nPriv_fn (a : Int) : (nPriv a).1.fn = 0 := by
  unfold nPriv
  repeat' split
  all_goals rfl
/-! the operation's number of what is read -/
def FnB (n : Int) : Prop := 0 ≤ n ∧ n ≤ 28
theorem chos_b {f p o t : Int} (hp : FnB p) (ho : FnB o) (ht : FnB t) : FnB (chos f p o t) := by
  unfold chos; repeat' split
  · exact hp
  · exact ho
  · exact ht
  · exact ⟨by decide, by decide⟩
theorem fb0 : FnB 0 := ⟨by decide, by decide⟩
theorem fb_tCond (a : Int) : FnB (tCond (fF3 a)) := by
  rcases eight (fF3_b a) with h | h | h | h | h | h | h | h <;> rw [h] <;> exact ⟨by decide, by decide⟩
theorem fb_tBas (a : Int) : FnB (tBas (fF3 a)) := by
  rcases eight (fF3_b a) with h | h | h | h | h | h | h | h <;> rw [h] <;> exact ⟨by decide, by decide⟩
theorem fb_tAlt (a : Int) : FnB (tAlt (fF3 a)) := by
  rcases eight (fF3_b a) with h | h | h | h | h | h | h | h <;> rw [h] <;> exact ⟨by decide, by decide⟩
theorem fb_tPro (a : Int) : FnB (tPro (fF3 a)) := by
  rcases eight (fF3_b a) with h | h | h | h | h | h | h | h <;> rw [h] <;> exact ⟨by decide, by decide⟩
theorem fb_tBasW (a : Int) : FnB (tBasW (fF3 a)) := by
  rcases eight (fF3_b a) with h | h | h | h | h | h | h | h <;> rw [h] <;> exact ⟨by decide, by decide⟩
theorem fb_tAltW (a : Int) : FnB (tAltW (fF3 a)) := by
  rcases eight (fF3_b a) with h | h | h | h | h | h | h | h <;> rw [h] <;> exact ⟨by decide, by decide⟩
theorem fb_tProW (a : Int) : FnB (tProW (fF3 a)) := by
  rcases eight (fF3_b a) with h | h | h | h | h | h | h | h <;> rw [h] <;> exact ⟨by decide, by decide⟩
theorem fb_tAto (a : Int) : FnB (tAto (fF5 a)) := by
  have hb := fF5_b a
  rcases (by omega : fF5 a = 0 ∨ fF5 a = 1 ∨ fF5 a = 2 ∨ fF5 a = 3 ∨ fF5 a = 4 ∨ fF5 a = 5 ∨ fF5 a = 6 ∨ fF5 a = 7 ∨ fF5 a = 8 ∨ fF5 a = 9 ∨ fF5 a = 10 ∨ fF5 a = 11 ∨ fF5 a = 12 ∨ fF5 a = 13 ∨ fF5 a = 14 ∨ fF5 a = 15 ∨ fF5 a = 16 ∨ fF5 a = 17 ∨ fF5 a = 18 ∨ fF5 a = 19 ∨ fF5 a = 20 ∨ fF5 a = 21 ∨ fF5 a = 22 ∨ fF5 a = 23 ∨ fF5 a = 24 ∨ fF5 a = 25 ∨ fF5 a = 26 ∨ fF5 a = 27 ∨ fF5 a = 28 ∨ fF5 a = 29 ∨ fF5 a = 30 ∨ fF5 a = 31) with h | h | h | h | h | h | h | h | h | h | h | h | h | h | h | h | h | h | h | h | h | h | h | h | h | h | h | h | h | h | h | h <;> rw [h] <;> exact ⟨by decide, by decide⟩
theorem D_fn (a : Int) (h : (D a).2 = true) : FnB (D a).1.fn := by
  by_cases h55 : fOp a = 55
  · rw [D_55 a h55]; exact fb0
  by_cases h23 : fOp a = 23
  · rw [D_23 a h23]; exact fb0
  by_cases h19 : fOp a = 19
  · rw [D_19 a h19] at *; obtain ⟨p, e⟩ := withF_ok h; obtain ⟨hn, hi⟩ := onl_ok p; have hi' : (nImm a).1 = _ := hi
    rw [e, hi']; show FnB (fnImm a); unfold fnImm; split
    · exact chos_b (fb_tBas a) (fb_tAlt a) fb0
    · exact fb_tBas a
  by_cases h27 : fOp a = 27
  · rw [D_27 a h27] at *; obtain ⟨p, e⟩ := withF_ok h; obtain ⟨hn, hi⟩ := onl_ok p; have hi' : (nImmW a).1 = _ := hi
    rw [e, hi']; show FnB (fnImmW a); unfold fnImmW; split
    · exact chos_b (fb_tBasW a) (fb_tAltW a) fb0
    · exact fb_tBasW a
  by_cases h51 : fOp a = 51
  · rw [D_51 a h51] at *; obtain ⟨p, e⟩ := withF_ok h; obtain ⟨hn, hi⟩ := onl_ok p; have hi' : (nAlu a).1 = _ := hi
    rw [e, hi']; exact chos_b (fb_tBas a) (fb_tAlt a) (fb_tPro a)
  by_cases h59 : fOp a = 59
  · rw [D_59 a h59] at *; obtain ⟨p, e⟩ := withF_ok h; obtain ⟨hn, hi⟩ := onl_ok p; have hi' : (nAluW a).1 = _ := hi
    rw [e, hi']; exact chos_b (fb_tBasW a) (fb_tAltW a) (fb_tProW a)
  by_cases h115 : fOp a = 115
  · rw [D_115 a h115] at *; obtain ⟨p, e⟩ := withF_ok h
    rw [e]; show FnB (nSys a).1.fn
    have h3 := fF3_b a
    unfold nSys
    by_cases q : fF3 a = 0
    · rw [if_pos q, nPriv_fn]; exact fb0
    rw [if_neg q]
    by_cases q4 : fF3 a < 4
    · rw [if_pos q4]; exact ⟨by show 0 ≤ fF3 a; omega, by show fF3 a ≤ 28; omega⟩
    rw [if_neg q4]
    by_cases q5 : 4 < fF3 a
    · rw [if_pos q5]; exact ⟨by show 0 ≤ fF3 a - 4; omega, by show fF3 a - 4 ≤ 28; omega⟩
    · rw [if_neg q5]; exact fb0
  by_cases h111 : fOp a = 111
  · rw [D_111 a h111]; exact fb0
  by_cases h103 : fOp a = 103
  · rw [D_103 a h103] at *; obtain ⟨p, e⟩ := withF_ok h
    rw [e]; show FnB (nJalr a).1.fn
    unfold nJalr at *; split at p
    · rename_i q; rw [if_pos q]; exact fb0
    · cases p
  by_cases h99 : fOp a = 99
  · rw [D_99 a h99] at *; obtain ⟨p, e⟩ := withF_ok h; obtain ⟨hn, hi⟩ := onl_ok p; have hi' : (nBranch a).1 = _ := hi
    rw [e, hi']; exact fb_tCond a
  by_cases h3 : fOp a = 3
  · rw [D_3 a h3] at *; obtain ⟨p, e⟩ := withF_ok h; obtain ⟨hn, hi⟩ := onl_ok p; have hi' : (nLoad a).1 = _ := hi
    rw [e, hi']; exact fb0
  by_cases h35 : fOp a = 35
  · rw [D_35 a h35] at *; obtain ⟨p, e⟩ := withF_ok h; obtain ⟨hn, hi⟩ := onl_ok p; have hi' : (nStore a).1 = _ := hi
    rw [e, hi']; exact fb0
  by_cases h15 : fOp a = 15
  · rw [D_15 a h15] at *; obtain ⟨p, e⟩ := withF_ok h
    rw [e]; show FnB (nFence a).1.fn
    unfold nFence at *; split at p
    · rename_i q; rw [if_pos q]; exact fb0
    · cases p
  by_cases h47 : fOp a = 47
  · rw [D_47 a h47] at *; obtain ⟨p, e⟩ := withF_ok h
    rw [e]; show FnB (nAto a).1.fn
    unfold nAto at *
    by_cases q : tAto (fF5 a) = 0
    · rw [if_pos q] at *
      by_cases q2 : fF5 a = 2 ∧ fRs2 a = 0
      · rw [if_pos q2] at *; rw [(onl_ok p).2]; exact fb0
      · rw [if_neg q2] at *
        by_cases q3 : fF5 a = 3
        · rw [if_pos q3] at *; rw [(onl_ok p).2]; exact fb0
        · rw [if_neg q3] at p; cases p
    · rw [if_neg q] at *; rw [(onl_ok p).2]; exact fb_tAto a
  rw [D_else a h55 h23 h19 h27 h51 h59 h115 h111 h103 h99 h3 h35 h15 h47] at h; cases h
/-- what may be written -/
structure Rg (i : I) : Prop where
  m0 : -2147483648 ≤ i.imm
  m1 : i.imm < 2147483648
  rd : inb i.rd 0 31 = true
  rs1 : inb i.rs1 0 31 = true
  rs2 : inb i.rs2 0 31 = true
  fn : inb i.fn 0 28 = true
  sz : inb i.size 0 8 = true
theorem inb_t {v l h : Int} (p : l ≤ v) (q : v ≤ h) : inb v l h = true := by unfold inb; rw [decide_eq_true p, decide_eq_true q]; rfl
theorem inb_o {v l h : Int} (p : inb v l h = true) : l ≤ v ∧ v ≤ h := by
  unfold inb at p; simpa using p
theorem enc_no' {i : I} (h : (encF i).2 = false) : encF i = (0, false) := by
  unfold encF at *
  by_cases q : (D (draftF i)).2 = true ∧ eqI (D (draftF i)).1 i = true
  · rw [if_pos q] at h; cases h
  · rw [if_neg q]
theorem enc_yes' {i : I} (h : (encF i).2 = true) : encF i = (draftF i, true) ∧ (D (draftF i)).2 = true ∧ (D (draftF i)).1 = i := by
  unfold encF at *
  by_cases q : (D (draftF i)).2 = true ∧ eqI (D (draftF i)).1 i = true
  · rw [if_pos q]; exact ⟨rfl, q.1, (eqI_iff _ _).1 q.2⟩
  · rw [if_neg q] at h; cases h
theorem enc_rg {i : I} (h : (encF i).2 = true) : Rg i := by
  obtain ⟨_, h2, h3⟩ := enc_yes' h
  obtain ⟨d0, d1⟩ := draftF_b i
  have f := D_fok _ d0 d1 h2
  have n := D_fn _ h2
  rw [h3] at f n
  have hz := f.size
  unfold szOK at hz
  have hu := f.immU; have hj := f.immJ; have hb := f.immB; have hs := f.imm
  exact ⟨by omega, by omega, inb_t f.rd.1 f.rd.2, inb_t f.rs1.1 f.rs1.2, inb_t f.rs2.1 f.rs2.2, inb_t n.1 n.2, inb_t (by omega) (by omega)⟩
theorem enc_out {i : I} (h : ¬ Rg i) : encF i = (0, false) := by
  cases q : (encF i).2
  · exact enc_no' q
  · exact absurd (enc_rg q) h
theorem enc_hit {i : I} (h : (D (wordX i)).2 = true) (q : eqI (D (wordX i)).1 i = true) : encF i = (wordX i, true) := by
  obtain ⟨x0, x1⟩ := wordX_b i
  have e := (eqI_iff _ _).1 q
  have b := word_back _ x0 x1 h
  have c := enc_back _ x0 x1 h
  rw [e] at b c
  rw [c, b]
theorem enc_miss {i : I} (h : ¬ ((D (wordX i)).2 = true ∧ eqI (D (wordX i)).1 i = true)) : encF i = (0, false) := by
  cases q : (encF i).2
  · exact enc_no' q
  · obtain ⟨_, h2, h3⟩ := enc_yes' q
    obtain ⟨d0, d1⟩ := draftF_b i
    have b := word_back _ d0 d1 h2
    rw [h3] at b
    exact absurd ⟨by rw [b]; exact h2, by rw [b]; exact (eqI_iff _ _).2 h3⟩ h
end Go.Proofs.YtioodijiejipiaaGreatDoor
