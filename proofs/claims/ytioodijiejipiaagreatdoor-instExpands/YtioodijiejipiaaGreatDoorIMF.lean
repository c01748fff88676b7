/- What the fields of an instruction that is read can be. Nothing here speaks of the program. -/
import Derived.Test.YtioodijiejipiaaGreatDoorIM2
namespace Go.Proofs.YtioodijiejipiaaGreatDoor
open Go.RowKit
set_option linter.unusedVariables false

theorem onl_ok {i : I} {n : Int} (h : (onl i n).2 = true) : n ≠ 0 ∧ (onl i n).1 = i := by
  unfold onl at *
  by_cases q : n = 0
  · rw [if_pos q] at h; cases h
  · rw [if_neg q]; exact ⟨q, rfl⟩
theorem withF_ok {p : I × Bool} {rd r1 r2 im : Int} (h : (withF p rd r1 r2 im).2 = true) : p.2 = true ∧ (withF p rd r1 r2 im).1 = ⟨p.1.kind, p.1.fn, rd, r1, r2, im, p.1.size, p.1.sg⟩ := by
  unfold withF at *
  by_cases q : p.2 = true
  · rw [if_pos q]; exact ⟨q, rfl⟩
  · rw [if_neg q] at h; cases h
theorem eight {n : Int} (h : 0 ≤ n ∧ n < 8) : n = 0 ∨ n = 1 ∨ n = 2 ∨ n = 3 ∨ n = 4 ∨ n = 5 ∨ n = 6 ∨ n = 7 := by omega
def szOK (z : Int) : Prop := z = 0 ∨ z = 1 ∨ z = 2 ∨ z = 4 ∨ z = 8
theorem tLoad_sz (a : Int) : szOK (tLoad (fF3 a)) := by
  rcases eight (fF3_b a) with h | h | h | h | h | h | h | h <;> rw [h] <;> unfold szOK <;> decide
theorem tStore_sz (a : Int) : szOK (tStore (fF3 a)) := by
  rcases eight (fF3_b a) with h | h | h | h | h | h | h | h <;> rw [h] <;> unfold szOK <;> decide
theorem tWid_sz (a : Int) : szOK (tWid (fF3 a)) := by
  rcases eight (fF3_b a) with h | h | h | h | h | h | h | h <;> rw [h] <;> unfold szOK <;> decide
/-- what the fields are -/
structure FOK (i : I) : Prop where
  rd : 0 ≤ i.rd ∧ i.rd ≤ 31
  rs1 : 0 ≤ i.rs1 ∧ i.rs1 ≤ 31
  rs2 : 0 ≤ i.rs2 ∧ i.rs2 ≤ 31
  kind : 1 ≤ i.kind ∧ i.kind ≤ 20
  size : szOK i.size
  sz0 : (i.kind = 1 ∨ i.kind = 2 ∨ i.kind = 3 ∨ i.kind = 5) → i.size = 0
  immU : (i.kind = 1 ∨ i.kind = 2) → i.imm % 4096 = 0 ∧ -2147483648 ≤ i.imm ∧ i.imm < 2147483648
  immJ : i.kind = 3 → i.imm % 2 = 0 ∧ -1048576 ≤ i.imm ∧ i.imm < 1048576
  immB : i.kind = 5 → i.imm % 2 = 0 ∧ -4096 ≤ i.imm ∧ i.imm < 4096
  imm : (i.kind ≠ 1 ∧ i.kind ≠ 2 ∧ i.kind ≠ 3 ∧ i.kind ≠ 5) → -2048 ≤ i.imm ∧ i.imm < 4096
theorem rd_b (a : Int) : 0 ≤ fRd a ∧ fRd a ≤ 31 := by have := fRd_b a; omega
theorem rs1_b (a : Int) : 0 ≤ fRs1 a ∧ fRs1 a ≤ 31 := by have := fRs1_b a; omega
theorem rs2_b (a : Int) : 0 ≤ fRs2 a ∧ fRs2 a ≤ 31 := by have := fRs2_b a; omega
theorem sp_b (a : Int) : 0 ≤ rSpace a ∧ rSpace a ≤ 31 := by unfold rSpace; have := rs2_b a; split <;> omega
theorem z_b : (0 : Int) ≤ 0 ∧ (0 : Int) ≤ 31 := by omega
theorem iI_b (a : Int) (h0 : 0 ≤ a) (h1 : a < 4294967296) : -2048 ≤ iI a ∧ iI a < 2048 := by unfold iI; have := s32_b a h0 h1; omega
theorem iS_b (a : Int) (h0 : 0 ≤ a) (h1 : a < 4294967296) : -2048 ≤ iS a ∧ iS a < 2048 := by unfold iS; have := s32_b a h0 h1; omega
theorem iU_b (a : Int) (h0 : 0 ≤ a) (h1 : a < 4294967296) : iU a % 4096 = 0 ∧ -2147483648 ≤ iU a ∧ iU a < 2147483648 := by unfold iU; have := s32_b a h0 h1; omega
theorem iJ_b (a : Int) (h0 : 0 ≤ a) (h1 : a < 4294967296) : iJ a % 2 = 0 ∧ -1048576 ≤ iJ a ∧ iJ a < 1048576 := by unfold iJ; have := s32_b a h0 h1; omega
theorem iB_b (a : Int) (h0 : 0 ≤ a) (h1 : a < 4294967296) : iB a % 2 = 0 ∧ -4096 ≤ iB a ∧ iB a < 4096 := by unfold iB; have := s32_b a h0 h1; omega
theorem iOp_b (a : Int) (h0 : 0 ≤ a) (h1 : a < 4294967296) : -2048 ≤ iOpnd a ∧ iOpnd a < 4096 := by unfold iOpnd; have := iI_b a h0 h1; have := fSh_b a; split <;> omega
theorem iOpW_b (a : Int) (h0 : 0 ≤ a) (h1 : a < 4294967296) : -2048 ≤ iOpndW a ∧ iOpndW a < 4096 := by unfold iOpndW; have := iI_b a h0 h1; have := fRs2_b a; split <;> omega
theorem iCsr_b (a : Int) : -2048 ≤ iCsr a ∧ iCsr a < 4096 := by unfold iCsr; have := fCs_b a; split <;> omega
/-- a kind that has a small immediate -/
def small (k : Int) : Prop := k = 4 ∨ k = 6 ∨ k = 7 ∨ k = 8 ∨ k = 9 ∨ k = 10 ∨ k = 11 ∨ k = 12 ∨ k = 13 ∨ k = 14 ∨ k = 15 ∨ k = 16 ∨ k = 17 ∨ k = 18 ∨ k = 19 ∨ k = 20
theorem fok_small {i : I} (hk : small i.kind) (hz : szOK i.size) {rd r1 r2 im : Int} (h1 : 0 ≤ rd ∧ rd ≤ 31) (h2 : 0 ≤ r1 ∧ r1 ≤ 31) (h3 : 0 ≤ r2 ∧ r2 ≤ 31) (h4 : -2048 ≤ im ∧ im < 4096) :
    FOK ⟨i.kind, i.fn, rd, r1, r2, im, i.size, i.sg⟩ := by
  unfold small at hk
  exact ⟨h1, h2, h3, by show 1 ≤ i.kind ∧ i.kind ≤ 20; omega, hz, fun h => absurd h (by show ¬ (i.kind = 1 ∨ i.kind = 2 ∨ i.kind = 3 ∨ i.kind = 5); omega), fun h => absurd h (by show ¬ (i.kind = 1 ∨ i.kind = 2); omega), fun h => absurd h (by show ¬ i.kind = 3; omega), fun h => absurd h (by show ¬ i.kind = 5; omega), fun _ => h4⟩
theorem nPriv_k (a : Int) (h : (nPriv a).2 = true) : small (nPriv a).1.kind ∧ (nPriv a).1.size = 0 := by
  unfold nPriv at *
  unfold small
  repeat' split at h
  all_goals first | (cases h; done) | skip
  all_goals simp_all [named0]
theorem nSys_k (a : Int) (h : (nSys a).2 = true) : small (nSys a).1.kind ∧ (nSys a).1.size = 0 := by
  unfold nSys at *
  by_cases h3 : fF3 a = 0
  · rw [if_pos h3] at *; exact nPriv_k a h
  · rw [if_neg h3] at *
    by_cases h4 : fF3 a < 4
    · rw [if_pos h4]; exact ⟨by unfold small; simp, rfl⟩
    · rw [if_neg h4] at *
      by_cases h5 : 4 < fF3 a
      · rw [if_pos h5]; exact ⟨by unfold small; simp, rfl⟩
      · rw [if_neg h5] at h; cases h
theorem nAto_k (a : Int) (h : (nAto a).2 = true) : small (nAto a).1.kind ∧ szOK (nAto a).1.size := by
  have hz := tWid_sz a
  unfold nAto at *
  by_cases h3 : tAto (fF5 a) = 0
  · rw [if_pos h3] at *
    by_cases h4 : fF5 a = 2 ∧ fRs2 a = 0
    · rw [if_pos h4] at *; rw [(onl_ok h).2]; exact ⟨by unfold small; simp, hz⟩
    · rw [if_neg h4] at *
      by_cases h5 : fF5 a = 3
      · rw [if_pos h5] at *; rw [(onl_ok h).2]; exact ⟨by unfold small; simp, hz⟩
      · rw [if_neg h5] at h; cases h
  · rw [if_neg h3] at *; rw [(onl_ok h).2]; exact ⟨by unfold small; simp, hz⟩
theorem D_fok (a : Int) (h0 : 0 ≤ a) (h1 : a < 4294967296) (h : (D a).2 = true) : FOK (D a).1 := by
  unfold D at *
  by_cases q55 : fOp a = 55
  · rw [if_pos q55] at *; rw [(withF_ok h).2]
    exact ⟨rd_b a, z_b, z_b, by show (1 : Int) ≤ 1 ∧ (1 : Int) ≤ 20; omega, Or.inl rfl, fun _ => rfl, fun _ => iU_b a h0 h1, fun e => absurd e (by show ¬ (1 : Int) = 3; omega), fun e => absurd e (by show ¬ (1 : Int) = 5; omega), fun e => absurd rfl e.1⟩
  rw [if_neg q55] at *
  by_cases q23 : fOp a = 23
  · rw [if_pos q23] at *; rw [(withF_ok h).2]
    exact ⟨rd_b a, z_b, z_b, by show (1 : Int) ≤ 2 ∧ (2 : Int) ≤ 20; omega, Or.inl rfl, fun _ => rfl, fun _ => iU_b a h0 h1, fun e => absurd e (by show ¬ (2 : Int) = 3; omega), fun e => absurd e (by show ¬ (2 : Int) = 5; omega), fun e => absurd rfl e.2.1⟩
  rw [if_neg q23] at *
  by_cases q19 : fOp a = 19
  · rw [if_pos q19] at *; obtain ⟨e1, e2⟩ := withF_ok h; rw [e2]
    have e3 := (onl_ok e1).2
    exact fok_small (by show small (nImm a).1.kind; rw [show (nImm a).1 = _ from e3]; unfold small; simp) (by show szOK (nImm a).1.size; rw [show (nImm a).1 = _ from e3]; exact Or.inl rfl) (rd_b a) (rs1_b a) z_b (iOp_b a h0 h1)
  rw [if_neg q19] at *
  by_cases q27 : fOp a = 27
  · rw [if_pos q27] at *; obtain ⟨e1, e2⟩ := withF_ok h; rw [e2]
    have e3 := (onl_ok e1).2
    exact fok_small (by show small (nImmW a).1.kind; rw [show (nImmW a).1 = _ from e3]; unfold small; simp) (by show szOK (nImmW a).1.size; rw [show (nImmW a).1 = _ from e3]; exact Or.inl rfl) (rd_b a) (rs1_b a) z_b (iOpW_b a h0 h1)
  rw [if_neg q27] at *
  by_cases q51 : fOp a = 51
  · rw [if_pos q51] at *; obtain ⟨e1, e2⟩ := withF_ok h; rw [e2]
    have e3 := (onl_ok e1).2
    exact fok_small (by show small (nAlu a).1.kind; rw [show (nAlu a).1 = _ from e3]; unfold small; simp) (by show szOK (nAlu a).1.size; rw [show (nAlu a).1 = _ from e3]; exact Or.inl rfl) (rd_b a) (rs1_b a) (rs2_b a) (by omega)
  rw [if_neg q51] at *
  by_cases q59 : fOp a = 59
  · rw [if_pos q59] at *; obtain ⟨e1, e2⟩ := withF_ok h; rw [e2]
    have e3 := (onl_ok e1).2
    exact fok_small (by show small (nAluW a).1.kind; rw [show (nAluW a).1 = _ from e3]; unfold small; simp) (by show szOK (nAluW a).1.size; rw [show (nAluW a).1 = _ from e3]; exact Or.inl rfl) (rd_b a) (rs1_b a) (rs2_b a) (by omega)
  rw [if_neg q59] at *
  by_cases q115 : fOp a = 115
  · rw [if_pos q115] at *; obtain ⟨e1, e2⟩ := withF_ok h; rw [e2]
    obtain ⟨k1, k2⟩ := nSys_k a e1
    exact fok_small k1 (Or.inl k2) (rd_b a) (rs1_b a) (sp_b a) (iCsr_b a)
  rw [if_neg q115] at *
  by_cases q111 : fOp a = 111
  · rw [if_pos q111] at *; rw [(withF_ok h).2]
    exact ⟨rd_b a, z_b, z_b, by show (1 : Int) ≤ 3 ∧ (3 : Int) ≤ 20; omega, Or.inl rfl, fun _ => rfl, fun e => absurd e (by show ¬ ((3 : Int) = 1 ∨ (3 : Int) = 2); omega), fun _ => iJ_b a h0 h1, fun e => absurd e (by show ¬ (3 : Int) = 5; omega), fun e => absurd rfl e.2.2.1⟩
  rw [if_neg q111] at *
  by_cases q103 : fOp a = 103
  · rw [if_pos q103] at *; obtain ⟨e1, e2⟩ := withF_ok h; rw [e2]
    have e3 : nJalr a = named0 4 := by
      unfold nJalr at *
      by_cases q : fF3 a = 0
      · rw [if_pos q]
      · rw [if_neg q] at e1; cases e1
    have := iI_b a h0 h1
    exact fok_small (by rw [e3]; unfold small; simp [named0]) (by rw [e3]; exact Or.inl rfl) (rd_b a) (rs1_b a) z_b (by omega)
  rw [if_neg q103] at *
  by_cases q99 : fOp a = 99
  · rw [if_pos q99] at *; obtain ⟨e1, e2⟩ := withF_ok h; rw [e2]
    have e3 : (nBranch a).1 = _ := (onl_ok e1).2
    rw [e3]
    exact ⟨z_b, rs1_b a, rs2_b a, by show (1 : Int) ≤ 5 ∧ (5 : Int) ≤ 20; omega, Or.inl rfl, fun _ => rfl, fun e => absurd e (by show ¬ ((5 : Int) = 1 ∨ (5 : Int) = 2); omega), fun e => absurd e (by show ¬ (5 : Int) = 3; omega), fun _ => iB_b a h0 h1, fun e => absurd rfl e.2.2.2⟩
  rw [if_neg q99] at *
  by_cases q3 : fOp a = 3
  · rw [if_pos q3] at *; obtain ⟨e1, e2⟩ := withF_ok h; rw [e2]
    have e3 : (nLoad a).1 = _ := (onl_ok e1).2
    have := iI_b a h0 h1
    exact fok_small (by rw [e3]; unfold small; simp) (by rw [e3]; exact tLoad_sz a) (rd_b a) (rs1_b a) z_b (by omega)
  rw [if_neg q3] at *
  by_cases q35 : fOp a = 35
  · rw [if_pos q35] at *; obtain ⟨e1, e2⟩ := withF_ok h; rw [e2]
    have e3 : (nStore a).1 = _ := (onl_ok e1).2
    have := iS_b a h0 h1
    exact fok_small (by rw [e3]; unfold small; simp) (by rw [e3]; exact tStore_sz a) z_b (rs1_b a) (rs2_b a) (by omega)
  rw [if_neg q35] at *
  by_cases q15 : fOp a = 15
  · rw [if_pos q15] at *; obtain ⟨e1, e2⟩ := withF_ok h; rw [e2]
    have e3 : nFence a = named0 10 := by
      unfold nFence at *
      by_cases q : fF3 a ≤ 1
      · rw [if_pos q]
      · rw [if_neg q] at e1; cases e1
    exact fok_small (by rw [e3]; unfold small; simp [named0]) (by rw [e3]; exact Or.inl rfl) z_b z_b z_b (by omega)
  rw [if_neg q15] at *
  by_cases q47 : fOp a = 47
  · rw [if_pos q47] at *; obtain ⟨e1, e2⟩ := withF_ok h; rw [e2]
    obtain ⟨k1, k2⟩ := nAto_k a e1
    exact fok_small k1 k2 (rd_b a) (rs1_b a) (rs2_b a) (by omega)
  rw [if_neg q47] at h
  cases h
theorem tm0 {x m : Int} (h : x % m = 0) : x.tmod m = 0 := Int.tmod_eq_zero_of_dvd (Int.dvd_of_emod_eq_zero h)
end Go.Proofs.YtioodijiejipiaaGreatDoor
