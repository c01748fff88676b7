/- What is read is written as a word that is read the same: a class of words at a time. Nothing here speaks of the program. -/
import Derived.Test.YtioodijiejipiaaGreatDoorIMB
namespace Go.Proofs.YtioodijiejipiaaGreatDoor
open Go.RowKit
set_option linter.unusedVariables false

theorem reg_id {n : Int} (h : 0 ≤ n ∧ n < 32) : reg n = n := by unfold reg; omega
theorem in_z (m c : Int) : In (reg 0 * c) 0 := by
  have : reg 0 * c = 0 := by unfold reg; simp
  rw [this]; exact In.zero 0
theorem rz (c : Int) : reg 0 * c = 0 := by unfold reg; simp
theorem im_I (k n : Int) (h : k ≠ 1 ∧ k ≠ 2 ∧ k ≠ 3 ∧ k ≠ 5 ∧ k ≠ 7) : imm k n = imI n := by
  unfold imm; rw [if_neg (by omega), if_neg (by omega), if_neg (by omega), if_neg (by omega)]
theorem imm0 (k : Int) (h : k ≠ 1 ∧ k ≠ 2 ∧ k ≠ 3 ∧ k ≠ 5 ∧ k ≠ 7) : imm k 0 = 0 := by rw [im_I k 0 h]; rfl
theorem in_0 (k : Int) (h : k ≠ 1 ∧ k ≠ 2 ∧ k ≠ 3 ∧ k ≠ 5 ∧ k ≠ 7) : In (imm k 0) 0 := by rw [imm0 k h]; exact In.zero 0
theorem imU_iU (a : Int) (h0 : 0 ≤ a) (h1 : a < 4294967296) : imU (iU a) = a / 4096 * 4096 := by unfold imU iU s32; split <;> omega
theorem imI_iI (a : Int) (h0 : 0 ≤ a) (h1 : a < 4294967296) : imI (iI a) = a / 1048576 * 1048576 := by unfold imI iI s32; split <;> omega
theorem imS_iS (a : Int) (h0 : 0 ≤ a) (h1 : a < 4294967296) : imS (iS a) = a / 33554432 * 33554432 + a / 128 % 32 * 128 := by unfold imS iS s32; split <;> omega
theorem imB_iB (a : Int) (h0 : 0 ≤ a) (h1 : a < 4294967296) : imB (iB a) = a / 33554432 * 33554432 + a / 128 % 32 * 128 := by
  have key : ∀ s x y z : Int, (s = 0 ∨ s = -1) → 0 ≤ x → x < 2 → 0 ≤ y → y < 64 → 0 ≤ z → z < 16 → imB (s * 4096 + x * 2048 + y * 32 + z * 2) = (-s) * 2147483648 + x * 128 + y * 33554432 + z * 256 := by
    intro s x y z hs x0 x1 y0 y1 z0 z1
    unfold imB; rcases hs with q | q <;> subst q <;> omega
  unfold iB
  rw [key _ _ _ _ (by unfold s32; split <;> omega) (by omega) (by omega) (by omega) (by omega) (by omega) (by omega)]
  unfold s32; split <;> omega
theorem imJ_iJ (a : Int) (h0 : 0 ≤ a) (h1 : a < 4294967296) : imJ (iJ a) = a / 4096 * 4096 := by
  have key : ∀ s x y z : Int, (s = 0 ∨ s = -1) → 0 ≤ x → x < 256 → 0 ≤ y → y < 2 → 0 ≤ z → z < 1024 → imJ (s * 1048576 + x * 4096 + y * 2048 + z * 2) = (-s) * 2147483648 + x * 4096 + y * 1048576 + z * 2097152 := by
    intro s x y z hs x0 x1 y0 y1 z0 z1
    unfold imJ; rcases hs with q | q <;> subst q <;> omega
  unfold iJ
  rw [key _ _ _ _ (by unfold s32; split <;> omega) (by omega) (by omega) (by omega) (by omega) (by omega) (by omega)]
  unfold s32; split <;> omega
theorem dr_lui (a : Int) (h0 : 0 ≤ a) (h1 : a < 4294967296) (ho : fOp a = 55) : draftF ⟨1, 0, fRd a, 0, 0, iU a, 0, false⟩ = a := by
  have hr := fRd_b a
  have hs := fRs1_b a
  have ht := fRs2_b a
  have h3 := fF3_b a
  have h7 := fF7_b a
  have h6 := fF6_b a
  have h5 := fF5_b a
  have hb : baseF ⟨1, 0, fRd a, 0, 0, iU a, 0, false⟩ = 55 := rfl
  have hi : imm 1 (iU a) = a / 4096 * 4096 := imU_iU a h0 h1
  rw [draft_sum ⟨1, 0, fRd a, 0, 0, iU a, 0, false⟩ (m0 := 55) (m1 := (2 ^ 5 - 1) * 2 ^ 7) (m2 := 0) (m3 := 0) (m4 := (2 ^ 20 - 1) * 2 ^ 12) (by rw [hb]; exact In.lit 55) (in_rd _) (in_z 0 32768) (in_z 0 1048576) (in_imU (iU a)) (by decide)]
  show baseF ⟨1, 0, fRd a, 0, 0, iU a, 0, false⟩ + reg (fRd a) * 128 + reg 0 * 32768 + reg 0 * 1048576 + imm 1 (iU a) = a
  rw [hb, hi, reg_id hr, rz, rz]
  clear hb hi
  try unfold fOp at *
  try unfold fRd at *
  try unfold fF3 at *
  try unfold fRs1 at *
  try unfold fRs2 at *
  try unfold fF7 at *
  try unfold fF6 at *
  try unfold fF5 at *
  try unfold fSh at *
  try unfold fCs at *
  omega
theorem dr_auipc (a : Int) (h0 : 0 ≤ a) (h1 : a < 4294967296) (ho : fOp a = 23) : draftF ⟨2, 0, fRd a, 0, 0, iU a, 0, false⟩ = a := by
  have hr := fRd_b a
  have hs := fRs1_b a
  have ht := fRs2_b a
  have h3 := fF3_b a
  have h7 := fF7_b a
  have h6 := fF6_b a
  have h5 := fF5_b a
  have hb : baseF ⟨2, 0, fRd a, 0, 0, iU a, 0, false⟩ = 23 := rfl
  have hi : imm 2 (iU a) = a / 4096 * 4096 := imU_iU a h0 h1
  rw [draft_sum ⟨2, 0, fRd a, 0, 0, iU a, 0, false⟩ (m0 := 23) (m1 := (2 ^ 5 - 1) * 2 ^ 7) (m2 := 0) (m3 := 0) (m4 := (2 ^ 20 - 1) * 2 ^ 12) (by rw [hb]; exact In.lit 23) (in_rd _) (in_z 0 32768) (in_z 0 1048576) (in_imU (iU a)) (by decide)]
  show baseF ⟨2, 0, fRd a, 0, 0, iU a, 0, false⟩ + reg (fRd a) * 128 + reg 0 * 32768 + reg 0 * 1048576 + imm 2 (iU a) = a
  rw [hb, hi, reg_id hr, rz, rz]
  clear hb hi
  try unfold fOp at *
  try unfold fRd at *
  try unfold fF3 at *
  try unfold fRs1 at *
  try unfold fRs2 at *
  try unfold fF7 at *
  try unfold fF6 at *
  try unfold fF5 at *
  try unfold fSh at *
  try unfold fCs at *
  omega
theorem dr_jal (a : Int) (h0 : 0 ≤ a) (h1 : a < 4294967296) (ho : fOp a = 111) : draftF ⟨3, 0, fRd a, 0, 0, iJ a, 0, false⟩ = a := by
  have hr := fRd_b a
  have hs := fRs1_b a
  have ht := fRs2_b a
  have h3 := fF3_b a
  have h7 := fF7_b a
  have h6 := fF6_b a
  have h5 := fF5_b a
  have hb : baseF ⟨3, 0, fRd a, 0, 0, iJ a, 0, false⟩ = 111 := rfl
  have hi : imm 3 (iJ a) = a / 4096 * 4096 := imJ_iJ a h0 h1
  rw [draft_sum ⟨3, 0, fRd a, 0, 0, iJ a, 0, false⟩ (m0 := 111) (m1 := (2 ^ 5 - 1) * 2 ^ 7) (m2 := 0) (m3 := 0) (m4 := ((2 ^ 1 - 1) * 2 ^ 31 ||| (2 ^ 8 - 1) * 2 ^ 12) ||| (2 ^ 1 - 1) * 2 ^ 20 ||| (2 ^ 10 - 1) * 2 ^ 21) (by rw [hb]; exact In.lit 111) (in_rd _) (in_z 0 32768) (in_z 0 1048576) (in_imJ (iJ a)) (by decide)]
  show baseF ⟨3, 0, fRd a, 0, 0, iJ a, 0, false⟩ + reg (fRd a) * 128 + reg 0 * 32768 + reg 0 * 1048576 + imm 3 (iJ a) = a
  rw [hb, hi, reg_id hr, rz, rz]
  clear hb hi
  try unfold fOp at *
  try unfold fRd at *
  try unfold fF3 at *
  try unfold fRs1 at *
  try unfold fRs2 at *
  try unfold fF7 at *
  try unfold fF6 at *
  try unfold fF5 at *
  try unfold fSh at *
  try unfold fCs at *
  omega
theorem dr_jalr (a : Int) (h0 : 0 ≤ a) (h1 : a < 4294967296) (ho : fOp a = 103) (hf : fF3 a = 0) : draftF ⟨4, 0, fRd a, fRs1 a, 0, iI a, 0, false⟩ = a := by
  have hr := fRd_b a
  have hs := fRs1_b a
  have ht := fRs2_b a
  have h3 := fF3_b a
  have h7 := fF7_b a
  have h6 := fF6_b a
  have h5 := fF5_b a
  have hb : baseF ⟨4, 0, fRd a, fRs1 a, 0, iI a, 0, false⟩ = 103 := rfl
  have hi : imm 4 (iI a) = a / 1048576 * 1048576 := imI_iI a h0 h1
  rw [draft_sum ⟨4, 0, fRd a, fRs1 a, 0, iI a, 0, false⟩ (m0 := 103) (m1 := (2 ^ 5 - 1) * 2 ^ 7) (m2 := (2 ^ 5 - 1) * 2 ^ 15) (m3 := 0) (m4 := (2 ^ 12 - 1) * 2 ^ 20) (by rw [hb]; exact In.lit 103) (in_rd _) (in_rs1 _) (in_z 0 1048576) (in_imI (iI a)) (by decide)]
  show baseF ⟨4, 0, fRd a, fRs1 a, 0, iI a, 0, false⟩ + reg (fRd a) * 128 + reg (fRs1 a) * 32768 + reg 0 * 1048576 + imm 4 (iI a) = a
  rw [hb, hi, reg_id hr, reg_id hs, rz]
  clear hb hi
  try unfold fOp at *
  try unfold fRd at *
  try unfold fF3 at *
  try unfold fRs1 at *
  try unfold fRs2 at *
  try unfold fF7 at *
  try unfold fF6 at *
  try unfold fF5 at *
  try unfold fSh at *
  try unfold fCs at *
  omega
theorem dr_branch (a : Int) (h0 : 0 ≤ a) (h1 : a < 4294967296) (ho : fOp a = 99) (hn : tCond (fF3 a) ≠ 0) : draftF ⟨5, tCond (fF3 a), 0, fRs1 a, fRs2 a, iB a, 0, false⟩ = a := by
  have hr := fRd_b a
  have hs := fRs1_b a
  have ht := fRs2_b a
  have h3 := fF3_b a
  have h7 := fF7_b a
  have h6 := fF6_b a
  have h5 := fF5_b a
  have hb : baseF ⟨5, tCond (fF3 a), 0, fRs1 a, fRs2 a, iB a, 0, false⟩ = 99 + fF3 a * 4096 := b_branch _ h3 hn _ _ _ _
  have hi : imm 5 (iB a) = a / 33554432 * 33554432 + a / 128 % 32 * 128 := imB_iB a h0 h1
  rw [draft_sum ⟨5, tCond (fF3 a), 0, fRs1 a, fRs2 a, iB a, 0, false⟩ (m0 := 99 ||| (2 ^ 3 - 1) * 2 ^ 12) (m1 := 0) (m2 := (2 ^ 5 - 1) * 2 ^ 15) (m3 := (2 ^ 5 - 1) * 2 ^ 20) (m4 := ((2 ^ 1 - 1) * 2 ^ 31 ||| (2 ^ 1 - 1) * 2 ^ 7) ||| (2 ^ 6 - 1) * 2 ^ 25 ||| (2 ^ 4 - 1) * 2 ^ 8) (by rw [hb]; exact in_f3 99 (by decide) _ h3) (in_z 0 128) (in_rs1 _) (in_rs2 _) (in_imB (iB a)) (by decide)]
  show baseF ⟨5, tCond (fF3 a), 0, fRs1 a, fRs2 a, iB a, 0, false⟩ + reg 0 * 128 + reg (fRs1 a) * 32768 + reg (fRs2 a) * 1048576 + imm 5 (iB a) = a
  rw [hb, hi, rz, reg_id hs, reg_id ht]
  clear hb hi
  try unfold fOp at *
  try unfold fRd at *
  try unfold fF3 at *
  try unfold fRs1 at *
  try unfold fRs2 at *
  try unfold fF7 at *
  try unfold fF6 at *
  try unfold fF5 at *
  try unfold fSh at *
  try unfold fCs at *
  omega
theorem dr_load (a : Int) (h0 : 0 ≤ a) (h1 : a < 4294967296) (ho : fOp a = 3) (hn : tLoad (fF3 a) ≠ 0) : draftF ⟨6, 0, fRd a, fRs1 a, 0, iI a, tLoad (fF3 a), lt4 (fF3 a)⟩ = a := by
  have hr := fRd_b a
  have hs := fRs1_b a
  have ht := fRs2_b a
  have h3 := fF3_b a
  have h7 := fF7_b a
  have h6 := fF6_b a
  have h5 := fF5_b a
  have hb : baseF ⟨6, 0, fRd a, fRs1 a, 0, iI a, tLoad (fF3 a), lt4 (fF3 a)⟩ = 3 + fF3 a * 4096 := b_load _ h3 hn _ _ _ _
  have hi : imm 6 (iI a) = a / 1048576 * 1048576 := imI_iI a h0 h1
  rw [draft_sum ⟨6, 0, fRd a, fRs1 a, 0, iI a, tLoad (fF3 a), lt4 (fF3 a)⟩ (m0 := 3 ||| (2 ^ 3 - 1) * 2 ^ 12) (m1 := (2 ^ 5 - 1) * 2 ^ 7) (m2 := (2 ^ 5 - 1) * 2 ^ 15) (m3 := 0) (m4 := (2 ^ 12 - 1) * 2 ^ 20) (by rw [hb]; exact in_f3 3 (by decide) _ h3) (in_rd _) (in_rs1 _) (in_z 0 1048576) (in_imI (iI a)) (by decide)]
  show baseF ⟨6, 0, fRd a, fRs1 a, 0, iI a, tLoad (fF3 a), lt4 (fF3 a)⟩ + reg (fRd a) * 128 + reg (fRs1 a) * 32768 + reg 0 * 1048576 + imm 6 (iI a) = a
  rw [hb, hi, reg_id hr, reg_id hs, rz]
  clear hb hi
  try unfold fOp at *
  try unfold fRd at *
  try unfold fF3 at *
  try unfold fRs1 at *
  try unfold fRs2 at *
  try unfold fF7 at *
  try unfold fF6 at *
  try unfold fF5 at *
  try unfold fSh at *
  try unfold fCs at *
  omega
theorem dr_store (a : Int) (h0 : 0 ≤ a) (h1 : a < 4294967296) (ho : fOp a = 35) (hn : tStore (fF3 a) ≠ 0) : draftF ⟨7, 0, 0, fRs1 a, fRs2 a, iS a, tStore (fF3 a), false⟩ = a := by
  have hr := fRd_b a
  have hs := fRs1_b a
  have ht := fRs2_b a
  have h3 := fF3_b a
  have h7 := fF7_b a
  have h6 := fF6_b a
  have h5 := fF5_b a
  have hb : baseF ⟨7, 0, 0, fRs1 a, fRs2 a, iS a, tStore (fF3 a), false⟩ = 35 + fF3 a * 4096 := b_store _ h3 hn _ _ _ _
  have hi : imm 7 (iS a) = a / 33554432 * 33554432 + a / 128 % 32 * 128 := imS_iS a h0 h1
  rw [draft_sum ⟨7, 0, 0, fRs1 a, fRs2 a, iS a, tStore (fF3 a), false⟩ (m0 := 35 ||| (2 ^ 3 - 1) * 2 ^ 12) (m1 := 0) (m2 := (2 ^ 5 - 1) * 2 ^ 15) (m3 := (2 ^ 5 - 1) * 2 ^ 20) (m4 := (2 ^ 7 - 1) * 2 ^ 25 ||| (2 ^ 5 - 1) * 2 ^ 7) (by rw [hb]; exact in_f3 35 (by decide) _ h3) (in_z 0 128) (in_rs1 _) (in_rs2 _) (in_imS (iS a)) (by decide)]
  show baseF ⟨7, 0, 0, fRs1 a, fRs2 a, iS a, tStore (fF3 a), false⟩ + reg 0 * 128 + reg (fRs1 a) * 32768 + reg (fRs2 a) * 1048576 + imm 7 (iS a) = a
  rw [hb, hi, rz, reg_id hs, reg_id ht]
  clear hb hi
  try unfold fOp at *
  try unfold fRd at *
  try unfold fF3 at *
  try unfold fRs1 at *
  try unfold fRs2 at *
  try unfold fF7 at *
  try unfold fF6 at *
  try unfold fF5 at *
  try unfold fSh at *
  try unfold fCs at *
  omega
theorem dr_imm (a : Int) (h0 : 0 ≤ a) (h1 : a < 4294967296) (ho : fOp a = 19) (n1 : fF3 a ≠ 1) (n5 : fF3 a ≠ 5) : draftF ⟨9, tBas (fF3 a), fRd a, fRs1 a, 0, iI a, 0, false⟩ = a := by
  have hr := fRd_b a
  have hs := fRs1_b a
  have ht := fRs2_b a
  have h3 := fF3_b a
  have h7 := fF7_b a
  have h6 := fF6_b a
  have h5 := fF5_b a
  have hb : baseF ⟨9, tBas (fF3 a), fRd a, fRs1 a, 0, iI a, 0, false⟩ = 19 + fF3 a * 4096 := b_imm _ h3 n1 n5 _ _ _ _
  have hi : imm 9 (iI a) = a / 1048576 * 1048576 := imI_iI a h0 h1
  rw [draft_sum ⟨9, tBas (fF3 a), fRd a, fRs1 a, 0, iI a, 0, false⟩ (m0 := 19 ||| (2 ^ 3 - 1) * 2 ^ 12) (m1 := (2 ^ 5 - 1) * 2 ^ 7) (m2 := (2 ^ 5 - 1) * 2 ^ 15) (m3 := 0) (m4 := (2 ^ 12 - 1) * 2 ^ 20) (by rw [hb]; exact in_f3 19 (by decide) _ h3) (in_rd _) (in_rs1 _) (in_z 0 1048576) (in_imI (iI a)) (by decide)]
  show baseF ⟨9, tBas (fF3 a), fRd a, fRs1 a, 0, iI a, 0, false⟩ + reg (fRd a) * 128 + reg (fRs1 a) * 32768 + reg 0 * 1048576 + imm 9 (iI a) = a
  rw [hb, hi, reg_id hr, reg_id hs, rz]
  clear hb hi
  try unfold fOp at *
  try unfold fRd at *
  try unfold fF3 at *
  try unfold fRs1 at *
  try unfold fRs2 at *
  try unfold fF7 at *
  try unfold fF6 at *
  try unfold fF5 at *
  try unfold fSh at *
  try unfold fCs at *
  omega
theorem dr_immW (a : Int) (h0 : 0 ≤ a) (h1 : a < 4294967296) (ho : fOp a = 27) (n1 : fF3 a ≠ 1) (n5 : fF3 a ≠ 5) (hn : tBasW (fF3 a) ≠ 0) : draftF ⟨9, tBasW (fF3 a), fRd a, fRs1 a, 0, iI a, 0, false⟩ = a := by
  have hr := fRd_b a
  have hs := fRs1_b a
  have ht := fRs2_b a
  have h3 := fF3_b a
  have h7 := fF7_b a
  have h6 := fF6_b a
  have h5 := fF5_b a
  have hb : baseF ⟨9, tBasW (fF3 a), fRd a, fRs1 a, 0, iI a, 0, false⟩ = 27 + fF3 a * 4096 := b_immW _ h3 n1 n5 hn _ _ _ _
  have hi : imm 9 (iI a) = a / 1048576 * 1048576 := imI_iI a h0 h1
  rw [draft_sum ⟨9, tBasW (fF3 a), fRd a, fRs1 a, 0, iI a, 0, false⟩ (m0 := 27 ||| (2 ^ 3 - 1) * 2 ^ 12) (m1 := (2 ^ 5 - 1) * 2 ^ 7) (m2 := (2 ^ 5 - 1) * 2 ^ 15) (m3 := 0) (m4 := (2 ^ 12 - 1) * 2 ^ 20) (by rw [hb]; exact in_f3 27 (by decide) _ h3) (in_rd _) (in_rs1 _) (in_z 0 1048576) (in_imI (iI a)) (by decide)]
  show baseF ⟨9, tBasW (fF3 a), fRd a, fRs1 a, 0, iI a, 0, false⟩ + reg (fRd a) * 128 + reg (fRs1 a) * 32768 + reg 0 * 1048576 + imm 9 (iI a) = a
  rw [hb, hi, reg_id hr, reg_id hs, rz]
  clear hb hi
  try unfold fOp at *
  try unfold fRd at *
  try unfold fF3 at *
  try unfold fRs1 at *
  try unfold fRs2 at *
  try unfold fF7 at *
  try unfold fF6 at *
  try unfold fF5 at *
  try unfold fSh at *
  try unfold fCs at *
  omega
theorem dr_sh (a : Int) (h0 : 0 ≤ a) (h1 : a < 4294967296) (ho : fOp a = 19) (hf : fF3 a = 1 ∨ fF3 a = 5) (hn : chos (fF6 a * 2) (tBas (fF3 a)) (tAlt (fF3 a)) 0 ≠ 0) : draftF ⟨9, chos (fF6 a * 2) (tBas (fF3 a)) (tAlt (fF3 a)) 0, fRd a, fRs1 a, 0, fSh a, 0, false⟩ = a := by
  have hr := fRd_b a
  have hs := fRs1_b a
  have ht := fRs2_b a
  have h3 := fF3_b a
  have h7 := fF7_b a
  have h6 := fF6_b a
  have h5 := fF5_b a
  have hb : baseF ⟨9, chos (fF6 a * 2) (tBas (fF3 a)) (tAlt (fF3 a)) 0, fRd a, fRs1 a, 0, fSh a, 0, false⟩ = 19 + fF3 a * 4096 + fF6 a * 67108864 := b_sh _ _ hf hn _ _ _ _
  have hi : imm 9 (fSh a) = fSh a * 1048576 := by show imI (fSh a) = _; have := fSh_b a; unfold imI; omega
  rw [draft_sum ⟨9, chos (fF6 a * 2) (tBas (fF3 a)) (tAlt (fF3 a)) 0, fRd a, fRs1 a, 0, fSh a, 0, false⟩ (m0 := 19 ||| (2 ^ 3 - 1) * 2 ^ 12 ||| (2 ^ 6 - 1) * 2 ^ 26) (m1 := (2 ^ 5 - 1) * 2 ^ 7) (m2 := (2 ^ 5 - 1) * 2 ^ 15) (m3 := 0) (m4 := (2 ^ 6 - 1) * 2 ^ 20) (by rw [hb]; exact in_f3f 19 (by decide) _ h3 6 26 _ h6.1 (by have := h6.2; omega) (by decide) (by decide) (by decide)) (in_rd _) (in_rs1 _) (in_z 0 1048576) (In.mk' 6 20 (fSh a) _ (fSh_b a).1 (by have := (fSh_b a).2; omega) (by show imI (fSh a) = _; have := fSh_b a; unfold imI; omega)) (by decide)]
  show baseF ⟨9, chos (fF6 a * 2) (tBas (fF3 a)) (tAlt (fF3 a)) 0, fRd a, fRs1 a, 0, fSh a, 0, false⟩ + reg (fRd a) * 128 + reg (fRs1 a) * 32768 + reg 0 * 1048576 + imm 9 (fSh a) = a
  rw [hb, hi, reg_id hr, reg_id hs, rz]
  clear hb hi
  try unfold fOp at *
  try unfold fRd at *
  try unfold fF3 at *
  try unfold fRs1 at *
  try unfold fRs2 at *
  try unfold fF7 at *
  try unfold fF6 at *
  try unfold fF5 at *
  try unfold fSh at *
  try unfold fCs at *
  omega
theorem dr_shW (a : Int) (h0 : 0 ≤ a) (h1 : a < 4294967296) (ho : fOp a = 27) (hf : fF3 a = 1 ∨ fF3 a = 5) (hn : chos (fF7 a) (tBasW (fF3 a)) (tAltW (fF3 a)) 0 ≠ 0) : draftF ⟨9, chos (fF7 a) (tBasW (fF3 a)) (tAltW (fF3 a)) 0, fRd a, fRs1 a, 0, fRs2 a, 0, false⟩ = a := by
  have hr := fRd_b a
  have hs := fRs1_b a
  have ht := fRs2_b a
  have h3 := fF3_b a
  have h7 := fF7_b a
  have h6 := fF6_b a
  have h5 := fF5_b a
  have hb : baseF ⟨9, chos (fF7 a) (tBasW (fF3 a)) (tAltW (fF3 a)) 0, fRd a, fRs1 a, 0, fRs2 a, 0, false⟩ = 27 + fF3 a * 4096 + fF7 a * 33554432 := b_shW _ _ hf hn _ _ _ _
  have hi : imm 9 (fRs2 a) = fRs2 a * 1048576 := by show imI (fRs2 a) = _; unfold imI; omega
  rw [draft_sum ⟨9, chos (fF7 a) (tBasW (fF3 a)) (tAltW (fF3 a)) 0, fRd a, fRs1 a, 0, fRs2 a, 0, false⟩ (m0 := 27 ||| (2 ^ 3 - 1) * 2 ^ 12 ||| (2 ^ 7 - 1) * 2 ^ 25) (m1 := (2 ^ 5 - 1) * 2 ^ 7) (m2 := (2 ^ 5 - 1) * 2 ^ 15) (m3 := 0) (m4 := (2 ^ 5 - 1) * 2 ^ 20) (by rw [hb]; exact in_f3f 27 (by decide) _ h3 7 25 _ h7.1 (by have := h7.2; omega) (by decide) (by decide) (by decide)) (in_rd _) (in_rs1 _) (in_z 0 1048576) (In.mk' 5 20 (fRs2 a) _ ht.1 (by have := ht.2; omega) (by show imI (fRs2 a) = _; unfold imI; omega)) (by decide)]
  show baseF ⟨9, chos (fF7 a) (tBasW (fF3 a)) (tAltW (fF3 a)) 0, fRd a, fRs1 a, 0, fRs2 a, 0, false⟩ + reg (fRd a) * 128 + reg (fRs1 a) * 32768 + reg 0 * 1048576 + imm 9 (fRs2 a) = a
  rw [hb, hi, reg_id hr, reg_id hs, rz]
  clear hb hi
  try unfold fOp at *
  try unfold fRd at *
  try unfold fF3 at *
  try unfold fRs1 at *
  try unfold fRs2 at *
  try unfold fF7 at *
  try unfold fF6 at *
  try unfold fF5 at *
  try unfold fSh at *
  try unfold fCs at *
  omega
theorem dr_alu (a : Int) (h0 : 0 ≤ a) (h1 : a < 4294967296) (ho : fOp a = 51) (hn : chos (fF7 a) (tBas (fF3 a)) (tAlt (fF3 a)) (tPro (fF3 a)) ≠ 0) : draftF ⟨8, chos (fF7 a) (tBas (fF3 a)) (tAlt (fF3 a)) (tPro (fF3 a)), fRd a, fRs1 a, fRs2 a, 0, 0, false⟩ = a := by
  have hr := fRd_b a
  have hs := fRs1_b a
  have ht := fRs2_b a
  have h3 := fF3_b a
  have h7 := fF7_b a
  have h6 := fF6_b a
  have h5 := fF5_b a
  have hb : baseF ⟨8, chos (fF7 a) (tBas (fF3 a)) (tAlt (fF3 a)) (tPro (fF3 a)), fRd a, fRs1 a, fRs2 a, 0, 0, false⟩ = 51 + fF3 a * 4096 + fF7 a * 33554432 := b_alu _ _ h3 hn _ _ _ _
  have hi : imm 8 0 = 0 := imm0 8 (by decide)
  rw [draft_sum ⟨8, chos (fF7 a) (tBas (fF3 a)) (tAlt (fF3 a)) (tPro (fF3 a)), fRd a, fRs1 a, fRs2 a, 0, 0, false⟩ (m0 := 51 ||| (2 ^ 3 - 1) * 2 ^ 12 ||| (2 ^ 7 - 1) * 2 ^ 25) (m1 := (2 ^ 5 - 1) * 2 ^ 7) (m2 := (2 ^ 5 - 1) * 2 ^ 15) (m3 := (2 ^ 5 - 1) * 2 ^ 20) (m4 := 0) (by rw [hb]; exact in_f3f 51 (by decide) _ h3 7 25 _ h7.1 (by have := h7.2; omega) (by decide) (by decide) (by decide)) (in_rd _) (in_rs1 _) (in_rs2 _) (in_0 8 (by decide)) (by decide)]
  show baseF ⟨8, chos (fF7 a) (tBas (fF3 a)) (tAlt (fF3 a)) (tPro (fF3 a)), fRd a, fRs1 a, fRs2 a, 0, 0, false⟩ + reg (fRd a) * 128 + reg (fRs1 a) * 32768 + reg (fRs2 a) * 1048576 + imm 8 0 = a
  rw [hb, hi, reg_id hr, reg_id hs, reg_id ht]
  clear hb hi
  try unfold fOp at *
  try unfold fRd at *
  try unfold fF3 at *
  try unfold fRs1 at *
  try unfold fRs2 at *
  try unfold fF7 at *
  try unfold fF6 at *
  try unfold fF5 at *
  try unfold fSh at *
  try unfold fCs at *
  omega
theorem dr_aluW (a : Int) (h0 : 0 ≤ a) (h1 : a < 4294967296) (ho : fOp a = 59) (hn : chos (fF7 a) (tBasW (fF3 a)) (tAltW (fF3 a)) (tProW (fF3 a)) ≠ 0) : draftF ⟨8, chos (fF7 a) (tBasW (fF3 a)) (tAltW (fF3 a)) (tProW (fF3 a)), fRd a, fRs1 a, fRs2 a, 0, 0, false⟩ = a := by
  have hr := fRd_b a
  have hs := fRs1_b a
  have ht := fRs2_b a
  have h3 := fF3_b a
  have h7 := fF7_b a
  have h6 := fF6_b a
  have h5 := fF5_b a
  have hb : baseF ⟨8, chos (fF7 a) (tBasW (fF3 a)) (tAltW (fF3 a)) (tProW (fF3 a)), fRd a, fRs1 a, fRs2 a, 0, 0, false⟩ = 59 + fF3 a * 4096 + fF7 a * 33554432 := b_aluW _ _ h3 hn _ _ _ _
  have hi : imm 8 0 = 0 := imm0 8 (by decide)
  rw [draft_sum ⟨8, chos (fF7 a) (tBasW (fF3 a)) (tAltW (fF3 a)) (tProW (fF3 a)), fRd a, fRs1 a, fRs2 a, 0, 0, false⟩ (m0 := 59 ||| (2 ^ 3 - 1) * 2 ^ 12 ||| (2 ^ 7 - 1) * 2 ^ 25) (m1 := (2 ^ 5 - 1) * 2 ^ 7) (m2 := (2 ^ 5 - 1) * 2 ^ 15) (m3 := (2 ^ 5 - 1) * 2 ^ 20) (m4 := 0) (by rw [hb]; exact in_f3f 59 (by decide) _ h3 7 25 _ h7.1 (by have := h7.2; omega) (by decide) (by decide) (by decide)) (in_rd _) (in_rs1 _) (in_rs2 _) (in_0 8 (by decide)) (by decide)]
  show baseF ⟨8, chos (fF7 a) (tBasW (fF3 a)) (tAltW (fF3 a)) (tProW (fF3 a)), fRd a, fRs1 a, fRs2 a, 0, 0, false⟩ + reg (fRd a) * 128 + reg (fRs1 a) * 32768 + reg (fRs2 a) * 1048576 + imm 8 0 = a
  rw [hb, hi, reg_id hr, reg_id hs, reg_id ht]
  clear hb hi
  try unfold fOp at *
  try unfold fRd at *
  try unfold fF3 at *
  try unfold fRs1 at *
  try unfold fRs2 at *
  try unfold fF7 at *
  try unfold fF6 at *
  try unfold fF5 at *
  try unfold fSh at *
  try unfold fCs at *
  omega
theorem dr_csr (a : Int) (h0 : 0 ≤ a) (h1 : a < 4294967296) (ho : fOp a = 115) (hf : fF3 a = 1 ∨ fF3 a = 2 ∨ fF3 a = 3) : draftF ⟨13, fF3 a, fRd a, fRs1 a, 0, fCs a, 0, false⟩ = a := by
  have hr := fRd_b a
  have hs := fRs1_b a
  have ht := fRs2_b a
  have h3 := fF3_b a
  have h7 := fF7_b a
  have h6 := fF6_b a
  have h5 := fF5_b a
  have hb : baseF ⟨13, fF3 a, fRd a, fRs1 a, 0, fCs a, 0, false⟩ = 115 + fF3 a * 4096 := b_csr _ hf _ _ _ _
  have hi : imm 13 (fCs a) = a / 1048576 * 1048576 := by show imI (fCs a) = _; unfold imI fCs; omega
  rw [draft_sum ⟨13, fF3 a, fRd a, fRs1 a, 0, fCs a, 0, false⟩ (m0 := 115 ||| (2 ^ 3 - 1) * 2 ^ 12) (m1 := (2 ^ 5 - 1) * 2 ^ 7) (m2 := (2 ^ 5 - 1) * 2 ^ 15) (m3 := 0) (m4 := (2 ^ 12 - 1) * 2 ^ 20) (by rw [hb]; exact in_f3 115 (by decide) _ h3) (in_rd _) (in_rs1 _) (in_z 0 1048576) (in_imI (fCs a)) (by decide)]
  show baseF ⟨13, fF3 a, fRd a, fRs1 a, 0, fCs a, 0, false⟩ + reg (fRd a) * 128 + reg (fRs1 a) * 32768 + reg 0 * 1048576 + imm 13 (fCs a) = a
  rw [hb, hi, reg_id hr, reg_id hs, rz]
  clear hb hi
  try unfold fOp at *
  try unfold fRd at *
  try unfold fF3 at *
  try unfold fRs1 at *
  try unfold fRs2 at *
  try unfold fF7 at *
  try unfold fF6 at *
  try unfold fF5 at *
  try unfold fSh at *
  try unfold fCs at *
  omega
theorem dr_csrI (a : Int) (h0 : 0 ≤ a) (h1 : a < 4294967296) (ho : fOp a = 115) (hf : fF3 a = 5 ∨ fF3 a = 6 ∨ fF3 a = 7) : draftF ⟨14, fF3 a - 4, fRd a, fRs1 a, 0, fCs a, 0, false⟩ = a := by
  have hr := fRd_b a
  have hs := fRs1_b a
  have ht := fRs2_b a
  have h3 := fF3_b a
  have h7 := fF7_b a
  have h6 := fF6_b a
  have h5 := fF5_b a
  have hb : baseF ⟨14, fF3 a - 4, fRd a, fRs1 a, 0, fCs a, 0, false⟩ = 115 + fF3 a * 4096 := b_csrI _ hf _ _ _ _
  have hi : imm 14 (fCs a) = a / 1048576 * 1048576 := by show imI (fCs a) = _; unfold imI fCs; omega
  rw [draft_sum ⟨14, fF3 a - 4, fRd a, fRs1 a, 0, fCs a, 0, false⟩ (m0 := 115 ||| (2 ^ 3 - 1) * 2 ^ 12) (m1 := (2 ^ 5 - 1) * 2 ^ 7) (m2 := (2 ^ 5 - 1) * 2 ^ 15) (m3 := 0) (m4 := (2 ^ 12 - 1) * 2 ^ 20) (by rw [hb]; exact in_f3 115 (by decide) _ h3) (in_rd _) (in_rs1 _) (in_z 0 1048576) (in_imI (fCs a)) (by decide)]
  show baseF ⟨14, fF3 a - 4, fRd a, fRs1 a, 0, fCs a, 0, false⟩ + reg (fRd a) * 128 + reg (fRs1 a) * 32768 + reg 0 * 1048576 + imm 14 (fCs a) = a
  rw [hb, hi, reg_id hr, reg_id hs, rz]
  clear hb hi
  try unfold fOp at *
  try unfold fRd at *
  try unfold fF3 at *
  try unfold fRs1 at *
  try unfold fRs2 at *
  try unfold fF7 at *
  try unfold fF6 at *
  try unfold fF5 at *
  try unfold fSh at *
  try unfold fCs at *
  omega
theorem dr_sfence (a : Int) (h0 : 0 ≤ a) (h1 : a < 4294967296) (ho : fOp a = 115) (hf : fF3 a = 0) (hz : fF7 a = 9) (hd : fRd a = 0) : draftF ⟨20, 0, 0, fRs1 a, fRs2 a, 0, 0, false⟩ = a := by
  have hr := fRd_b a
  have hs := fRs1_b a
  have ht := fRs2_b a
  have h3 := fF3_b a
  have h7 := fF7_b a
  have h6 := fF6_b a
  have h5 := fF5_b a
  have hb : baseF ⟨20, 0, 0, fRs1 a, fRs2 a, 0, 0, false⟩ = 301990003 := rfl
  have hi : imm 20 0 = 0 := imm0 20 (by decide)
  rw [draft_sum ⟨20, 0, 0, fRs1 a, fRs2 a, 0, 0, false⟩ (m0 := 301990003) (m1 := 0) (m2 := (2 ^ 5 - 1) * 2 ^ 15) (m3 := (2 ^ 5 - 1) * 2 ^ 20) (m4 := 0) (by rw [hb]; exact In.lit 301990003) (in_z 0 128) (in_rs1 _) (in_rs2 _) (in_0 20 (by decide)) (by decide)]
  show baseF ⟨20, 0, 0, fRs1 a, fRs2 a, 0, 0, false⟩ + reg 0 * 128 + reg (fRs1 a) * 32768 + reg (fRs2 a) * 1048576 + imm 20 0 = a
  rw [hb, hi, rz, reg_id hs, reg_id ht]
  clear hb hi
  try unfold fOp at *
  try unfold fRd at *
  try unfold fF3 at *
  try unfold fRs1 at *
  try unfold fRs2 at *
  try unfold fF7 at *
  try unfold fF6 at *
  try unfold fF5 at *
  try unfold fSh at *
  try unfold fCs at *
  omega
end Go.Proofs.YtioodijiejipiaaGreatDoor
