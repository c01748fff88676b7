/- What a compressed instruction stands for is an instruction that is one. Nothing here speaks of the program. -/
import Derived.Test.YtioodijiejipiaaGreatDoorIE
import Derived.Test.YtioodijiejipiaaGreatDoorIME
namespace Go.Proofs.YtioodijiejipiaaGreatDoor
open Go.RowKit
set_option linter.unusedVariables false

/-- some word reads as it -/
def Rd (i : I) : Prop := ∃ S, 0 ≤ S ∧ S < 4294967296 ∧ D S = (i, true)
theorem Rd.draft {i : I} (h : Rd i) : D (draftF i) = (i, true) := by
  obtain ⟨S, s0, s1, e⟩ := h
  have b := back S s0 s1 (by rw [e])
  rw [e] at b
  exact b
theorem s32_i (S n q : Int) (h0 : 0 ≤ n + 2048) (h1 : n < 2048) (q0 : 0 ≤ q) (q1 : q < 1048576) (e : S = n % 4096 * 1048576 + q) : iI S = n := by
  unfold iI s32; split <;> omega
theorem dm (P K : Int) (hP : 0 < P) (hK : 0 < K) (S L s y : Int) (e : S = L + P * (s + K * y)) (l0 : 0 ≤ L) (l1 : L < P) (s0 : 0 ≤ s) (s1 : s < K) : S / P % K = s := by
  rw [e, Int.add_mul_ediv_left _ _ (by omega), Int.ediv_eq_zero_of_lt l0 l1, Int.zero_add, Int.add_mul_emod_self_left, Int.emod_eq_of_lt s0 s1]
theorem R_addi (d r n : Int) (d0 : 0 ≤ d) (d1 : d < 32) (r0 : 0 ≤ r) (r1 : r < 32) (n0 : -2048 ≤ n) (n1' : n < 2048) : Rd ⟨9, 1, d, r, 0, n, 0, false⟩ := by
  obtain ⟨S, hS⟩ : ∃ S, S = 19 + d * 128 + 0 * 4096 + r * 32768 + n % 4096 * 1048576 := ⟨_, rfl⟩
  have o : fOp S = 19 := by unfold fOp; omega
  have e_fF3 : fF3 S = 0 := by unfold fF3; omega
  have n1 : nImm S = (⟨9, 1, 0, 0, 0, 0, 0, false⟩, true) := by
    have s : shf S = false := by unfold shf; rw [e_fF3]; rfl
    unfold nImm fnImm; rw [s, e_fF3]; rfl
  have r_fRd : fRd S = d := by unfold fRd; omega
  have r_fRs1 : fRs1 S = r := by unfold fRs1; omega
  have im : iOpnd S = n := by
    have s : shf S = false := by unfold shf; rw [e_fF3]; rfl
    unfold iOpnd; rw [s]; exact s32_i S n (19 + d * 128 + 0 * 4096 + r * 32768) (by omega) n1' (by omega) (by omega) (by omega)
  exact ⟨S, by omega, by omega, by rw [D_19 S o, n1, r_fRd, r_fRs1, im] <;> rfl⟩
theorem R_andi (d r n : Int) (d0 : 0 ≤ d) (d1 : d < 32) (r0 : 0 ≤ r) (r1 : r < 32) (n0 : -2048 ≤ n) (n1' : n < 2048) : Rd ⟨9, 10, d, r, 0, n, 0, false⟩ := by
  obtain ⟨S, hS⟩ : ∃ S, S = 19 + d * 128 + 7 * 4096 + r * 32768 + n % 4096 * 1048576 := ⟨_, rfl⟩
  have o : fOp S = 19 := by unfold fOp; omega
  have e_fF3 : fF3 S = 7 := by unfold fF3; omega
  have n1 : nImm S = (⟨9, 10, 0, 0, 0, 0, 0, false⟩, true) := by
    have s : shf S = false := by unfold shf; rw [e_fF3]; rfl
    unfold nImm fnImm; rw [s, e_fF3]; rfl
  have r_fRd : fRd S = d := by unfold fRd; omega
  have r_fRs1 : fRs1 S = r := by unfold fRs1; omega
  have im : iOpnd S = n := by
    have s : shf S = false := by unfold shf; rw [e_fF3]; rfl
    unfold iOpnd; rw [s]; exact s32_i S n (19 + d * 128 + 7 * 4096 + r * 32768) (by omega) n1' (by omega) (by omega) (by omega)
  exact ⟨S, by omega, by omega, by rw [D_19 S o, n1, r_fRd, r_fRs1, im] <;> rfl⟩
theorem R_addiw (d r n : Int) (d0 : 0 ≤ d) (d1 : d < 32) (r0 : 0 ≤ r) (r1 : r < 32) (n0 : -2048 ≤ n) (n1' : n < 2048) : Rd ⟨9, 19, d, r, 0, n, 0, false⟩ := by
  obtain ⟨S, hS⟩ : ∃ S, S = 27 + d * 128 + r * 32768 + n % 4096 * 1048576 := ⟨_, rfl⟩
  have o : fOp S = 27 := by unfold fOp; omega
  have e_fF3 : fF3 S = 0 := by unfold fF3; omega
  have n1 : nImmW S = (⟨9, 19, 0, 0, 0, 0, 0, false⟩, true) := by
    have s : shf S = false := by unfold shf; rw [e_fF3]; rfl
    unfold nImmW fnImmW; rw [s, e_fF3]; rfl
  have r_fRd : fRd S = d := by unfold fRd; omega
  have r_fRs1 : fRs1 S = r := by unfold fRs1; omega
  have im : iOpndW S = n := by
    have s : shf S = false := by unfold shf; rw [e_fF3]; rfl
    unfold iOpndW; rw [s]; exact s32_i S n (27 + d * 128 + r * 32768) (by omega) n1' (by omega) (by omega) (by omega)
  exact ⟨S, by omega, by omega, by rw [D_27 S o, n1, r_fRd, r_fRs1, im] <;> rfl⟩
theorem R_slli (d r n : Int) (d0 : 0 ≤ d) (d1 : d < 32) (r0 : 0 ≤ r) (r1 : r < 32) (n0 : 0 ≤ n) (n1' : n < 64) : Rd ⟨9, 3, d, r, 0, n, 0, false⟩ := by
  obtain ⟨S, hS⟩ : ∃ S, S = 19 + d * 128 + 1 * 4096 + r * 32768 + n * 1048576 + 0 * 67108864 := ⟨_, rfl⟩
  have o : fOp S = 19 := by unfold fOp; omega
  have e_fF3 : fF3 S = 1 := by unfold fF3; omega
  have e_fF6 : fF6 S = 0 := by unfold fF6; omega
  have n1 : nImm S = (⟨9, 3, 0, 0, 0, 0, 0, false⟩, true) := by
    have s : shf S = true := by unfold shf; rw [e_fF3]; rfl
    unfold nImm fnImm; rw [s, e_fF3, e_fF6]; rfl
  have r_fRd : fRd S = d := by unfold fRd; omega
  have r_fRs1 : fRs1 S = r := by unfold fRs1; omega
  have im : iOpnd S = n := by
    have s : shf S = true := by unfold shf; rw [e_fF3]; rfl
    unfold iOpnd; rw [s]; show fSh S = n; unfold fSh; omega
  exact ⟨S, by omega, by omega, by rw [D_19 S o, n1, r_fRd, r_fRs1, im] <;> rfl⟩
theorem R_srli (d r n : Int) (d0 : 0 ≤ d) (d1 : d < 32) (r0 : 0 ≤ r) (r1 : r < 32) (n0 : 0 ≤ n) (n1' : n < 64) : Rd ⟨9, 7, d, r, 0, n, 0, false⟩ := by
  obtain ⟨S, hS⟩ : ∃ S, S = 19 + d * 128 + 5 * 4096 + r * 32768 + n * 1048576 + 0 * 67108864 := ⟨_, rfl⟩
  have o : fOp S = 19 := by unfold fOp; omega
  have e_fF3 : fF3 S = 5 := by unfold fF3; omega
  have e_fF6 : fF6 S = 0 := by unfold fF6; omega
  have n1 : nImm S = (⟨9, 7, 0, 0, 0, 0, 0, false⟩, true) := by
    have s : shf S = true := by unfold shf; rw [e_fF3]; rfl
    unfold nImm fnImm; rw [s, e_fF3, e_fF6]; rfl
  have r_fRd : fRd S = d := by unfold fRd; omega
  have r_fRs1 : fRs1 S = r := by unfold fRs1; omega
  have im : iOpnd S = n := by
    have s : shf S = true := by unfold shf; rw [e_fF3]; rfl
    unfold iOpnd; rw [s]; show fSh S = n; unfold fSh; omega
  exact ⟨S, by omega, by omega, by rw [D_19 S o, n1, r_fRd, r_fRs1, im] <;> rfl⟩
theorem R_srai (d r n : Int) (d0 : 0 ≤ d) (d1 : d < 32) (r0 : 0 ≤ r) (r1 : r < 32) (n0 : 0 ≤ n) (n1' : n < 64) : Rd ⟨9, 8, d, r, 0, n, 0, false⟩ := by
  obtain ⟨S, hS⟩ : ∃ S, S = 19 + d * 128 + 5 * 4096 + r * 32768 + n * 1048576 + 16 * 67108864 := ⟨_, rfl⟩
  have o : fOp S = 19 := by unfold fOp; omega
  have e_fF3 : fF3 S = 5 := by unfold fF3; omega
  have e_fF6 : fF6 S = 16 := by unfold fF6; omega
  have n1 : nImm S = (⟨9, 8, 0, 0, 0, 0, 0, false⟩, true) := by
    have s : shf S = true := by unfold shf; rw [e_fF3]; rfl
    unfold nImm fnImm; rw [s, e_fF3, e_fF6]; rfl
  have r_fRd : fRd S = d := by unfold fRd; omega
  have r_fRs1 : fRs1 S = r := by unfold fRs1; omega
  have im : iOpnd S = n := by
    have s : shf S = true := by unfold shf; rw [e_fF3]; rfl
    unfold iOpnd; rw [s]; show fSh S = n; unfold fSh; omega
  exact ⟨S, by omega, by omega, by rw [D_19 S o, n1, r_fRd, r_fRs1, im] <;> rfl⟩
theorem R_add (d r s : Int) (d0 : 0 ≤ d) (d1 : d < 32) (r0 : 0 ≤ r) (r1 : r < 32) (s0 : 0 ≤ s) (s1 : s < 32) : Rd ⟨8, 1, d, r, s, 0, 0, false⟩ := by
  obtain ⟨S, hS⟩ : ∃ S, S = 51 + d * 128 + 0 * 4096 + r * 32768 + s * 1048576 + 0 * 33554432 := ⟨_, rfl⟩
  have o : fOp S = 51 := by unfold fOp; omega
  have e_fF3 : fF3 S = 0 := by unfold fF3; omega
  have e_fF7 : fF7 S = 0 := by unfold fF7; omega
  have n1 : nAlu S = (⟨8, 1, 0, 0, 0, 0, 0, false⟩, true) := by unfold nAlu fnAlu; rw [e_fF3, e_fF7]; rfl
  have r_fRd : fRd S = d := by unfold fRd; omega
  have r_fRs1 : fRs1 S = r := by unfold fRs1; omega
  have r_fRs2 : fRs2 S = s := by unfold fRs2; omega
  exact ⟨S, by omega, by omega, by rw [D_51 S o, n1, r_fRd, r_fRs1, r_fRs2] <;> rfl⟩
theorem R_sub (d r s : Int) (d0 : 0 ≤ d) (d1 : d < 32) (r0 : 0 ≤ r) (r1 : r < 32) (s0 : 0 ≤ s) (s1 : s < 32) : Rd ⟨8, 2, d, r, s, 0, 0, false⟩ := by
  obtain ⟨S, hS⟩ : ∃ S, S = 51 + d * 128 + 0 * 4096 + r * 32768 + s * 1048576 + 32 * 33554432 := ⟨_, rfl⟩
  have o : fOp S = 51 := by unfold fOp; omega
  have e_fF3 : fF3 S = 0 := by unfold fF3; omega
  have e_fF7 : fF7 S = 32 := by unfold fF7; omega
  have n1 : nAlu S = (⟨8, 2, 0, 0, 0, 0, 0, false⟩, true) := by unfold nAlu fnAlu; rw [e_fF3, e_fF7]; rfl
  have r_fRd : fRd S = d := by unfold fRd; omega
  have r_fRs1 : fRs1 S = r := by unfold fRs1; omega
  have r_fRs2 : fRs2 S = s := by unfold fRs2; omega
  exact ⟨S, by omega, by omega, by rw [D_51 S o, n1, r_fRd, r_fRs1, r_fRs2] <;> rfl⟩
theorem R_xor (d r s : Int) (d0 : 0 ≤ d) (d1 : d < 32) (r0 : 0 ≤ r) (r1 : r < 32) (s0 : 0 ≤ s) (s1 : s < 32) : Rd ⟨8, 6, d, r, s, 0, 0, false⟩ := by
  obtain ⟨S, hS⟩ : ∃ S, S = 51 + d * 128 + 4 * 4096 + r * 32768 + s * 1048576 + 0 * 33554432 := ⟨_, rfl⟩
  have o : fOp S = 51 := by unfold fOp; omega
  have e_fF3 : fF3 S = 4 := by unfold fF3; omega
  have e_fF7 : fF7 S = 0 := by unfold fF7; omega
  have n1 : nAlu S = (⟨8, 6, 0, 0, 0, 0, 0, false⟩, true) := by unfold nAlu fnAlu; rw [e_fF3, e_fF7]; rfl
  have r_fRd : fRd S = d := by unfold fRd; omega
  have r_fRs1 : fRs1 S = r := by unfold fRs1; omega
  have r_fRs2 : fRs2 S = s := by unfold fRs2; omega
  exact ⟨S, by omega, by omega, by rw [D_51 S o, n1, r_fRd, r_fRs1, r_fRs2] <;> rfl⟩
theorem R_or (d r s : Int) (d0 : 0 ≤ d) (d1 : d < 32) (r0 : 0 ≤ r) (r1 : r < 32) (s0 : 0 ≤ s) (s1 : s < 32) : Rd ⟨8, 9, d, r, s, 0, 0, false⟩ := by
  obtain ⟨S, hS⟩ : ∃ S, S = 51 + d * 128 + 6 * 4096 + r * 32768 + s * 1048576 + 0 * 33554432 := ⟨_, rfl⟩
  have o : fOp S = 51 := by unfold fOp; omega
  have e_fF3 : fF3 S = 6 := by unfold fF3; omega
  have e_fF7 : fF7 S = 0 := by unfold fF7; omega
  have n1 : nAlu S = (⟨8, 9, 0, 0, 0, 0, 0, false⟩, true) := by unfold nAlu fnAlu; rw [e_fF3, e_fF7]; rfl
  have r_fRd : fRd S = d := by unfold fRd; omega
  have r_fRs1 : fRs1 S = r := by unfold fRs1; omega
  have r_fRs2 : fRs2 S = s := by unfold fRs2; omega
  exact ⟨S, by omega, by omega, by rw [D_51 S o, n1, r_fRd, r_fRs1, r_fRs2] <;> rfl⟩
theorem R_and (d r s : Int) (d0 : 0 ≤ d) (d1 : d < 32) (r0 : 0 ≤ r) (r1 : r < 32) (s0 : 0 ≤ s) (s1 : s < 32) : Rd ⟨8, 10, d, r, s, 0, 0, false⟩ := by
  obtain ⟨S, hS⟩ : ∃ S, S = 51 + d * 128 + 7 * 4096 + r * 32768 + s * 1048576 + 0 * 33554432 := ⟨_, rfl⟩
  have o : fOp S = 51 := by unfold fOp; omega
  have e_fF3 : fF3 S = 7 := by unfold fF3; omega
  have e_fF7 : fF7 S = 0 := by unfold fF7; omega
  have n1 : nAlu S = (⟨8, 10, 0, 0, 0, 0, 0, false⟩, true) := by unfold nAlu fnAlu; rw [e_fF3, e_fF7]; rfl
  have r_fRd : fRd S = d := by unfold fRd; omega
  have r_fRs1 : fRs1 S = r := by unfold fRs1; omega
  have r_fRs2 : fRs2 S = s := by unfold fRs2; omega
  exact ⟨S, by omega, by omega, by rw [D_51 S o, n1, r_fRd, r_fRs1, r_fRs2] <;> rfl⟩
theorem R_subw (d r s : Int) (d0 : 0 ≤ d) (d1 : d < 32) (r0 : 0 ≤ r) (r1 : r < 32) (s0 : 0 ≤ s) (s1 : s < 32) : Rd ⟨8, 20, d, r, s, 0, 0, false⟩ := by
  obtain ⟨S, hS⟩ : ∃ S, S = 59 + d * 128 + 0 * 4096 + r * 32768 + s * 1048576 + 32 * 33554432 := ⟨_, rfl⟩
  have o : fOp S = 59 := by unfold fOp; omega
  have e_fF3 : fF3 S = 0 := by unfold fF3; omega
  have e_fF7 : fF7 S = 32 := by unfold fF7; omega
  have n1 : nAluW S = (⟨8, 20, 0, 0, 0, 0, 0, false⟩, true) := by unfold nAluW fnAluW; rw [e_fF3, e_fF7]; rfl
  have r_fRd : fRd S = d := by unfold fRd; omega
  have r_fRs1 : fRs1 S = r := by unfold fRs1; omega
  have r_fRs2 : fRs2 S = s := by unfold fRs2; omega
  exact ⟨S, by omega, by omega, by rw [D_59 S o, n1, r_fRd, r_fRs1, r_fRs2] <;> rfl⟩
theorem R_addw (d r s : Int) (d0 : 0 ≤ d) (d1 : d < 32) (r0 : 0 ≤ r) (r1 : r < 32) (s0 : 0 ≤ s) (s1 : s < 32) : Rd ⟨8, 19, d, r, s, 0, 0, false⟩ := by
  obtain ⟨S, hS⟩ : ∃ S, S = 59 + d * 128 + 0 * 4096 + r * 32768 + s * 1048576 + 0 * 33554432 := ⟨_, rfl⟩
  have o : fOp S = 59 := by unfold fOp; omega
  have e_fF3 : fF3 S = 0 := by unfold fF3; omega
  have e_fF7 : fF7 S = 0 := by unfold fF7; omega
  have n1 : nAluW S = (⟨8, 19, 0, 0, 0, 0, 0, false⟩, true) := by unfold nAluW fnAluW; rw [e_fF3, e_fF7]; rfl
  have r_fRd : fRd S = d := by unfold fRd; omega
  have r_fRs1 : fRs1 S = r := by unfold fRs1; omega
  have r_fRs2 : fRs2 S = s := by unfold fRs2; omega
  exact ⟨S, by omega, by omega, by rw [D_59 S o, n1, r_fRd, r_fRs1, r_fRs2] <;> rfl⟩
theorem R_load4 (d r n : Int) (d0 : 0 ≤ d) (d1 : d < 32) (r0 : 0 ≤ r) (r1 : r < 32) (n0 : -2048 ≤ n) (n1' : n < 2048) : Rd ⟨6, 0, d, r, 0, n, 4, true⟩ := by
  obtain ⟨S, hS⟩ : ∃ S, S = 3 + d * 128 + 2 * 4096 + r * 32768 + n % 4096 * 1048576 := ⟨_, rfl⟩
  have o : fOp S = 3 := by unfold fOp; omega
  have e_fF3 : fF3 S = 2 := by unfold fF3; omega
  have n1 : nLoad S = (⟨6, 0, 0, 0, 0, 0, 4, true⟩, true) := by unfold nLoad; rw [e_fF3]; rfl
  have r_fRd : fRd S = d := by unfold fRd; omega
  have r_fRs1 : fRs1 S = r := by unfold fRs1; omega
  have im : iI S = n := by exact s32_i S n (3 + d * 128 + 2 * 4096 + r * 32768) (by omega) n1' (by omega) (by omega) (by omega)
  exact ⟨S, by omega, by omega, by rw [D_3 S o, n1, r_fRd, r_fRs1, im] <;> rfl⟩
theorem R_store4 (s r n : Int) (s0 : 0 ≤ s) (s1 : s < 32) (r0 : 0 ≤ r) (r1 : r < 32) (n0 : -2048 ≤ n) (n1' : n < 2048) : Rd ⟨7, 0, 0, r, s, n, 4, false⟩ := by
  obtain ⟨S, hS⟩ : ∃ S, S = 35 + n % 32 * 128 + 2 * 4096 + r * 32768 + s * 1048576 + n / 32 % 128 * 33554432 := ⟨_, rfl⟩
  have o : fOp S = 35 := by unfold fOp; omega
  have e_fF3 : fF3 S = 2 := by unfold fF3; omega
  have n1 : nStore S = (⟨7, 0, 0, 0, 0, 0, 4, false⟩, true) := by unfold nStore; rw [e_fF3]; rfl
  have r_fRs1 : fRs1 S = r := by unfold fRs1; exact dm 32768 32 (by decide) (by decide) S (35 + n % 32 * 128 + 2 * 4096) r (s + 32 * (n / 32 % 128)) (by omega) (by omega) (by omega) r0 r1
  have r_fRs2 : fRs2 S = s := by unfold fRs2; exact dm 1048576 32 (by decide) (by decide) S (35 + n % 32 * 128 + 2 * 4096 + r * 32768) s (n / 32 % 128) (by omega) (by omega) (by omega) s0 s1
  have im : iS S = n := by unfold iS s32; split <;> omega
  exact ⟨S, by omega, by omega, by rw [D_35 S o, n1, r_fRs1, r_fRs2, im] <;> rfl⟩
theorem R_load8 (d r n : Int) (d0 : 0 ≤ d) (d1 : d < 32) (r0 : 0 ≤ r) (r1 : r < 32) (n0 : -2048 ≤ n) (n1' : n < 2048) : Rd ⟨6, 0, d, r, 0, n, 8, true⟩ := by
  obtain ⟨S, hS⟩ : ∃ S, S = 3 + d * 128 + 3 * 4096 + r * 32768 + n % 4096 * 1048576 := ⟨_, rfl⟩
  have o : fOp S = 3 := by unfold fOp; omega
  have e_fF3 : fF3 S = 3 := by unfold fF3; omega
  have n1 : nLoad S = (⟨6, 0, 0, 0, 0, 0, 8, true⟩, true) := by unfold nLoad; rw [e_fF3]; rfl
  have r_fRd : fRd S = d := by unfold fRd; omega
  have r_fRs1 : fRs1 S = r := by unfold fRs1; omega
  have im : iI S = n := by exact s32_i S n (3 + d * 128 + 3 * 4096 + r * 32768) (by omega) n1' (by omega) (by omega) (by omega)
  exact ⟨S, by omega, by omega, by rw [D_3 S o, n1, r_fRd, r_fRs1, im] <;> rfl⟩
theorem R_store8 (s r n : Int) (s0 : 0 ≤ s) (s1 : s < 32) (r0 : 0 ≤ r) (r1 : r < 32) (n0 : -2048 ≤ n) (n1' : n < 2048) : Rd ⟨7, 0, 0, r, s, n, 8, false⟩ := by
  obtain ⟨S, hS⟩ : ∃ S, S = 35 + n % 32 * 128 + 3 * 4096 + r * 32768 + s * 1048576 + n / 32 % 128 * 33554432 := ⟨_, rfl⟩
  have o : fOp S = 35 := by unfold fOp; omega
  have e_fF3 : fF3 S = 3 := by unfold fF3; omega
  have n1 : nStore S = (⟨7, 0, 0, 0, 0, 0, 8, false⟩, true) := by unfold nStore; rw [e_fF3]; rfl
  have r_fRs1 : fRs1 S = r := by unfold fRs1; exact dm 32768 32 (by decide) (by decide) S (35 + n % 32 * 128 + 3 * 4096) r (s + 32 * (n / 32 % 128)) (by omega) (by omega) (by omega) r0 r1
  have r_fRs2 : fRs2 S = s := by unfold fRs2; exact dm 1048576 32 (by decide) (by decide) S (35 + n % 32 * 128 + 3 * 4096 + r * 32768) s (n / 32 % 128) (by omega) (by omega) (by omega) s0 s1
  have im : iS S = n := by unfold iS s32; split <;> omega
  exact ⟨S, by omega, by omega, by rw [D_35 S o, n1, r_fRs1, r_fRs2, im] <;> rfl⟩
theorem R_jalr (d r : Int) (d0 : 0 ≤ d) (d1 : d < 32) (r0 : 0 ≤ r) (r1 : r < 32) : Rd ⟨4, 0, d, r, 0, 0, 0, false⟩ := by
  obtain ⟨S, hS⟩ : ∃ S, S = 103 + d * 128 + r * 32768 := ⟨_, rfl⟩
  have o : fOp S = 103 := by unfold fOp; omega
  have e_fF3 : fF3 S = 0 := by unfold fF3; omega
  have n1 : nJalr S = (⟨4, 0, 0, 0, 0, 0, 0, false⟩, true) := by unfold nJalr; rw [if_pos e_fF3]; rfl
  have r_fRd : fRd S = d := by unfold fRd; omega
  have r_fRs1 : fRs1 S = r := by unfold fRs1; omega
  have im : iI S = 0 := by unfold iI s32; split <;> omega
  exact ⟨S, by omega, by omega, by rw [D_103 S o, n1, r_fRd, r_fRs1, im] <;> rfl⟩
theorem R_lui (d n : Int) (d0 : 0 ≤ d) (d1 : d < 32) (n0 : -32 ≤ n) (n1' : n < 32) : Rd ⟨1, 0, d, 0, 0, n * 4096, 0, false⟩ := by
  obtain ⟨S, hS⟩ : ∃ S, S = 55 + d * 128 + n % 1048576 * 4096 := ⟨_, rfl⟩
  have o : fOp S = 55 := by unfold fOp; omega
  have n1 : nLui S = (⟨1, 0, 0, 0, 0, 0, 0, false⟩, true) := by rfl
  have r_fRd : fRd S = d := by unfold fRd; omega
  have im : iU S = n * 4096 := by unfold iU s32; split <;> omega
  exact ⟨S, by omega, by omega, by rw [D_55 S o, n1, r_fRd, im] <;> rfl⟩
theorem R_br1 (r n : Int) (r0 : 0 ≤ r) (r1 : r < 32) (n0 : -256 ≤ n) (n1' : n < 256) (n2 : n % 2 = 0) : Rd ⟨5, 1, 0, r, 0, n, 0, false⟩ := by
  obtain ⟨b, hb⟩ : ∃ b, b = n / 4096 % 2 := ⟨_, rfl⟩
  obtain ⟨x, hx⟩ : ∃ x, x = n / 2048 % 2 := ⟨_, rfl⟩
  obtain ⟨y, hy⟩ : ∃ y, y = n / 32 % 64 := ⟨_, rfl⟩
  obtain ⟨z, hz⟩ : ∃ z, z = n / 2 % 16 := ⟨_, rfl⟩
  have hn : n = x * 2048 + y * 32 + z * 2 - b * 4096 := by omega
  have hb2 : b = 0 ∨ b = 1 := by omega
  have bx : 0 ≤ x ∧ x < 2 := by omega
  have by' : 0 ≤ y ∧ y < 64 := by omega
  have bz : 0 ≤ z ∧ z < 16 := by omega
  clear hb hx hy hz n2
  obtain ⟨S, hS⟩ : ∃ S, S = 99 + x * 128 + z * 256 + 0 * 4096 + r * 32768 + y * 33554432 + b * 2147483648 := ⟨_, rfl⟩
  have o : fOp S = 99 := by unfold fOp; omega
  have e3 : fF3 S = 0 := by unfold fF3; exact dm 4096 8 (by decide) (by decide) S (99 + x * 128 + z * 256) 0 (r + 1024 * y + 65536 * b) (by omega) (by omega) (by omega) (by omega) (by omega)
  have n1 : nBranch S = (⟨5, 1, 0, 0, 0, 0, 0, false⟩, true) := by unfold nBranch; rw [e3]; rfl
  have q1 : fRs1 S = r := by unfold fRs1; exact dm 32768 32 (by decide) (by decide) S (99 + x * 128 + z * 256 + 0 * 4096) r (32 * y + 2048 * b) (by omega) (by omega) (by omega) r0 r1
  have q2 : fRs2 S = 0 := by unfold fRs2; exact dm 1048576 32 (by decide) (by decide) S (99 + x * 128 + z * 256 + 0 * 4096 + r * 32768) 0 (y + 64 * b) (by omega) (by omega) (by omega) (by omega) (by omega)
  have g1 : S / 128 % 2 = x := dm 128 2 (by decide) (by decide) S 99 x (z + 16 * 0 + 128 * r + 131072 * y + 8388608 * b) (by omega) (by omega) (by omega) bx.1 bx.2
  have g2 : S / 33554432 % 64 = y := dm 33554432 64 (by decide) (by decide) S (99 + x * 128 + z * 256 + 0 * 4096 + r * 32768) y b (by omega) (by omega) (by omega) by'.1 by'.2
  have g3 : S / 256 % 16 = z := dm 256 16 (by decide) (by decide) S (99 + x * 128) z (0 + 8 * r + 8192 * y + 524288 * b) (by omega) (by omega) (by omega) bz.1 bz.2
  have g4 : s32 S / 2147483648 = -b := by unfold s32; rcases hb2 with q | q <;> subst q <;> split <;> omega
  have im : iB S = n := by unfold iB; rw [g1, g2, g3, g4]; omega
  exact ⟨S, by omega, by omega, by rw [D_99 S o, n1, q1, q2, im] <;> rfl⟩
theorem R_br2 (r n : Int) (r0 : 0 ≤ r) (r1 : r < 32) (n0 : -256 ≤ n) (n1' : n < 256) (n2 : n % 2 = 0) : Rd ⟨5, 2, 0, r, 0, n, 0, false⟩ := by
  obtain ⟨b, hb⟩ : ∃ b, b = n / 4096 % 2 := ⟨_, rfl⟩
  obtain ⟨x, hx⟩ : ∃ x, x = n / 2048 % 2 := ⟨_, rfl⟩
  obtain ⟨y, hy⟩ : ∃ y, y = n / 32 % 64 := ⟨_, rfl⟩
  obtain ⟨z, hz⟩ : ∃ z, z = n / 2 % 16 := ⟨_, rfl⟩
  have hn : n = x * 2048 + y * 32 + z * 2 - b * 4096 := by omega
  have hb2 : b = 0 ∨ b = 1 := by omega
  have bx : 0 ≤ x ∧ x < 2 := by omega
  have by' : 0 ≤ y ∧ y < 64 := by omega
  have bz : 0 ≤ z ∧ z < 16 := by omega
  clear hb hx hy hz n2
  obtain ⟨S, hS⟩ : ∃ S, S = 99 + x * 128 + z * 256 + 1 * 4096 + r * 32768 + y * 33554432 + b * 2147483648 := ⟨_, rfl⟩
  have o : fOp S = 99 := by unfold fOp; omega
  have e3 : fF3 S = 1 := by unfold fF3; exact dm 4096 8 (by decide) (by decide) S (99 + x * 128 + z * 256) 1 (r + 1024 * y + 65536 * b) (by omega) (by omega) (by omega) (by omega) (by omega)
  have n1 : nBranch S = (⟨5, 2, 0, 0, 0, 0, 0, false⟩, true) := by unfold nBranch; rw [e3]; rfl
  have q1 : fRs1 S = r := by unfold fRs1; exact dm 32768 32 (by decide) (by decide) S (99 + x * 128 + z * 256 + 1 * 4096) r (32 * y + 2048 * b) (by omega) (by omega) (by omega) r0 r1
  have q2 : fRs2 S = 0 := by unfold fRs2; exact dm 1048576 32 (by decide) (by decide) S (99 + x * 128 + z * 256 + 1 * 4096 + r * 32768) 0 (y + 64 * b) (by omega) (by omega) (by omega) (by omega) (by omega)
  have g1 : S / 128 % 2 = x := dm 128 2 (by decide) (by decide) S 99 x (z + 16 * 1 + 128 * r + 131072 * y + 8388608 * b) (by omega) (by omega) (by omega) bx.1 bx.2
  have g2 : S / 33554432 % 64 = y := dm 33554432 64 (by decide) (by decide) S (99 + x * 128 + z * 256 + 1 * 4096 + r * 32768) y b (by omega) (by omega) (by omega) by'.1 by'.2
  have g3 : S / 256 % 16 = z := dm 256 16 (by decide) (by decide) S (99 + x * 128) z (1 + 8 * r + 8192 * y + 524288 * b) (by omega) (by omega) (by omega) bz.1 bz.2
  have g4 : s32 S / 2147483648 = -b := by unfold s32; rcases hb2 with q | q <;> subst q <;> split <;> omega
  have im : iB S = n := by unfold iB; rw [g1, g2, g3, g4]; omega
  exact ⟨S, by omega, by omega, by rw [D_99 S o, n1, q1, q2, im] <;> rfl⟩
theorem R_jal (n : Int) (n0 : -2048 ≤ n) (n1' : n < 2048) (n2 : n % 2 = 0) : Rd ⟨3, 0, 0, 0, 0, n, 0, false⟩ := by
  obtain ⟨b, hb⟩ : ∃ b, b = n / 1048576 % 2 := ⟨_, rfl⟩
  obtain ⟨x, hx⟩ : ∃ x, x = n / 4096 % 256 := ⟨_, rfl⟩
  obtain ⟨y, hy⟩ : ∃ y, y = n / 2048 % 2 := ⟨_, rfl⟩
  obtain ⟨z, hz⟩ : ∃ z, z = n / 2 % 1024 := ⟨_, rfl⟩
  have hn : n = x * 4096 + y * 2048 + z * 2 - b * 1048576 := by omega
  have hb2 : b = 0 ∨ b = 1 := by omega
  have bx : 0 ≤ x ∧ x < 256 := by omega
  have by' : 0 ≤ y ∧ y < 2 := by omega
  have bz : 0 ≤ z ∧ z < 1024 := by omega
  clear hb hx hy hz n2
  obtain ⟨S, hS⟩ : ∃ S, S = 111 + x * 4096 + y * 1048576 + z * 2097152 + b * 2147483648 := ⟨_, rfl⟩
  have o : fOp S = 111 := by unfold fOp; omega
  have q1 : fRd S = 0 := by unfold fRd; omega
  have g1 : S / 4096 % 256 = x := dm 4096 256 (by decide) (by decide) S 111 x (y + 2 * z + 2048 * b) (by omega) (by omega) (by omega) bx.1 bx.2
  have g2 : S / 1048576 % 2 = y := dm 1048576 2 (by decide) (by decide) S (111 + x * 4096) y (z + 1024 * b) (by omega) (by omega) (by omega) by'.1 by'.2
  have g3 : S / 2097152 % 1024 = z := dm 2097152 1024 (by decide) (by decide) S (111 + x * 4096 + y * 1048576) z b (by omega) (by omega) (by omega) bz.1 bz.2
  have g4 : s32 S / 2147483648 = -b := by unfold s32; rcases hb2 with q | q <;> subst q <;> split <;> omega
  have im : iJ S = n := by unfold iJ; rw [g1, g2, g3, g4]; omega
  exact ⟨S, by omega, by omega, by rw [D_111 S o, q1, im] <;> rfl⟩
theorem R_ebreak : Rd ⟨12, 0, 0, 0, 0, 0, 0, false⟩ := ⟨1048691, by omega, by omega, by kernel_rfl⟩
theorem on_rd {i : I} {n : Int} (h : (onl i n).2 = true) (r : Rd i) : Rd (onl i n).1 := by rw [(onl_ok h).2]; exact r
theorem bRd (c : Int) : 0 ≤ cRd c ∧ cRd c < 32 := by unfold cRd; omega
theorem bR2 (c : Int) : 0 ≤ cR2 c ∧ cR2 c < 32 := by unfold cR2; omega
theorem bS1 (c : Int) : 0 ≤ cS1 c ∧ cS1 c < 32 := by unfold cS1; omega
theorem bS2 (c : Int) : 0 ≤ cS2 c ∧ cS2 c < 32 := by unfold cS2; omega
theorem bAm (c : Int) : 0 ≤ cAm c ∧ cAm c < 64 := by unfold cAm; omega
theorem bSm (c : Int) : -32 ≤ cSmall c ∧ cSmall c < 32 := by unfold cSmall sx cAm; split <;> omega
theorem bJ (c : Int) : -2048 ≤ cJump c ∧ cJump c < 2048 ∧ cJump c % 2 = 0 := by
  have b : 0 ≤ cJump0 c ∧ cJump0 c < 4096 ∧ cJump0 c % 2 = 0 := by unfold cJump0; omega
  unfold cJump sx; split <;> omega
theorem bBr (c : Int) : -256 ≤ cBranch c ∧ cBranch c < 256 ∧ cBranch c % 2 = 0 := by
  have b : 0 ≤ cBranch0 c ∧ cBranch0 c < 512 ∧ cBranch0 c % 2 = 0 := by unfold cBranch0; omega
  unfold cBranch sx; split <;> omega
theorem bMv (c : Int) : -512 ≤ cMove c ∧ cMove c < 512 := by
  have b : 0 ≤ cMove0 c ∧ cMove0 c < 1024 := by unfold cMove0; omega
  unfold cMove sx; split <;> omega
theorem full0 (c : Int) (h : (X0 c).2 = true) : Rd (X0 c).1 := by
  have s1 := bS1 c
  have s2 := bS2 c
  unfold X0 at *
  by_cases q0 : cF3 c = 0
  · rw [if_pos q0] at *; exact on_rd h (R_addi _ _ _ s2.1 s2.2 (by omega) (by omega) (by unfold cStack; omega) (by unfold cStack; omega))
  rw [if_neg q0] at *
  by_cases q2 : cF3 c = 2
  · rw [if_pos q2]; exact R_load4 _ _ _ s2.1 s2.2 s1.1 s1.2 (by unfold cWord; omega) (by unfold cWord; omega)
  rw [if_neg q2] at *
  by_cases q3 : cF3 c = 3
  · rw [if_pos q3]; exact R_load8 _ _ _ s2.1 s2.2 s1.1 s1.2 (by unfold cDouble; omega) (by unfold cDouble; omega)
  rw [if_neg q3] at *
  by_cases q6 : cF3 c = 6
  · rw [if_pos q6]; exact R_store4 _ _ _ s2.1 s2.2 s1.1 s1.2 (by unfold cWord; omega) (by unfold cWord; omega)
  rw [if_neg q6] at *
  by_cases q7 : cF3 c = 7
  · rw [if_pos q7]; exact R_store8 _ _ _ s2.1 s2.2 s1.1 s1.2 (by unfold cDouble; omega) (by unfold cDouble; omega)
  rw [if_neg q7] at h; cases h
theorem fullU (c : Int) (h : (XU c).2 = true) : Rd (XU c).1 := by
  have r := bRd c
  have m := bSm c
  unfold XU at *
  by_cases q : cRd c = 2
  · rw [if_pos q] at *; exact on_rd h (R_addi _ _ _ (by omega) (by omega) (by omega) (by omega) (by have := (bMv c).1; omega) (by have := (bMv c).2; omega))
  · rw [if_neg q] at *; exact on_rd h (R_lui _ _ r.1 r.2 m.1 m.2)
theorem fullC (c : Int) (h : (XC c).2 = true) : Rd (XC c).1 := by
  have s1 := bS1 c
  have s2 := bS2 c
  have m := bSm c
  have am := bAm c
  unfold XC at *
  by_cases q0 : cT c = 0
  · rw [if_pos q0]; exact R_srli _ _ _ s1.1 s1.2 s1.1 s1.2 am.1 am.2
  rw [if_neg q0] at *
  by_cases q1 : cT c = 1
  · rw [if_pos q1]; exact R_srai _ _ _ s1.1 s1.2 s1.1 s1.2 am.1 am.2
  rw [if_neg q1] at *
  by_cases q2 : cT c = 2
  · rw [if_pos q2]; exact R_andi _ _ _ s1.1 s1.2 s1.1 s1.2 (by omega) (by omega)
  rw [if_neg q2] at *
  have b : cO c = 0 ∨ cO c = 1 ∨ cO c = 2 ∨ cO c = 3 ∨ cO c = 4 ∨ cO c = 5 ∨ cO c = 6 ∨ cO c = 7 := by unfold cO; omega
  have hn := (onl_ok h).1
  refine on_rd h ?_
  rcases b with z | z | z | z | z | z | z | z
  · rw [show cOp c = 2 from by unfold cOp; rw [z]; rfl]; exact R_sub _ _ _ s1.1 s1.2 s1.1 s1.2 s2.1 s2.2
  · rw [show cOp c = 6 from by unfold cOp; rw [z]; rfl]; exact R_xor _ _ _ s1.1 s1.2 s1.1 s1.2 s2.1 s2.2
  · rw [show cOp c = 9 from by unfold cOp; rw [z]; rfl]; exact R_or _ _ _ s1.1 s1.2 s1.1 s1.2 s2.1 s2.2
  · rw [show cOp c = 10 from by unfold cOp; rw [z]; rfl]; exact R_and _ _ _ s1.1 s1.2 s1.1 s1.2 s2.1 s2.2
  · rw [show cOp c = 20 from by unfold cOp; rw [z]; rfl]; exact R_subw _ _ _ s1.1 s1.2 s1.1 s1.2 s2.1 s2.2
  · rw [show cOp c = 19 from by unfold cOp; rw [z]; rfl]; exact R_addw _ _ _ s1.1 s1.2 s1.1 s1.2 s2.1 s2.2
  · exact absurd (show cOp c = 0 from by unfold cOp; rw [z]; rfl) hn
  · exact absurd (show cOp c = 0 from by unfold cOp; rw [z]; rfl) hn
theorem full1 (c : Int) (h : (X1 c).2 = true) : Rd (X1 c).1 := by
  have r := bRd c
  have s1 := bS1 c
  have m := bSm c
  unfold X1 at *
  by_cases q0 : cF3 c = 0
  · rw [if_pos q0]; exact R_addi _ _ _ r.1 r.2 r.1 r.2 (by omega) (by omega)
  rw [if_neg q0] at *
  by_cases q1 : cF3 c = 1
  · rw [if_pos q1] at *; exact on_rd h (R_addiw _ _ _ r.1 r.2 r.1 r.2 (by omega) (by omega))
  rw [if_neg q1] at *
  by_cases q2 : cF3 c = 2
  · rw [if_pos q2]; exact R_addi _ _ _ r.1 r.2 (by omega) (by omega) (by omega) (by omega)
  rw [if_neg q2] at *
  by_cases q3 : cF3 c = 3
  · rw [if_pos q3] at *; exact fullU c h
  rw [if_neg q3] at *
  by_cases q4 : cF3 c = 4
  · rw [if_pos q4] at *; exact fullC c h
  rw [if_neg q4] at *
  by_cases q5 : cF3 c = 5
  · rw [if_pos q5]; exact R_jal _ (bJ c).1 (bJ c).2.1 (bJ c).2.2
  rw [if_neg q5] at *
  by_cases q6 : cF3 c = 6
  · rw [if_pos q6]; exact R_br1 _ _ s1.1 s1.2 (bBr c).1 (bBr c).2.1 (bBr c).2.2
  · rw [if_neg q6]; exact R_br2 _ _ s1.1 s1.2 (bBr c).1 (bBr c).2.1 (bBr c).2.2
theorem fullM (c : Int) (h : (XM c).2 = true) : Rd (XM c).1 := by
  have r := bRd c
  have s := bR2 c
  unfold XM at *
  by_cases hu : cU c = 1
  · rw [if_pos hu] at *
    by_cases h2 : cR2 c = 0
    · rw [if_pos h2] at *
      by_cases hd : cRd c = 0
      · rw [if_pos hd]; exact R_ebreak
      · rw [if_neg hd]; exact R_jalr _ _ (by omega) (by omega) r.1 r.2
    · rw [if_neg h2]; exact R_add _ _ _ r.1 r.2 r.1 r.2 s.1 s.2
  · rw [if_neg hu] at *
    by_cases h2 : cR2 c = 0
    · rw [if_pos h2] at *; exact on_rd h (R_jalr _ _ (by omega) (by omega) r.1 r.2)
    · rw [if_neg h2]; exact R_add _ _ _ r.1 r.2 (by omega) (by omega) s.1 s.2
theorem full2 (c : Int) (h : (X2 c).2 = true) : Rd (X2 c).1 := by
  have r := bRd c
  have s := bR2 c
  have am := bAm c
  unfold X2 at *
  by_cases q0 : cF3 c = 0
  · rw [if_pos q0]; exact R_slli _ _ _ r.1 r.2 r.1 r.2 am.1 am.2
  rw [if_neg q0] at *
  by_cases q2 : cF3 c = 2
  · rw [if_pos q2] at *; exact on_rd h (R_load4 _ _ _ r.1 r.2 (by omega) (by omega) (by unfold cPopW; omega) (by unfold cPopW; omega))
  rw [if_neg q2] at *
  by_cases q3 : cF3 c = 3
  · rw [if_pos q3] at *; exact on_rd h (R_load8 _ _ _ r.1 r.2 (by omega) (by omega) (by unfold cPopD; omega) (by unfold cPopD; omega))
  rw [if_neg q3] at *
  by_cases q4 : cF3 c = 4
  · rw [if_pos q4] at *; exact fullM c h
  rw [if_neg q4] at *
  by_cases q6 : cF3 c = 6
  · rw [if_pos q6]; exact R_store4 _ _ _ s.1 s.2 (by omega) (by omega) (by unfold cPushW; omega) (by unfold cPushW; omega)
  rw [if_neg q6] at *
  by_cases q7 : cF3 c = 7
  · rw [if_pos q7]; exact R_store8 _ _ _ s.1 s.2 (by omega) (by omega) (by unfold cPushD; omega) (by unfold cPushD; omega)
  rw [if_neg q7] at h; cases h
theorem full (c : Int) (h : (X c).2 = true) : Rd (X c).1 ∧ cQ c ≠ 3 := by
  unfold X at *
  by_cases q0 : cQ c = 0
  · rw [if_pos q0] at *; exact ⟨full0 c h, by omega⟩
  rw [if_neg q0] at *
  by_cases q1 : cQ c = 1
  · rw [if_pos q1] at *; exact ⟨full1 c h, by omega⟩
  rw [if_neg q1] at *
  by_cases q2 : cQ c = 2
  · rw [if_pos q2] at *; exact ⟨full2 c h, by omega⟩
  rw [if_neg q2] at h; cases h
/-- a word that is read has 4 bytes -/
theorem D_low (a : Int) (h0 : 0 ≤ a) (h : (D a).2 = true) : cQ (a % 65536) = 3 := by
  have key : fOp a % 4 = 3 → cQ (a % 65536) = 3 := by unfold fOp cQ; omega
  apply key
  by_cases h55 : fOp a = 55
  · omega
  by_cases h23 : fOp a = 23
  · omega
  by_cases h19 : fOp a = 19
  · omega
  by_cases h27 : fOp a = 27
  · omega
  by_cases h51 : fOp a = 51
  · omega
  by_cases h59 : fOp a = 59
  · omega
  by_cases h115 : fOp a = 115
  · omega
  by_cases h111 : fOp a = 111
  · omega
  by_cases h103 : fOp a = 103
  · omega
  by_cases h99 : fOp a = 99
  · omega
  by_cases h3 : fOp a = 3
  · omega
  by_cases h35 : fOp a = 35
  · omega
  by_cases h15 : fOp a = 15
  · omega
  by_cases h47 : fOp a = 47
  · omega
  rw [D_else a h55 h23 h19 h27 h51 h59 h115 h111 h103 h99 h3 h35 h15 h47] at h; cases h
end Go.Proofs.YtioodijiejipiaaGreatDoor
