/- The word that the reference puts together, for every instruction in range. New blocks alone. -/
import Derived.Test.YtlfdokkopgmfjaaGreatDoorBRR
import Derived.Test.YtlfdokkopgmfjaaGreatDoorBRS
import Derived.Test.YtlfdokkopgmfjaaGreatDoorBRT
import Derived.Test.YtlfdokkopgmfjaaGreatDoorMB3
import Derived.Test.YtlfdokkopgmfjaaGreatDoorMB2
namespace Go.Proofs.YtlfdokkopgmfjaaGreatDoor.B
open Go.RowKit
set_option linter.unusedVariables false
set_option maxRecDepth 100000
/-- the word that the reference puts together -/
def wordX (i : I) : Int :=
  if i.kind = 1 then bits .or .u32 (bits .or .u32 (55) (at2 i.rd 32 128)) (at2 (i.imm / 4096) 1048576 4096) else
  if i.kind = 2 then bits .or .u32 (bits .or .u32 (23) (at2 i.rd 32 128)) (at2 (i.imm / 4096) 1048576 4096) else
  if i.kind = 3 then bits .or .u32 (bits .or .u32 (111) (at2 i.rd 32 128)) (bits .or .u32 (bits .or .u32 (bits .or .u32 (at2 (i.imm / 1048576) 2 2147483648) (at2 (i.imm / 4096) 256 4096)) (at2 (i.imm / 2048) 2 1048576)) (at2 (i.imm / 2) 1024 2097152)) else
  if i.kind = 4 then bits .or .u32 (bits .or .u32 (bits .or .u32 (103) (at2 i.rd 32 128)) (at2 i.rs1 32 32768)) (at2 i.imm 4096 1048576) else
  if i.kind = 5 then bits .or .u32 (bits .or .u32 (bits .or .u32 (bits .or .u32 (99) (at2 (coS i.fn) 8 4096)) (at2 i.rs1 32 32768)) (at2 i.rs2 32 1048576)) (bits .or .u32 (bits .or .u32 (bits .or .u32 (at2 (i.imm / 4096) 2 2147483648) (at2 (i.imm / 2048) 2 128)) (at2 (i.imm / 32) 64 33554432)) (at2 (i.imm / 2) 16 256)) else
  if i.kind = 6 then (if i.sg = true then bits .or .u32 (bits .or .u32 (bits .or .u32 (bits .or .u32 (3) (szS i.size * 4096)) (at2 i.rd 32 128)) (at2 i.rs1 32 32768)) (at2 i.imm 4096 1048576) else bits .or .u32 (bits .or .u32 (bits .or .u32 (bits .or .u32 (3) ((szS i.size + 4) * 4096)) (at2 i.rd 32 128)) (at2 i.rs1 32 32768)) (at2 i.imm 4096 1048576)) else
  if i.kind = 7 then bits .or .u32 (bits .or .u32 (bits .or .u32 (bits .or .u32 (bits .or .u32 (35) (szS i.size * 4096)) (at2 i.rs1 32 32768)) (at2 i.rs2 32 1048576)) (at2 i.imm 32 128)) (at2 (i.imm / 32) 128 33554432) else
  if i.kind = 8 then (if 19 ≤ i.fn then bits .or .u32 (bits .or .u32 (59) (aluT i.fn)) (bits .or .u32 (bits .or .u32 (at2 i.rd 32 128) (at2 i.rs1 32 32768)) (at2 i.rs2 32 1048576)) else bits .or .u32 (bits .or .u32 (51) (aluT i.fn)) (bits .or .u32 (bits .or .u32 (at2 i.rd 32 128) (at2 i.rs1 32 32768)) (at2 i.rs2 32 1048576))) else
  if i.kind = 9 then (if inb i.fn 19 23 = true then bits .or .u32 (bits .or .u32 (bits .or .u32 (bits .or .u32 (27) (aluT i.fn)) (at2 i.rd 32 128)) (at2 i.rs1 32 32768)) (at2 i.imm 4096 1048576) else bits .or .u32 (bits .or .u32 (bits .or .u32 (bits .or .u32 (19) (aluT i.fn)) (at2 i.rd 32 128)) (at2 i.rs1 32 32768)) (at2 i.imm 4096 1048576)) else
  if i.kind = 10 then 15 else
  if i.kind = 11 then 115 else
  if i.kind = 12 then 1048691 else
  if i.kind = 13 then bits .or .u32 (bits .or .u32 (bits .or .u32 (bits .or .u32 (115) (at2 i.fn 4 4096)) (at2 i.rd 32 128)) (at2 i.rs1 32 32768)) (at2 i.imm 4096 1048576) else
  if i.kind = 14 then bits .or .u32 (bits .or .u32 (bits .or .u32 (bits .or .u32 (16499) (at2 i.fn 4 4096)) (at2 i.rd 32 128)) (at2 i.rs1 32 32768)) (at2 i.imm 4096 1048576) else
  if i.kind = 15 then bits .or .u32 (bits .or .u32 (bits .or .u32 (268435503) (szS i.size * 4096)) (at2 i.rd 32 128)) (at2 i.rs1 32 32768) else
  if i.kind = 16 then bits .or .u32 (bits .or .u32 (402653231) (szS i.size * 4096)) (bits .or .u32 (bits .or .u32 (at2 i.rd 32 128) (at2 i.rs1 32 32768)) (at2 i.rs2 32 1048576)) else
  if i.kind = 17 then bits .or .u32 (bits .or .u32 (bits .or .u32 (47) (at2 (fiS i.fn) 32 134217728)) (szS i.size * 4096)) (bits .or .u32 (bits .or .u32 (at2 i.rd 32 128) (at2 i.rs1 32 32768)) (at2 i.rs2 32 1048576)) else
  if i.kind = 18 then 270532723 else
  if i.kind = 19 then 273678451 else
  if i.kind = 20 then bits .or .u32 (bits .or .u32 (301990003) (at2 i.rs1 32 32768)) (at2 i.rs2 32 1048576) else
  0
theorem r_word (k fn rd r1 r2 im sz : Int) (sg : Bool) (m0 : -2147483648 ≤ im) (m1 : im < 2147483648) (d0 : 0 ≤ rd) (d1 : rd ≤ 31) (a0 : 0 ≤ r1) (a1 : r1 ≤ 31) (b0 : 0 ≤ r2) (b1 : r2 ≤ 31) (f0 : 0 ≤ fn) (f1 : fn ≤ 28) (z0 : 0 ≤ sz) (z1 : sz ≤ 8) (w : World) :
    Calls Tryz.prog 85 #[I.v ⟨k, fn, rd, r1, r2, im, sz, sg⟩] w fun e w' => e = .returned (.int .u32 (wordX ⟨k, fn, rd, r1, r2, im, sz, sg⟩)) ∧ Below w.heap.size w w' := by
  by_cases n1 : k = 1
  · subst n1; exact w_1 fn rd r1 r2 im sz sg m0 m1 d0 d1 a0 a1 b0 b1 f0 f1 z0 z1 w
  by_cases n2 : k = 2
  · subst n2; exact w_2 fn rd r1 r2 im sz sg m0 m1 d0 d1 a0 a1 b0 b1 f0 f1 z0 z1 w
  by_cases n3 : k = 3
  · subst n3; exact w_3 fn rd r1 r2 im sz sg m0 m1 d0 d1 a0 a1 b0 b1 f0 f1 z0 z1 w
  by_cases n4 : k = 4
  · subst n4; exact w_4 fn rd r1 r2 im sz sg m0 m1 d0 d1 a0 a1 b0 b1 f0 f1 z0 z1 w
  by_cases n5 : k = 5
  · subst n5; exact w_5 fn rd r1 r2 im sz sg m0 m1 d0 d1 a0 a1 b0 b1 f0 f1 z0 z1 w
  by_cases n6 : k = 6
  · subst n6; cases sg
    · exact w_6u fn rd r1 r2 im sz false m0 m1 d0 d1 a0 a1 b0 b1 f0 f1 z0 z1 w rfl
    · exact w_6s fn rd r1 r2 im sz true m0 m1 d0 d1 a0 a1 b0 b1 f0 f1 z0 z1 w rfl
  by_cases n7 : k = 7
  · subst n7; exact w_7 fn rd r1 r2 im sz sg m0 m1 d0 d1 a0 a1 b0 b1 f0 f1 z0 z1 w
  by_cases n8 : k = 8
  · subst n8
    by_cases g : 19 ≤ fn
    · rw [show wordX ⟨8, fn, rd, r1, r2, im, sz, sg⟩ = bits .or .u32 (bits .or .u32 (59) (aluT fn)) (bits .or .u32 (bits .or .u32 (at2 rd 32 128) (at2 r1 32 32768)) (at2 r2 32 1048576)) from if_pos g]; exact w_8w fn rd r1 r2 im sz sg m0 m1 d0 d1 a0 a1 b0 b1 f0 f1 z0 z1 w g
    · rw [show wordX ⟨8, fn, rd, r1, r2, im, sz, sg⟩ = bits .or .u32 (bits .or .u32 (51) (aluT fn)) (bits .or .u32 (bits .or .u32 (at2 rd 32 128) (at2 r1 32 32768)) (at2 r2 32 1048576)) from if_neg g]; exact w_8 fn rd r1 r2 im sz sg m0 m1 d0 d1 a0 a1 b0 b1 f0 f1 z0 z1 w (by omega)
  by_cases n9 : k = 9
  · subst n9
    cases g : inb fn 19 23
    · rw [show wordX ⟨9, fn, rd, r1, r2, im, sz, sg⟩ = bits .or .u32 (bits .or .u32 (bits .or .u32 (bits .or .u32 (19) (aluT fn)) (at2 rd 32 128)) (at2 r1 32 32768)) (at2 im 4096 1048576) from if_neg (show ¬ inb fn 19 23 = true by rw [g]; decide)]; exact w_9 fn rd r1 r2 im sz sg m0 m1 d0 d1 a0 a1 b0 b1 f0 f1 z0 z1 w g
    · rw [show wordX ⟨9, fn, rd, r1, r2, im, sz, sg⟩ = bits .or .u32 (bits .or .u32 (bits .or .u32 (bits .or .u32 (27) (aluT fn)) (at2 rd 32 128)) (at2 r1 32 32768)) (at2 im 4096 1048576) from if_pos g]; exact w_9w fn rd r1 r2 im sz sg m0 m1 d0 d1 a0 a1 b0 b1 f0 f1 z0 z1 w g
  by_cases n10 : k = 10
  · subst n10; exact w_10 fn rd r1 r2 im sz sg m0 m1 d0 d1 a0 a1 b0 b1 f0 f1 z0 z1 w
  by_cases n11 : k = 11
  · subst n11; exact w_11 fn rd r1 r2 im sz sg m0 m1 d0 d1 a0 a1 b0 b1 f0 f1 z0 z1 w
  by_cases n12 : k = 12
  · subst n12; exact w_12 fn rd r1 r2 im sz sg m0 m1 d0 d1 a0 a1 b0 b1 f0 f1 z0 z1 w
  by_cases n13 : k = 13
  · subst n13; exact w_13 fn rd r1 r2 im sz sg m0 m1 d0 d1 a0 a1 b0 b1 f0 f1 z0 z1 w
  by_cases n14 : k = 14
  · subst n14; exact w_14 fn rd r1 r2 im sz sg m0 m1 d0 d1 a0 a1 b0 b1 f0 f1 z0 z1 w
  by_cases n15 : k = 15
  · subst n15; exact w_15 fn rd r1 r2 im sz sg m0 m1 d0 d1 a0 a1 b0 b1 f0 f1 z0 z1 w
  by_cases n16 : k = 16
  · subst n16; exact w_16 fn rd r1 r2 im sz sg m0 m1 d0 d1 a0 a1 b0 b1 f0 f1 z0 z1 w
  by_cases n17 : k = 17
  · subst n17; exact w_17 fn rd r1 r2 im sz sg m0 m1 d0 d1 a0 a1 b0 b1 f0 f1 z0 z1 w
  by_cases n18 : k = 18
  · subst n18; exact w_18 fn rd r1 r2 im sz sg m0 m1 d0 d1 a0 a1 b0 b1 f0 f1 z0 z1 w
  by_cases n19 : k = 19
  · subst n19; exact w_19 fn rd r1 r2 im sz sg m0 m1 d0 d1 a0 a1 b0 b1 f0 f1 z0 z1 w
  by_cases n20 : k = 20
  · subst n20; exact w_20 fn rd r1 r2 im sz sg m0 m1 d0 d1 a0 a1 b0 b1 f0 f1 z0 z1 w
  rw [show wordX ⟨k, fn, rd, r1, r2, im, sz, sg⟩ = 0 by unfold wordX; rw [if_neg n1, if_neg n2, if_neg n3, if_neg n4, if_neg n5, if_neg n6, if_neg n7, if_neg n8, if_neg n9, if_neg n10, if_neg n11, if_neg n12, if_neg n13, if_neg n14, if_neg n15, if_neg n16, if_neg n17, if_neg n18, if_neg n19, if_neg n20]]
  exact w_e k fn rd r1 r2 im sz sg m0 m1 d0 d1 a0 a1 b0 b1 f0 f1 z0 z1 w n1 n2 n3 n4 n5 n6 n7 n8 n9 n10 n11 n12 n13 n14 n15 n16 n17 n18 n19 n20
end Go.Proofs.YtlfdokkopgmfjaaGreatDoor.B
namespace Go.Proofs.YtlfdokkopgmfjaaGreatDoor.B
open Go.RowKit
set_option linter.unusedVariables false
set_option maxRecDepth 100000
/-- some word reads as it -/
def Rd (i : I) : Prop := ∃ S, 0 ≤ S ∧ S < 4294967296 ∧ D S = (i, true)
theorem Rd.draft {i : I} (h : Rd i) : D (draftF i) = (i, true) := by
  obtain ⟨S, s0, s1, e⟩ := h
  have b := back S s0 s1 (by rw [e])
  rw [e] at b
  exact b
theorem s32_i (S n q : Int) (h0 : 0 ≤ n + 2048) (h1 : n < 2048) (q0 : 0 ≤ q) (q1 : q < 1048576) (e : S = n % 4096 * 1048576 + q) : iI S = n := by
  unfold iI s32; split <;> omega
theorem dm (P K : Int) (hP : 0 < P) (hK : 0 < K) (S L s y : Int) (e : S = L + P * (s + K * y)) (l0 : 0 ≤ L) (l1 : L < P) (s0 : 0 ≤ s) (s1 : s < K) : S / P % K = s := by
  rw [e, Int.add_mul_ediv_left _ _ (by omega), Int.ediv_eq_zero_of_lt l0 l1, Int.zero_add, Int.add_mul_emod_self_left, Int.emod_eq_of_lt s0 s1]
theorem R_addi (d r n : Int) (d0 : 0 ≤ d) (d1 : d < 32) (r0 : 0 ≤ r) (r1 : r < 32) (n0 : -2048 ≤ n) (n1' : n < 2048) : Rd ⟨9, 1, d, r, 0, n, 0, false⟩ := by
  obtain ⟨S, hS⟩ : ∃ S, S = 19 + d * 128 + 0 * 4096 + r * 32768 + n % 4096 * 1048576 := ⟨_, rfl⟩
  have o : fOp S = 19 := by unfold fOp; omega
  have e_fF3 : fF3 S = 0 := by unfold fF3; omega
  have n1 : nImm S = (⟨9, 1, 0, 0, 0, 0, 0, false⟩, true) := by
    have s : shf S = false := by unfold shf; rw [e_fF3]; rfl
    unfold nImm fnImm; rw [s, e_fF3]; rfl
  have r_fRd : fRd S = d := by unfold fRd; omega
  have r_fRs1 : fRs1 S = r := by unfold fRs1; omega
  have im : iOpnd S = n := by
    have s : shf S = false := by unfold shf; rw [e_fF3]; rfl
    unfold iOpnd; rw [s]; exact s32_i S n (19 + d * 128 + 0 * 4096 + r * 32768) (by omega) n1' (by omega) (by omega) (by omega)
  exact ⟨S, by omega, by omega, by rw [D_19 S o, n1, r_fRd, r_fRs1, im] <;> rfl⟩
theorem R_andi (d r n : Int) (d0 : 0 ≤ d) (d1 : d < 32) (r0 : 0 ≤ r) (r1 : r < 32) (n0 : -2048 ≤ n) (n1' : n < 2048) : Rd ⟨9, 10, d, r, 0, n, 0, false⟩ := by
  obtain ⟨S, hS⟩ : ∃ S, S = 19 + d * 128 + 7 * 4096 + r * 32768 + n % 4096 * 1048576 := ⟨_, rfl⟩
  have o : fOp S = 19 := by unfold fOp; omega
  have e_fF3 : fF3 S = 7 := by unfold fF3; omega
  have n1 : nImm S = (⟨9, 10, 0, 0, 0, 0, 0, false⟩, true) := by
    have s : shf S = false := by unfold shf; rw [e_fF3]; rfl
    unfold nImm fnImm; rw [s, e_fF3]; rfl
  have r_fRd : fRd S = d := by unfold fRd; omega
  have r_fRs1 : fRs1 S = r := by unfold fRs1; omega
  have im : iOpnd S = n := by
    have s : shf S = false := by unfold shf; rw [e_fF3]; rfl
    unfold iOpnd; rw [s]; exact s32_i S n (19 + d * 128 + 7 * 4096 + r * 32768) (by omega) n1' (by omega) (by omega) (by omega)
  exact ⟨S, by omega, by omega, by rw [D_19 S o, n1, r_fRd, r_fRs1, im] <;> rfl⟩
theorem R_addiw (d r n : Int) (d0 : 0 ≤ d) (d1 : d < 32) (r0 : 0 ≤ r) (r1 : r < 32) (n0 : -2048 ≤ n) (n1' : n < 2048) : Rd ⟨9, 19, d, r, 0, n, 0, false⟩ := by
  obtain ⟨S, hS⟩ : ∃ S, S = 27 + d * 128 + r * 32768 + n % 4096 * 1048576 := ⟨_, rfl⟩
  have o : fOp S = 27 := by unfold fOp; omega
  have e_fF3 : fF3 S = 0 := by unfold fF3; omega
  have n1 : nImmW S = (⟨9, 19, 0, 0, 0, 0, 0, false⟩, true) := by
    have s : shf S = false := by unfold shf; rw [e_fF3]; rfl
    unfold nImmW fnImmW; rw [s, e_fF3]; rfl
  have r_fRd : fRd S = d := by unfold fRd; omega
  have r_fRs1 : fRs1 S = r := by unfold fRs1; omega
  have im : iOpndW S = n := by
    have s : shf S = false := by unfold shf; rw [e_fF3]; rfl
    unfold iOpndW; rw [s]; exact s32_i S n (27 + d * 128 + r * 32768) (by omega) n1' (by omega) (by omega) (by omega)
  exact ⟨S, by omega, by omega, by rw [D_27 S o, n1, r_fRd, r_fRs1, im] <;> rfl⟩
theorem R_slli (d r n : Int) (d0 : 0 ≤ d) (d1 : d < 32) (r0 : 0 ≤ r) (r1 : r < 32) (n0 : 0 ≤ n) (n1' : n < 64) : Rd ⟨9, 3, d, r, 0, n, 0, false⟩ := by
  obtain ⟨S, hS⟩ : ∃ S, S = 19 + d * 128 + 1 * 4096 + r * 32768 + n * 1048576 + 0 * 67108864 := ⟨_, rfl⟩
  have o : fOp S = 19 := by unfold fOp; omega
  have e_fF3 : fF3 S = 1 := by unfold fF3; omega
  have e_fF6 : fF6 S = 0 := by unfold fF6; omega
  have n1 : nImm S = (⟨9, 3, 0, 0, 0, 0, 0, false⟩, true) := by
    have s : shf S = true := by unfold shf; rw [e_fF3]; rfl
    unfold nImm fnImm; rw [s, e_fF3, e_fF6]; rfl
  have r_fRd : fRd S = d := by unfold fRd; omega
  have r_fRs1 : fRs1 S = r := by unfold fRs1; omega
  have im : iOpnd S = n := by
    have s : shf S = true := by unfold shf; rw [e_fF3]; rfl
    unfold iOpnd; rw [s]; show fSh S = n; unfold fSh; omega
  exact ⟨S, by omega, by omega, by rw [D_19 S o, n1, r_fRd, r_fRs1, im] <;> rfl⟩
theorem R_srli (d r n : Int) (d0 : 0 ≤ d) (d1 : d < 32) (r0 : 0 ≤ r) (r1 : r < 32) (n0 : 0 ≤ n) (n1' : n < 64) : Rd ⟨9, 7, d, r, 0, n, 0, false⟩ := by
  obtain ⟨S, hS⟩ : ∃ S, S = 19 + d * 128 + 5 * 4096 + r * 32768 + n * 1048576 + 0 * 67108864 := ⟨_, rfl⟩
  have o : fOp S = 19 := by unfold fOp; omega
  have e_fF3 : fF3 S = 5 := by unfold fF3; omega
  have e_fF6 : fF6 S = 0 := by unfold fF6; omega
  have n1 : nImm S = (⟨9, 7, 0, 0, 0, 0, 0, false⟩, true) := by
    have s : shf S = true := by unfold shf; rw [e_fF3]; rfl
    unfold nImm fnImm; rw [s, e_fF3, e_fF6]; rfl
  have r_fRd : fRd S = d := by unfold fRd; omega
  have r_fRs1 : fRs1 S = r := by unfold fRs1; omega
  have im : iOpnd S = n := by
    have s : shf S = true := by unfold shf; rw [e_fF3]; rfl
    unfold iOpnd; rw [s]; show fSh S = n; unfold fSh; omega
  exact ⟨S, by omega, by omega, by rw [D_19 S o, n1, r_fRd, r_fRs1, im] <;> rfl⟩
theorem R_srai (d r n : Int) (d0 : 0 ≤ d) (d1 : d < 32) (r0 : 0 ≤ r) (r1 : r < 32) (n0 : 0 ≤ n) (n1' : n < 64) : Rd ⟨9, 8, d, r, 0, n, 0, false⟩ := by
  obtain ⟨S, hS⟩ : ∃ S, S = 19 + d * 128 + 5 * 4096 + r * 32768 + n * 1048576 + 16 * 67108864 := ⟨_, rfl⟩
  have o : fOp S = 19 := by unfold fOp; omega
  have e_fF3 : fF3 S = 5 := by unfold fF3; omega
  have e_fF6 : fF6 S = 16 := by unfold fF6; omega
  have n1 : nImm S = (⟨9, 8, 0, 0, 0, 0, 0, false⟩, true) := by
    have s : shf S = true := by unfold shf; rw [e_fF3]; rfl
    unfold nImm fnImm; rw [s, e_fF3, e_fF6]; rfl
  have r_fRd : fRd S = d := by unfold fRd; omega
  have r_fRs1 : fRs1 S = r := by unfold fRs1; omega
  have im : iOpnd S = n := by
    have s : shf S = true := by unfold shf; rw [e_fF3]; rfl
    unfold iOpnd; rw [s]; show fSh S = n; unfold fSh; omega
  exact ⟨S, by omega, by omega, by rw [D_19 S o, n1, r_fRd, r_fRs1, im] <;> rfl⟩
theorem R_add (d r s : Int) (d0 : 0 ≤ d) (d1 : d < 32) (r0 : 0 ≤ r) (r1 : r < 32) (s0 : 0 ≤ s) (s1 : s < 32) : Rd ⟨8, 1, d, r, s, 0, 0, false⟩ := by
  obtain ⟨S, hS⟩ : ∃ S, S = 51 + d * 128 + 0 * 4096 + r * 32768 + s * 1048576 + 0 * 33554432 := ⟨_, rfl⟩
  have o : fOp S = 51 := by unfold fOp; omega
  have e_fF3 : fF3 S = 0 := by unfold fF3; omega
  have e_fF7 : fF7 S = 0 := by unfold fF7; omega
  have n1 : nAlu S = (⟨8, 1, 0, 0, 0, 0, 0, false⟩, true) := by unfold nAlu fnAlu; rw [e_fF3, e_fF7]; rfl
  have r_fRd : fRd S = d := by unfold fRd; omega
  have r_fRs1 : fRs1 S = r := by unfold fRs1; omega
  have r_fRs2 : fRs2 S = s := by unfold fRs2; omega
  exact ⟨S, by omega, by omega, by rw [D_51 S o, n1, r_fRd, r_fRs1, r_fRs2] <;> rfl⟩
theorem R_sub (d r s : Int) (d0 : 0 ≤ d) (d1 : d < 32) (r0 : 0 ≤ r) (r1 : r < 32) (s0 : 0 ≤ s) (s1 : s < 32) : Rd ⟨8, 2, d, r, s, 0, 0, false⟩ := by
  obtain ⟨S, hS⟩ : ∃ S, S = 51 + d * 128 + 0 * 4096 + r * 32768 + s * 1048576 + 32 * 33554432 := ⟨_, rfl⟩
  have o : fOp S = 51 := by unfold fOp; omega
  have e_fF3 : fF3 S = 0 := by unfold fF3; omega
  have e_fF7 : fF7 S = 32 := by unfold fF7; omega
  have n1 : nAlu S = (⟨8, 2, 0, 0, 0, 0, 0, false⟩, true) := by unfold nAlu fnAlu; rw [e_fF3, e_fF7]; rfl
  have r_fRd : fRd S = d := by unfold fRd; omega
  have r_fRs1 : fRs1 S = r := by unfold fRs1; omega
  have r_fRs2 : fRs2 S = s := by unfold fRs2; omega
  exact ⟨S, by omega, by omega, by rw [D_51 S o, n1, r_fRd, r_fRs1, r_fRs2] <;> rfl⟩
theorem R_xor (d r s : Int) (d0 : 0 ≤ d) (d1 : d < 32) (r0 : 0 ≤ r) (r1 : r < 32) (s0 : 0 ≤ s) (s1 : s < 32) : Rd ⟨8, 6, d, r, s, 0, 0, false⟩ := by
  obtain ⟨S, hS⟩ : ∃ S, S = 51 + d * 128 + 4 * 4096 + r * 32768 + s * 1048576 + 0 * 33554432 := ⟨_, rfl⟩
  have o : fOp S = 51 := by unfold fOp; omega
  have e_fF3 : fF3 S = 4 := by unfold fF3; omega
  have e_fF7 : fF7 S = 0 := by unfold fF7; omega
  have n1 : nAlu S = (⟨8, 6, 0, 0, 0, 0, 0, false⟩, true) := by unfold nAlu fnAlu; rw [e_fF3, e_fF7]; rfl
  have r_fRd : fRd S = d := by unfold fRd; omega
  have r_fRs1 : fRs1 S = r := by unfold fRs1; omega
  have r_fRs2 : fRs2 S = s := by unfold fRs2; omega
  exact ⟨S, by omega, by omega, by rw [D_51 S o, n1, r_fRd, r_fRs1, r_fRs2] <;> rfl⟩
theorem R_or (d r s : Int) (d0 : 0 ≤ d) (d1 : d < 32) (r0 : 0 ≤ r) (r1 : r < 32) (s0 : 0 ≤ s) (s1 : s < 32) : Rd ⟨8, 9, d, r, s, 0, 0, false⟩ := by
  obtain ⟨S, hS⟩ : ∃ S, S = 51 + d * 128 + 6 * 4096 + r * 32768 + s * 1048576 + 0 * 33554432 := ⟨_, rfl⟩
  have o : fOp S = 51 := by unfold fOp; omega
  have e_fF3 : fF3 S = 6 := by unfold fF3; omega
  have e_fF7 : fF7 S = 0 := by unfold fF7; omega
  have n1 : nAlu S = (⟨8, 9, 0, 0, 0, 0, 0, false⟩, true) := by unfold nAlu fnAlu; rw [e_fF3, e_fF7]; rfl
  have r_fRd : fRd S = d := by unfold fRd; omega
  have r_fRs1 : fRs1 S = r := by unfold fRs1; omega
  have r_fRs2 : fRs2 S = s := by unfold fRs2; omega
  exact ⟨S, by omega, by omega, by rw [D_51 S o, n1, r_fRd, r_fRs1, r_fRs2] <;> rfl⟩
theorem R_and (d r s : Int) (d0 : 0 ≤ d) (d1 : d < 32) (r0 : 0 ≤ r) (r1 : r < 32) (s0 : 0 ≤ s) (s1 : s < 32) : Rd ⟨8, 10, d, r, s, 0, 0, false⟩ := by
  obtain ⟨S, hS⟩ : ∃ S, S = 51 + d * 128 + 7 * 4096 + r * 32768 + s * 1048576 + 0 * 33554432 := ⟨_, rfl⟩
  have o : fOp S = 51 := by unfold fOp; omega
  have e_fF3 : fF3 S = 7 := by unfold fF3; omega
  have e_fF7 : fF7 S = 0 := by unfold fF7; omega
  have n1 : nAlu S = (⟨8, 10, 0, 0, 0, 0, 0, false⟩, true) := by unfold nAlu fnAlu; rw [e_fF3, e_fF7]; rfl
  have r_fRd : fRd S = d := by unfold fRd; omega
  have r_fRs1 : fRs1 S = r := by unfold fRs1; omega
  have r_fRs2 : fRs2 S = s := by unfold fRs2; omega
  exact ⟨S, by omega, by omega, by rw [D_51 S o, n1, r_fRd, r_fRs1, r_fRs2] <;> rfl⟩
theorem R_subw (d r s : Int) (d0 : 0 ≤ d) (d1 : d < 32) (r0 : 0 ≤ r) (r1 : r < 32) (s0 : 0 ≤ s) (s1 : s < 32) : Rd ⟨8, 20, d, r, s, 0, 0, false⟩ := by
  obtain ⟨S, hS⟩ : ∃ S, S = 59 + d * 128 + 0 * 4096 + r * 32768 + s * 1048576 + 32 * 33554432 := ⟨_, rfl⟩
  have o : fOp S = 59 := by unfold fOp; omega
  have e_fF3 : fF3 S = 0 := by unfold fF3; omega
  have e_fF7 : fF7 S = 32 := by unfold fF7; omega
  have n1 : nAluW S = (⟨8, 20, 0, 0, 0, 0, 0, false⟩, true) := by unfold nAluW fnAluW; rw [e_fF3, e_fF7]; rfl
  have r_fRd : fRd S = d := by unfold fRd; omega
  have r_fRs1 : fRs1 S = r := by unfold fRs1; omega
  have r_fRs2 : fRs2 S = s := by unfold fRs2; omega
  exact ⟨S, by omega, by omega, by rw [D_59 S o, n1, r_fRd, r_fRs1, r_fRs2] <;> rfl⟩
theorem R_addw (d r s : Int) (d0 : 0 ≤ d) (d1 : d < 32) (r0 : 0 ≤ r) (r1 : r < 32) (s0 : 0 ≤ s) (s1 : s < 32) : Rd ⟨8, 19, d, r, s, 0, 0, false⟩ := by
  obtain ⟨S, hS⟩ : ∃ S, S = 59 + d * 128 + 0 * 4096 + r * 32768 + s * 1048576 + 0 * 33554432 := ⟨_, rfl⟩
  have o : fOp S = 59 := by unfold fOp; omega
  have e_fF3 : fF3 S = 0 := by unfold fF3; omega
  have e_fF7 : fF7 S = 0 := by unfold fF7; omega
  have n1 : nAluW S = (⟨8, 19, 0, 0, 0, 0, 0, false⟩, true) := by unfold nAluW fnAluW; rw [e_fF3, e_fF7]; rfl
  have r_fRd : fRd S = d := by unfold fRd; omega
  have r_fRs1 : fRs1 S = r := by unfold fRs1; omega
  have r_fRs2 : fRs2 S = s := by unfold fRs2; omega
  exact ⟨S, by omega, by omega, by rw [D_59 S o, n1, r_fRd, r_fRs1, r_fRs2] <;> rfl⟩
theorem R_load4 (d r n : Int) (d0 : 0 ≤ d) (d1 : d < 32) (r0 : 0 ≤ r) (r1 : r < 32) (n0 : -2048 ≤ n) (n1' : n < 2048) : Rd ⟨6, 0, d, r, 0, n, 4, true⟩ := by
  obtain ⟨S, hS⟩ : ∃ S, S = 3 + d * 128 + 2 * 4096 + r * 32768 + n % 4096 * 1048576 := ⟨_, rfl⟩
  have o : fOp S = 3 := by unfold fOp; omega
  have e_fF3 : fF3 S = 2 := by unfold fF3; omega
  have n1 : nLoad S = (⟨6, 0, 0, 0, 0, 0, 4, true⟩, true) := by unfold nLoad; rw [e_fF3]; rfl
  have r_fRd : fRd S = d := by unfold fRd; omega
  have r_fRs1 : fRs1 S = r := by unfold fRs1; omega
  have im : iI S = n := by exact s32_i S n (3 + d * 128 + 2 * 4096 + r * 32768) (by omega) n1' (by omega) (by omega) (by omega)
  exact ⟨S, by omega, by omega, by rw [D_3 S o, n1, r_fRd, r_fRs1, im] <;> rfl⟩
theorem R_store4 (s r n : Int) (s0 : 0 ≤ s) (s1 : s < 32) (r0 : 0 ≤ r) (r1 : r < 32) (n0 : -2048 ≤ n) (n1' : n < 2048) : Rd ⟨7, 0, 0, r, s, n, 4, false⟩ := by
  obtain ⟨S, hS⟩ : ∃ S, S = 35 + n % 32 * 128 + 2 * 4096 + r * 32768 + s * 1048576 + n / 32 % 128 * 33554432 := ⟨_, rfl⟩
  have o : fOp S = 35 := by unfold fOp; omega
  have e_fF3 : fF3 S = 2 := by unfold fF3; omega
  have n1 : nStore S = (⟨7, 0, 0, 0, 0, 0, 4, false⟩, true) := by unfold nStore; rw [e_fF3]; rfl
  have r_fRs1 : fRs1 S = r := by unfold fRs1; exact dm 32768 32 (by decide) (by decide) S (35 + n % 32 * 128 + 2 * 4096) r (s + 32 * (n / 32 % 128)) (by omega) (by omega) (by omega) r0 r1
  have r_fRs2 : fRs2 S = s := by unfold fRs2; exact dm 1048576 32 (by decide) (by decide) S (35 + n % 32 * 128 + 2 * 4096 + r * 32768) s (n / 32 % 128) (by omega) (by omega) (by omega) s0 s1
  have im : iS S = n := by unfold iS s32; split <;> omega
  exact ⟨S, by omega, by omega, by rw [D_35 S o, n1, r_fRs1, r_fRs2, im] <;> rfl⟩
theorem R_load8 (d r n : Int) (d0 : 0 ≤ d) (d1 : d < 32) (r0 : 0 ≤ r) (r1 : r < 32) (n0 : -2048 ≤ n) (n1' : n < 2048) : Rd ⟨6, 0, d, r, 0, n, 8, true⟩ := by
  obtain ⟨S, hS⟩ : ∃ S, S = 3 + d * 128 + 3 * 4096 + r * 32768 + n % 4096 * 1048576 := ⟨_, rfl⟩
  have o : fOp S = 3 := by unfold fOp; omega
  have e_fF3 : fF3 S = 3 := by unfold fF3; omega
  have n1 : nLoad S = (⟨6, 0, 0, 0, 0, 0, 8, true⟩, true) := by unfold nLoad; rw [e_fF3]; rfl
  have r_fRd : fRd S = d := by unfold fRd; omega
  have r_fRs1 : fRs1 S = r := by unfold fRs1; omega
  have im : iI S = n := by exact s32_i S n (3 + d * 128 + 3 * 4096 + r * 32768) (by omega) n1' (by omega) (by omega) (by omega)
  exact ⟨S, by omega, by omega, by rw [D_3 S o, n1, r_fRd, r_fRs1, im] <;> rfl⟩
theorem R_store8 (s r n : Int) (s0 : 0 ≤ s) (s1 : s < 32) (r0 : 0 ≤ r) (r1 : r < 32) (n0 : -2048 ≤ n) (n1' : n < 2048) : Rd ⟨7, 0, 0, r, s, n, 8, false⟩ := by
  obtain ⟨S, hS⟩ : ∃ S, S = 35 + n % 32 * 128 + 3 * 4096 + r * 32768 + s * 1048576 + n / 32 % 128 * 33554432 := ⟨_, rfl⟩
  have o : fOp S = 35 := by unfold fOp; omega
  have e_fF3 : fF3 S = 3 := by unfold fF3; omega
  have n1 : nStore S = (⟨7, 0, 0, 0, 0, 0, 8, false⟩, true) := by unfold nStore; rw [e_fF3]; rfl
  have r_fRs1 : fRs1 S = r := by unfold fRs1; exact dm 32768 32 (by decide) (by decide) S (35 + n % 32 * 128 + 3 * 4096) r (s + 32 * (n / 32 % 128)) (by omega) (by omega) (by omega) r0 r1
  have r_fRs2 : fRs2 S = s := by unfold fRs2; exact dm 1048576 32 (by decide) (by decide) S (35 + n % 32 * 128 + 3 * 4096 + r * 32768) s (n / 32 % 128) (by omega) (by omega) (by omega) s0 s1
  have im : iS S = n := by unfold iS s32; split <;> omega
  exact ⟨S, by omega, by omega, by rw [D_35 S o, n1, r_fRs1, r_fRs2, im] <;> rfl⟩
theorem R_jalr (d r : Int) (d0 : 0 ≤ d) (d1 : d < 32) (r0 : 0 ≤ r) (r1 : r < 32) : Rd ⟨4, 0, d, r, 0, 0, 0, false⟩ := by
  obtain ⟨S, hS⟩ : ∃ S, S = 103 + d * 128 + r * 32768 := ⟨_, rfl⟩
  have o : fOp S = 103 := by unfold fOp; omega
  have e_fF3 : fF3 S = 0 := by unfold fF3; omega
  have n1 : nJalr S = (⟨4, 0, 0, 0, 0, 0, 0, false⟩, true) := by unfold nJalr; rw [if_pos e_fF3]; rfl
  have r_fRd : fRd S = d := by unfold fRd; omega
  have r_fRs1 : fRs1 S = r := by unfold fRs1; omega
  have im : iI S = 0 := by unfold iI s32; split <;> omega
  exact ⟨S, by omega, by omega, by rw [D_103 S o, n1, r_fRd, r_fRs1, im] <;> rfl⟩
theorem R_lui (d n : Int) (d0 : 0 ≤ d) (d1 : d < 32) (n0 : -32 ≤ n) (n1' : n < 32) : Rd ⟨1, 0, d, 0, 0, n * 4096, 0, false⟩ := by
  obtain ⟨S, hS⟩ : ∃ S, S = 55 + d * 128 + n % 1048576 * 4096 := ⟨_, rfl⟩
  have o : fOp S = 55 := by unfold fOp; omega
  have n1 : nLui S = (⟨1, 0, 0, 0, 0, 0, 0, false⟩, true) := by rfl
  have r_fRd : fRd S = d := by unfold fRd; omega
  have im : iU S = n * 4096 := by unfold iU s32; split <;> omega
  exact ⟨S, by omega, by omega, by rw [D_55 S o, n1, r_fRd, im] <;> rfl⟩
theorem R_br1 (r n : Int) (r0 : 0 ≤ r) (r1 : r < 32) (n0 : -256 ≤ n) (n1' : n < 256) (n2 : n % 2 = 0) : Rd ⟨5, 1, 0, r, 0, n, 0, false⟩ := by
  obtain ⟨b, hb⟩ : ∃ b, b = n / 4096 % 2 := ⟨_, rfl⟩
  obtain ⟨x, hx⟩ : ∃ x, x = n / 2048 % 2 := ⟨_, rfl⟩
  obtain ⟨y, hy⟩ : ∃ y, y = n / 32 % 64 := ⟨_, rfl⟩
  obtain ⟨z, hz⟩ : ∃ z, z = n / 2 % 16 := ⟨_, rfl⟩
  have hn : n = x * 2048 + y * 32 + z * 2 - b * 4096 := by omega
  have hb2 : b = 0 ∨ b = 1 := by omega
  have bx : 0 ≤ x ∧ x < 2 := by omega
  have by' : 0 ≤ y ∧ y < 64 := by omega
  have bz : 0 ≤ z ∧ z < 16 := by omega
  clear hb hx hy hz n2
  obtain ⟨S, hS⟩ : ∃ S, S = 99 + x * 128 + z * 256 + 0 * 4096 + r * 32768 + y * 33554432 + b * 2147483648 := ⟨_, rfl⟩
  have o : fOp S = 99 := by unfold fOp; omega
  have e3 : fF3 S = 0 := by unfold fF3; exact dm 4096 8 (by decide) (by decide) S (99 + x * 128 + z * 256) 0 (r + 1024 * y + 65536 * b) (by omega) (by omega) (by omega) (by omega) (by omega)
  have n1 : nBranch S = (⟨5, 1, 0, 0, 0, 0, 0, false⟩, true) := by unfold nBranch; rw [e3]; rfl
  have q1 : fRs1 S = r := by unfold fRs1; exact dm 32768 32 (by decide) (by decide) S (99 + x * 128 + z * 256 + 0 * 4096) r (32 * y + 2048 * b) (by omega) (by omega) (by omega) r0 r1
  have q2 : fRs2 S = 0 := by unfold fRs2; exact dm 1048576 32 (by decide) (by decide) S (99 + x * 128 + z * 256 + 0 * 4096 + r * 32768) 0 (y + 64 * b) (by omega) (by omega) (by omega) (by omega) (by omega)
  have g1 : S / 128 % 2 = x := dm 128 2 (by decide) (by decide) S 99 x (z + 16 * 0 + 128 * r + 131072 * y + 8388608 * b) (by omega) (by omega) (by omega) bx.1 bx.2
  have g2 : S / 33554432 % 64 = y := dm 33554432 64 (by decide) (by decide) S (99 + x * 128 + z * 256 + 0 * 4096 + r * 32768) y b (by omega) (by omega) (by omega) by'.1 by'.2
  have g3 : S / 256 % 16 = z := dm 256 16 (by decide) (by decide) S (99 + x * 128) z (0 + 8 * r + 8192 * y + 524288 * b) (by omega) (by omega) (by omega) bz.1 bz.2
  have g4 : s32 S / 2147483648 = -b := by unfold s32; rcases hb2 with q | q <;> subst q <;> split <;> omega
  have im : iB S = n := by unfold iB; rw [g1, g2, g3, g4]; omega
  exact ⟨S, by omega, by omega, by rw [D_99 S o, n1, q1, q2, im] <;> rfl⟩
theorem R_br2 (r n : Int) (r0 : 0 ≤ r) (r1 : r < 32) (n0 : -256 ≤ n) (n1' : n < 256) (n2 : n % 2 = 0) : Rd ⟨5, 2, 0, r, 0, n, 0, false⟩ := by
  obtain ⟨b, hb⟩ : ∃ b, b = n / 4096 % 2 := ⟨_, rfl⟩
  obtain ⟨x, hx⟩ : ∃ x, x = n / 2048 % 2 := ⟨_, rfl⟩
  obtain ⟨y, hy⟩ : ∃ y, y = n / 32 % 64 := ⟨_, rfl⟩
  obtain ⟨z, hz⟩ : ∃ z, z = n / 2 % 16 := ⟨_, rfl⟩
  have hn : n = x * 2048 + y * 32 + z * 2 - b * 4096 := by omega
  have hb2 : b = 0 ∨ b = 1 := by omega
  have bx : 0 ≤ x ∧ x < 2 := by omega
  have by' : 0 ≤ y ∧ y < 64 := by omega
  have bz : 0 ≤ z ∧ z < 16 := by omega
  clear hb hx hy hz n2
  obtain ⟨S, hS⟩ : ∃ S, S = 99 + x * 128 + z * 256 + 1 * 4096 + r * 32768 + y * 33554432 + b * 2147483648 := ⟨_, rfl⟩
  have o : fOp S = 99 := by unfold fOp; omega
  have e3 : fF3 S = 1 := by unfold fF3; exact dm 4096 8 (by decide) (by decide) S (99 + x * 128 + z * 256) 1 (r + 1024 * y + 65536 * b) (by omega) (by omega) (by omega) (by omega) (by omega)
  have n1 : nBranch S = (⟨5, 2, 0, 0, 0, 0, 0, false⟩, true) := by unfold nBranch; rw [e3]; rfl
  have q1 : fRs1 S = r := by unfold fRs1; exact dm 32768 32 (by decide) (by decide) S (99 + x * 128 + z * 256 + 1 * 4096) r (32 * y + 2048 * b) (by omega) (by omega) (by omega) r0 r1
  have q2 : fRs2 S = 0 := by unfold fRs2; exact dm 1048576 32 (by decide) (by decide) S (99 + x * 128 + z * 256 + 1 * 4096 + r * 32768) 0 (y + 64 * b) (by omega) (by omega) (by omega) (by omega) (by omega)
  have g1 : S / 128 % 2 = x := dm 128 2 (by decide) (by decide) S 99 x (z + 16 * 1 + 128 * r + 131072 * y + 8388608 * b) (by omega) (by omega) (by omega) bx.1 bx.2
  have g2 : S / 33554432 % 64 = y := dm 33554432 64 (by decide) (by decide) S (99 + x * 128 + z * 256 + 1 * 4096 + r * 32768) y b (by omega) (by omega) (by omega) by'.1 by'.2
  have g3 : S / 256 % 16 = z := dm 256 16 (by decide) (by decide) S (99 + x * 128) z (1 + 8 * r + 8192 * y + 524288 * b) (by omega) (by omega) (by omega) bz.1 bz.2
  have g4 : s32 S / 2147483648 = -b := by unfold s32; rcases hb2 with q | q <;> subst q <;> split <;> omega
  have im : iB S = n := by unfold iB; rw [g1, g2, g3, g4]; omega
  exact ⟨S, by omega, by omega, by rw [D_99 S o, n1, q1, q2, im] <;> rfl⟩
theorem R_jal (n : Int) (n0 : -2048 ≤ n) (n1' : n < 2048) (n2 : n % 2 = 0) : Rd ⟨3, 0, 0, 0, 0, n, 0, false⟩ := by
  obtain ⟨b, hb⟩ : ∃ b, b = n / 1048576 % 2 := ⟨_, rfl⟩
  obtain ⟨x, hx⟩ : ∃ x, x = n / 4096 % 256 := ⟨_, rfl⟩
  obtain ⟨y, hy⟩ : ∃ y, y = n / 2048 % 2 := ⟨_, rfl⟩
  obtain ⟨z, hz⟩ : ∃ z, z = n / 2 % 1024 := ⟨_, rfl⟩
  have hn : n = x * 4096 + y * 2048 + z * 2 - b * 1048576 := by omega
  have hb2 : b = 0 ∨ b = 1 := by omega
  have bx : 0 ≤ x ∧ x < 256 := by omega
  have by' : 0 ≤ y ∧ y < 2 := by omega
  have bz : 0 ≤ z ∧ z < 1024 := by omega
  clear hb hx hy hz n2
  obtain ⟨S, hS⟩ : ∃ S, S = 111 + x * 4096 + y * 1048576 + z * 2097152 + b * 2147483648 := ⟨_, rfl⟩
  have o : fOp S = 111 := by unfold fOp; omega
  have q1 : fRd S = 0 := by unfold fRd; omega
  have g1 : S / 4096 % 256 = x := dm 4096 256 (by decide) (by decide) S 111 x (y + 2 * z + 2048 * b) (by omega) (by omega) (by omega) bx.1 bx.2
  have g2 : S / 1048576 % 2 = y := dm 1048576 2 (by decide) (by decide) S (111 + x * 4096) y (z + 1024 * b) (by omega) (by omega) (by omega) by'.1 by'.2
  have g3 : S / 2097152 % 1024 = z := dm 2097152 1024 (by decide) (by decide) S (111 + x * 4096 + y * 1048576) z b (by omega) (by omega) (by omega) bz.1 bz.2
  have g4 : s32 S / 2147483648 = -b := by unfold s32; rcases hb2 with q | q <;> subst q <;> split <;> omega
  have im : iJ S = n := by unfold iJ; rw [g1, g2, g3, g4]; omega
  exact ⟨S, by omega, by omega, by rw [D_111 S o, q1, im] <;> rfl⟩
theorem R_ebreak : Rd ⟨12, 0, 0, 0, 0, 0, 0, false⟩ := ⟨1048691, by omega, by omega, by kernel_rfl⟩
theorem on_rd {i : I} {n : Int} (h : (onl i n).2 = true) (r : Rd i) : Rd (onl i n).1 := by rw [(onl_ok h).2]; exact r
theorem bRd (c : Int) : 0 ≤ cRd c ∧ cRd c < 32 := by unfold cRd; omega
theorem bR2 (c : Int) : 0 ≤ cR2 c ∧ cR2 c < 32 := by unfold cR2; omega
theorem bS1 (c : Int) : 0 ≤ cS1 c ∧ cS1 c < 32 := by unfold cS1; omega
theorem bS2 (c : Int) : 0 ≤ cS2 c ∧ cS2 c < 32 := by unfold cS2; omega
theorem bAm (c : Int) : 0 ≤ cAm c ∧ cAm c < 64 := by unfold cAm; omega
theorem bSm (c : Int) : -32 ≤ cSmall c ∧ cSmall c < 32 := by unfold cSmall sx cAm; split <;> omega
theorem bJ (c : Int) : -2048 ≤ cJump c ∧ cJump c < 2048 ∧ cJump c % 2 = 0 := by
  have b : 0 ≤ cJump0 c ∧ cJump0 c < 4096 ∧ cJump0 c % 2 = 0 := by unfold cJump0; omega
  unfold cJump sx; split <;> omega
theorem bBr (c : Int) : -256 ≤ cBranch c ∧ cBranch c < 256 ∧ cBranch c % 2 = 0 := by
  have b : 0 ≤ cBranch0 c ∧ cBranch0 c < 512 ∧ cBranch0 c % 2 = 0 := by unfold cBranch0; omega
  unfold cBranch sx; split <;> omega
theorem bMv (c : Int) : -512 ≤ cMove c ∧ cMove c < 512 := by
  have b : 0 ≤ cMove0 c ∧ cMove0 c < 1024 := by unfold cMove0; omega
  unfold cMove sx; split <;> omega
theorem full0 (c : Int) (h : (X0 c).2 = true) : Rd (X0 c).1 := by
  have s1 := bS1 c
  have s2 := bS2 c
  unfold X0 at *
  by_cases q0 : cF3 c = 0
  · rw [if_pos q0] at *; exact on_rd h (R_addi _ _ _ s2.1 s2.2 (by omega) (by omega) (by unfold cStack; omega) (by unfold cStack; omega))
  rw [if_neg q0] at *
  by_cases q2 : cF3 c = 2
  · rw [if_pos q2]; exact R_load4 _ _ _ s2.1 s2.2 s1.1 s1.2 (by unfold cWord; omega) (by unfold cWord; omega)
  rw [if_neg q2] at *
  by_cases q3 : cF3 c = 3
  · rw [if_pos q3]; exact R_load8 _ _ _ s2.1 s2.2 s1.1 s1.2 (by unfold cDouble; omega) (by unfold cDouble; omega)
  rw [if_neg q3] at *
  by_cases q6 : cF3 c = 6
  · rw [if_pos q6]; exact R_store4 _ _ _ s2.1 s2.2 s1.1 s1.2 (by unfold cWord; omega) (by unfold cWord; omega)
  rw [if_neg q6] at *
  by_cases q7 : cF3 c = 7
  · rw [if_pos q7]; exact R_store8 _ _ _ s2.1 s2.2 s1.1 s1.2 (by unfold cDouble; omega) (by unfold cDouble; omega)
  rw [if_neg q7] at h; cases h
theorem fullU (c : Int) (h : (XU c).2 = true) : Rd (XU c).1 := by
  have r := bRd c
  have m := bSm c
  unfold XU at *
  by_cases q : cRd c = 2
  · rw [if_pos q] at *; exact on_rd h (R_addi _ _ _ (by omega) (by omega) (by omega) (by omega) (by have := (bMv c).1; omega) (by have := (bMv c).2; omega))
  · rw [if_neg q] at *; exact on_rd h (R_lui _ _ r.1 r.2 m.1 m.2)
theorem fullC (c : Int) (h : (XC c).2 = true) : Rd (XC c).1 := by
  have s1 := bS1 c
  have s2 := bS2 c
  have m := bSm c
  have am := bAm c
  unfold XC at *
  by_cases q0 : cT c = 0
  · rw [if_pos q0]; exact R_srli _ _ _ s1.1 s1.2 s1.1 s1.2 am.1 am.2
  rw [if_neg q0] at *
  by_cases q1 : cT c = 1
  · rw [if_pos q1]; exact R_srai _ _ _ s1.1 s1.2 s1.1 s1.2 am.1 am.2
  rw [if_neg q1] at *
  by_cases q2 : cT c = 2
  · rw [if_pos q2]; exact R_andi _ _ _ s1.1 s1.2 s1.1 s1.2 (by omega) (by omega)
  rw [if_neg q2] at *
  have b : cO c = 0 ∨ cO c = 1 ∨ cO c = 2 ∨ cO c = 3 ∨ cO c = 4 ∨ cO c = 5 ∨ cO c = 6 ∨ cO c = 7 := by unfold cO; omega
  have hn := (onl_ok h).1
  refine on_rd h ?_
  rcases b with z | z | z | z | z | z | z | z
  · rw [show cOp c = 2 from by unfold cOp; rw [z]; rfl]; exact R_sub _ _ _ s1.1 s1.2 s1.1 s1.2 s2.1 s2.2
  · rw [show cOp c = 6 from by unfold cOp; rw [z]; rfl]; exact R_xor _ _ _ s1.1 s1.2 s1.1 s1.2 s2.1 s2.2
  · rw [show cOp c = 9 from by unfold cOp; rw [z]; rfl]; exact R_or _ _ _ s1.1 s1.2 s1.1 s1.2 s2.1 s2.2
  · rw [show cOp c = 10 from by unfold cOp; rw [z]; rfl]; exact R_and _ _ _ s1.1 s1.2 s1.1 s1.2 s2.1 s2.2
  · rw [show cOp c = 20 from by unfold cOp; rw [z]; rfl]; exact R_subw _ _ _ s1.1 s1.2 s1.1 s1.2 s2.1 s2.2
  · rw [show cOp c = 19 from by unfold cOp; rw [z]; rfl]; exact R_addw _ _ _ s1.1 s1.2 s1.1 s1.2 s2.1 s2.2
  · exact absurd (show cOp c = 0 from by unfold cOp; rw [z]; rfl) hn
  · exact absurd (show cOp c = 0 from by unfold cOp; rw [z]; rfl) hn
theorem full1 (c : Int) (h : (X1 c).2 = true) : Rd (X1 c).1 := by
  have r := bRd c
  have s1 := bS1 c
  have m := bSm c
  unfold X1 at *
  by_cases q0 : cF3 c = 0
  · rw [if_pos q0]; exact R_addi _ _ _ r.1 r.2 r.1 r.2 (by omega) (by omega)
  rw [if_neg q0] at *
  by_cases q1 : cF3 c = 1
  · rw [if_pos q1] at *; exact on_rd h (R_addiw _ _ _ r.1 r.2 r.1 r.2 (by omega) (by omega))
  rw [if_neg q1] at *
  by_cases q2 : cF3 c = 2
  · rw [if_pos q2]; exact R_addi _ _ _ r.1 r.2 (by omega) (by omega) (by omega) (by omega)
  rw [if_neg q2] at *
  by_cases q3 : cF3 c = 3
  · rw [if_pos q3] at *; exact fullU c h
  rw [if_neg q3] at *
  by_cases q4 : cF3 c = 4
  · rw [if_pos q4] at *; exact fullC c h
  rw [if_neg q4] at *
  by_cases q5 : cF3 c = 5
  · rw [if_pos q5]; exact R_jal _ (bJ c).1 (bJ c).2.1 (bJ c).2.2
  rw [if_neg q5] at *
  by_cases q6 : cF3 c = 6
  · rw [if_pos q6]; exact R_br1 _ _ s1.1 s1.2 (bBr c).1 (bBr c).2.1 (bBr c).2.2
  · rw [if_neg q6]; exact R_br2 _ _ s1.1 s1.2 (bBr c).1 (bBr c).2.1 (bBr c).2.2
theorem fullM (c : Int) (h : (XM c).2 = true) : Rd (XM c).1 := by
  have r := bRd c
  have s := bR2 c
  unfold XM at *
  by_cases hu : cU c = 1
  · rw [if_pos hu] at *
    by_cases h2 : cR2 c = 0
    · rw [if_pos h2] at *
      by_cases hd : cRd c = 0
      · rw [if_pos hd]; exact R_ebreak
      · rw [if_neg hd]; exact R_jalr _ _ (by omega) (by omega) r.1 r.2
    · rw [if_neg h2]; exact R_add _ _ _ r.1 r.2 r.1 r.2 s.1 s.2
  · rw [if_neg hu] at *
    by_cases h2 : cR2 c = 0
    · rw [if_pos h2] at *; exact on_rd h (R_jalr _ _ (by omega) (by omega) r.1 r.2)
    · rw [if_neg h2]; exact R_add _ _ _ r.1 r.2 (by omega) (by omega) s.1 s.2
theorem full2 (c : Int) (h : (X2 c).2 = true) : Rd (X2 c).1 := by
  have r := bRd c
  have s := bR2 c
  have am := bAm c
  unfold X2 at *
  by_cases q0 : cF3 c = 0
  · rw [if_pos q0]; exact R_slli _ _ _ r.1 r.2 r.1 r.2 am.1 am.2
  rw [if_neg q0] at *
  by_cases q2 : cF3 c = 2
  · rw [if_pos q2] at *; exact on_rd h (R_load4 _ _ _ r.1 r.2 (by omega) (by omega) (by unfold cPopW; omega) (by unfold cPopW; omega))
  rw [if_neg q2] at *
  by_cases q3 : cF3 c = 3
  · rw [if_pos q3] at *; exact on_rd h (R_load8 _ _ _ r.1 r.2 (by omega) (by omega) (by unfold cPopD; omega) (by unfold cPopD; omega))
  rw [if_neg q3] at *
  by_cases q4 : cF3 c = 4
  · rw [if_pos q4] at *; exact fullM c h
  rw [if_neg q4] at *
  by_cases q6 : cF3 c = 6
  · rw [if_pos q6]; exact R_store4 _ _ _ s.1 s.2 (by omega) (by omega) (by unfold cPushW; omega) (by unfold cPushW; omega)
  rw [if_neg q6] at *
  by_cases q7 : cF3 c = 7
  · rw [if_pos q7]; exact R_store8 _ _ _ s.1 s.2 (by omega) (by omega) (by unfold cPushD; omega) (by unfold cPushD; omega)
  rw [if_neg q7] at h; cases h
theorem full (c : Int) (h : (X c).2 = true) : Rd (X c).1 ∧ cQ c ≠ 3 := by
  unfold X at *
  by_cases q0 : cQ c = 0
  · rw [if_pos q0] at *; exact ⟨full0 c h, by omega⟩
  rw [if_neg q0] at *
  by_cases q1 : cQ c = 1
  · rw [if_pos q1] at *; exact ⟨full1 c h, by omega⟩
  rw [if_neg q1] at *
  by_cases q2 : cQ c = 2
  · rw [if_pos q2] at *; exact ⟨full2 c h, by omega⟩
  rw [if_neg q2] at h; cases h
end Go.Proofs.YtlfdokkopgmfjaaGreatDoor.B
namespace Go.Proofs.YtlfdokkopgmfjaaGreatDoor.B
open Go.RowKit
set_option linter.unusedVariables false
set_option maxRecDepth 100000
theorem s2 {x y : Int} {a b : Nat} (hx : In x a) (hy : In y b) (h : a &&& b = 0 ∧ a < 4294967296 ∧ b < 4294967296) : bits .or .u32 x y = x + y ∧ In (x + y) (a ||| b) := hx.or hy h.1 h.2.1 h.2.2
theorem s3 {x y z : Int} {a b c : Nat} (hx : In x a) (hy : In y b) (hz : In z c) (h : (a &&& b = 0 ∧ a < 4294967296 ∧ b < 4294967296) ∧ (a ||| b) &&& c = 0 ∧ a ||| b < 4294967296 ∧ c < 4294967296) : bits .or .u32 (bits .or .u32 x y) z = x + y + z ∧ In (x + y + z) ((a ||| b) ||| c) := by
  have e := s2 hx hy h.1
  rw [e.1]; exact s2 e.2 hz h.2
theorem s4 {x y z u : Int} {a b c d : Nat} (hx : In x a) (hy : In y b) (hz : In z c) (hu : In u d) (h : ((a &&& b = 0 ∧ a < 4294967296 ∧ b < 4294967296) ∧ (a ||| b) &&& c = 0 ∧ a ||| b < 4294967296 ∧ c < 4294967296) ∧ ((a ||| b) ||| c) &&& d = 0 ∧ (a ||| b) ||| c < 4294967296 ∧ d < 4294967296) : bits .or .u32 (bits .or .u32 (bits .or .u32 x y) z) u = x + y + z + u ∧ In (x + y + z + u) (((a ||| b) ||| c) ||| d) := by
  have e := s3 hx hy hz h.1
  rw [e.1]; exact s2 e.2 hu h.2
theorem s5 {x y z u v : Int} {a b c d f : Nat} (hx : In x a) (hy : In y b) (hz : In z c) (hu : In u d) (hv : In v f) (h : (((a &&& b = 0 ∧ a < 4294967296 ∧ b < 4294967296) ∧ (a ||| b) &&& c = 0 ∧ a ||| b < 4294967296 ∧ c < 4294967296) ∧ ((a ||| b) ||| c) &&& d = 0 ∧ (a ||| b) ||| c < 4294967296 ∧ d < 4294967296) ∧ (((a ||| b) ||| c) ||| d) &&& f = 0 ∧ ((a ||| b) ||| c) ||| d < 4294967296 ∧ f < 4294967296) : bits .or .u32 (bits .or .u32 (bits .or .u32 (bits .or .u32 x y) z) u) v = x + y + z + u + v ∧ In (x + y + z + u + v) ((((a ||| b) ||| c) ||| d) ||| f) := by
  have e := s4 hx hy hz hu h.1
  rw [e.1]; exact s2 e.2 hv h.2
theorem s6 {x y z u v t : Int} {a b c d f g : Nat} (hx : In x a) (hy : In y b) (hz : In z c) (hu : In u d) (hv : In v f) (ht : In t g) (h : ((((a &&& b = 0 ∧ a < 4294967296 ∧ b < 4294967296) ∧ (a ||| b) &&& c = 0 ∧ a ||| b < 4294967296 ∧ c < 4294967296) ∧ ((a ||| b) ||| c) &&& d = 0 ∧ (a ||| b) ||| c < 4294967296 ∧ d < 4294967296) ∧ (((a ||| b) ||| c) ||| d) &&& f = 0 ∧ ((a ||| b) ||| c) ||| d < 4294967296 ∧ f < 4294967296) ∧ ((((a ||| b) ||| c) ||| d) ||| f) &&& g = 0 ∧ (((a ||| b) ||| c) ||| d) ||| f < 4294967296 ∧ g < 4294967296) : bits .or .u32 (bits .or .u32 (bits .or .u32 (bits .or .u32 (bits .or .u32 x y) z) u) v) t = x + y + z + u + v + t := by
  have e := s5 hx hy hz hu hv h.1
  rw [e.1]; exact (s2 e.2 ht h.2).1
theorem ia_5_7 (x : Int) : In (at2 x 32 128) 3968 := In.mk' 5 7 (x % 32) _ (by omega) (by omega) rfl
theorem ia_5_15 (x : Int) : In (at2 x 32 32768) 1015808 := In.mk' 5 15 (x % 32) _ (by omega) (by omega) rfl
theorem ia_5_20 (x : Int) : In (at2 x 32 1048576) 32505856 := In.mk' 5 20 (x % 32) _ (by omega) (by omega) rfl
theorem ia_3_12 (x : Int) : In (at2 x 8 4096) 28672 := In.mk' 3 12 (x % 8) _ (by omega) (by omega) rfl
theorem ia_12_20 (x : Int) : In (at2 x 4096 1048576) 4293918720 := In.mk' 12 20 (x % 4096) _ (by omega) (by omega) rfl
theorem ia_20_12 (x : Int) : In (at2 x 1048576 4096) 4294963200 := In.mk' 20 12 (x % 1048576) _ (by omega) (by omega) rfl
theorem ia_7_25 (x : Int) : In (at2 x 128 33554432) 4261412864 := In.mk' 7 25 (x % 128) _ (by omega) (by omega) rfl
theorem ia_2_12 (x : Int) : In (at2 x 4 4096) 12288 := In.mk' 2 12 (x % 4) _ (by omega) (by omega) rfl
theorem ia_5_27 (x : Int) : In (at2 x 32 134217728) 4160749568 := In.mk' 5 27 (x % 32) _ (by omega) (by omega) rfl
theorem in_sz (x : Int) (h0 : 0 ≤ x) (h1 : x ≤ 7) : In (x * 4096) 28672 := In.mk' 3 12 x _ h0 (by omega) rfl
theorem in_R0 (x y z : Int) : bits .or .u32 (bits .or .u32 (at2 x 32 128) (at2 y 32 32768)) (at2 z 32 1048576) = at2 x 32 128 + at2 y 32 32768 + at2 z 32 1048576 ∧ In (at2 x 32 128 + at2 y 32 32768 + at2 z 32 1048576) 33525632 := s3 (ia_5_7 x) (ia_5_15 y) (ia_5_20 z) (by decide)
theorem in_alu (n : Int) (n0 : 0 ≤ n) (n1 : n ≤ 28) : In (aluT n) 1107324928 := by
  rcases (by omega : n = 0 ∨ n = 1 ∨ n = 2 ∨ n = 3 ∨ n = 4 ∨ n = 5 ∨ n = 6 ∨ n = 7 ∨ n = 8 ∨ n = 9 ∨ n = 10 ∨ n = 11 ∨ n = 12 ∨ n = 13 ∨ n = 14 ∨ n = 15 ∨ n = 16 ∨ n = 17 ∨ n = 18 ∨ n = 19 ∨ n = 20 ∨ n = 21 ∨ n = 22 ∨ n = 23 ∨ n = 24 ∨ n = 25 ∨ n = 26 ∨ n = 27 ∨ n = 28) with rfl | rfl | rfl | rfl | rfl | rfl | rfl | rfl | rfl | rfl | rfl | rfl | rfl | rfl | rfl | rfl | rfl | rfl | rfl | rfl | rfl | rfl | rfl | rfl | rfl | rfl | rfl | rfl | rfl <;> exact ⟨by decide, by decide⟩
theorem at_reg (x : Int) (h : 0 ≤ x ∧ x < 32) (k : Int) : at2 x 32 k = x * k := by unfold at2; rw [Int.emod_eq_of_lt h.1 h.2]
theorem wd_lui (a : Int) (h0 : 0 ≤ a) (h1 : a < 4294967296) (ho : fOp a = 55) : wordX ⟨1, 0, (fRd a), 0, 0, (iU a), 0, false⟩ = a := by
  have hr := fRd_b a
  have hs := fRs1_b a
  have ht := fRs2_b a
  have h3 := fF3_b a
  have h7 := fF7_b a
  have h6 := fF6_b a
  have h5 := fF5_b a
  rw [show wordX ⟨1, 0, (fRd a), 0, 0, (iU a), 0, false⟩ = bits .or .u32 (bits .or .u32 (55) (at2 (fRd a) 32 128)) (at2 ((iU a) / 4096) 1048576 4096) from rfl]
  have hi : at2 (iU a / 4096) 1048576 4096 = a / 4096 * 4096 := imU_iU a h0 h1
  rw [(s3 (show In (55 : Int) 55 from In.lit 55) (ia_5_7 _) (ia_20_12 _) (by decide)).1]
  rw [hi, at_reg _ hr]
  try unfold fOp at *
  try unfold fRd at *
  try unfold fF3 at *
  try unfold fRs1 at *
  try unfold fRs2 at *
  try unfold fF7 at *
  try unfold fF6 at *
  try unfold fF5 at *
  try unfold fSh at *
  try unfold fCs at *
  omega
theorem wd_auipc (a : Int) (h0 : 0 ≤ a) (h1 : a < 4294967296) (ho : fOp a = 23) : wordX ⟨2, 0, (fRd a), 0, 0, (iU a), 0, false⟩ = a := by
  have hr := fRd_b a
  have hs := fRs1_b a
  have ht := fRs2_b a
  have h3 := fF3_b a
  have h7 := fF7_b a
  have h6 := fF6_b a
  have h5 := fF5_b a
  rw [show wordX ⟨2, 0, (fRd a), 0, 0, (iU a), 0, false⟩ = bits .or .u32 (bits .or .u32 (23) (at2 (fRd a) 32 128)) (at2 ((iU a) / 4096) 1048576 4096) from rfl]
  have hi : at2 (iU a / 4096) 1048576 4096 = a / 4096 * 4096 := imU_iU a h0 h1
  rw [(s3 (show In (23 : Int) 23 from In.lit 23) (ia_5_7 _) (ia_20_12 _) (by decide)).1]
  rw [hi, at_reg _ hr]
  try unfold fOp at *
  try unfold fRd at *
  try unfold fF3 at *
  try unfold fRs1 at *
  try unfold fRs2 at *
  try unfold fF7 at *
  try unfold fF6 at *
  try unfold fF5 at *
  try unfold fSh at *
  try unfold fCs at *
  omega
theorem wd_jal (a : Int) (h0 : 0 ≤ a) (h1 : a < 4294967296) (ho : fOp a = 111) : wordX ⟨3, 0, (fRd a), 0, 0, (iJ a), 0, false⟩ = a := by
  have hr := fRd_b a
  have hs := fRs1_b a
  have ht := fRs2_b a
  have h3 := fF3_b a
  have h7 := fF7_b a
  have h6 := fF6_b a
  have h5 := fF5_b a
  rw [show wordX ⟨3, 0, (fRd a), 0, 0, (iJ a), 0, false⟩ = bits .or .u32 (bits .or .u32 (111) (at2 (fRd a) 32 128)) (bits .or .u32 (bits .or .u32 (bits .or .u32 (at2 ((iJ a) / 1048576) 2 2147483648) (at2 ((iJ a) / 4096) 256 4096)) (at2 ((iJ a) / 2048) 2 1048576)) (at2 ((iJ a) / 2) 1024 2097152)) from rfl]
  have hj : bits .or .u32 (bits .or .u32 (bits .or .u32 (at2 (iJ a / 1048576) 2 2147483648) (at2 (iJ a / 4096) 256 4096)) (at2 (iJ a / 2048) 2 1048576)) (at2 (iJ a / 2) 1024 2097152) = imJ (iJ a) := or_imJ (iJ a)
  have hi := imJ_iJ a h0 h1
  rw [hj]
  rw [(s3 (show In (111 : Int) 111 from In.lit 111) (ia_5_7 _) (in_imJ (iJ a)) (by decide)).1]
  rw [hi, at_reg _ hr]
  try unfold fOp at *
  try unfold fRd at *
  try unfold fF3 at *
  try unfold fRs1 at *
  try unfold fRs2 at *
  try unfold fF7 at *
  try unfold fF6 at *
  try unfold fF5 at *
  try unfold fSh at *
  try unfold fCs at *
  omega
theorem wd_jalr (a : Int) (h0 : 0 ≤ a) (h1 : a < 4294967296) (ho : fOp a = 103) (hf : fF3 a = 0) : wordX ⟨4, 0, (fRd a), (fRs1 a), 0, (iI a), 0, false⟩ = a := by
  have hr := fRd_b a
  have hs := fRs1_b a
  have ht := fRs2_b a
  have h3 := fF3_b a
  have h7 := fF7_b a
  have h6 := fF6_b a
  have h5 := fF5_b a
  rw [show wordX ⟨4, 0, (fRd a), (fRs1 a), 0, (iI a), 0, false⟩ = bits .or .u32 (bits .or .u32 (bits .or .u32 (103) (at2 (fRd a) 32 128)) (at2 (fRs1 a) 32 32768)) (at2 (iI a) 4096 1048576) from rfl]
  have hi : at2 (iI a) 4096 1048576 = a / 1048576 * 1048576 := imI_iI a h0 h1
  rw [(s4 (show In (103 : Int) 103 from In.lit 103) (ia_5_7 _) (ia_5_15 _) (ia_12_20 _) (by decide)).1]
  rw [hi, at_reg _ hr, at_reg _ hs]
  try unfold fOp at *
  try unfold fRd at *
  try unfold fF3 at *
  try unfold fRs1 at *
  try unfold fRs2 at *
  try unfold fF7 at *
  try unfold fF6 at *
  try unfold fF5 at *
  try unfold fSh at *
  try unfold fCs at *
  omega
theorem wd_branch (a : Int) (h0 : 0 ≤ a) (h1 : a < 4294967296) (ho : fOp a = 99) (hn : tCond (fF3 a) ≠ 0) : wordX ⟨5, (tCond (fF3 a)), 0, (fRs1 a), (fRs2 a), (iB a), 0, false⟩ = a := by
  have hr := fRd_b a
  have hs := fRs1_b a
  have ht := fRs2_b a
  have h3 := fF3_b a
  have h7 := fF7_b a
  have h6 := fF6_b a
  have h5 := fF5_b a
  rw [show wordX ⟨5, (tCond (fF3 a)), 0, (fRs1 a), (fRs2 a), (iB a), 0, false⟩ = bits .or .u32 (bits .or .u32 (bits .or .u32 (bits .or .u32 (99) (at2 (coS (tCond (fF3 a))) 8 4096)) (at2 (fRs1 a) 32 32768)) (at2 (fRs2 a) 32 1048576)) (bits .or .u32 (bits .or .u32 (bits .or .u32 (at2 ((iB a) / 4096) 2 2147483648) (at2 ((iB a) / 2048) 2 128)) (at2 ((iB a) / 32) 64 33554432)) (at2 ((iB a) / 2) 16 256)) from rfl]
  have hc : at2 (coS (tCond (fF3 a))) 8 4096 = fF3 a * 4096 := by
    rcases eight h3 with q | q | q | q | q | q | q | q <;> rw [q] at hn ⊢ <;> first | exact absurd rfl hn | rfl
  have hj : bits .or .u32 (bits .or .u32 (bits .or .u32 (at2 (iB a / 4096) 2 2147483648) (at2 (iB a / 2048) 2 128)) (at2 (iB a / 32) 64 33554432)) (at2 (iB a / 2) 16 256) = imB (iB a) := or_imB (iB a)
  have hi := imB_iB a h0 h1
  rw [hj]
  rw [(s5 (show In (99 : Int) 99 from In.lit 99) (ia_3_12 _) (ia_5_15 _) (ia_5_20 _) (in_imB (iB a)) (by decide)).1]
  rw [hi, hc, at_reg _ hs, at_reg _ ht]
  try unfold fOp at *
  try unfold fRd at *
  try unfold fF3 at *
  try unfold fRs1 at *
  try unfold fRs2 at *
  try unfold fF7 at *
  try unfold fF6 at *
  try unfold fF5 at *
  try unfold fSh at *
  try unfold fCs at *
  omega
theorem wd_load (a : Int) (h0 : 0 ≤ a) (h1 : a < 4294967296) (ho : fOp a = 3) (hn : tLoad (fF3 a) ≠ 0) : wordX ⟨6, 0, fRd a, fRs1 a, 0, iI a, tLoad (fF3 a), lt4 (fF3 a)⟩ = a := by
  have hr := fRd_b a
  have hs := fRs1_b a
  have ht := fRs2_b a
  have h3 := fF3_b a
  have h7 := fF7_b a
  have h6 := fF6_b a
  have h5 := fF5_b a
  have e : wordX ⟨6, 0, fRd a, fRs1 a, 0, iI a, tLoad (fF3 a), lt4 (fF3 a)⟩ = bits .or .u32 (bits .or .u32 (bits .or .u32 (bits .or .u32 (3) (fF3 a * 4096)) (at2 (fRd a) 32 128)) (at2 (fRs1 a) 32 32768)) (at2 (iI a) 4096 1048576) := by
    rcases eight h3 with q | q | q | q | q | q | q | q <;> rw [q] at hn ⊢ <;> first | exact absurd rfl hn | rfl
  rw [e]
  have hi : at2 (iI a) 4096 1048576 = a / 1048576 * 1048576 := imI_iI a h0 h1
  rw [(s5 (show In (3 : Int) 3 from In.lit 3) (in_sz _ h3.1 (by omega)) (ia_5_7 _) (ia_5_15 _) (ia_12_20 _) (by decide)).1]
  rw [hi, at_reg _ hr, at_reg _ hs]
  try unfold fOp at *
  try unfold fRd at *
  try unfold fF3 at *
  try unfold fRs1 at *
  try unfold fRs2 at *
  try unfold fF7 at *
  try unfold fF6 at *
  try unfold fF5 at *
  try unfold fSh at *
  try unfold fCs at *
  omega
theorem wd_store (a : Int) (h0 : 0 ≤ a) (h1 : a < 4294967296) (ho : fOp a = 35) (hn : tStore (fF3 a) ≠ 0) : wordX ⟨7, 0, 0, (fRs1 a), (fRs2 a), (iS a), (tStore (fF3 a)), false⟩ = a := by
  have hr := fRd_b a
  have hs := fRs1_b a
  have ht := fRs2_b a
  have h3 := fF3_b a
  have h7 := fF7_b a
  have h6 := fF6_b a
  have h5 := fF5_b a
  rw [show wordX ⟨7, 0, 0, (fRs1 a), (fRs2 a), (iS a), (tStore (fF3 a)), false⟩ = bits .or .u32 (bits .or .u32 (bits .or .u32 (bits .or .u32 (bits .or .u32 (35) (szS (tStore (fF3 a)) * 4096)) (at2 (fRs1 a) 32 32768)) (at2 (fRs2 a) 32 1048576)) (at2 (iS a) 32 128)) (at2 ((iS a) / 32) 128 33554432) from rfl]
  have hc : szS (tStore (fF3 a)) = fF3 a := by
    rcases eight h3 with q | q | q | q | q | q | q | q <;> rw [q] at hn ⊢ <;> first | exact absurd rfl hn | rfl
  rw [hc]
  have hi : at2 (iS a / 32) 128 33554432 + at2 (iS a) 32 128 = a / 33554432 * 33554432 + a / 128 % 32 * 128 := imS_iS a h0 h1
  rw [s6 (show In (35 : Int) 35 from In.lit 35) (in_sz _ h3.1 (by omega)) (ia_5_15 _) (ia_5_20 _) (ia_5_7 _) (ia_7_25 _) (by decide)]
  rw [at_reg _ hs, at_reg _ ht]
  try unfold fOp at *
  try unfold fRd at *
  try unfold fF3 at *
  try unfold fRs1 at *
  try unfold fRs2 at *
  try unfold fF7 at *
  try unfold fF6 at *
  try unfold fF5 at *
  try unfold fSh at *
  try unfold fCs at *
  omega
theorem wd_imm (a : Int) (h0 : 0 ≤ a) (h1 : a < 4294967296) (ho : fOp a = 19) (n1 : fF3 a ≠ 1) (n5 : fF3 a ≠ 5) : wordX ⟨9, (tBas (fF3 a)), (fRd a), (fRs1 a), 0, (iI a), 0, false⟩ = a := by
  have hr := fRd_b a
  have hs := fRs1_b a
  have ht := fRs2_b a
  have h3 := fF3_b a
  have h7 := fF7_b a
  have h6 := fF6_b a
  have h5 := fF5_b a
  have hc : aluT (tBas (fF3 a)) = fF3 a * 4096 := by
    rcases eight h3 with q | q | q | q | q | q | q | q <;> rw [q] at n1 n5 ⊢ <;> first | exact absurd rfl n1 | exact absurd rfl n5 | rfl
  have hg : inb (tBas (fF3 a)) 19 23 = false := by
    rcases eight h3 with q | q | q | q | q | q | q | q <;> rw [q] <;> rfl
  have hf : 0 ≤ tBas (fF3 a) ∧ tBas (fF3 a) ≤ 28 := by
    rcases eight h3 with q | q | q | q | q | q | q | q <;> rw [q] <;> decide
  rw [show wordX ⟨9, (tBas (fF3 a)), (fRd a), (fRs1 a), 0, (iI a), 0, false⟩ = bits .or .u32 (bits .or .u32 (bits .or .u32 (bits .or .u32 (19) (aluT (tBas (fF3 a)))) (at2 (fRd a) 32 128)) (at2 (fRs1 a) 32 32768)) (at2 (iI a) 4096 1048576) from if_neg (show ¬ inb (tBas (fF3 a)) 19 23 = true by rw [hg]; decide)]
  rw [hc]
  have hi : at2 (iI a) 4096 1048576 = a / 1048576 * 1048576 := imI_iI a h0 h1
  rw [(s5 (show In (19 : Int) 19 from In.lit 19) (in_sz _ h3.1 (by omega)) (ia_5_7 _) (ia_5_15 _) (ia_12_20 _) (by decide)).1]
  rw [hi, at_reg _ hr, at_reg _ hs]
  try unfold fOp at *
  try unfold fRd at *
  try unfold fF3 at *
  try unfold fRs1 at *
  try unfold fRs2 at *
  try unfold fF7 at *
  try unfold fF6 at *
  try unfold fF5 at *
  try unfold fSh at *
  try unfold fCs at *
  omega
theorem wd_immW (a : Int) (h0 : 0 ≤ a) (h1 : a < 4294967296) (ho : fOp a = 27) (hf : fF3 a = 0) : wordX ⟨9, 19, (fRd a), (fRs1 a), 0, (iI a), 0, false⟩ = a := by
  have hr := fRd_b a
  have hs := fRs1_b a
  have ht := fRs2_b a
  have h3 := fF3_b a
  have h7 := fF7_b a
  have h6 := fF6_b a
  have h5 := fF5_b a
  rw [show wordX ⟨9, 19, (fRd a), (fRs1 a), 0, (iI a), 0, false⟩ = bits .or .u32 (bits .or .u32 (bits .or .u32 (bits .or .u32 (27) (aluT 19)) (at2 (fRd a) 32 128)) (at2 (fRs1 a) 32 32768)) (at2 (iI a) 4096 1048576) from rfl]
  have hi : at2 (iI a) 4096 1048576 = a / 1048576 * 1048576 := imI_iI a h0 h1
  have hc : aluT 19 = 0 := rfl
  rw [hc]
  rw [(s5 (show In (27 : Int) 27 from In.lit 27) (show In (0 : Int) 0 from In.lit 0) (ia_5_7 _) (ia_5_15 _) (ia_12_20 _) (by decide)).1]
  rw [hi, at_reg _ hr, at_reg _ hs]
  try unfold fOp at *
  try unfold fRd at *
  try unfold fF3 at *
  try unfold fRs1 at *
  try unfold fRs2 at *
  try unfold fF7 at *
  try unfold fF6 at *
  try unfold fF5 at *
  try unfold fSh at *
  try unfold fCs at *
  omega
theorem wd_sll (a : Int) (h0 : 0 ≤ a) (h1 : a < 4294967296) (ho : fOp a = 19) (hf : fF3 a = 1) (hq : fF6 a = 0) : wordX ⟨9, 3, (fRd a), (fRs1 a), 0, (fSh a), 0, false⟩ = a := by
  have hr := fRd_b a
  have hs := fRs1_b a
  have ht := fRs2_b a
  have h3 := fF3_b a
  have h7 := fF7_b a
  have h6 := fF6_b a
  have h5 := fF5_b a
  rw [show wordX ⟨9, 3, (fRd a), (fRs1 a), 0, (fSh a), 0, false⟩ = bits .or .u32 (bits .or .u32 (bits .or .u32 (bits .or .u32 (19) (aluT 3)) (at2 (fRd a) 32 128)) (at2 (fRs1 a) 32 32768)) (at2 (fSh a) 4096 1048576) from rfl]
  have hi : at2 (fSh a) 4096 1048576 = fSh a * 1048576 := by have := fSh_b a; unfold at2; omega
  have hc : aluT 3 = 4096 := rfl
  rw [hc, hi]
  rw [(s5 (show In (19 : Int) 19 from In.lit 19) (show In (4096 : Int) 4096 from In.lit 4096) (ia_5_7 _) (ia_5_15 _) (In.mk' 6 20 (fSh a) (fSh a * 1048576) (fSh_b a).1 (by have := (fSh_b a).2; omega) rfl) (by decide)).1]
  rw [at_reg _ hr, at_reg _ hs]
  try unfold fOp at *
  try unfold fRd at *
  try unfold fF3 at *
  try unfold fRs1 at *
  try unfold fRs2 at *
  try unfold fF7 at *
  try unfold fF6 at *
  try unfold fF5 at *
  try unfold fSh at *
  try unfold fCs at *
  omega
theorem wd_srl (a : Int) (h0 : 0 ≤ a) (h1 : a < 4294967296) (ho : fOp a = 19) (hf : fF3 a = 5) (hq : fF6 a = 0) : wordX ⟨9, 7, (fRd a), (fRs1 a), 0, (fSh a), 0, false⟩ = a := by
  have hr := fRd_b a
  have hs := fRs1_b a
  have ht := fRs2_b a
  have h3 := fF3_b a
  have h7 := fF7_b a
  have h6 := fF6_b a
  have h5 := fF5_b a
  rw [show wordX ⟨9, 7, (fRd a), (fRs1 a), 0, (fSh a), 0, false⟩ = bits .or .u32 (bits .or .u32 (bits .or .u32 (bits .or .u32 (19) (aluT 7)) (at2 (fRd a) 32 128)) (at2 (fRs1 a) 32 32768)) (at2 (fSh a) 4096 1048576) from rfl]
  have hi : at2 (fSh a) 4096 1048576 = fSh a * 1048576 := by have := fSh_b a; unfold at2; omega
  have hc : aluT 7 = 20480 := rfl
  rw [hc, hi]
  rw [(s5 (show In (19 : Int) 19 from In.lit 19) (show In (20480 : Int) 20480 from In.lit 20480) (ia_5_7 _) (ia_5_15 _) (In.mk' 6 20 (fSh a) (fSh a * 1048576) (fSh_b a).1 (by have := (fSh_b a).2; omega) rfl) (by decide)).1]
  rw [at_reg _ hr, at_reg _ hs]
  try unfold fOp at *
  try unfold fRd at *
  try unfold fF3 at *
  try unfold fRs1 at *
  try unfold fRs2 at *
  try unfold fF7 at *
  try unfold fF6 at *
  try unfold fF5 at *
  try unfold fSh at *
  try unfold fCs at *
  omega
theorem wd_sra (a : Int) (h0 : 0 ≤ a) (h1 : a < 4294967296) (ho : fOp a = 19) (hf : fF3 a = 5) (hq : fF6 a = 16) : wordX ⟨9, 8, (fRd a), (fRs1 a), 0, (fSh a), 0, false⟩ = a := by
  have hr := fRd_b a
  have hs := fRs1_b a
  have ht := fRs2_b a
  have h3 := fF3_b a
  have h7 := fF7_b a
  have h6 := fF6_b a
  have h5 := fF5_b a
  rw [show wordX ⟨9, 8, (fRd a), (fRs1 a), 0, (fSh a), 0, false⟩ = bits .or .u32 (bits .or .u32 (bits .or .u32 (bits .or .u32 (19) (aluT 8)) (at2 (fRd a) 32 128)) (at2 (fRs1 a) 32 32768)) (at2 (fSh a) 4096 1048576) from rfl]
  have hi : at2 (fSh a) 4096 1048576 = fSh a * 1048576 := by have := fSh_b a; unfold at2; omega
  have hc : aluT 8 = 1073762304 := rfl
  rw [hc, hi]
  rw [(s5 (show In (19 : Int) 19 from In.lit 19) (show In (1073762304 : Int) 1073762304 from In.lit 1073762304) (ia_5_7 _) (ia_5_15 _) (In.mk' 6 20 (fSh a) (fSh a * 1048576) (fSh_b a).1 (by have := (fSh_b a).2; omega) rfl) (by decide)).1]
  rw [at_reg _ hr, at_reg _ hs]
  try unfold fOp at *
  try unfold fRd at *
  try unfold fF3 at *
  try unfold fRs1 at *
  try unfold fRs2 at *
  try unfold fF7 at *
  try unfold fF6 at *
  try unfold fF5 at *
  try unfold fSh at *
  try unfold fCs at *
  omega
theorem wd_sllw (a : Int) (h0 : 0 ≤ a) (h1 : a < 4294967296) (ho : fOp a = 27) (hf : fF3 a = 1) (hq : fF7 a = 0) : wordX ⟨9, 21, (fRd a), (fRs1 a), 0, (fRs2 a), 0, false⟩ = a := by
  have hr := fRd_b a
  have hs := fRs1_b a
  have ht := fRs2_b a
  have h3 := fF3_b a
  have h7 := fF7_b a
  have h6 := fF6_b a
  have h5 := fF5_b a
  rw [show wordX ⟨9, 21, (fRd a), (fRs1 a), 0, (fRs2 a), 0, false⟩ = bits .or .u32 (bits .or .u32 (bits .or .u32 (bits .or .u32 (27) (aluT 21)) (at2 (fRd a) 32 128)) (at2 (fRs1 a) 32 32768)) (at2 (fRs2 a) 4096 1048576) from rfl]
  have hi : at2 (fRs2 a) 4096 1048576 = fRs2 a * 1048576 := by unfold at2; omega
  have hc : aluT 21 = 4096 := rfl
  rw [hc, hi]
  rw [(s5 (show In (27 : Int) 27 from In.lit 27) (show In (4096 : Int) 4096 from In.lit 4096) (ia_5_7 _) (ia_5_15 _) (In.mk' 5 20 (fRs2 a) (fRs2 a * 1048576) ht.1 (by omega) rfl) (by decide)).1]
  rw [at_reg _ hr, at_reg _ hs]
  try unfold fOp at *
  try unfold fRd at *
  try unfold fF3 at *
  try unfold fRs1 at *
  try unfold fRs2 at *
  try unfold fF7 at *
  try unfold fF6 at *
  try unfold fF5 at *
  try unfold fSh at *
  try unfold fCs at *
  omega
theorem wd_srlw (a : Int) (h0 : 0 ≤ a) (h1 : a < 4294967296) (ho : fOp a = 27) (hf : fF3 a = 5) (hq : fF7 a = 0) : wordX ⟨9, 22, (fRd a), (fRs1 a), 0, (fRs2 a), 0, false⟩ = a := by
  have hr := fRd_b a
  have hs := fRs1_b a
  have ht := fRs2_b a
  have h3 := fF3_b a
  have h7 := fF7_b a
  have h6 := fF6_b a
  have h5 := fF5_b a
  rw [show wordX ⟨9, 22, (fRd a), (fRs1 a), 0, (fRs2 a), 0, false⟩ = bits .or .u32 (bits .or .u32 (bits .or .u32 (bits .or .u32 (27) (aluT 22)) (at2 (fRd a) 32 128)) (at2 (fRs1 a) 32 32768)) (at2 (fRs2 a) 4096 1048576) from rfl]
  have hi : at2 (fRs2 a) 4096 1048576 = fRs2 a * 1048576 := by unfold at2; omega
  have hc : aluT 22 = 20480 := rfl
  rw [hc, hi]
  rw [(s5 (show In (27 : Int) 27 from In.lit 27) (show In (20480 : Int) 20480 from In.lit 20480) (ia_5_7 _) (ia_5_15 _) (In.mk' 5 20 (fRs2 a) (fRs2 a * 1048576) ht.1 (by omega) rfl) (by decide)).1]
  rw [at_reg _ hr, at_reg _ hs]
  try unfold fOp at *
  try unfold fRd at *
  try unfold fF3 at *
  try unfold fRs1 at *
  try unfold fRs2 at *
  try unfold fF7 at *
  try unfold fF6 at *
  try unfold fF5 at *
  try unfold fSh at *
  try unfold fCs at *
  omega
theorem wd_sraw (a : Int) (h0 : 0 ≤ a) (h1 : a < 4294967296) (ho : fOp a = 27) (hf : fF3 a = 5) (hq : fF7 a = 32) : wordX ⟨9, 23, (fRd a), (fRs1 a), 0, (fRs2 a), 0, false⟩ = a := by
  have hr := fRd_b a
  have hs := fRs1_b a
  have ht := fRs2_b a
  have h3 := fF3_b a
  have h7 := fF7_b a
  have h6 := fF6_b a
  have h5 := fF5_b a
  rw [show wordX ⟨9, 23, (fRd a), (fRs1 a), 0, (fRs2 a), 0, false⟩ = bits .or .u32 (bits .or .u32 (bits .or .u32 (bits .or .u32 (27) (aluT 23)) (at2 (fRd a) 32 128)) (at2 (fRs1 a) 32 32768)) (at2 (fRs2 a) 4096 1048576) from rfl]
  have hi : at2 (fRs2 a) 4096 1048576 = fRs2 a * 1048576 := by unfold at2; omega
  have hc : aluT 23 = 1073762304 := rfl
  rw [hc, hi]
  rw [(s5 (show In (27 : Int) 27 from In.lit 27) (show In (1073762304 : Int) 1073762304 from In.lit 1073762304) (ia_5_7 _) (ia_5_15 _) (In.mk' 5 20 (fRs2 a) (fRs2 a * 1048576) ht.1 (by omega) rfl) (by decide)).1]
  rw [at_reg _ hr, at_reg _ hs]
  try unfold fOp at *
  try unfold fRd at *
  try unfold fF3 at *
  try unfold fRs1 at *
  try unfold fRs2 at *
  try unfold fF7 at *
  try unfold fF6 at *
  try unfold fF5 at *
  try unfold fSh at *
  try unfold fCs at *
  omega
theorem wd_51_0 (a : Int) (h0 : 0 ≤ a) (h1 : a < 4294967296) (ho : fOp a = 51) (hq : fF7 a = 0) (hn : tBas (fF3 a) ≠ 0) : wordX ⟨8, (tBas (fF3 a)), (fRd a), (fRs1 a), (fRs2 a), 0, 0, false⟩ = a := by
  have hr := fRd_b a
  have hs := fRs1_b a
  have ht := fRs2_b a
  have h3 := fF3_b a
  have h7 := fF7_b a
  have h6 := fF6_b a
  have h5 := fF5_b a
  have hf : tBas (fF3 a) < 19 ∧ 0 ≤ tBas (fF3 a) ∧ tBas (fF3 a) ≤ 28 ∧ aluT (tBas (fF3 a)) = fF3 a * 4096 + 0 := by
    rcases eight h3 with q | q | q | q | q | q | q | q <;> rw [q] at hn ⊢ <;> first | exact absurd rfl hn | exact ⟨by decide, by decide, by decide, rfl⟩
  rw [show wordX ⟨8, (tBas (fF3 a)), (fRd a), (fRs1 a), (fRs2 a), 0, 0, false⟩ = bits .or .u32 (bits .or .u32 (51) (aluT (tBas (fF3 a)))) (bits .or .u32 (bits .or .u32 (at2 (fRd a) 32 128) (at2 (fRs1 a) 32 32768)) (at2 (fRs2 a) 32 1048576)) from if_neg (show ¬ 19 ≤ tBas (fF3 a) by omega)]
  rw [(in_R0 (fRd a) (fRs1 a) (fRs2 a)).1]
  rw [(s3 (show In (51 : Int) 51 from In.lit 51) (in_alu _ hf.2.1 hf.2.2.1) (in_R0 _ _ _).2 (by decide)).1]
  rw [hf.2.2.2, at_reg _ hr, at_reg _ hs, at_reg _ ht]
  try unfold fOp at *
  try unfold fRd at *
  try unfold fF3 at *
  try unfold fRs1 at *
  try unfold fRs2 at *
  try unfold fF7 at *
  try unfold fF6 at *
  try unfold fF5 at *
  try unfold fSh at *
  try unfold fCs at *
  omega
theorem wd_51_32 (a : Int) (h0 : 0 ≤ a) (h1 : a < 4294967296) (ho : fOp a = 51) (hq : fF7 a = 32) (hn : tAlt (fF3 a) ≠ 0) : wordX ⟨8, (tAlt (fF3 a)), (fRd a), (fRs1 a), (fRs2 a), 0, 0, false⟩ = a := by
  have hr := fRd_b a
  have hs := fRs1_b a
  have ht := fRs2_b a
  have h3 := fF3_b a
  have h7 := fF7_b a
  have h6 := fF6_b a
  have h5 := fF5_b a
  have hf : tAlt (fF3 a) < 19 ∧ 0 ≤ tAlt (fF3 a) ∧ tAlt (fF3 a) ≤ 28 ∧ aluT (tAlt (fF3 a)) = fF3 a * 4096 + 1073741824 := by
    rcases eight h3 with q | q | q | q | q | q | q | q <;> rw [q] at hn ⊢ <;> first | exact absurd rfl hn | exact ⟨by decide, by decide, by decide, rfl⟩
  rw [show wordX ⟨8, (tAlt (fF3 a)), (fRd a), (fRs1 a), (fRs2 a), 0, 0, false⟩ = bits .or .u32 (bits .or .u32 (51) (aluT (tAlt (fF3 a)))) (bits .or .u32 (bits .or .u32 (at2 (fRd a) 32 128) (at2 (fRs1 a) 32 32768)) (at2 (fRs2 a) 32 1048576)) from if_neg (show ¬ 19 ≤ tAlt (fF3 a) by omega)]
  rw [(in_R0 (fRd a) (fRs1 a) (fRs2 a)).1]
  rw [(s3 (show In (51 : Int) 51 from In.lit 51) (in_alu _ hf.2.1 hf.2.2.1) (in_R0 _ _ _).2 (by decide)).1]
  rw [hf.2.2.2, at_reg _ hr, at_reg _ hs, at_reg _ ht]
  try unfold fOp at *
  try unfold fRd at *
  try unfold fF3 at *
  try unfold fRs1 at *
  try unfold fRs2 at *
  try unfold fF7 at *
  try unfold fF6 at *
  try unfold fF5 at *
  try unfold fSh at *
  try unfold fCs at *
  omega
theorem wd_51_1 (a : Int) (h0 : 0 ≤ a) (h1 : a < 4294967296) (ho : fOp a = 51) (hq : fF7 a = 1) (hn : tPro (fF3 a) ≠ 0) : wordX ⟨8, (tPro (fF3 a)), (fRd a), (fRs1 a), (fRs2 a), 0, 0, false⟩ = a := by
  have hr := fRd_b a
  have hs := fRs1_b a
  have ht := fRs2_b a
  have h3 := fF3_b a
  have h7 := fF7_b a
  have h6 := fF6_b a
  have h5 := fF5_b a
  have hf : tPro (fF3 a) < 19 ∧ 0 ≤ tPro (fF3 a) ∧ tPro (fF3 a) ≤ 28 ∧ aluT (tPro (fF3 a)) = fF3 a * 4096 + 33554432 := by
    rcases eight h3 with q | q | q | q | q | q | q | q <;> rw [q] at hn ⊢ <;> first | exact absurd rfl hn | exact ⟨by decide, by decide, by decide, rfl⟩
  rw [show wordX ⟨8, (tPro (fF3 a)), (fRd a), (fRs1 a), (fRs2 a), 0, 0, false⟩ = bits .or .u32 (bits .or .u32 (51) (aluT (tPro (fF3 a)))) (bits .or .u32 (bits .or .u32 (at2 (fRd a) 32 128) (at2 (fRs1 a) 32 32768)) (at2 (fRs2 a) 32 1048576)) from if_neg (show ¬ 19 ≤ tPro (fF3 a) by omega)]
  rw [(in_R0 (fRd a) (fRs1 a) (fRs2 a)).1]
  rw [(s3 (show In (51 : Int) 51 from In.lit 51) (in_alu _ hf.2.1 hf.2.2.1) (in_R0 _ _ _).2 (by decide)).1]
  rw [hf.2.2.2, at_reg _ hr, at_reg _ hs, at_reg _ ht]
  try unfold fOp at *
  try unfold fRd at *
  try unfold fF3 at *
  try unfold fRs1 at *
  try unfold fRs2 at *
  try unfold fF7 at *
  try unfold fF6 at *
  try unfold fF5 at *
  try unfold fSh at *
  try unfold fCs at *
  omega
theorem wd_59_0 (a : Int) (h0 : 0 ≤ a) (h1 : a < 4294967296) (ho : fOp a = 59) (hq : fF7 a = 0) (hn : tBasW (fF3 a) ≠ 0) : wordX ⟨8, (tBasW (fF3 a)), (fRd a), (fRs1 a), (fRs2 a), 0, 0, false⟩ = a := by
  have hr := fRd_b a
  have hs := fRs1_b a
  have ht := fRs2_b a
  have h3 := fF3_b a
  have h7 := fF7_b a
  have h6 := fF6_b a
  have h5 := fF5_b a
  have hf : 19 ≤ tBasW (fF3 a) ∧ 0 ≤ tBasW (fF3 a) ∧ tBasW (fF3 a) ≤ 28 ∧ aluT (tBasW (fF3 a)) = fF3 a * 4096 + 0 := by
    rcases eight h3 with q | q | q | q | q | q | q | q <;> rw [q] at hn ⊢ <;> first | exact absurd rfl hn | exact ⟨by decide, by decide, by decide, rfl⟩
  rw [show wordX ⟨8, (tBasW (fF3 a)), (fRd a), (fRs1 a), (fRs2 a), 0, 0, false⟩ = bits .or .u32 (bits .or .u32 (59) (aluT (tBasW (fF3 a)))) (bits .or .u32 (bits .or .u32 (at2 (fRd a) 32 128) (at2 (fRs1 a) 32 32768)) (at2 (fRs2 a) 32 1048576)) from if_pos hf.1]
  rw [(in_R0 (fRd a) (fRs1 a) (fRs2 a)).1]
  rw [(s3 (show In (59 : Int) 59 from In.lit 59) (in_alu _ hf.2.1 hf.2.2.1) (in_R0 _ _ _).2 (by decide)).1]
  rw [hf.2.2.2, at_reg _ hr, at_reg _ hs, at_reg _ ht]
  try unfold fOp at *
  try unfold fRd at *
  try unfold fF3 at *
  try unfold fRs1 at *
  try unfold fRs2 at *
  try unfold fF7 at *
  try unfold fF6 at *
  try unfold fF5 at *
  try unfold fSh at *
  try unfold fCs at *
  omega
theorem wd_59_32 (a : Int) (h0 : 0 ≤ a) (h1 : a < 4294967296) (ho : fOp a = 59) (hq : fF7 a = 32) (hn : tAltW (fF3 a) ≠ 0) : wordX ⟨8, (tAltW (fF3 a)), (fRd a), (fRs1 a), (fRs2 a), 0, 0, false⟩ = a := by
  have hr := fRd_b a
  have hs := fRs1_b a
  have ht := fRs2_b a
  have h3 := fF3_b a
  have h7 := fF7_b a
  have h6 := fF6_b a
  have h5 := fF5_b a
  have hf : 19 ≤ tAltW (fF3 a) ∧ 0 ≤ tAltW (fF3 a) ∧ tAltW (fF3 a) ≤ 28 ∧ aluT (tAltW (fF3 a)) = fF3 a * 4096 + 1073741824 := by
    rcases eight h3 with q | q | q | q | q | q | q | q <;> rw [q] at hn ⊢ <;> first | exact absurd rfl hn | exact ⟨by decide, by decide, by decide, rfl⟩
  rw [show wordX ⟨8, (tAltW (fF3 a)), (fRd a), (fRs1 a), (fRs2 a), 0, 0, false⟩ = bits .or .u32 (bits .or .u32 (59) (aluT (tAltW (fF3 a)))) (bits .or .u32 (bits .or .u32 (at2 (fRd a) 32 128) (at2 (fRs1 a) 32 32768)) (at2 (fRs2 a) 32 1048576)) from if_pos hf.1]
  rw [(in_R0 (fRd a) (fRs1 a) (fRs2 a)).1]
  rw [(s3 (show In (59 : Int) 59 from In.lit 59) (in_alu _ hf.2.1 hf.2.2.1) (in_R0 _ _ _).2 (by decide)).1]
  rw [hf.2.2.2, at_reg _ hr, at_reg _ hs, at_reg _ ht]
  try unfold fOp at *
  try unfold fRd at *
  try unfold fF3 at *
  try unfold fRs1 at *
  try unfold fRs2 at *
  try unfold fF7 at *
  try unfold fF6 at *
  try unfold fF5 at *
  try unfold fSh at *
  try unfold fCs at *
  omega
theorem wd_59_1 (a : Int) (h0 : 0 ≤ a) (h1 : a < 4294967296) (ho : fOp a = 59) (hq : fF7 a = 1) (hn : tProW (fF3 a) ≠ 0) : wordX ⟨8, (tProW (fF3 a)), (fRd a), (fRs1 a), (fRs2 a), 0, 0, false⟩ = a := by
  have hr := fRd_b a
  have hs := fRs1_b a
  have ht := fRs2_b a
  have h3 := fF3_b a
  have h7 := fF7_b a
  have h6 := fF6_b a
  have h5 := fF5_b a
  have hf : 19 ≤ tProW (fF3 a) ∧ 0 ≤ tProW (fF3 a) ∧ tProW (fF3 a) ≤ 28 ∧ aluT (tProW (fF3 a)) = fF3 a * 4096 + 33554432 := by
    rcases eight h3 with q | q | q | q | q | q | q | q <;> rw [q] at hn ⊢ <;> first | exact absurd rfl hn | exact ⟨by decide, by decide, by decide, rfl⟩
  rw [show wordX ⟨8, (tProW (fF3 a)), (fRd a), (fRs1 a), (fRs2 a), 0, 0, false⟩ = bits .or .u32 (bits .or .u32 (59) (aluT (tProW (fF3 a)))) (bits .or .u32 (bits .or .u32 (at2 (fRd a) 32 128) (at2 (fRs1 a) 32 32768)) (at2 (fRs2 a) 32 1048576)) from if_pos hf.1]
  rw [(in_R0 (fRd a) (fRs1 a) (fRs2 a)).1]
  rw [(s3 (show In (59 : Int) 59 from In.lit 59) (in_alu _ hf.2.1 hf.2.2.1) (in_R0 _ _ _).2 (by decide)).1]
  rw [hf.2.2.2, at_reg _ hr, at_reg _ hs, at_reg _ ht]
  try unfold fOp at *
  try unfold fRd at *
  try unfold fF3 at *
  try unfold fRs1 at *
  try unfold fRs2 at *
  try unfold fF7 at *
  try unfold fF6 at *
  try unfold fF5 at *
  try unfold fSh at *
  try unfold fCs at *
  omega
theorem wd_csr1 (a : Int) (h0 : 0 ≤ a) (h1 : a < 4294967296) (ho : fOp a = 115) (hf : fF3 a = 1) : wordX ⟨13, 1, (fRd a), (fRs1 a), 0, (fCs a), 0, false⟩ = a := by
  have hr := fRd_b a
  have hs := fRs1_b a
  have ht := fRs2_b a
  have h3 := fF3_b a
  have h7 := fF7_b a
  have h6 := fF6_b a
  have h5 := fF5_b a
  rw [show wordX ⟨13, 1, (fRd a), (fRs1 a), 0, (fCs a), 0, false⟩ = bits .or .u32 (bits .or .u32 (bits .or .u32 (bits .or .u32 (115) (at2 1 4 4096)) (at2 (fRd a) 32 128)) (at2 (fRs1 a) 32 32768)) (at2 (fCs a) 4096 1048576) from rfl]
  have hi : at2 (fCs a) 4096 1048576 = fCs a * 1048576 := by have := fCs_b a; unfold at2; omega
  have hc : at2 1 4 4096 = 4096 := rfl
  rw [(s5 (show In (115 : Int) 115 from In.lit 115) (ia_2_12 _) (ia_5_7 _) (ia_5_15 _) (ia_12_20 _) (by decide)).1]
  rw [hi, hc, at_reg _ hr, at_reg _ hs]
  try unfold fOp at *
  try unfold fRd at *
  try unfold fF3 at *
  try unfold fRs1 at *
  try unfold fRs2 at *
  try unfold fF7 at *
  try unfold fF6 at *
  try unfold fF5 at *
  try unfold fSh at *
  try unfold fCs at *
  omega
theorem wd_csr2 (a : Int) (h0 : 0 ≤ a) (h1 : a < 4294967296) (ho : fOp a = 115) (hf : fF3 a = 2) : wordX ⟨13, 2, (fRd a), (fRs1 a), 0, (fCs a), 0, false⟩ = a := by
  have hr := fRd_b a
  have hs := fRs1_b a
  have ht := fRs2_b a
  have h3 := fF3_b a
  have h7 := fF7_b a
  have h6 := fF6_b a
  have h5 := fF5_b a
  rw [show wordX ⟨13, 2, (fRd a), (fRs1 a), 0, (fCs a), 0, false⟩ = bits .or .u32 (bits .or .u32 (bits .or .u32 (bits .or .u32 (115) (at2 2 4 4096)) (at2 (fRd a) 32 128)) (at2 (fRs1 a) 32 32768)) (at2 (fCs a) 4096 1048576) from rfl]
  have hi : at2 (fCs a) 4096 1048576 = fCs a * 1048576 := by have := fCs_b a; unfold at2; omega
  have hc : at2 2 4 4096 = 8192 := rfl
  rw [(s5 (show In (115 : Int) 115 from In.lit 115) (ia_2_12 _) (ia_5_7 _) (ia_5_15 _) (ia_12_20 _) (by decide)).1]
  rw [hi, hc, at_reg _ hr, at_reg _ hs]
  try unfold fOp at *
  try unfold fRd at *
  try unfold fF3 at *
  try unfold fRs1 at *
  try unfold fRs2 at *
  try unfold fF7 at *
  try unfold fF6 at *
  try unfold fF5 at *
  try unfold fSh at *
  try unfold fCs at *
  omega
theorem wd_csr3 (a : Int) (h0 : 0 ≤ a) (h1 : a < 4294967296) (ho : fOp a = 115) (hf : fF3 a = 3) : wordX ⟨13, 3, (fRd a), (fRs1 a), 0, (fCs a), 0, false⟩ = a := by
  have hr := fRd_b a
  have hs := fRs1_b a
  have ht := fRs2_b a
  have h3 := fF3_b a
  have h7 := fF7_b a
  have h6 := fF6_b a
  have h5 := fF5_b a
  rw [show wordX ⟨13, 3, (fRd a), (fRs1 a), 0, (fCs a), 0, false⟩ = bits .or .u32 (bits .or .u32 (bits .or .u32 (bits .or .u32 (115) (at2 3 4 4096)) (at2 (fRd a) 32 128)) (at2 (fRs1 a) 32 32768)) (at2 (fCs a) 4096 1048576) from rfl]
  have hi : at2 (fCs a) 4096 1048576 = fCs a * 1048576 := by have := fCs_b a; unfold at2; omega
  have hc : at2 3 4 4096 = 12288 := rfl
  rw [(s5 (show In (115 : Int) 115 from In.lit 115) (ia_2_12 _) (ia_5_7 _) (ia_5_15 _) (ia_12_20 _) (by decide)).1]
  rw [hi, hc, at_reg _ hr, at_reg _ hs]
  try unfold fOp at *
  try unfold fRd at *
  try unfold fF3 at *
  try unfold fRs1 at *
  try unfold fRs2 at *
  try unfold fF7 at *
  try unfold fF6 at *
  try unfold fF5 at *
  try unfold fSh at *
  try unfold fCs at *
  omega
theorem wd_csr5 (a : Int) (h0 : 0 ≤ a) (h1 : a < 4294967296) (ho : fOp a = 115) (hf : fF3 a = 5) : wordX ⟨14, 1, (fRd a), (fRs1 a), 0, (fCs a), 0, false⟩ = a := by
  have hr := fRd_b a
  have hs := fRs1_b a
  have ht := fRs2_b a
  have h3 := fF3_b a
  have h7 := fF7_b a
  have h6 := fF6_b a
  have h5 := fF5_b a
  rw [show wordX ⟨14, 1, (fRd a), (fRs1 a), 0, (fCs a), 0, false⟩ = bits .or .u32 (bits .or .u32 (bits .or .u32 (bits .or .u32 (16499) (at2 1 4 4096)) (at2 (fRd a) 32 128)) (at2 (fRs1 a) 32 32768)) (at2 (fCs a) 4096 1048576) from rfl]
  have hi : at2 (fCs a) 4096 1048576 = fCs a * 1048576 := by have := fCs_b a; unfold at2; omega
  have hc : at2 1 4 4096 = 4096 := rfl
  rw [(s5 (show In (16499 : Int) 16499 from In.lit 16499) (ia_2_12 _) (ia_5_7 _) (ia_5_15 _) (ia_12_20 _) (by decide)).1]
  rw [hi, hc, at_reg _ hr, at_reg _ hs]
  try unfold fOp at *
  try unfold fRd at *
  try unfold fF3 at *
  try unfold fRs1 at *
  try unfold fRs2 at *
  try unfold fF7 at *
  try unfold fF6 at *
  try unfold fF5 at *
  try unfold fSh at *
  try unfold fCs at *
  omega
theorem wd_csr6 (a : Int) (h0 : 0 ≤ a) (h1 : a < 4294967296) (ho : fOp a = 115) (hf : fF3 a = 6) : wordX ⟨14, 2, (fRd a), (fRs1 a), 0, (fCs a), 0, false⟩ = a := by
  have hr := fRd_b a
  have hs := fRs1_b a
  have ht := fRs2_b a
  have h3 := fF3_b a
  have h7 := fF7_b a
  have h6 := fF6_b a
  have h5 := fF5_b a
  rw [show wordX ⟨14, 2, (fRd a), (fRs1 a), 0, (fCs a), 0, false⟩ = bits .or .u32 (bits .or .u32 (bits .or .u32 (bits .or .u32 (16499) (at2 2 4 4096)) (at2 (fRd a) 32 128)) (at2 (fRs1 a) 32 32768)) (at2 (fCs a) 4096 1048576) from rfl]
  have hi : at2 (fCs a) 4096 1048576 = fCs a * 1048576 := by have := fCs_b a; unfold at2; omega
  have hc : at2 2 4 4096 = 8192 := rfl
  rw [(s5 (show In (16499 : Int) 16499 from In.lit 16499) (ia_2_12 _) (ia_5_7 _) (ia_5_15 _) (ia_12_20 _) (by decide)).1]
  rw [hi, hc, at_reg _ hr, at_reg _ hs]
  try unfold fOp at *
  try unfold fRd at *
  try unfold fF3 at *
  try unfold fRs1 at *
  try unfold fRs2 at *
  try unfold fF7 at *
  try unfold fF6 at *
  try unfold fF5 at *
  try unfold fSh at *
  try unfold fCs at *
  omega
theorem wd_csr7 (a : Int) (h0 : 0 ≤ a) (h1 : a < 4294967296) (ho : fOp a = 115) (hf : fF3 a = 7) : wordX ⟨14, 3, (fRd a), (fRs1 a), 0, (fCs a), 0, false⟩ = a := by
  have hr := fRd_b a
  have hs := fRs1_b a
  have ht := fRs2_b a
  have h3 := fF3_b a
  have h7 := fF7_b a
  have h6 := fF6_b a
  have h5 := fF5_b a
  rw [show wordX ⟨14, 3, (fRd a), (fRs1 a), 0, (fCs a), 0, false⟩ = bits .or .u32 (bits .or .u32 (bits .or .u32 (bits .or .u32 (16499) (at2 3 4 4096)) (at2 (fRd a) 32 128)) (at2 (fRs1 a) 32 32768)) (at2 (fCs a) 4096 1048576) from rfl]
  have hi : at2 (fCs a) 4096 1048576 = fCs a * 1048576 := by have := fCs_b a; unfold at2; omega
  have hc : at2 3 4 4096 = 12288 := rfl
  rw [(s5 (show In (16499 : Int) 16499 from In.lit 16499) (ia_2_12 _) (ia_5_7 _) (ia_5_15 _) (ia_12_20 _) (by decide)).1]
  rw [hi, hc, at_reg _ hr, at_reg _ hs]
  try unfold fOp at *
  try unfold fRd at *
  try unfold fF3 at *
  try unfold fRs1 at *
  try unfold fRs2 at *
  try unfold fF7 at *
  try unfold fF6 at *
  try unfold fF5 at *
  try unfold fSh at *
  try unfold fCs at *
  omega
theorem wd_sfence (a : Int) (h0 : 0 ≤ a) (h1 : a < 4294967296) (ho : fOp a = 115) (hf : fF3 a = 0) (hz : fF7 a = 9) (hd : fRd a = 0) : wordX ⟨20, 0, 0, (fRs1 a), (fRs2 a), 0, 0, false⟩ = a := by
  have hr := fRd_b a
  have hs := fRs1_b a
  have ht := fRs2_b a
  have h3 := fF3_b a
  have h7 := fF7_b a
  have h6 := fF6_b a
  have h5 := fF5_b a
  rw [show wordX ⟨20, 0, 0, (fRs1 a), (fRs2 a), 0, 0, false⟩ = bits .or .u32 (bits .or .u32 (301990003) (at2 (fRs1 a) 32 32768)) (at2 (fRs2 a) 32 1048576) from rfl]
  rw [(s3 (show In (301990003 : Int) 301990003 from In.lit 301990003) (ia_5_15 _) (ia_5_20 _) (by decide)).1]
  rw [at_reg _ hs, at_reg _ ht]
  try unfold fOp at *
  try unfold fRd at *
  try unfold fF3 at *
  try unfold fRs1 at *
  try unfold fRs2 at *
  try unfold fF7 at *
  try unfold fF6 at *
  try unfold fF5 at *
  try unfold fSh at *
  try unfold fCs at *
  omega
theorem wd_lr (a : Int) (h0 : 0 ≤ a) (h1 : a < 4294967296) (ho : fOp a = 47) (hn : tWid (fF3 a) ≠ 0) (hq : fF5 a = 2) (hz : fRs2 a = 0) : wordX ⟨15, 0, (fRd a), (fRs1 a), 0, 0, (tWid (fF3 a)), false⟩ = clr a := by
  have hr := fRd_b a
  have hs := fRs1_b a
  have ht := fRs2_b a
  have h3 := fF3_b a
  have h7 := fF7_b a
  have h6 := fF6_b a
  have h5 := fF5_b a
  rw [show wordX ⟨15, 0, (fRd a), (fRs1 a), 0, 0, (tWid (fF3 a)), false⟩ = bits .or .u32 (bits .or .u32 (bits .or .u32 (268435503) (szS (tWid (fF3 a)) * 4096)) (at2 (fRd a) 32 128)) (at2 (fRs1 a) 32 32768) from rfl]
  have hc : szS (tWid (fF3 a)) = fF3 a := by
    rcases eight h3 with q | q | q | q | q | q | q | q <;> rw [q] at hn ⊢ <;> first | exact absurd rfl hn | rfl
  rw [hc]
  rw [(s4 (show In (268435503 : Int) 268435503 from In.lit 268435503) (in_sz _ h3.1 (by omega)) (ia_5_7 _) (ia_5_15 _) (by decide)).1]
  rw [at_reg _ hr, at_reg _ hs]
  unfold clr
  try unfold fOp at *
  try unfold fRd at *
  try unfold fF3 at *
  try unfold fRs1 at *
  try unfold fRs2 at *
  try unfold fF7 at *
  try unfold fF6 at *
  try unfold fF5 at *
  try unfold fSh at *
  try unfold fCs at *
  omega
theorem wd_sc (a : Int) (h0 : 0 ≤ a) (h1 : a < 4294967296) (ho : fOp a = 47) (hn : tWid (fF3 a) ≠ 0) (hq : fF5 a = 3) : wordX ⟨16, 0, (fRd a), (fRs1 a), (fRs2 a), 0, (tWid (fF3 a)), false⟩ = clr a := by
  have hr := fRd_b a
  have hs := fRs1_b a
  have ht := fRs2_b a
  have h3 := fF3_b a
  have h7 := fF7_b a
  have h6 := fF6_b a
  have h5 := fF5_b a
  rw [show wordX ⟨16, 0, (fRd a), (fRs1 a), (fRs2 a), 0, (tWid (fF3 a)), false⟩ = bits .or .u32 (bits .or .u32 (402653231) (szS (tWid (fF3 a)) * 4096)) (bits .or .u32 (bits .or .u32 (at2 (fRd a) 32 128) (at2 (fRs1 a) 32 32768)) (at2 (fRs2 a) 32 1048576)) from rfl]
  have hc : szS (tWid (fF3 a)) = fF3 a := by
    rcases eight h3 with q | q | q | q | q | q | q | q <;> rw [q] at hn ⊢ <;> first | exact absurd rfl hn | rfl
  rw [hc]
  rw [(in_R0 (fRd a) (fRs1 a) (fRs2 a)).1]
  rw [(s3 (show In (402653231 : Int) 402653231 from In.lit 402653231) (in_sz _ h3.1 (by omega)) (in_R0 _ _ _).2 (by decide)).1]
  rw [at_reg _ hr, at_reg _ hs, at_reg _ ht]
  unfold clr
  try unfold fOp at *
  try unfold fRd at *
  try unfold fF3 at *
  try unfold fRs1 at *
  try unfold fRs2 at *
  try unfold fF7 at *
  try unfold fF6 at *
  try unfold fF5 at *
  try unfold fSh at *
  try unfold fCs at *
  omega
theorem wd_amo (a : Int) (h0 : 0 ≤ a) (h1 : a < 4294967296) (ho : fOp a = 47) (hn : tWid (fF3 a) ≠ 0) (ha : tAto (fF5 a) ≠ 0) : wordX ⟨17, (tAto (fF5 a)), (fRd a), (fRs1 a), (fRs2 a), 0, (tWid (fF3 a)), false⟩ = clr a := by
  have hr := fRd_b a
  have hs := fRs1_b a
  have ht := fRs2_b a
  have h3 := fF3_b a
  have h7 := fF7_b a
  have h6 := fF6_b a
  have h5 := fF5_b a
  rw [show wordX ⟨17, (tAto (fF5 a)), (fRd a), (fRs1 a), (fRs2 a), 0, (tWid (fF3 a)), false⟩ = bits .or .u32 (bits .or .u32 (bits .or .u32 (47) (at2 (fiS (tAto (fF5 a))) 32 134217728)) (szS (tWid (fF3 a)) * 4096)) (bits .or .u32 (bits .or .u32 (at2 (fRd a) 32 128) (at2 (fRs1 a) 32 32768)) (at2 (fRs2 a) 32 1048576)) from rfl]
  have hc : szS (tWid (fF3 a)) = fF3 a := by
    rcases eight h3 with q | q | q | q | q | q | q | q <;> rw [q] at hn ⊢ <;> first | exact absurd rfl hn | rfl
  rw [hc]
  have hz : at2 (fiS (tAto (fF5 a))) 32 134217728 = fF5 a * 134217728 := by
    rcases (by omega : fF5 a = 0 ∨ fF5 a = 1 ∨ fF5 a = 2 ∨ fF5 a = 3 ∨ fF5 a = 4 ∨ fF5 a = 5 ∨ fF5 a = 6 ∨ fF5 a = 7 ∨ fF5 a = 8 ∨ fF5 a = 9 ∨ fF5 a = 10 ∨ fF5 a = 11 ∨ fF5 a = 12 ∨ fF5 a = 13 ∨ fF5 a = 14 ∨ fF5 a = 15 ∨ fF5 a = 16 ∨ fF5 a = 17 ∨ fF5 a = 18 ∨ fF5 a = 19 ∨ fF5 a = 20 ∨ fF5 a = 21 ∨ fF5 a = 22 ∨ fF5 a = 23 ∨ fF5 a = 24 ∨ fF5 a = 25 ∨ fF5 a = 26 ∨ fF5 a = 27 ∨ fF5 a = 28 ∨ fF5 a = 29 ∨ fF5 a = 30 ∨ fF5 a = 31) with q | q | q | q | q | q | q | q | q | q | q | q | q | q | q | q | q | q | q | q | q | q | q | q | q | q | q | q | q | q | q | q <;> rw [q] at ha ⊢ <;> first | exact absurd rfl ha | rfl
  rw [(in_R0 (fRd a) (fRs1 a) (fRs2 a)).1]
  rw [(s4 (show In (47 : Int) 47 from In.lit 47) (ia_5_27 _) (in_sz _ h3.1 (by omega)) (in_R0 _ _ _).2 (by decide)).1]
  rw [hz, at_reg _ hr, at_reg _ hs, at_reg _ ht]
  unfold clr
  try unfold fOp at *
  try unfold fRd at *
  try unfold fF3 at *
  try unfold fRs1 at *
  try unfold fRs2 at *
  try unfold fF7 at *
  try unfold fF6 at *
  try unfold fF5 at *
  try unfold fSh at *
  try unfold fCs at *
  omega
end Go.Proofs.YtlfdokkopgmfjaaGreatDoor.B
namespace Go.Proofs.YtlfdokkopgmfjaaGreatDoor.B
open Go.RowKit
set_option linter.unusedVariables false
set_option maxRecDepth 100000
theorem wb_of {a x : Int} {i : I} (e : (D a).1 = i) (p : wordX i = x) (q : draftF i = x) : wordX (D a).1 = draftF (D a).1 := by rw [e, p, q]
theorem wk_19 (a : Int) (h0 : 0 ≤ a) (h1 : a < 4294967296) (ho : fOp a = 19) (h : (D a).2 = true) : wordX (D a).1 = draftF (D a).1 := by
  rw [D_19 a ho] at h
  obtain ⟨p, e⟩ := withF_ok h
  obtain ⟨hn, hi⟩ := onl_ok p
  have hi' : (nImm a).1 = _ := hi
  cases hh : shf a
  · have hf := shf_f hh
    have e1 : fnImm a = tBas (fF3 a) := by unfold fnImm; rw [hh]; rfl
    have e2 : iOpnd a = iI a := by unfold iOpnd; rw [hh]; rfl
    rw [e1] at hn hi'
    exact wb_of (by rw [D_19 a ho, e, hi', e2]) (wd_imm a h0 h1 ho hf.1 hf.2) (dr_imm a h0 h1 ho hf.1 hf.2)
  · have hf := shf_t hh
    have e1 : fnImm a = chos (fF6 a * 2) (tBas (fF3 a)) (tAlt (fF3 a)) 0 := by unfold fnImm; rw [hh]; rfl
    have e2 : iOpnd a = fSh a := by unfold iOpnd; rw [hh]; rfl
    rw [e1] at hn hi'
    have d := dr_sh a h0 h1 ho hf hn
    rcases chos_n hn with ⟨q, n⟩ | ⟨q, n⟩ | ⟨q, n⟩
    · have q6 : fF6 a = 0 := by omega
      rcases hf with f | f
      · have c : chos (fF6 a * 2) (tBas (fF3 a)) (tAlt (fF3 a)) 0 = 3 := by rw [q6, f]; rfl
        rw [c] at d hi'
        exact wb_of (by rw [D_19 a ho, e, hi', e2]) (wd_sll a h0 h1 ho f q6) d
      · have c : chos (fF6 a * 2) (tBas (fF3 a)) (tAlt (fF3 a)) 0 = 7 := by rw [q6, f]; rfl
        rw [c] at d hi'
        exact wb_of (by rw [D_19 a ho, e, hi', e2]) (wd_srl a h0 h1 ho f q6) d
    · have q6 : fF6 a = 16 := by omega
      rcases hf with f | f
      · rw [f] at n; exact absurd rfl n
      · have c : chos (fF6 a * 2) (tBas (fF3 a)) (tAlt (fF3 a)) 0 = 8 := by rw [q6, f]; rfl
        rw [c] at d hi'
        exact wb_of (by rw [D_19 a ho, e, hi', e2]) (wd_sra a h0 h1 ho f q6) d
    · exact absurd rfl n
theorem wk_27 (a : Int) (h0 : 0 ≤ a) (h1 : a < 4294967296) (ho : fOp a = 27) (h : (D a).2 = true) : wordX (D a).1 = draftF (D a).1 := by
  rw [D_27 a ho] at h
  obtain ⟨p, e⟩ := withF_ok h
  obtain ⟨hn, hi⟩ := onl_ok p
  have hi' : (nImmW a).1 = _ := hi
  cases hh : shf a
  · have hf := shf_f hh
    have e1 : fnImmW a = tBasW (fF3 a) := by unfold fnImmW; rw [hh]; rfl
    have e2 : iOpndW a = iI a := by unfold iOpndW; rw [hh]; rfl
    rw [e1] at hn hi'
    have d := dr_immW a h0 h1 ho hf.1 hf.2 hn
    have f : fF3 a = 0 := by
      rcases eight (fF3_b a) with q | q | q | q | q | q | q | q <;> first | exact q | exact absurd q hf.1 | exact absurd q hf.2 | (rw [q] at hn; exact absurd rfl hn)
    have c : tBasW (fF3 a) = 19 := by rw [f]; rfl
    rw [c] at d hi'
    exact wb_of (by rw [D_27 a ho, e, hi', e2]) (wd_immW a h0 h1 ho f) d
  · have hf := shf_t hh
    have e1 : fnImmW a = chos (fF7 a) (tBasW (fF3 a)) (tAltW (fF3 a)) 0 := by unfold fnImmW; rw [hh]; rfl
    have e2 : iOpndW a = fRs2 a := by unfold iOpndW; rw [hh]; rfl
    rw [e1] at hn hi'
    have d := dr_shW a h0 h1 ho hf hn
    rcases chos_n hn with ⟨q, n⟩ | ⟨q, n⟩ | ⟨q, n⟩
    · rcases hf with f | f
      · have c : chos (fF7 a) (tBasW (fF3 a)) (tAltW (fF3 a)) 0 = 21 := by rw [q, f]; rfl
        rw [c] at d hi'
        exact wb_of (by rw [D_27 a ho, e, hi', e2]) (wd_sllw a h0 h1 ho f q) d
      · have c : chos (fF7 a) (tBasW (fF3 a)) (tAltW (fF3 a)) 0 = 22 := by rw [q, f]; rfl
        rw [c] at d hi'
        exact wb_of (by rw [D_27 a ho, e, hi', e2]) (wd_srlw a h0 h1 ho f q) d
    · rcases hf with f | f
      · rw [f] at n; exact absurd rfl n
      · have c : chos (fF7 a) (tBasW (fF3 a)) (tAltW (fF3 a)) 0 = 23 := by rw [q, f]; rfl
        rw [c] at d hi'
        exact wb_of (by rw [D_27 a ho, e, hi', e2]) (wd_sraw a h0 h1 ho f q) d
    · exact absurd rfl n
theorem wk_51 (a : Int) (h0 : 0 ≤ a) (h1 : a < 4294967296) (ho : fOp a = 51) (h : (D a).2 = true) : wordX (D a).1 = draftF (D a).1 := by
  rw [D_51 a ho] at h
  obtain ⟨p, e⟩ := withF_ok h
  obtain ⟨hn, hi⟩ := onl_ok p
  have hi' : (nAlu a).1 = _ := hi
  have e1 : fnAlu a = chos (fF7 a) (tBas (fF3 a)) (tAlt (fF3 a)) (tPro (fF3 a)) := rfl
  rw [e1] at hn hi'
  have d := dr_alu a h0 h1 ho hn
  rcases chos_n hn with ⟨q, n⟩ | ⟨q, n⟩ | ⟨q, n⟩
  · have c : chos (fF7 a) (tBas (fF3 a)) (tAlt (fF3 a)) (tPro (fF3 a)) = tBas (fF3 a) := by unfold chos; rw [if_pos q]
    rw [c] at d hi'
    exact wb_of (by rw [D_51 a ho, e, hi']) (wd_51_0 a h0 h1 ho q n) d
  · have c : chos (fF7 a) (tBas (fF3 a)) (tAlt (fF3 a)) (tPro (fF3 a)) = tAlt (fF3 a) := by unfold chos; rw [if_neg (by omega), if_pos q]
    rw [c] at d hi'
    exact wb_of (by rw [D_51 a ho, e, hi']) (wd_51_32 a h0 h1 ho q n) d
  · have c : chos (fF7 a) (tBas (fF3 a)) (tAlt (fF3 a)) (tPro (fF3 a)) = tPro (fF3 a) := by unfold chos; rw [if_neg (by omega), if_neg (by omega), if_pos q]
    rw [c] at d hi'
    exact wb_of (by rw [D_51 a ho, e, hi']) (wd_51_1 a h0 h1 ho q n) d
theorem wk_59 (a : Int) (h0 : 0 ≤ a) (h1 : a < 4294967296) (ho : fOp a = 59) (h : (D a).2 = true) : wordX (D a).1 = draftF (D a).1 := by
  rw [D_59 a ho] at h
  obtain ⟨p, e⟩ := withF_ok h
  obtain ⟨hn, hi⟩ := onl_ok p
  have hi' : (nAluW a).1 = _ := hi
  have e1 : fnAluW a = chos (fF7 a) (tBasW (fF3 a)) (tAltW (fF3 a)) (tProW (fF3 a)) := rfl
  rw [e1] at hn hi'
  have d := dr_aluW a h0 h1 ho hn
  rcases chos_n hn with ⟨q, n⟩ | ⟨q, n⟩ | ⟨q, n⟩
  · have c : chos (fF7 a) (tBasW (fF3 a)) (tAltW (fF3 a)) (tProW (fF3 a)) = tBasW (fF3 a) := by unfold chos; rw [if_pos q]
    rw [c] at d hi'
    exact wb_of (by rw [D_59 a ho, e, hi']) (wd_59_0 a h0 h1 ho q n) d
  · have c : chos (fF7 a) (tBasW (fF3 a)) (tAltW (fF3 a)) (tProW (fF3 a)) = tAltW (fF3 a) := by unfold chos; rw [if_neg (by omega), if_pos q]
    rw [c] at d hi'
    exact wb_of (by rw [D_59 a ho, e, hi']) (wd_59_32 a h0 h1 ho q n) d
  · have c : chos (fF7 a) (tBasW (fF3 a)) (tAltW (fF3 a)) (tProW (fF3 a)) = tProW (fF3 a) := by unfold chos; rw [if_neg (by omega), if_neg (by omega), if_pos q]
    rw [c] at d hi'
    exact wb_of (by rw [D_59 a ho, e, hi']) (wd_59_1 a h0 h1 ho q n) d
theorem wk_e1 : wordX (D 115).1 = draftF (D 115).1 := by kernel_rfl
theorem wk_e2 : wordX (D 1048691).1 = draftF (D 1048691).1 := by kernel_rfl
theorem wk_e3 : wordX (D 270532723).1 = draftF (D 270532723).1 := by kernel_rfl
theorem wk_e4 : wordX (D 273678451).1 = draftF (D 273678451).1 := by kernel_rfl
theorem wk_f : wordX ⟨10, 0, 0, 0, 0, 0, 0, false⟩ = draftF ⟨10, 0, 0, 0, 0, 0, 0, false⟩ := by kernel_rfl
theorem wk_115 (a : Int) (h0 : 0 ≤ a) (h1 : a < 4294967296) (ho : fOp a = 115) (h : (D a).2 = true) : wordX (D a).1 = draftF (D a).1 := by
  have h3 := fF3_b a
  rw [D_115 a ho] at h
  obtain ⟨p, e⟩ := withF_ok h
  by_cases q : fF3 a = 0
  · by_cases q1 : a = 115
    · subst q1; exact wk_e1
    by_cases q2 : a = 1048691
    · subst q2; exact wk_e2
    by_cases q3 : a = 270532723
    · subst q3; exact wk_e3
    by_cases q4 : a = 273678451
    · subst q4; exact wk_e4
    by_cases q5 : fF7 a = 9 ∧ fRd a = 0
    · have e1 : nSys a = named0 20 := by unfold nSys nPriv; rw [if_pos q, if_neg q1, if_neg q2, if_neg q3, if_neg q4, if_pos q5]
      have e2 : rSpace a = fRs2 a := if_pos ⟨q, q5.1⟩
      have e3 : iCsr a = 0 := if_pos q
      exact wb_of (by rw [D_115 a ho, e, e1, e2, e3, q5.2]; rfl) (wd_sfence a h0 h1 ho q q5.1 q5.2) (dr_sfence a h0 h1 ho q q5.1 q5.2)
    · unfold nSys nPriv at p; rw [if_pos q, if_neg q1, if_neg q2, if_neg q3, if_neg q4, if_neg q5] at p; cases p
  · have e2 : rSpace a = 0 := if_neg (fun x => q x.1)
    have e3 : iCsr a = fCs a := if_neg q
    by_cases q4 : fF3 a < 4
    · have e1 : nSys a = (⟨13, fF3 a, 0, 0, 0, 0, 0, false⟩, true) := by unfold nSys; rw [if_neg q, if_pos q4]
      have d := dr_csr a h0 h1 ho (by omega)
      rcases (by omega : fF3 a = 1 ∨ fF3 a = 2 ∨ fF3 a = 3) with f | f | f <;> rw [f] at d e1
      · exact wb_of (by rw [D_115 a ho, e, e1, e2, e3]) (wd_csr1 a h0 h1 ho f) d
      · exact wb_of (by rw [D_115 a ho, e, e1, e2, e3]) (wd_csr2 a h0 h1 ho f) d
      · exact wb_of (by rw [D_115 a ho, e, e1, e2, e3]) (wd_csr3 a h0 h1 ho f) d
    · by_cases q5 : 4 < fF3 a
      · have e1 : nSys a = (⟨14, fF3 a - 4, 0, 0, 0, 0, 0, false⟩, true) := by unfold nSys; rw [if_neg q, if_neg q4, if_pos q5]
        have d := dr_csrI a h0 h1 ho (by omega)
        rcases (by omega : fF3 a = 5 ∨ fF3 a = 6 ∨ fF3 a = 7) with f | f | f <;> rw [f] at d e1
        · exact wb_of (by rw [D_115 a ho, e, e1, e2, e3]; rfl) (wd_csr5 a h0 h1 ho f) d
        · exact wb_of (by rw [D_115 a ho, e, e1, e2, e3]; rfl) (wd_csr6 a h0 h1 ho f) d
        · exact wb_of (by rw [D_115 a ho, e, e1, e2, e3]; rfl) (wd_csr7 a h0 h1 ho f) d
      · unfold nSys at p; rw [if_neg q, if_neg q4, if_neg q5] at p; cases p
theorem wk_47 (a : Int) (h0 : 0 ≤ a) (h1 : a < 4294967296) (ho : fOp a = 47) (h : (D a).2 = true) : wordX (D a).1 = draftF (D a).1 := by
  have h3 := fF3_b a
  have h5 := fF5_b a
  rw [D_47 a ho] at h
  obtain ⟨p, e⟩ := withF_ok h
  rw [D_47 a ho, e]
  by_cases q : tAto (fF5 a) = 0
  · by_cases q2 : fF5 a = 2 ∧ fRs2 a = 0
    · have n : nAto a = onl ⟨15, 0, 0, 0, 0, 0, tWid (fF3 a), false⟩ (tWid (fF3 a)) := by unfold nAto; rw [if_pos q, if_pos q2]
      rw [n] at p ⊢
      obtain ⟨hn, hi⟩ := onl_ok p
      rw [hi]
      have d := dr_at a h0 h1 ho ⟨15, 0, fRd a, fRs1 a, fRs2 a, 0, tWid (fF3 a), false⟩ (Or.inl rfl) rfl rfl rfl rfl (by rw [q2.1]; exact b_lr _ h3 hn _ _ _ _)
      have x := wd_lr a h0 h1 ho hn q2.1 q2.2
      show wordX ⟨15, 0, fRd a, fRs1 a, fRs2 a, 0, tWid (fF3 a), false⟩ = draftF ⟨15, 0, fRd a, fRs1 a, fRs2 a, 0, tWid (fF3 a), false⟩
      rw [q2.2] at d ⊢
      rw [d, x]
    · by_cases q3 : fF5 a = 3
      · have n : nAto a = onl ⟨16, 0, 0, 0, 0, 0, tWid (fF3 a), false⟩ (tWid (fF3 a)) := by unfold nAto; rw [if_pos q, if_neg q2, if_pos q3]
        rw [n] at p ⊢
        obtain ⟨hn, hi⟩ := onl_ok p
        rw [hi]
        have d := dr_at a h0 h1 ho ⟨16, 0, fRd a, fRs1 a, fRs2 a, 0, tWid (fF3 a), false⟩ (Or.inr (Or.inl rfl)) rfl rfl rfl rfl (by rw [q3]; exact b_sc _ h3 hn _ _ _ _)
        exact (wd_sc a h0 h1 ho hn q3).trans d.symm
      · unfold nAto at p; rw [if_pos q, if_neg q2, if_neg q3] at p; cases p
  · have n : nAto a = onl ⟨17, tAto (fF5 a), 0, 0, 0, 0, tWid (fF3 a), false⟩ (tWid (fF3 a)) := by unfold nAto; rw [if_neg q]
    rw [n] at p ⊢
    obtain ⟨hn, hi⟩ := onl_ok p
    rw [hi]
    have d := dr_at a h0 h1 ho ⟨17, tAto (fF5 a), fRd a, fRs1 a, fRs2 a, 0, tWid (fF3 a), false⟩ (Or.inr (Or.inr rfl)) rfl rfl rfl rfl (b_amo _ _ h3 hn h5 q _ _ _ _)
    exact (wd_amo a h0 h1 ho hn q).trans d.symm
/-- the reference's word of what is read is the program's draft of it -/
theorem word_back (a : Int) (h0 : 0 ≤ a) (h1 : a < 4294967296) (h : (D a).2 = true) : wordX (D a).1 = draftF (D a).1 := by
  by_cases h55 : fOp a = 55
  · exact wb_of (by rw [D_55 a h55]; rfl) (wd_lui a h0 h1 h55) (dr_lui a h0 h1 h55)
  by_cases h23 : fOp a = 23
  · exact wb_of (by rw [D_23 a h23]; rfl) (wd_auipc a h0 h1 h23) (dr_auipc a h0 h1 h23)
  by_cases h19 : fOp a = 19
  · exact wk_19 a h0 h1 h19 h
  by_cases h27 : fOp a = 27
  · exact wk_27 a h0 h1 h27 h
  by_cases h51 : fOp a = 51
  · exact wk_51 a h0 h1 h51 h
  by_cases h59 : fOp a = 59
  · exact wk_59 a h0 h1 h59 h
  by_cases h115 : fOp a = 115
  · exact wk_115 a h0 h1 h115 h
  by_cases h111 : fOp a = 111
  · exact wb_of (by rw [D_111 a h111]; rfl) (wd_jal a h0 h1 h111) (dr_jal a h0 h1 h111)
  by_cases h103 : fOp a = 103
  · by_cases q : fF3 a = 0
    · exact wb_of (by rw [D_103 a h103]; unfold nJalr; rw [if_pos q]; rfl) (wd_jalr a h0 h1 h103 q) (dr_jalr a h0 h1 h103 q)
    · rw [D_103 a h103] at h; unfold nJalr at h; rw [if_neg q] at h; cases h
  by_cases h99 : fOp a = 99
  · rw [D_99 a h99] at h
    obtain ⟨p, e⟩ := withF_ok h
    obtain ⟨hn, hi⟩ := onl_ok p
    have hi' : (nBranch a).1 = _ := hi
    exact wb_of (by rw [D_99 a h99, e, hi'] <;> rfl) (wd_branch a h0 h1 h99 hn) (dr_branch a h0 h1 h99 hn)
  by_cases h3 : fOp a = 3
  · rw [D_3 a h3] at h
    obtain ⟨p, e⟩ := withF_ok h
    obtain ⟨hn, hi⟩ := onl_ok p
    have hi' : (nLoad a).1 = _ := hi
    exact wb_of (by rw [D_3 a h3, e, hi'] <;> rfl) (wd_load a h0 h1 h3 hn) (dr_load a h0 h1 h3 hn)
  by_cases h35 : fOp a = 35
  · rw [D_35 a h35] at h
    obtain ⟨p, e⟩ := withF_ok h
    obtain ⟨hn, hi⟩ := onl_ok p
    have hi' : (nStore a).1 = _ := hi
    exact wb_of (by rw [D_35 a h35, e, hi'] <;> rfl) (wd_store a h0 h1 h35 hn) (dr_store a h0 h1 h35 hn)
  by_cases h15 : fOp a = 15
  · by_cases q : fF3 a ≤ 1
    · have e : D a = (⟨10, 0, 0, 0, 0, 0, 0, false⟩, true) := by rw [D_15 a h15]; unfold nFence; rw [if_pos q]; rfl
      rw [e]; exact wk_f
    · rw [D_15 a h15] at h; unfold nFence at h; rw [if_neg q] at h; cases h
  by_cases h47 : fOp a = 47
  · exact wk_47 a h0 h1 h47 h
  rw [D_else a h55 h23 h19 h27 h51 h59 h115 h111 h103 h99 h3 h35 h15 h47] at h; cases h
def B32 (x : Int) : Prop := 0 ≤ x ∧ x < 4294967296
theorem ite_b {c : Prop} [Decidable c] {x y : Int} (hx : B32 x) (hy : B32 y) : B32 (if c then x else y) := by split; exact hx; exact hy
theorem wordX_b (i : I) : 0 ≤ wordX i ∧ wordX i < 4294967296 := by
  show B32 (wordX i)
  unfold wordX
  repeat' (first | exact or32_b _ _ | apply ite_b)
  all_goals exact ⟨by decide, by decide⟩
theorem nPriv_fn (a : Int) : (nPriv a).1.fn = 0 := by
  unfold nPriv
  repeat' split
  all_goals rfl
/-! the operation's number of what is read -/
def FnB (n : Int) : Prop := 0 ≤ n ∧ n ≤ 28
theorem chos_b {f p o t : Int} (hp : FnB p) (ho : FnB o) (ht : FnB t) : FnB (chos f p o t) := by
  unfold chos; repeat' split
  · exact hp
  · exact ho
  · exact ht
  · exact ⟨by decide, by decide⟩
theorem fb0 : FnB 0 := ⟨by decide, by decide⟩
theorem fb_tCond (a : Int) : FnB (tCond (fF3 a)) := by
  rcases eight (fF3_b a) with h | h | h | h | h | h | h | h <;> rw [h] <;> exact ⟨by decide, by decide⟩
theorem fb_tBas (a : Int) : FnB (tBas (fF3 a)) := by
  rcases eight (fF3_b a) with h | h | h | h | h | h | h | h <;> rw [h] <;> exact ⟨by decide, by decide⟩
theorem fb_tAlt (a : Int) : FnB (tAlt (fF3 a)) := by
  rcases eight (fF3_b a) with h | h | h | h | h | h | h | h <;> rw [h] <;> exact ⟨by decide, by decide⟩
theorem fb_tPro (a : Int) : FnB (tPro (fF3 a)) := by
  rcases eight (fF3_b a) with h | h | h | h | h | h | h | h <;> rw [h] <;> exact ⟨by decide, by decide⟩
theorem fb_tBasW (a : Int) : FnB (tBasW (fF3 a)) := by
  rcases eight (fF3_b a) with h | h | h | h | h | h | h | h <;> rw [h] <;> exact ⟨by decide, by decide⟩
theorem fb_tAltW (a : Int) : FnB (tAltW (fF3 a)) := by
  rcases eight (fF3_b a) with h | h | h | h | h | h | h | h <;> rw [h] <;> exact ⟨by decide, by decide⟩
theorem fb_tProW (a : Int) : FnB (tProW (fF3 a)) := by
  rcases eight (fF3_b a) with h | h | h | h | h | h | h | h <;> rw [h] <;> exact ⟨by decide, by decide⟩
theorem fb_tAto (a : Int) : FnB (tAto (fF5 a)) := by
  have hb := fF5_b a
  rcases (by omega : fF5 a = 0 ∨ fF5 a = 1 ∨ fF5 a = 2 ∨ fF5 a = 3 ∨ fF5 a = 4 ∨ fF5 a = 5 ∨ fF5 a = 6 ∨ fF5 a = 7 ∨ fF5 a = 8 ∨ fF5 a = 9 ∨ fF5 a = 10 ∨ fF5 a = 11 ∨ fF5 a = 12 ∨ fF5 a = 13 ∨ fF5 a = 14 ∨ fF5 a = 15 ∨ fF5 a = 16 ∨ fF5 a = 17 ∨ fF5 a = 18 ∨ fF5 a = 19 ∨ fF5 a = 20 ∨ fF5 a = 21 ∨ fF5 a = 22 ∨ fF5 a = 23 ∨ fF5 a = 24 ∨ fF5 a = 25 ∨ fF5 a = 26 ∨ fF5 a = 27 ∨ fF5 a = 28 ∨ fF5 a = 29 ∨ fF5 a = 30 ∨ fF5 a = 31) with h | h | h | h | h | h | h | h | h | h | h | h | h | h | h | h | h | h | h | h | h | h | h | h | h | h | h | h | h | h | h | h <;> rw [h] <;> exact ⟨by decide, by decide⟩
theorem D_fn (a : Int) (h : (D a).2 = true) : FnB (D a).1.fn := by
  by_cases h55 : fOp a = 55
  · rw [D_55 a h55]; exact fb0
  by_cases h23 : fOp a = 23
  · rw [D_23 a h23]; exact fb0
  by_cases h19 : fOp a = 19
  · rw [D_19 a h19] at *; obtain ⟨p, e⟩ := withF_ok h; obtain ⟨hn, hi⟩ := onl_ok p; have hi' : (nImm a).1 = _ := hi
    rw [e, hi']; show FnB (fnImm a); unfold fnImm; split
    · exact chos_b (fb_tBas a) (fb_tAlt a) fb0
    · exact fb_tBas a
  by_cases h27 : fOp a = 27
  · rw [D_27 a h27] at *; obtain ⟨p, e⟩ := withF_ok h; obtain ⟨hn, hi⟩ := onl_ok p; have hi' : (nImmW a).1 = _ := hi
    rw [e, hi']; show FnB (fnImmW a); unfold fnImmW; split
    · exact chos_b (fb_tBasW a) (fb_tAltW a) fb0
    · exact fb_tBasW a
  by_cases h51 : fOp a = 51
  · rw [D_51 a h51] at *; obtain ⟨p, e⟩ := withF_ok h; obtain ⟨hn, hi⟩ := onl_ok p; have hi' : (nAlu a).1 = _ := hi
    rw [e, hi']; exact chos_b (fb_tBas a) (fb_tAlt a) (fb_tPro a)
  by_cases h59 : fOp a = 59
  · rw [D_59 a h59] at *; obtain ⟨p, e⟩ := withF_ok h; obtain ⟨hn, hi⟩ := onl_ok p; have hi' : (nAluW a).1 = _ := hi
    rw [e, hi']; exact chos_b (fb_tBasW a) (fb_tAltW a) (fb_tProW a)
  by_cases h115 : fOp a = 115
  · rw [D_115 a h115] at *; obtain ⟨p, e⟩ := withF_ok h
    rw [e]; show FnB (nSys a).1.fn
    have h3 := fF3_b a
    unfold nSys
    by_cases q : fF3 a = 0
    · rw [if_pos q, nPriv_fn]; exact fb0
    rw [if_neg q]
    by_cases q4 : fF3 a < 4
    · rw [if_pos q4]; exact ⟨by show 0 ≤ fF3 a; omega, by show fF3 a ≤ 28; omega⟩
    rw [if_neg q4]
    by_cases q5 : 4 < fF3 a
    · rw [if_pos q5]; exact ⟨by show 0 ≤ fF3 a - 4; omega, by show fF3 a - 4 ≤ 28; omega⟩
    · rw [if_neg q5]; exact fb0
  by_cases h111 : fOp a = 111
  · rw [D_111 a h111]; exact fb0
  by_cases h103 : fOp a = 103
  · rw [D_103 a h103] at *; obtain ⟨p, e⟩ := withF_ok h
    rw [e]; show FnB (nJalr a).1.fn
    unfold nJalr at *; split at p
    · rename_i q; rw [if_pos q]; exact fb0
    · cases p
  by_cases h99 : fOp a = 99
  · rw [D_99 a h99] at *; obtain ⟨p, e⟩ := withF_ok h; obtain ⟨hn, hi⟩ := onl_ok p; have hi' : (nBranch a).1 = _ := hi
    rw [e, hi']; exact fb_tCond a
  by_cases h3 : fOp a = 3
  · rw [D_3 a h3] at *; obtain ⟨p, e⟩ := withF_ok h; obtain ⟨hn, hi⟩ := onl_ok p; have hi' : (nLoad a).1 = _ := hi
    rw [e, hi']; exact fb0
  by_cases h35 : fOp a = 35
  · rw [D_35 a h35] at *; obtain ⟨p, e⟩ := withF_ok h; obtain ⟨hn, hi⟩ := onl_ok p; have hi' : (nStore a).1 = _ := hi
    rw [e, hi']; exact fb0
  by_cases h15 : fOp a = 15
  · rw [D_15 a h15] at *; obtain ⟨p, e⟩ := withF_ok h
    rw [e]; show FnB (nFence a).1.fn
    unfold nFence at *; split at p
    · rename_i q; rw [if_pos q]; exact fb0
    · cases p
  by_cases h47 : fOp a = 47
  · rw [D_47 a h47] at *; obtain ⟨p, e⟩ := withF_ok h
    rw [e]; show FnB (nAto a).1.fn
    unfold nAto at *
    by_cases q : tAto (fF5 a) = 0
    · rw [if_pos q] at *
      by_cases q2 : fF5 a = 2 ∧ fRs2 a = 0
      · rw [if_pos q2] at *; rw [(onl_ok p).2]; exact fb0
      · rw [if_neg q2] at *
        by_cases q3 : fF5 a = 3
        · rw [if_pos q3] at *; rw [(onl_ok p).2]; exact fb0
        · rw [if_neg q3] at p; cases p
    · rw [if_neg q] at *; rw [(onl_ok p).2]; exact fb_tAto a
  rw [D_else a h55 h23 h19 h27 h51 h59 h115 h111 h103 h99 h3 h35 h15 h47] at h; cases h
/-- what may be written -/
structure Rg (i : I) : Prop where
  m0 : -2147483648 ≤ i.imm
  m1 : i.imm < 2147483648
  rd : inb i.rd 0 31 = true
  rs1 : inb i.rs1 0 31 = true
  rs2 : inb i.rs2 0 31 = true
  fn : inb i.fn 0 28 = true
  sz : inb i.size 0 8 = true
theorem inb_t {v l h : Int} (p : l ≤ v) (q : v ≤ h) : inb v l h = true := by unfold inb; rw [decide_eq_true p, decide_eq_true q]; rfl
theorem inb_o {v l h : Int} (p : inb v l h = true) : l ≤ v ∧ v ≤ h := by
  unfold inb at p; simpa using p
theorem enc_no' {i : I} (h : (encF i).2 = false) : encF i = (0, false) := by
  unfold encF at *
  by_cases q : (D (draftF i)).2 = true ∧ eqI (D (draftF i)).1 i = true
  · rw [if_pos q] at h; cases h
  · rw [if_neg q]
theorem enc_yes' {i : I} (h : (encF i).2 = true) : encF i = (draftF i, true) ∧ (D (draftF i)).2 = true ∧ (D (draftF i)).1 = i := by
  unfold encF at *
  by_cases q : (D (draftF i)).2 = true ∧ eqI (D (draftF i)).1 i = true
  · rw [if_pos q]; exact ⟨rfl, q.1, (eqI_iff _ _).1 q.2⟩
  · rw [if_neg q] at h; cases h
theorem enc_rg {i : I} (h : (encF i).2 = true) : Rg i := by
  obtain ⟨_, h2, h3⟩ := enc_yes' h
  obtain ⟨d0, d1⟩ := draftF_b i
  have f := D_fok _ d0 d1 h2
  have n := D_fn _ h2
  rw [h3] at f n
  have hz := f.size
  unfold szOK at hz
  have hu := f.immU; have hj := f.immJ; have hb := f.immB; have hs := f.imm
  exact ⟨by omega, by omega, inb_t f.rd.1 f.rd.2, inb_t f.rs1.1 f.rs1.2, inb_t f.rs2.1 f.rs2.2, inb_t n.1 n.2, inb_t (by omega) (by omega)⟩
theorem enc_out {i : I} (h : ¬ Rg i) : encF i = (0, false) := by
  cases q : (encF i).2
  · exact enc_no' q
  · exact absurd (enc_rg q) h
theorem enc_hit {i : I} (h : (D (wordX i)).2 = true) (q : eqI (D (wordX i)).1 i = true) : encF i = (wordX i, true) := by
  obtain ⟨x0, x1⟩ := wordX_b i
  have e := (eqI_iff _ _).1 q
  have b := word_back _ x0 x1 h
  have c := enc_back _ x0 x1 h
  rw [e] at b c
  rw [c, b]
theorem enc_miss {i : I} (h : ¬ ((D (wordX i)).2 = true ∧ eqI (D (wordX i)).1 i = true)) : encF i = (0, false) := by
  cases q : (encF i).2
  · exact enc_no' q
  · obtain ⟨_, h2, h3⟩ := enc_yes' q
    obtain ⟨d0, d1⟩ := draftF_b i
    have b := word_back _ d0 d1 h2
    rw [h3] at b
    exact absurd ⟨by rw [b]; exact h2, by rw [b]; exact (eqI_iff _ _).2 h3⟩ h
end Go.Proofs.YtlfdokkopgmfjaaGreatDoor.B
namespace Go.Proofs.YtlfdokkopgmfjaaGreatDoor.B
open Go.RowKit
set_option linter.unusedVariables false
set_option maxRecDepth 100000
theorem e_0 (k fn rd r1 r2 im sz : Int) (sg : Bool) (w : World)  (g0 : im < -2147483648) :
    Calls Tryz.prog 62 #[I.v ⟨k, fn, rd, r1, r2, im, sz, sg⟩] w fun e w' => e = .returned (.tuple #[.int .u32 0, .bool false]) ∧ Below w.heap.size w w' := by
  go_enter Tryz.func62, Tryz.ntmps62
  go_wp2_with (first | (go_at_call 84; (with_reducible first | refine (r_in rd 0 31 _).mono ?_ | refine (r_in r1 0 31 _).mono ?_ | refine (r_in r2 0 31 _).mono ?_ | refine (r_in fn 0 28 _).mono ?_ | refine (r_in sz 0 8 _).mono ?_); rintro e w0 ⟨rfl, rfl⟩))
  go_ret2
  exact ⟨rfl, below1 _⟩
theorem e_1 (k fn rd r1 r2 im sz : Int) (sg : Bool) (w : World) (g0 : ¬ im < -2147483648) (g1 : 2147483648 ≤ im) :
    Calls Tryz.prog 62 #[I.v ⟨k, fn, rd, r1, r2, im, sz, sg⟩] w fun e w' => e = .returned (.tuple #[.int .u32 0, .bool false]) ∧ Below w.heap.size w w' := by
  go_enter Tryz.func62, Tryz.ntmps62
  go_wp2_with (first | (go_at_call 84; (with_reducible first | refine (r_in rd 0 31 _).mono ?_ | refine (r_in r1 0 31 _).mono ?_ | refine (r_in r2 0 31 _).mono ?_ | refine (r_in fn 0 28 _).mono ?_ | refine (r_in sz 0 8 _).mono ?_); rintro e w0 ⟨rfl, rfl⟩))
  go_ret2
  exact ⟨rfl, below1 _⟩
theorem e_2 (k fn rd r1 r2 im sz : Int) (sg : Bool) (w : World) (g0 : ¬ im < -2147483648) (g1 : ¬ 2147483648 ≤ im) (g2 : inb rd 0 31 = false) :
    Calls Tryz.prog 62 #[I.v ⟨k, fn, rd, r1, r2, im, sz, sg⟩] w fun e w' => e = .returned (.tuple #[.int .u32 0, .bool false]) ∧ Below w.heap.size w w' := by
  go_enter Tryz.func62, Tryz.ntmps62
  go_wp2_with (first | (go_at_call 84; (with_reducible first | refine (r_in rd 0 31 _).mono ?_ | refine (r_in r1 0 31 _).mono ?_ | refine (r_in r2 0 31 _).mono ?_ | refine (r_in fn 0 28 _).mono ?_ | refine (r_in sz 0 8 _).mono ?_); rintro e w0 ⟨rfl, rfl⟩))
  go_ret2
  exact ⟨rfl, below1 _⟩
theorem e_3 (k fn rd r1 r2 im sz : Int) (sg : Bool) (w : World) (g0 : ¬ im < -2147483648) (g1 : ¬ 2147483648 ≤ im) (g2 : inb rd 0 31 = true) (g3 : inb r1 0 31 = false) :
    Calls Tryz.prog 62 #[I.v ⟨k, fn, rd, r1, r2, im, sz, sg⟩] w fun e w' => e = .returned (.tuple #[.int .u32 0, .bool false]) ∧ Below w.heap.size w w' := by
  go_enter Tryz.func62, Tryz.ntmps62
  go_wp2_with (first | (go_at_call 84; (with_reducible first | refine (r_in rd 0 31 _).mono ?_ | refine (r_in r1 0 31 _).mono ?_ | refine (r_in r2 0 31 _).mono ?_ | refine (r_in fn 0 28 _).mono ?_ | refine (r_in sz 0 8 _).mono ?_); rintro e w0 ⟨rfl, rfl⟩))
  go_ret2
  exact ⟨rfl, below1 _⟩
theorem e_4 (k fn rd r1 r2 im sz : Int) (sg : Bool) (w : World) (g0 : ¬ im < -2147483648) (g1 : ¬ 2147483648 ≤ im) (g2 : inb rd 0 31 = true) (g3 : inb r1 0 31 = true) (g4 : inb r2 0 31 = false) :
    Calls Tryz.prog 62 #[I.v ⟨k, fn, rd, r1, r2, im, sz, sg⟩] w fun e w' => e = .returned (.tuple #[.int .u32 0, .bool false]) ∧ Below w.heap.size w w' := by
  go_enter Tryz.func62, Tryz.ntmps62
  go_wp2_with (first | (go_at_call 84; (with_reducible first | refine (r_in rd 0 31 _).mono ?_ | refine (r_in r1 0 31 _).mono ?_ | refine (r_in r2 0 31 _).mono ?_ | refine (r_in fn 0 28 _).mono ?_ | refine (r_in sz 0 8 _).mono ?_); rintro e w0 ⟨rfl, rfl⟩))
  go_ret2
  exact ⟨rfl, below1 _⟩
theorem e_5 (k fn rd r1 r2 im sz : Int) (sg : Bool) (w : World) (g0 : ¬ im < -2147483648) (g1 : ¬ 2147483648 ≤ im) (g2 : inb rd 0 31 = true) (g3 : inb r1 0 31 = true) (g4 : inb r2 0 31 = true) (g5 : inb fn 0 28 = false) :
    Calls Tryz.prog 62 #[I.v ⟨k, fn, rd, r1, r2, im, sz, sg⟩] w fun e w' => e = .returned (.tuple #[.int .u32 0, .bool false]) ∧ Below w.heap.size w w' := by
  go_enter Tryz.func62, Tryz.ntmps62
  go_wp2_with (first | (go_at_call 84; (with_reducible first | refine (r_in rd 0 31 _).mono ?_ | refine (r_in r1 0 31 _).mono ?_ | refine (r_in r2 0 31 _).mono ?_ | refine (r_in fn 0 28 _).mono ?_ | refine (r_in sz 0 8 _).mono ?_); rintro e w0 ⟨rfl, rfl⟩))
  go_ret2
  exact ⟨rfl, below1 _⟩
theorem e_6 (k fn rd r1 r2 im sz : Int) (sg : Bool) (w : World) (g0 : ¬ im < -2147483648) (g1 : ¬ 2147483648 ≤ im) (g2 : inb rd 0 31 = true) (g3 : inb r1 0 31 = true) (g4 : inb r2 0 31 = true) (g5 : inb fn 0 28 = true) (g6 : inb sz 0 8 = false) :
    Calls Tryz.prog 62 #[I.v ⟨k, fn, rd, r1, r2, im, sz, sg⟩] w fun e w' => e = .returned (.tuple #[.int .u32 0, .bool false]) ∧ Below w.heap.size w w' := by
  go_enter Tryz.func62, Tryz.ntmps62
  go_wp2_with (first | (go_at_call 84; (with_reducible first | refine (r_in rd 0 31 _).mono ?_ | refine (r_in r1 0 31 _).mono ?_ | refine (r_in r2 0 31 _).mono ?_ | refine (r_in fn 0 28 _).mono ?_ | refine (r_in sz 0 8 _).mono ?_); rintro e w0 ⟨rfl, rfl⟩))
  go_ret2
  exact ⟨rfl, below1 _⟩
theorem eqI8' (x : I) (k fn rd r1 r2 im sz : Int) (sg b : Bool) (h : eqI x ⟨k, fn, rd, r1, r2, im, sz, sg⟩ = b) : eqI ⟨x.kind, x.fn, x.rd, x.rs1, x.rs2, x.imm, x.size, x.sg⟩ ⟨k, fn, rd, r1, r2, im, sz, sg⟩ = b := h
set_option maxHeartbeats 1000000 in
theorem e_n (k fn rd r1 r2 im sz : Int) (sg : Bool) (w : World) (g0 : ¬ im < -2147483648) (g1 : ¬ 2147483648 ≤ im) (g2 : inb rd 0 31 = true) (g3 : inb r1 0 31 = true) (g4 : inb r2 0 31 = true) (g5 : inb fn 0 28 = true) (g6 : inb sz 0 8 = true) (X : Int) (hX : X = wordX ⟨k, fn, rd, r1, r2, im, sz, sg⟩) (hk : (D X).2 = false) :
    Calls Tryz.prog 62 #[I.v ⟨k, fn, rd, r1, r2, im, sz, sg⟩] w fun e w' => e = .returned (.tuple #[.int .u32 0, .bool false]) ∧ Below w.heap.size w w' := by
  have heq := run_eq8
  have hb2 := wordX_b ⟨k, fn, rd, r1, r2, im, sz, sg⟩
  rw [← hX] at hb2
  have hw := r_word k fn rd r1 r2 im sz sg (by omega) (by omega) (inb_o g2).1 (inb_o g2).2 (inb_o g3).1 (inb_o g3).2 (inb_o g4).1 (inb_o g4).2 (inb_o g5).1 (inb_o g5).2 (inb_o g6).1 (inb_o g6).2
  rw [← hX] at hw
  have hD := r_Decode X hb2.1 hb2.2
  rw [hk] at hD
  clear hX hb2
  go_enter Tryz.func62, Tryz.ntmps62
  go_wp2_with (first | (go_at_call 84; (with_reducible first | refine (r_in rd 0 31 _).mono ?_ | refine (r_in r1 0 31 _).mono ?_ | refine (r_in r2 0 31 _).mono ?_ | refine (r_in fn 0 28 _).mono ?_ | refine (r_in sz 0 8 _).mono ?_); rintro e w0 ⟨rfl, rfl⟩) | (go_at_call 85; with_reducible refine (hw _).mono ?_; rintro e w1 ⟨rfl, hb⟩; obtain ⟨hc1, hf1⟩ := bcell hb; have hz1 := belowS hb) | (go_at_call 86; with_reducible refine (hD _).mono ?_; rintro e w2 ⟨rfl, hb2⟩; obtain ⟨hc2, hf2⟩ := bcell hb2; have hz2 := Nat.lt_of_lt_of_le hz1 hb2.size))
  go_ret2
  exact ⟨rfl, (belowT (belowA hb) hb2).alloc (by omega) _⟩
set_option maxHeartbeats 1000000 in
theorem e_m (k fn rd r1 r2 im sz : Int) (sg : Bool) (w : World) (g0 : ¬ im < -2147483648) (g1 : ¬ 2147483648 ≤ im) (g2 : inb rd 0 31 = true) (g3 : inb r1 0 31 = true) (g4 : inb r2 0 31 = true) (g5 : inb fn 0 28 = true) (g6 : inb sz 0 8 = true) (X : Int) (hX : X = wordX ⟨k, fn, rd, r1, r2, im, sz, sg⟩) (hk : (D X).2 = true) (hq : eqI (D X).1 ⟨k, fn, rd, r1, r2, im, sz, sg⟩ = false) :
    Calls Tryz.prog 62 #[I.v ⟨k, fn, rd, r1, r2, im, sz, sg⟩] w fun e w' => e = .returned (.tuple #[.int .u32 0, .bool false]) ∧ Below w.heap.size w w' := by
  have heq := run_eq8
  have hb2 := wordX_b ⟨k, fn, rd, r1, r2, im, sz, sg⟩
  rw [← hX] at hb2
  have hq8 := eqI8' _ _ _ _ _ _ _ _ _ _ hq
  have hw := r_word k fn rd r1 r2 im sz sg (by omega) (by omega) (inb_o g2).1 (inb_o g2).2 (inb_o g3).1 (inb_o g3).2 (inb_o g4).1 (inb_o g4).2 (inb_o g5).1 (inb_o g5).2 (inb_o g6).1 (inb_o g6).2
  rw [← hX] at hw
  have hD := r_Decode X hb2.1 hb2.2
  rw [hk] at hD
  clear hX hb2
  go_enter Tryz.func62, Tryz.ntmps62
  go_wp2_with (first | (go_at_call 84; (with_reducible first | refine (r_in rd 0 31 _).mono ?_ | refine (r_in r1 0 31 _).mono ?_ | refine (r_in r2 0 31 _).mono ?_ | refine (r_in fn 0 28 _).mono ?_ | refine (r_in sz 0 8 _).mono ?_); rintro e w0 ⟨rfl, rfl⟩) | (go_at_call 85; with_reducible refine (hw _).mono ?_; rintro e w1 ⟨rfl, hb⟩; obtain ⟨hc1, hf1⟩ := bcell hb; have hz1 := belowS hb) | (go_at_call 86; with_reducible refine (hD _).mono ?_; rintro e w2 ⟨rfl, hb2⟩; obtain ⟨hc2, hf2⟩ := bcell hb2; have hz2 := Nat.lt_of_lt_of_le hz1 hb2.size))
  go_ret2
  exact ⟨rfl, (belowT (belowA hb) hb2).alloc (by omega) _⟩
set_option maxHeartbeats 1000000 in
theorem e_y (k fn rd r1 r2 im sz : Int) (sg : Bool) (w : World) (g0 : ¬ im < -2147483648) (g1 : ¬ 2147483648 ≤ im) (g2 : inb rd 0 31 = true) (g3 : inb r1 0 31 = true) (g4 : inb r2 0 31 = true) (g5 : inb fn 0 28 = true) (g6 : inb sz 0 8 = true) (X : Int) (hX : X = wordX ⟨k, fn, rd, r1, r2, im, sz, sg⟩) (hk : (D X).2 = true) (hq : eqI (D X).1 ⟨k, fn, rd, r1, r2, im, sz, sg⟩ = true) :
    Calls Tryz.prog 62 #[I.v ⟨k, fn, rd, r1, r2, im, sz, sg⟩] w fun e w' => e = .returned (.tuple #[.int .u32 X, .bool true]) ∧ Below w.heap.size w w' := by
  have heq := run_eq8
  have hb2 := wordX_b ⟨k, fn, rd, r1, r2, im, sz, sg⟩
  rw [← hX] at hb2
  have hq8 := eqI8' _ _ _ _ _ _ _ _ _ _ hq
  have hw := r_word k fn rd r1 r2 im sz sg (by omega) (by omega) (inb_o g2).1 (inb_o g2).2 (inb_o g3).1 (inb_o g3).2 (inb_o g4).1 (inb_o g4).2 (inb_o g5).1 (inb_o g5).2 (inb_o g6).1 (inb_o g6).2
  rw [← hX] at hw
  have hD := r_Decode X hb2.1 hb2.2
  rw [hk] at hD
  clear hX hb2
  go_enter Tryz.func62, Tryz.ntmps62
  go_wp2_with (first | (go_at_call 84; (with_reducible first | refine (r_in rd 0 31 _).mono ?_ | refine (r_in r1 0 31 _).mono ?_ | refine (r_in r2 0 31 _).mono ?_ | refine (r_in fn 0 28 _).mono ?_ | refine (r_in sz 0 8 _).mono ?_); rintro e w0 ⟨rfl, rfl⟩) | (go_at_call 85; with_reducible refine (hw _).mono ?_; rintro e w1 ⟨rfl, hb⟩; obtain ⟨hc1, hf1⟩ := bcell hb; have hz1 := belowS hb) | (go_at_call 86; with_reducible refine (hD _).mono ?_; rintro e w2 ⟨rfl, hb2⟩; obtain ⟨hc2, hf2⟩ := bcell hb2; have hz2 := Nat.lt_of_lt_of_le hz1 hb2.size))
  go_ret2
  exact ⟨rfl, (belowT (belowA hb) hb2).alloc (by omega) _⟩
theorem r_Encode (i : I) (w : World) :
    Calls Tryz.prog 62 #[i.v] w fun e w' => e = .returned (.tuple #[.int .u32 (encF i).1, .bool (encF i).2]) ∧ Below w.heap.size w w' := by
  obtain ⟨k, fn, rd, r1, r2, im, sz, sg⟩ := i
  by_cases g0 : im < -2147483648
  · rw [enc_out (fun (r : Rg ⟨k, fn, rd, r1, r2, im, sz, sg⟩) => by have := r.m0; simp at this; omega)]
    exact e_0 k fn rd r1 r2 im sz sg w g0
  by_cases g1 : 2147483648 ≤ im
  · rw [enc_out (fun (r : Rg ⟨k, fn, rd, r1, r2, im, sz, sg⟩) => by have := r.m1; simp at this; omega)]
    exact e_1 k fn rd r1 r2 im sz sg w g0 g1
  cases g2 : inb rd 0 31
  · rw [enc_out (fun (r : Rg ⟨k, fn, rd, r1, r2, im, sz, sg⟩) => by have t : inb rd 0 31 = true := r.rd; rw [g2] at t; cases t)]
    exact e_2 k fn rd r1 r2 im sz sg w g0 g1 g2
  cases g3 : inb r1 0 31
  · rw [enc_out (fun (r : Rg ⟨k, fn, rd, r1, r2, im, sz, sg⟩) => by have t : inb r1 0 31 = true := r.rs1; rw [g3] at t; cases t)]
    exact e_3 k fn rd r1 r2 im sz sg w g0 g1 g2 g3
  cases g4 : inb r2 0 31
  · rw [enc_out (fun (r : Rg ⟨k, fn, rd, r1, r2, im, sz, sg⟩) => by have t : inb r2 0 31 = true := r.rs2; rw [g4] at t; cases t)]
    exact e_4 k fn rd r1 r2 im sz sg w g0 g1 g2 g3 g4
  cases g5 : inb fn 0 28
  · rw [enc_out (fun (r : Rg ⟨k, fn, rd, r1, r2, im, sz, sg⟩) => by have t : inb fn 0 28 = true := r.fn; rw [g5] at t; cases t)]
    exact e_5 k fn rd r1 r2 im sz sg w g0 g1 g2 g3 g4 g5
  cases g6 : inb sz 0 8
  · rw [enc_out (fun (r : Rg ⟨k, fn, rd, r1, r2, im, sz, sg⟩) => by have t : inb sz 0 8 = true := r.sz; rw [g6] at t; cases t)]
    exact e_6 k fn rd r1 r2 im sz sg w g0 g1 g2 g3 g4 g5 g6
  cases hk : (D (wordX ⟨k, fn, rd, r1, r2, im, sz, sg⟩)).2
  · rw [enc_miss (fun x => by rw [hk] at x; cases x.1)]
    exact e_n k fn rd r1 r2 im sz sg w g0 g1 g2 g3 g4 g5 g6 _ rfl hk
  cases hq : eqI (D (wordX ⟨k, fn, rd, r1, r2, im, sz, sg⟩)).1 ⟨k, fn, rd, r1, r2, im, sz, sg⟩
  · rw [enc_miss (fun x => by rw [hq] at x; cases x.2)]
    exact e_m k fn rd r1 r2 im sz sg w g0 g1 g2 g3 g4 g5 g6 _ rfl hk hq
  · rw [enc_hit hk hq]
    exact e_y k fn rd r1 r2 im sz sg w g0 g1 g2 g3 g4 g5 g6 _ rfl hk hq
end Go.Proofs.YtlfdokkopgmfjaaGreatDoor.B
namespace Go.Proofs.YtlfdokkopgmfjaaGreatDoor.B
open Go.RowKit
set_option linter.unusedVariables false
set_option maxRecDepth 100000
theorem f_11_7_0 (c : Int) (h0 : 0 ≤ c) (h1 : c ≤ 65535) (w : World) : Calls Tryz.prog 35 #[.int .u16 c, .int .i64 11, .int .i64 7, .int .i64 0] w fun e w' => e = .returned (.int .i64 (c / 128 % 32)) ∧ w' = w := by
  go_enter Tryz.func35, Tryz.ntmps35
  go_wp2_with (first | (go_at_call 61; go_in))
  go_ret
  exact ⟨ret_int (by omega), rfl⟩
theorem f_6_2_0 (c : Int) (h0 : 0 ≤ c) (h1 : c ≤ 65535) (w : World) : Calls Tryz.prog 35 #[.int .u16 c, .int .i64 6, .int .i64 2, .int .i64 0] w fun e w' => e = .returned (.int .i64 (c / 4 % 32)) ∧ w' = w := by
  go_enter Tryz.func35, Tryz.ntmps35
  go_wp2_with (first | (go_at_call 61; go_in))
  go_ret
  exact ⟨ret_int (by omega), rfl⟩
theorem f_9_7_0 (c : Int) (h0 : 0 ≤ c) (h1 : c ≤ 65535) (w : World) : Calls Tryz.prog 35 #[.int .u16 c, .int .i64 9, .int .i64 7, .int .i64 0] w fun e w' => e = .returned (.int .i64 (c / 128 % 8)) ∧ w' = w := by
  go_enter Tryz.func35, Tryz.ntmps35
  go_wp2_with (first | (go_at_call 61; go_in))
  go_ret
  exact ⟨ret_int (by omega), rfl⟩
theorem f_4_2_0 (c : Int) (h0 : 0 ≤ c) (h1 : c ≤ 65535) (w : World) : Calls Tryz.prog 35 #[.int .u16 c, .int .i64 4, .int .i64 2, .int .i64 0] w fun e w' => e = .returned (.int .i64 (c / 4 % 8)) ∧ w' = w := by
  go_enter Tryz.func35, Tryz.ntmps35
  go_wp2_with (first | (go_at_call 61; go_in))
  go_ret
  exact ⟨ret_int (by omega), rfl⟩
theorem f_12_12_5 (c : Int) (h0 : 0 ≤ c) (h1 : c ≤ 65535) (w : World) : Calls Tryz.prog 35 #[.int .u16 c, .int .i64 12, .int .i64 12, .int .i64 5] w fun e w' => e = .returned (.int .i64 (c / 4096 % 2 * 32)) ∧ w' = w := by
  go_enter Tryz.func35, Tryz.ntmps35
  go_wp2_with (first | (go_at_call 61; go_in))
  go_ret
  exact ⟨ret_int (by omega), rfl⟩
theorem f_5_5_6 (c : Int) (h0 : 0 ≤ c) (h1 : c ≤ 65535) (w : World) : Calls Tryz.prog 35 #[.int .u16 c, .int .i64 5, .int .i64 5, .int .i64 6] w fun e w' => e = .returned (.int .i64 (c / 32 % 2 * 64)) ∧ w' = w := by
  go_enter Tryz.func35, Tryz.ntmps35
  go_wp2_with (first | (go_at_call 61; go_in))
  go_ret
  exact ⟨ret_int (by omega), rfl⟩
theorem f_12_10_3 (c : Int) (h0 : 0 ≤ c) (h1 : c ≤ 65535) (w : World) : Calls Tryz.prog 35 #[.int .u16 c, .int .i64 12, .int .i64 10, .int .i64 3] w fun e w' => e = .returned (.int .i64 (c / 1024 % 8 * 8)) ∧ w' = w := by
  go_enter Tryz.func35, Tryz.ntmps35
  go_wp2_with (first | (go_at_call 61; go_in))
  go_ret
  exact ⟨ret_int (by omega), rfl⟩
theorem f_6_6_2 (c : Int) (h0 : 0 ≤ c) (h1 : c ≤ 65535) (w : World) : Calls Tryz.prog 35 #[.int .u16 c, .int .i64 6, .int .i64 6, .int .i64 2] w fun e w' => e = .returned (.int .i64 (c / 64 % 2 * 4)) ∧ w' = w := by
  go_enter Tryz.func35, Tryz.ntmps35
  go_wp2_with (first | (go_at_call 61; go_in))
  go_ret
  exact ⟨ret_int (by omega), rfl⟩
theorem f_6_5_6 (c : Int) (h0 : 0 ≤ c) (h1 : c ≤ 65535) (w : World) : Calls Tryz.prog 35 #[.int .u16 c, .int .i64 6, .int .i64 5, .int .i64 6] w fun e w' => e = .returned (.int .i64 (c / 32 % 4 * 64)) ∧ w' = w := by
  go_enter Tryz.func35, Tryz.ntmps35
  go_wp2_with (first | (go_at_call 61; go_in))
  go_ret
  exact ⟨ret_int (by omega), rfl⟩
theorem f_12_12_8 (c : Int) (h0 : 0 ≤ c) (h1 : c ≤ 65535) (w : World) : Calls Tryz.prog 35 #[.int .u16 c, .int .i64 12, .int .i64 12, .int .i64 8] w fun e w' => e = .returned (.int .i64 (c / 4096 % 2 * 256)) ∧ w' = w := by
  go_enter Tryz.func35, Tryz.ntmps35
  go_wp2_with (first | (go_at_call 61; go_in))
  go_ret
  exact ⟨ret_int (by omega), rfl⟩
theorem f_2_2_5 (c : Int) (h0 : 0 ≤ c) (h1 : c ≤ 65535) (w : World) : Calls Tryz.prog 35 #[.int .u16 c, .int .i64 2, .int .i64 2, .int .i64 5] w fun e w' => e = .returned (.int .i64 (c / 4 % 2 * 32)) ∧ w' = w := by
  go_enter Tryz.func35, Tryz.ntmps35
  go_wp2_with (first | (go_at_call 61; go_in))
  go_ret
  exact ⟨ret_int (by omega), rfl⟩
theorem f_11_10_3 (c : Int) (h0 : 0 ≤ c) (h1 : c ≤ 65535) (w : World) : Calls Tryz.prog 35 #[.int .u16 c, .int .i64 11, .int .i64 10, .int .i64 3] w fun e w' => e = .returned (.int .i64 (c / 1024 % 4 * 8)) ∧ w' = w := by
  go_enter Tryz.func35, Tryz.ntmps35
  go_wp2_with (first | (go_at_call 61; go_in))
  go_ret
  exact ⟨ret_int (by omega), rfl⟩
theorem f_4_3_1 (c : Int) (h0 : 0 ≤ c) (h1 : c ≤ 65535) (w : World) : Calls Tryz.prog 35 #[.int .u16 c, .int .i64 4, .int .i64 3, .int .i64 1] w fun e w' => e = .returned (.int .i64 (c / 8 % 4 * 2)) ∧ w' = w := by
  go_enter Tryz.func35, Tryz.ntmps35
  go_wp2_with (first | (go_at_call 61; go_in))
  go_ret
  exact ⟨ret_int (by omega), rfl⟩
theorem f_1_0_0 (c : Int) (h0 : 0 ≤ c) (h1 : c ≤ 65535) (w : World) : Calls Tryz.prog 35 #[.int .u16 c, .int .i64 1, .int .i64 0, .int .i64 0] w fun e w' => e = .returned (.int .i64 (c % 4)) ∧ w' = w := by
  go_enter Tryz.func35, Tryz.ntmps35
  go_wp2_with (first | (go_at_call 61; go_in))
  go_ret
  exact ⟨ret_int (by omega), rfl⟩
theorem f_15_13_0 (c : Int) (h0 : 0 ≤ c) (h1 : c ≤ 65535) (w : World) : Calls Tryz.prog 35 #[.int .u16 c, .int .i64 15, .int .i64 13, .int .i64 0] w fun e w' => e = .returned (.int .i64 (c / 8192 % 8)) ∧ w' = w := by
  go_enter Tryz.func35, Tryz.ntmps35
  go_wp2_with (first | (go_at_call 61; go_in))
  go_ret
  exact ⟨ret_int (by omega), rfl⟩
theorem f_10_7_6 (c : Int) (h0 : 0 ≤ c) (h1 : c ≤ 65535) (w : World) : Calls Tryz.prog 35 #[.int .u16 c, .int .i64 10, .int .i64 7, .int .i64 6] w fun e w' => e = .returned (.int .i64 (c / 128 % 16 * 64)) ∧ w' = w := by
  go_enter Tryz.func35, Tryz.ntmps35
  go_wp2_with (first | (go_at_call 61; go_in))
  go_ret
  exact ⟨ret_int (by omega), rfl⟩
theorem f_12_11_4 (c : Int) (h0 : 0 ≤ c) (h1 : c ≤ 65535) (w : World) : Calls Tryz.prog 35 #[.int .u16 c, .int .i64 12, .int .i64 11, .int .i64 4] w fun e w' => e = .returned (.int .i64 (c / 2048 % 4 * 16)) ∧ w' = w := by
  go_enter Tryz.func35, Tryz.ntmps35
  go_wp2_with (first | (go_at_call 61; go_in))
  go_ret
  exact ⟨ret_int (by omega), rfl⟩
theorem f_5_5_3 (c : Int) (h0 : 0 ≤ c) (h1 : c ≤ 65535) (w : World) : Calls Tryz.prog 35 #[.int .u16 c, .int .i64 5, .int .i64 5, .int .i64 3] w fun e w' => e = .returned (.int .i64 (c / 32 % 2 * 8)) ∧ w' = w := by
  go_enter Tryz.func35, Tryz.ntmps35
  go_wp2_with (first | (go_at_call 61; go_in))
  go_ret
  exact ⟨ret_int (by omega), rfl⟩
theorem f_12_12_9 (c : Int) (h0 : 0 ≤ c) (h1 : c ≤ 65535) (w : World) : Calls Tryz.prog 35 #[.int .u16 c, .int .i64 12, .int .i64 12, .int .i64 9] w fun e w' => e = .returned (.int .i64 (c / 4096 % 2 * 512)) ∧ w' = w := by
  go_enter Tryz.func35, Tryz.ntmps35
  go_wp2_with (first | (go_at_call 61; go_in))
  go_ret
  exact ⟨ret_int (by omega), rfl⟩
theorem f_4_3_7 (c : Int) (h0 : 0 ≤ c) (h1 : c ≤ 65535) (w : World) : Calls Tryz.prog 35 #[.int .u16 c, .int .i64 4, .int .i64 3, .int .i64 7] w fun e w' => e = .returned (.int .i64 (c / 8 % 4 * 128)) ∧ w' = w := by
  go_enter Tryz.func35, Tryz.ntmps35
  go_wp2_with (first | (go_at_call 61; go_in))
  go_ret
  exact ⟨ret_int (by omega), rfl⟩
theorem f_6_6_4 (c : Int) (h0 : 0 ≤ c) (h1 : c ≤ 65535) (w : World) : Calls Tryz.prog 35 #[.int .u16 c, .int .i64 6, .int .i64 6, .int .i64 4] w fun e w' => e = .returned (.int .i64 (c / 64 % 2 * 16)) ∧ w' = w := by
  go_enter Tryz.func35, Tryz.ntmps35
  go_wp2_with (first | (go_at_call 61; go_in))
  go_ret
  exact ⟨ret_int (by omega), rfl⟩
theorem f_12_12_11 (c : Int) (h0 : 0 ≤ c) (h1 : c ≤ 65535) (w : World) : Calls Tryz.prog 35 #[.int .u16 c, .int .i64 12, .int .i64 12, .int .i64 11] w fun e w' => e = .returned (.int .i64 (c / 4096 % 2 * 2048)) ∧ w' = w := by
  go_enter Tryz.func35, Tryz.ntmps35
  go_wp2_with (first | (go_at_call 61; go_in))
  go_ret
  exact ⟨ret_int (by omega), rfl⟩
theorem f_8_8_10 (c : Int) (h0 : 0 ≤ c) (h1 : c ≤ 65535) (w : World) : Calls Tryz.prog 35 #[.int .u16 c, .int .i64 8, .int .i64 8, .int .i64 10] w fun e w' => e = .returned (.int .i64 (c / 256 % 2 * 1024)) ∧ w' = w := by
  go_enter Tryz.func35, Tryz.ntmps35
  go_wp2_with (first | (go_at_call 61; go_in))
  go_ret
  exact ⟨ret_int (by omega), rfl⟩
theorem f_10_9_8 (c : Int) (h0 : 0 ≤ c) (h1 : c ≤ 65535) (w : World) : Calls Tryz.prog 35 #[.int .u16 c, .int .i64 10, .int .i64 9, .int .i64 8] w fun e w' => e = .returned (.int .i64 (c / 512 % 4 * 256)) ∧ w' = w := by
  go_enter Tryz.func35, Tryz.ntmps35
  go_wp2_with (first | (go_at_call 61; go_in))
  go_ret
  exact ⟨ret_int (by omega), rfl⟩
theorem f_6_6_7 (c : Int) (h0 : 0 ≤ c) (h1 : c ≤ 65535) (w : World) : Calls Tryz.prog 35 #[.int .u16 c, .int .i64 6, .int .i64 6, .int .i64 7] w fun e w' => e = .returned (.int .i64 (c / 64 % 2 * 128)) ∧ w' = w := by
  go_enter Tryz.func35, Tryz.ntmps35
  go_wp2_with (first | (go_at_call 61; go_in))
  go_ret
  exact ⟨ret_int (by omega), rfl⟩
theorem f_7_7_6 (c : Int) (h0 : 0 ≤ c) (h1 : c ≤ 65535) (w : World) : Calls Tryz.prog 35 #[.int .u16 c, .int .i64 7, .int .i64 7, .int .i64 6] w fun e w' => e = .returned (.int .i64 (c / 128 % 2 * 64)) ∧ w' = w := by
  go_enter Tryz.func35, Tryz.ntmps35
  go_wp2_with (first | (go_at_call 61; go_in))
  go_ret
  exact ⟨ret_int (by omega), rfl⟩
theorem f_11_11_4 (c : Int) (h0 : 0 ≤ c) (h1 : c ≤ 65535) (w : World) : Calls Tryz.prog 35 #[.int .u16 c, .int .i64 11, .int .i64 11, .int .i64 4] w fun e w' => e = .returned (.int .i64 (c / 2048 % 2 * 16)) ∧ w' = w := by
  go_enter Tryz.func35, Tryz.ntmps35
  go_wp2_with (first | (go_at_call 61; go_in))
  go_ret
  exact ⟨ret_int (by omega), rfl⟩
theorem f_5_3_1 (c : Int) (h0 : 0 ≤ c) (h1 : c ≤ 65535) (w : World) : Calls Tryz.prog 35 #[.int .u16 c, .int .i64 5, .int .i64 3, .int .i64 1] w fun e w' => e = .returned (.int .i64 (c / 8 % 8 * 2)) ∧ w' = w := by
  go_enter Tryz.func35, Tryz.ntmps35
  go_wp2_with (first | (go_at_call 61; go_in))
  go_ret
  exact ⟨ret_int (by omega), rfl⟩
theorem f_3_2_6 (c : Int) (h0 : 0 ≤ c) (h1 : c ≤ 65535) (w : World) : Calls Tryz.prog 35 #[.int .u16 c, .int .i64 3, .int .i64 2, .int .i64 6] w fun e w' => e = .returned (.int .i64 (c / 4 % 4 * 64)) ∧ w' = w := by
  go_enter Tryz.func35, Tryz.ntmps35
  go_wp2_with (first | (go_at_call 61; go_in))
  go_ret
  exact ⟨ret_int (by omega), rfl⟩
theorem f_6_4_2 (c : Int) (h0 : 0 ≤ c) (h1 : c ≤ 65535) (w : World) : Calls Tryz.prog 35 #[.int .u16 c, .int .i64 6, .int .i64 4, .int .i64 2] w fun e w' => e = .returned (.int .i64 (c / 16 % 8 * 4)) ∧ w' = w := by
  go_enter Tryz.func35, Tryz.ntmps35
  go_wp2_with (first | (go_at_call 61; go_in))
  go_ret
  exact ⟨ret_int (by omega), rfl⟩
theorem f_4_2_6 (c : Int) (h0 : 0 ≤ c) (h1 : c ≤ 65535) (w : World) : Calls Tryz.prog 35 #[.int .u16 c, .int .i64 4, .int .i64 2, .int .i64 6] w fun e w' => e = .returned (.int .i64 (c / 4 % 8 * 64)) ∧ w' = w := by
  go_enter Tryz.func35, Tryz.ntmps35
  go_wp2_with (first | (go_at_call 61; go_in))
  go_ret
  exact ⟨ret_int (by omega), rfl⟩
theorem f_6_5_3 (c : Int) (h0 : 0 ≤ c) (h1 : c ≤ 65535) (w : World) : Calls Tryz.prog 35 #[.int .u16 c, .int .i64 6, .int .i64 5, .int .i64 3] w fun e w' => e = .returned (.int .i64 (c / 32 % 4 * 8)) ∧ w' = w := by
  go_enter Tryz.func35, Tryz.ntmps35
  go_wp2_with (first | (go_at_call 61; go_in))
  go_ret
  exact ⟨ret_int (by omega), rfl⟩
theorem f_8_7_6 (c : Int) (h0 : 0 ≤ c) (h1 : c ≤ 65535) (w : World) : Calls Tryz.prog 35 #[.int .u16 c, .int .i64 8, .int .i64 7, .int .i64 6] w fun e w' => e = .returned (.int .i64 (c / 128 % 4 * 64)) ∧ w' = w := by
  go_enter Tryz.func35, Tryz.ntmps35
  go_wp2_with (first | (go_at_call 61; go_in))
  go_ret
  exact ⟨ret_int (by omega), rfl⟩
theorem f_12_9_2 (c : Int) (h0 : 0 ≤ c) (h1 : c ≤ 65535) (w : World) : Calls Tryz.prog 35 #[.int .u16 c, .int .i64 12, .int .i64 9, .int .i64 2] w fun e w' => e = .returned (.int .i64 (c / 512 % 16 * 4)) ∧ w' = w := by
  go_enter Tryz.func35, Tryz.ntmps35
  go_wp2_with (first | (go_at_call 61; go_in))
  go_ret
  exact ⟨ret_int (by omega), rfl⟩
theorem f_9_7_6 (c : Int) (h0 : 0 ≤ c) (h1 : c ≤ 65535) (w : World) : Calls Tryz.prog 35 #[.int .u16 c, .int .i64 9, .int .i64 7, .int .i64 6] w fun e w' => e = .returned (.int .i64 (c / 128 % 8 * 64)) ∧ w' = w := by
  go_enter Tryz.func35, Tryz.ntmps35
  go_wp2_with (first | (go_at_call 61; go_in))
  go_ret
  exact ⟨ret_int (by omega), rfl⟩
theorem f_11_10_0 (c : Int) (h0 : 0 ≤ c) (h1 : c ≤ 65535) (w : World) : Calls Tryz.prog 35 #[.int .u16 c, .int .i64 11, .int .i64 10, .int .i64 0] w fun e w' => e = .returned (.int .i64 (c / 1024 % 4)) ∧ w' = w := by
  go_enter Tryz.func35, Tryz.ntmps35
  go_wp2_with (first | (go_at_call 61; go_in))
  go_ret
  exact ⟨ret_int (by omega), rfl⟩
theorem f_12_12_0 (c : Int) (h0 : 0 ≤ c) (h1 : c ≤ 65535) (w : World) : Calls Tryz.prog 35 #[.int .u16 c, .int .i64 12, .int .i64 12, .int .i64 0] w fun e w' => e = .returned (.int .i64 (c / 4096 % 2)) ∧ w' = w := by
  go_enter Tryz.func35, Tryz.ntmps35
  go_wp2_with (first | (go_at_call 61; go_in))
  go_ret
  exact ⟨ret_int (by omega), rfl⟩
theorem f_6_5_0 (c : Int) (h0 : 0 ≤ c) (h1 : c ≤ 65535) (w : World) : Calls Tryz.prog 35 #[.int .u16 c, .int .i64 6, .int .i64 5, .int .i64 0] w fun e w' => e = .returned (.int .i64 (c / 32 % 4)) ∧ w' = w := by
  go_enter Tryz.func35, Tryz.ntmps35
  go_wp2_with (first | (go_at_call 61; go_in))
  go_ret
  exact ⟨ret_int (by omega), rfl⟩
theorem sg_6 (v : Int) (v0 : 0 ≤ v) (v1 : v < 64) (w : World) : Calls Tryz.prog 36 #[.int .i64 v, .int .i64 6] w fun e w' => e = .returned (.int .i64 (sx 32 v)) ∧ w' = w := by
  by_cases p : v < 32
  · rw [show sx 32 v = v from if_pos p]
    go_enter Tryz.func36, Tryz.ntmps36
    go_wp2
    go_ret
    exact ⟨rfl, rfl⟩
  · rw [show sx 32 v = v - 64 from if_neg p]
    go_enter Tryz.func36, Tryz.ntmps36
    go_wp2
    go_ret
    exact ⟨ret_int (by omega), rfl⟩
theorem sg_9 (v : Int) (v0 : 0 ≤ v) (v1 : v < 512) (w : World) : Calls Tryz.prog 36 #[.int .i64 v, .int .i64 9] w fun e w' => e = .returned (.int .i64 (sx 256 v)) ∧ w' = w := by
  by_cases p : v < 256
  · rw [show sx 256 v = v from if_pos p]
    go_enter Tryz.func36, Tryz.ntmps36
    go_wp2
    go_ret
    exact ⟨rfl, rfl⟩
  · rw [show sx 256 v = v - 512 from if_neg p]
    go_enter Tryz.func36, Tryz.ntmps36
    go_wp2
    go_ret
    exact ⟨ret_int (by omega), rfl⟩
theorem sg_10 (v : Int) (v0 : 0 ≤ v) (v1 : v < 1024) (w : World) : Calls Tryz.prog 36 #[.int .i64 v, .int .i64 10] w fun e w' => e = .returned (.int .i64 (sx 512 v)) ∧ w' = w := by
  by_cases p : v < 512
  · rw [show sx 512 v = v from if_pos p]
    go_enter Tryz.func36, Tryz.ntmps36
    go_wp2
    go_ret
    exact ⟨rfl, rfl⟩
  · rw [show sx 512 v = v - 1024 from if_neg p]
    go_enter Tryz.func36, Tryz.ntmps36
    go_wp2
    go_ret
    exact ⟨ret_int (by omega), rfl⟩
theorem sg_12 (v : Int) (v0 : 0 ≤ v) (v1 : v < 4096) (w : World) : Calls Tryz.prog 36 #[.int .i64 v, .int .i64 12] w fun e w' => e = .returned (.int .i64 (sx 2048 v)) ∧ w' = w := by
  by_cases p : v < 2048
  · rw [show sx 2048 v = v from if_pos p]
    go_enter Tryz.func36, Tryz.ntmps36
    go_wp2
    go_ret
    exact ⟨rfl, rfl⟩
  · rw [show sx 2048 v = v - 4096 from if_neg p]
    go_enter Tryz.func36, Tryz.ntmps36
    go_wp2
    go_ret
    exact ⟨ret_int (by omega), rfl⟩
theorem r_R (i : I) (w : World) : Calls Tryz.prog 37 #[i.v] w fun e w' => e = .returned (.tuple #[.int .u32 (encF i).1, .bool (encF i).2]) ∧ Below w.heap.size w w' := by
  have hE := r_Encode i
  obtain ⟨x, hx⟩ : ∃ x, x = encF i := ⟨_, rfl⟩
  rw [← hx] at hE ⊢
  clear hx
  obtain ⟨x, b⟩ := x
  go_enter Tryz.func37, Tryz.ntmps37
  go_wp2_with (first | (go_at_call 62; with_reducible refine (hE _).mono ?_; rintro e w1 ⟨rfl, hb⟩))
  go_ret2
  exact ⟨rfl, belowA hb⟩
theorem r_Size (c : Int) (h0 : 0 ≤ c) (h1 : c ≤ 65535) (w : World) : Calls Tryz.prog 17 #[.int .u16 c] w fun e w' => e = .returned (.int .i64 (szF c)) ∧ w' = w := by
  unfold szF cQ
  by_cases q : c % 4 = 3
  · rw [if_pos q]
    go_enter Tryz.func17, Tryz.ntmps17
    go_wp2
    go_ret
    exact ⟨rfl, rfl⟩
  · rw [if_neg q]
    go_enter Tryz.func17, Tryz.ntmps17
    go_wp2
    go_ret
    exact ⟨rfl, rfl⟩
set_option maxHeartbeats 1000000 in
theorem ar_0 (c : Int) (h0 : 0 ≤ c) (h1 : c ≤ 65535) (w : World) (ht : c / 1024 % 4 = 0) :
    Calls Tryz.prog 38 #[.int .u16 c, .int .i64 (cS1 c), .int .i64 (cS2 c), .int .i64 (cAm c), .int .i64 (cSmall c)] w fun e w' => e = .returned (.tuple #[.int .u32 (encF ⟨9, 7, cS1 c, cS1 c, 0, cAm c, 0, false⟩).1, .bool (encF ⟨9, 7, cS1 c, cS1 c, 0, cAm c, 0, false⟩).2]) ∧ Below w.heap.size w w' := by
  have hR := r_R ⟨9, 7, cS1 c, cS1 c, 0, cAm c, 0, false⟩
  obtain ⟨x, hx⟩ : ∃ x, x = encF ⟨9, 7, cS1 c, cS1 c, 0, cAm c, 0, false⟩ := ⟨_, rfl⟩
  rw [← hx] at hR ⊢
  clear hx
  obtain ⟨x, b⟩ := x
  go_enter Tryz.func38, Tryz.ntmps38
  go_wp2_with (first | (go_at_call 35; (with_reducible first | refine (f_11_10_0 c h0 h1 _).mono ?_ | refine (f_12_12_0 c h0 h1 _).mono ?_ | refine (f_6_5_0 c h0 h1 _).mono ?_); rintro e w0 ⟨rfl, rfl⟩) | (go_at_call 37; refine (hR _).mono ?_; rintro e w1 ⟨rfl, hb⟩))
  go_ret2
  exact ⟨rfl, hb⟩
set_option maxHeartbeats 1000000 in
theorem ar_1 (c : Int) (h0 : 0 ≤ c) (h1 : c ≤ 65535) (w : World) (ht : c / 1024 % 4 = 1) :
    Calls Tryz.prog 38 #[.int .u16 c, .int .i64 (cS1 c), .int .i64 (cS2 c), .int .i64 (cAm c), .int .i64 (cSmall c)] w fun e w' => e = .returned (.tuple #[.int .u32 (encF ⟨9, 8, cS1 c, cS1 c, 0, cAm c, 0, false⟩).1, .bool (encF ⟨9, 8, cS1 c, cS1 c, 0, cAm c, 0, false⟩).2]) ∧ Below w.heap.size w w' := by
  have hR := r_R ⟨9, 8, cS1 c, cS1 c, 0, cAm c, 0, false⟩
  obtain ⟨x, hx⟩ : ∃ x, x = encF ⟨9, 8, cS1 c, cS1 c, 0, cAm c, 0, false⟩ := ⟨_, rfl⟩
  rw [← hx] at hR ⊢
  clear hx
  obtain ⟨x, b⟩ := x
  go_enter Tryz.func38, Tryz.ntmps38
  go_wp2_with (first | (go_at_call 35; (with_reducible first | refine (f_11_10_0 c h0 h1 _).mono ?_ | refine (f_12_12_0 c h0 h1 _).mono ?_ | refine (f_6_5_0 c h0 h1 _).mono ?_); rintro e w0 ⟨rfl, rfl⟩) | (go_at_call 37; refine (hR _).mono ?_; rintro e w1 ⟨rfl, hb⟩))
  go_ret2
  exact ⟨rfl, hb⟩
set_option maxHeartbeats 1000000 in
theorem ar_2 (c : Int) (h0 : 0 ≤ c) (h1 : c ≤ 65535) (w : World) (ht : c / 1024 % 4 = 2) :
    Calls Tryz.prog 38 #[.int .u16 c, .int .i64 (cS1 c), .int .i64 (cS2 c), .int .i64 (cAm c), .int .i64 (cSmall c)] w fun e w' => e = .returned (.tuple #[.int .u32 (encF ⟨9, 10, cS1 c, cS1 c, 0, cSmall c, 0, false⟩).1, .bool (encF ⟨9, 10, cS1 c, cS1 c, 0, cSmall c, 0, false⟩).2]) ∧ Below w.heap.size w w' := by
  have hR := r_R ⟨9, 10, cS1 c, cS1 c, 0, cSmall c, 0, false⟩
  obtain ⟨x, hx⟩ : ∃ x, x = encF ⟨9, 10, cS1 c, cS1 c, 0, cSmall c, 0, false⟩ := ⟨_, rfl⟩
  rw [← hx] at hR ⊢
  clear hx
  obtain ⟨x, b⟩ := x
  go_enter Tryz.func38, Tryz.ntmps38
  go_wp2_with (first | (go_at_call 35; (with_reducible first | refine (f_11_10_0 c h0 h1 _).mono ?_ | refine (f_12_12_0 c h0 h1 _).mono ?_ | refine (f_6_5_0 c h0 h1 _).mono ?_); rintro e w0 ⟨rfl, rfl⟩) | (go_at_call 37; refine (hR _).mono ?_; rintro e w1 ⟨rfl, hb⟩))
  go_ret2
  exact ⟨rfl, hb⟩
theorem pk_op (c : Int) : pk [2, 6, 9, 10, 20, 19, 0, 0] (4 * (c / 4096 % 2) + c / 32 % 4) = cOp c := by
  have e : 4 * (c / 4096 % 2) + c / 32 % 4 = cO c := by unfold cO; omega
  rw [e]
  have b : 0 ≤ cO c ∧ cO c < 8 := by unfold cO; omega
  exact if_pos (by simpa using b)
set_option maxHeartbeats 1000000 in
theorem ar_3 (c : Int) (h0 : 0 ≤ c) (h1 : c ≤ 65535) (w : World) (ht : c / 1024 % 4 = 3) (hn : cOp c ≠ 0) :
    Calls Tryz.prog 38 #[.int .u16 c, .int .i64 (cS1 c), .int .i64 (cS2 c), .int .i64 (cAm c), .int .i64 (cSmall c)] w fun e w' => e = .returned (.tuple #[.int .u32 (encF ⟨8, cOp c, cS1 c, cS1 c, cS2 c, 0, 0, false⟩).1, .bool (encF ⟨8, cOp c, cS1 c, cS1 c, cS2 c, 0, 0, false⟩).2]) ∧ Below w.heap.size w w' := by
  have hR := r_R ⟨8, cOp c, cS1 c, cS1 c, cS2 c, 0, 0, false⟩
  obtain ⟨x, hx⟩ : ∃ x, x = encF ⟨8, cOp c, cS1 c, cS1 c, cS2 c, 0, 0, false⟩ := ⟨_, rfl⟩
  rw [← hx] at hR ⊢
  clear hx
  obtain ⟨x, b⟩ := x
  go_enter Tryz.func38, Tryz.ntmps38
  go_wp2_with (first | (go_at_call 35; (with_reducible first | refine (f_11_10_0 c h0 h1 _).mono ?_ | refine (f_12_12_0 c h0 h1 _).mono ?_ | refine (f_6_5_0 c h0 h1 _).mono ?_); rintro e w0 ⟨rfl, rfl⟩) | (refine wpList_buildFlat rfl 117 3 _ _ rfl .i64 [2, 6, 9, 10, 20, 19, 0, 0] (by kernel_rfl) (by kernel_rfl) (by kernel_rfl) rfl (by decide) (by decide) rfl ?_) | (go_at_call 63; refine (r_pickT _ 8 [2, 6, 9, 10, 20, 19, 0, 0] rfl (4 * (c / 4096 % 2) + c / 32 % 4) _ (tab_cell _ _ (by simp) _ _ _ _ rfl rfl) (by omega) (by omega) (by decide) (cOp c) (pk_op c)).mono ?_; rintro e w0 ⟨rfl, rfl⟩) | (go_at_call 37; refine (hR _).mono ?_; rintro e w1 ⟨rfl, hb⟩))
  go_ret2
  exact ⟨rfl, belowA hb⟩
set_option maxHeartbeats 1000000 in
theorem ar_3n (c : Int) (h0 : 0 ≤ c) (h1 : c ≤ 65535) (w : World) (ht : c / 1024 % 4 = 3) (hn : cOp c = 0) :
    Calls Tryz.prog 38 #[.int .u16 c, .int .i64 (cS1 c), .int .i64 (cS2 c), .int .i64 (cAm c), .int .i64 (cSmall c)] w fun e w' => e = .returned (.tuple #[.int .u32 0, .bool false]) ∧ Below w.heap.size w w' := by
  go_enter Tryz.func38, Tryz.ntmps38
  go_wp2_with (first | (go_at_call 35; (with_reducible first | refine (f_11_10_0 c h0 h1 _).mono ?_ | refine (f_12_12_0 c h0 h1 _).mono ?_ | refine (f_6_5_0 c h0 h1 _).mono ?_); rintro e w0 ⟨rfl, rfl⟩) | (refine wpList_buildFlat rfl 117 3 _ _ rfl .i64 [2, 6, 9, 10, 20, 19, 0, 0] (by kernel_rfl) (by kernel_rfl) (by kernel_rfl) rfl (by decide) (by decide) rfl ?_) | (go_at_call 63; refine (r_pickT _ 8 [2, 6, 9, 10, 20, 19, 0, 0] rfl (4 * (c / 4096 % 2) + c / 32 % 4) _ (tab_cell _ _ (by simp) _ _ _ _ rfl rfl) (by omega) (by omega) (by decide) (cOp c) (pk_op c)).mono ?_; rintro e w0 ⟨rfl, rfl⟩))
  go_ret2
  exact ⟨rfl, below1 _⟩
set_option maxHeartbeats 1000000 in
theorem ju_00 (c : Int) (h0 : 0 ≤ c) (h1 : c ≤ 65535) (w : World) (hu : c / 4096 % 2 = 0) (hr : cR2 c = 0) (hd : cRd c = 0) :
    Calls Tryz.prog 39 #[.int .u16 c, .int .i64 (cRd c), .int .i64 (cR2 c)] w fun e w' => e = .returned (.tuple #[.int .u32 0, .bool false]) ∧ Below w.heap.size w w' := by
  go_enter Tryz.func39, Tryz.ntmps39
  go_wp2_with (first | (go_at_call 35; (with_reducible first | refine (f_12_12_0 c h0 h1 _).mono ?_); rintro e w0 ⟨rfl, rfl⟩))
  go_ret2
  exact ⟨rfl, Below.refl _ _⟩
set_option maxHeartbeats 1000000 in
theorem ju_0d (c : Int) (h0 : 0 ≤ c) (h1 : c ≤ 65535) (w : World) (hu : c / 4096 % 2 = 0) (hr : cR2 c = 0) (hd : cRd c ≠ 0) :
    Calls Tryz.prog 39 #[.int .u16 c, .int .i64 (cRd c), .int .i64 (cR2 c)] w fun e w' => e = .returned (.tuple #[.int .u32 (encF ⟨4, 0, 0, cRd c, 0, 0, 0, false⟩).1, .bool (encF ⟨4, 0, 0, cRd c, 0, 0, 0, false⟩).2]) ∧ Below w.heap.size w w' := by
  have hR := r_R ⟨4, 0, 0, cRd c, 0, 0, 0, false⟩
  obtain ⟨x, hx⟩ : ∃ x, x = encF ⟨4, 0, 0, cRd c, 0, 0, 0, false⟩ := ⟨_, rfl⟩
  rw [← hx] at hR ⊢
  clear hx
  obtain ⟨x, b⟩ := x
  go_enter Tryz.func39, Tryz.ntmps39
  go_wp2_with (first | (go_at_call 35; (with_reducible first | refine (f_12_12_0 c h0 h1 _).mono ?_); rintro e w0 ⟨rfl, rfl⟩) | (go_at_call 37; refine (hR _).mono ?_; rintro e w1 ⟨rfl, hb⟩))
  go_ret2
  exact ⟨rfl, hb⟩
set_option maxHeartbeats 1000000 in
theorem ju_0r (c : Int) (h0 : 0 ≤ c) (h1 : c ≤ 65535) (w : World) (hu : c / 4096 % 2 = 0) (hr : cR2 c ≠ 0) :
    Calls Tryz.prog 39 #[.int .u16 c, .int .i64 (cRd c), .int .i64 (cR2 c)] w fun e w' => e = .returned (.tuple #[.int .u32 (encF ⟨8, 1, cRd c, 0, cR2 c, 0, 0, false⟩).1, .bool (encF ⟨8, 1, cRd c, 0, cR2 c, 0, 0, false⟩).2]) ∧ Below w.heap.size w w' := by
  have hR := r_R ⟨8, 1, cRd c, 0, cR2 c, 0, 0, false⟩
  obtain ⟨x, hx⟩ : ∃ x, x = encF ⟨8, 1, cRd c, 0, cR2 c, 0, 0, false⟩ := ⟨_, rfl⟩
  rw [← hx] at hR ⊢
  clear hx
  obtain ⟨x, b⟩ := x
  go_enter Tryz.func39, Tryz.ntmps39
  go_wp2_with (first | (go_at_call 35; (with_reducible first | refine (f_12_12_0 c h0 h1 _).mono ?_); rintro e w0 ⟨rfl, rfl⟩) | (go_at_call 37; refine (hR _).mono ?_; rintro e w1 ⟨rfl, hb⟩))
  go_ret2
  exact ⟨rfl, hb⟩
set_option maxHeartbeats 1000000 in
theorem ju_10 (c : Int) (h0 : 0 ≤ c) (h1 : c ≤ 65535) (w : World) (hu : c / 4096 % 2 = 1) (hr : cR2 c = 0) (hd : cRd c = 0) :
    Calls Tryz.prog 39 #[.int .u16 c, .int .i64 (cRd c), .int .i64 (cR2 c)] w fun e w' => e = .returned (.tuple #[.int .u32 (encF ⟨12, 0, 0, 0, 0, 0, 0, false⟩).1, .bool (encF ⟨12, 0, 0, 0, 0, 0, 0, false⟩).2]) ∧ Below w.heap.size w w' := by
  have hR := r_R ⟨12, 0, 0, 0, 0, 0, 0, false⟩
  obtain ⟨x, hx⟩ : ∃ x, x = encF ⟨12, 0, 0, 0, 0, 0, 0, false⟩ := ⟨_, rfl⟩
  rw [← hx] at hR ⊢
  clear hx
  obtain ⟨x, b⟩ := x
  go_enter Tryz.func39, Tryz.ntmps39
  go_wp2_with (first | (go_at_call 35; (with_reducible first | refine (f_12_12_0 c h0 h1 _).mono ?_); rintro e w0 ⟨rfl, rfl⟩) | (go_at_call 37; refine (hR _).mono ?_; rintro e w1 ⟨rfl, hb⟩))
  go_ret2
  exact ⟨rfl, hb⟩
set_option maxHeartbeats 1000000 in
theorem ju_1d (c : Int) (h0 : 0 ≤ c) (h1 : c ≤ 65535) (w : World) (hu : c / 4096 % 2 = 1) (hr : cR2 c = 0) (hd : cRd c ≠ 0) :
    Calls Tryz.prog 39 #[.int .u16 c, .int .i64 (cRd c), .int .i64 (cR2 c)] w fun e w' => e = .returned (.tuple #[.int .u32 (encF ⟨4, 0, 1, cRd c, 0, 0, 0, false⟩).1, .bool (encF ⟨4, 0, 1, cRd c, 0, 0, 0, false⟩).2]) ∧ Below w.heap.size w w' := by
  have hR := r_R ⟨4, 0, 1, cRd c, 0, 0, 0, false⟩
  obtain ⟨x, hx⟩ : ∃ x, x = encF ⟨4, 0, 1, cRd c, 0, 0, 0, false⟩ := ⟨_, rfl⟩
  rw [← hx] at hR ⊢
  clear hx
  obtain ⟨x, b⟩ := x
  go_enter Tryz.func39, Tryz.ntmps39
  go_wp2_with (first | (go_at_call 35; (with_reducible first | refine (f_12_12_0 c h0 h1 _).mono ?_); rintro e w0 ⟨rfl, rfl⟩) | (go_at_call 37; refine (hR _).mono ?_; rintro e w1 ⟨rfl, hb⟩))
  go_ret2
  exact ⟨rfl, hb⟩
set_option maxHeartbeats 1000000 in
theorem ju_1r (c : Int) (h0 : 0 ≤ c) (h1 : c ≤ 65535) (w : World) (hu : c / 4096 % 2 = 1) (hr : cR2 c ≠ 0) :
    Calls Tryz.prog 39 #[.int .u16 c, .int .i64 (cRd c), .int .i64 (cR2 c)] w fun e w' => e = .returned (.tuple #[.int .u32 (encF ⟨8, 1, cRd c, cRd c, cR2 c, 0, 0, false⟩).1, .bool (encF ⟨8, 1, cRd c, cRd c, cR2 c, 0, 0, false⟩).2]) ∧ Below w.heap.size w w' := by
  have hR := r_R ⟨8, 1, cRd c, cRd c, cR2 c, 0, 0, false⟩
  obtain ⟨x, hx⟩ : ∃ x, x = encF ⟨8, 1, cRd c, cRd c, cR2 c, 0, 0, false⟩ := ⟨_, rfl⟩
  rw [← hx] at hR ⊢
  clear hx
  obtain ⟨x, b⟩ := x
  go_enter Tryz.func39, Tryz.ntmps39
  go_wp2_with (first | (go_at_call 35; (with_reducible first | refine (f_12_12_0 c h0 h1 _).mono ?_); rintro e w0 ⟨rfl, rfl⟩) | (go_at_call 37; refine (hR _).mono ?_; rintro e w1 ⟨rfl, hb⟩))
  go_ret2
  exact ⟨rfl, hb⟩
end Go.Proofs.YtlfdokkopgmfjaaGreatDoor.B
