/- The word that the reference puts together, for every instruction in range. New blocks alone. -/
import Derived.Test.YtioodijiejipiaaGreatDoorRR
import Derived.Test.YtioodijiejipiaaGreatDoorRS
import Derived.Test.YtioodijiejipiaaGreatDoorRT
namespace Go.Proofs.YtioodijiejipiaaGreatDoor
open Go.RowKit
set_option linter.unusedVariables false

/-- the word that the reference puts together -/
def wordX (i : I) : Int :=
  if i.kind = 1 then bits .or .u32 (bits .or .u32 (55) (at2 i.rd 32 128)) (at2 (i.imm / 4096) 1048576 4096) else
  if i.kind = 2 then bits .or .u32 (bits .or .u32 (23) (at2 i.rd 32 128)) (at2 (i.imm / 4096) 1048576 4096) else
  if i.kind = 3 then bits .or .u32 (bits .or .u32 (111) (at2 i.rd 32 128)) (bits .or .u32 (bits .or .u32 (bits .or .u32 (at2 (i.imm / 1048576) 2 2147483648) (at2 (i.imm / 4096) 256 4096)) (at2 (i.imm / 2048) 2 1048576)) (at2 (i.imm / 2) 1024 2097152)) else
  if i.kind = 4 then bits .or .u32 (bits .or .u32 (bits .or .u32 (103) (at2 i.rd 32 128)) (at2 i.rs1 32 32768)) (at2 i.imm 4096 1048576) else
  if i.kind = 5 then bits .or .u32 (bits .or .u32 (bits .or .u32 (bits .or .u32 (99) (at2 (coS i.fn) 8 4096)) (at2 i.rs1 32 32768)) (at2 i.rs2 32 1048576)) (bits .or .u32 (bits .or .u32 (bits .or .u32 (at2 (i.imm / 4096) 2 2147483648) (at2 (i.imm / 2048) 2 128)) (at2 (i.imm / 32) 64 33554432)) (at2 (i.imm / 2) 16 256)) else
  if i.kind = 6 then (if i.sg = true then bits .or .u32 (bits .or .u32 (bits .or .u32 (bits .or .u32 (3) (szS i.size * 4096)) (at2 i.rd 32 128)) (at2 i.rs1 32 32768)) (at2 i.imm 4096 1048576) else bits .or .u32 (bits .or .u32 (bits .or .u32 (bits .or .u32 (3) ((szS i.size + 4) * 4096)) (at2 i.rd 32 128)) (at2 i.rs1 32 32768)) (at2 i.imm 4096 1048576)) else
  if i.kind = 7 then bits .or .u32 (bits .or .u32 (bits .or .u32 (bits .or .u32 (bits .or .u32 (35) (szS i.size * 4096)) (at2 i.rs1 32 32768)) (at2 i.rs2 32 1048576)) (at2 i.imm 32 128)) (at2 (i.imm / 32) 128 33554432) else
  if i.kind = 8 then (if 19 ≤ i.fn then bits .or .u32 (bits .or .u32 (59) (aluT i.fn)) (bits .or .u32 (bits .or .u32 (at2 i.rd 32 128) (at2 i.rs1 32 32768)) (at2 i.rs2 32 1048576)) else bits .or .u32 (bits .or .u32 (51) (aluT i.fn)) (bits .or .u32 (bits .or .u32 (at2 i.rd 32 128) (at2 i.rs1 32 32768)) (at2 i.rs2 32 1048576))) else
  if i.kind = 9 then (if inb i.fn 19 23 = true then bits .or .u32 (bits .or .u32 (bits .or .u32 (bits .or .u32 (27) (aluT i.fn)) (at2 i.rd 32 128)) (at2 i.rs1 32 32768)) (at2 i.imm 4096 1048576) else bits .or .u32 (bits .or .u32 (bits .or .u32 (bits .or .u32 (19) (aluT i.fn)) (at2 i.rd 32 128)) (at2 i.rs1 32 32768)) (at2 i.imm 4096 1048576)) else
  if i.kind = 10 then 15 else
  if i.kind = 11 then 115 else
  if i.kind = 12 then 1048691 else
  if i.kind = 13 then bits .or .u32 (bits .or .u32 (bits .or .u32 (bits .or .u32 (115) (at2 i.fn 4 4096)) (at2 i.rd 32 128)) (at2 i.rs1 32 32768)) (at2 i.imm 4096 1048576) else
  if i.kind = 14 then bits .or .u32 (bits .or .u32 (bits .or .u32 (bits .or .u32 (16499) (at2 i.fn 4 4096)) (at2 i.rd 32 128)) (at2 i.rs1 32 32768)) (at2 i.imm 4096 1048576) else
  if i.kind = 15 then bits .or .u32 (bits .or .u32 (bits .or .u32 (268435503) (szS i.size * 4096)) (at2 i.rd 32 128)) (at2 i.rs1 32 32768) else
  if i.kind = 16 then bits .or .u32 (bits .or .u32 (402653231) (szS i.size * 4096)) (bits .or .u32 (bits .or .u32 (at2 i.rd 32 128) (at2 i.rs1 32 32768)) (at2 i.rs2 32 1048576)) else
  if i.kind = 17 then bits .or .u32 (bits .or .u32 (bits .or .u32 (47) (at2 (fiS i.fn) 32 134217728)) (szS i.size * 4096)) (bits .or .u32 (bits .or .u32 (at2 i.rd 32 128) (at2 i.rs1 32 32768)) (at2 i.rs2 32 1048576)) else
  if i.kind = 18 then 270532723 else
  if i.kind = 19 then 273678451 else
  if i.kind = 20 then bits .or .u32 (bits .or .u32 (301990003) (at2 i.rs1 32 32768)) (at2 i.rs2 32 1048576) else
  0
theorem r_word (k fn rd r1 r2 im sz : Int) (sg : Bool) (m0 : -2147483648 ≤ im) (m1 : im < 2147483648) (d0 : 0 ≤ rd) (d1 : rd ≤ 31) (a0 : 0 ≤ r1) (a1 : r1 ≤ 31) (b0 : 0 ≤ r2) (b1 : r2 ≤ 31) (f0 : 0 ≤ fn) (f1 : fn ≤ 28) (z0 : 0 ≤ sz) (z1 : sz ≤ 8) (w : World) :
    Calls Tryz.prog 27 #[I.v ⟨k, fn, rd, r1, r2, im, sz, sg⟩] w fun e w' => e = .returned (.int .u32 (wordX ⟨k, fn, rd, r1, r2, im, sz, sg⟩)) ∧ Below w.heap.size w w' := by
  by_cases n1 : k = 1
  · subst n1; exact w_1 fn rd r1 r2 im sz sg m0 m1 d0 d1 a0 a1 b0 b1 f0 f1 z0 z1 w
  by_cases n2 : k = 2
  · subst n2; exact w_2 fn rd r1 r2 im sz sg m0 m1 d0 d1 a0 a1 b0 b1 f0 f1 z0 z1 w
  by_cases n3 : k = 3
  · subst n3; exact w_3 fn rd r1 r2 im sz sg m0 m1 d0 d1 a0 a1 b0 b1 f0 f1 z0 z1 w
  by_cases n4 : k = 4
  · subst n4; exact w_4 fn rd r1 r2 im sz sg m0 m1 d0 d1 a0 a1 b0 b1 f0 f1 z0 z1 w
  by_cases n5 : k = 5
  · subst n5; exact w_5 fn rd r1 r2 im sz sg m0 m1 d0 d1 a0 a1 b0 b1 f0 f1 z0 z1 w
  by_cases n6 : k = 6
  · subst n6; cases sg
    · exact w_6u fn rd r1 r2 im sz false m0 m1 d0 d1 a0 a1 b0 b1 f0 f1 z0 z1 w rfl
    · exact w_6s fn rd r1 r2 im sz true m0 m1 d0 d1 a0 a1 b0 b1 f0 f1 z0 z1 w rfl
  by_cases n7 : k = 7
  · subst n7; exact w_7 fn rd r1 r2 im sz sg m0 m1 d0 d1 a0 a1 b0 b1 f0 f1 z0 z1 w
  by_cases n8 : k = 8
  · subst n8
    by_cases g : 19 ≤ fn
    · rw [show wordX ⟨8, fn, rd, r1, r2, im, sz, sg⟩ = bits .or .u32 (bits .or .u32 (59) (aluT fn)) (bits .or .u32 (bits .or .u32 (at2 rd 32 128) (at2 r1 32 32768)) (at2 r2 32 1048576)) from if_pos g]; exact w_8w fn rd r1 r2 im sz sg m0 m1 d0 d1 a0 a1 b0 b1 f0 f1 z0 z1 w g
    · rw [show wordX ⟨8, fn, rd, r1, r2, im, sz, sg⟩ = bits .or .u32 (bits .or .u32 (51) (aluT fn)) (bits .or .u32 (bits .or .u32 (at2 rd 32 128) (at2 r1 32 32768)) (at2 r2 32 1048576)) from if_neg g]; exact w_8 fn rd r1 r2 im sz sg m0 m1 d0 d1 a0 a1 b0 b1 f0 f1 z0 z1 w (by omega)
  by_cases n9 : k = 9
  · subst n9
    cases g : inb fn 19 23
    · rw [show wordX ⟨9, fn, rd, r1, r2, im, sz, sg⟩ = bits .or .u32 (bits .or .u32 (bits .or .u32 (bits .or .u32 (19) (aluT fn)) (at2 rd 32 128)) (at2 r1 32 32768)) (at2 im 4096 1048576) from if_neg (show ¬ inb fn 19 23 = true by rw [g]; decide)]; exact w_9 fn rd r1 r2 im sz sg m0 m1 d0 d1 a0 a1 b0 b1 f0 f1 z0 z1 w g
    · rw [show wordX ⟨9, fn, rd, r1, r2, im, sz, sg⟩ = bits .or .u32 (bits .or .u32 (bits .or .u32 (bits .or .u32 (27) (aluT fn)) (at2 rd 32 128)) (at2 r1 32 32768)) (at2 im 4096 1048576) from if_pos g]; exact w_9w fn rd r1 r2 im sz sg m0 m1 d0 d1 a0 a1 b0 b1 f0 f1 z0 z1 w g
  by_cases n10 : k = 10
  · subst n10; exact w_10 fn rd r1 r2 im sz sg m0 m1 d0 d1 a0 a1 b0 b1 f0 f1 z0 z1 w
  by_cases n11 : k = 11
  · subst n11; exact w_11 fn rd r1 r2 im sz sg m0 m1 d0 d1 a0 a1 b0 b1 f0 f1 z0 z1 w
  by_cases n12 : k = 12
  · subst n12; exact w_12 fn rd r1 r2 im sz sg m0 m1 d0 d1 a0 a1 b0 b1 f0 f1 z0 z1 w
  by_cases n13 : k = 13
  · subst n13; exact w_13 fn rd r1 r2 im sz sg m0 m1 d0 d1 a0 a1 b0 b1 f0 f1 z0 z1 w
  by_cases n14 : k = 14
  · subst n14; exact w_14 fn rd r1 r2 im sz sg m0 m1 d0 d1 a0 a1 b0 b1 f0 f1 z0 z1 w
  by_cases n15 : k = 15
  · subst n15; exact w_15 fn rd r1 r2 im sz sg m0 m1 d0 d1 a0 a1 b0 b1 f0 f1 z0 z1 w
  by_cases n16 : k = 16
  · subst n16; exact w_16 fn rd r1 r2 im sz sg m0 m1 d0 d1 a0 a1 b0 b1 f0 f1 z0 z1 w
  by_cases n17 : k = 17
  · subst n17; exact w_17 fn rd r1 r2 im sz sg m0 m1 d0 d1 a0 a1 b0 b1 f0 f1 z0 z1 w
  by_cases n18 : k = 18
  · subst n18; exact w_18 fn rd r1 r2 im sz sg m0 m1 d0 d1 a0 a1 b0 b1 f0 f1 z0 z1 w
  by_cases n19 : k = 19
  · subst n19; exact w_19 fn rd r1 r2 im sz sg m0 m1 d0 d1 a0 a1 b0 b1 f0 f1 z0 z1 w
  by_cases n20 : k = 20
  · subst n20; exact w_20 fn rd r1 r2 im sz sg m0 m1 d0 d1 a0 a1 b0 b1 f0 f1 z0 z1 w
  rw [show wordX ⟨k, fn, rd, r1, r2, im, sz, sg⟩ = 0 by unfold wordX; rw [if_neg n1, if_neg n2, if_neg n3, if_neg n4, if_neg n5, if_neg n6, if_neg n7, if_neg n8, if_neg n9, if_neg n10, if_neg n11, if_neg n12, if_neg n13, if_neg n14, if_neg n15, if_neg n16, if_neg n17, if_neg n18, if_neg n19, if_neg n20]]
  exact w_e k fn rd r1 r2 im sz sg m0 m1 d0 d1 a0 a1 b0 b1 f0 f1 z0 z1 w n1 n2 n3 n4 n5 n6 n7 n8 n9 n10 n11 n12 n13 n14 n15 n16 n17 n18 n19 n20
end Go.Proofs.YtioodijiejipiaaGreatDoor
