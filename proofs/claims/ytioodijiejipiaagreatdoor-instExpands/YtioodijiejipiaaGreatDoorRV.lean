/- The word that the reference puts together of an instruction that is read is the program's draft. Nothing here speaks of the program's walks. -/
import Derived.Test.YtioodijiejipiaaGreatDoorRU
import Derived.Test.YtioodijiejipiaaGreatDoorIMX
namespace Go.Proofs.YtioodijiejipiaaGreatDoor
open Go.RowKit
set_option linter.unusedVariables false

theorem s2 {x y : Int} {a b : Nat} (hx : In x a) (hy : In y b) (h : a &&& b = 0 ∧ a < 4294967296 ∧ b < 4294967296) : bits .or .u32 x y = x + y ∧ In (x + y) (a ||| b) := hx.or hy h.1 h.2.1 h.2.2
theorem s3 {x y z : Int} {a b c : Nat} (hx : In x a) (hy : In y b) (hz : In z c) (h : (a &&& b = 0 ∧ a < 4294967296 ∧ b < 4294967296) ∧ (a ||| b) &&& c = 0 ∧ a ||| b < 4294967296 ∧ c < 4294967296) : bits .or .u32 (bits .or .u32 x y) z = x + y + z ∧ In (x + y + z) ((a ||| b) ||| c) := by
  have e := s2 hx hy h.1
  rw [e.1]; exact s2 e.2 hz h.2
theorem s4 {x y z u : Int} {a b c d : Nat} (hx : In x a) (hy : In y b) (hz : In z c) (hu : In u d) (h : ((a &&& b = 0 ∧ a < 4294967296 ∧ b < 4294967296) ∧ (a ||| b) &&& c = 0 ∧ a ||| b < 4294967296 ∧ c < 4294967296) ∧ ((a ||| b) ||| c) &&& d = 0 ∧ (a ||| b) ||| c < 4294967296 ∧ d < 4294967296) : bits .or .u32 (bits .or .u32 (bits .or .u32 x y) z) u = x + y + z + u ∧ In (x + y + z + u) (((a ||| b) ||| c) ||| d) := by
  have e := s3 hx hy hz h.1
  rw [e.1]; exact s2 e.2 hu h.2
theorem s5 {x y z u v : Int} {a b c d f : Nat} (hx : In x a) (hy : In y b) (hz : In z c) (hu : In u d) (hv : In v f) (h : (((a &&& b = 0 ∧ a < 4294967296 ∧ b < 4294967296) ∧ (a ||| b) &&& c = 0 ∧ a ||| b < 4294967296 ∧ c < 4294967296) ∧ ((a ||| b) ||| c) &&& d = 0 ∧ (a ||| b) ||| c < 4294967296 ∧ d < 4294967296) ∧ (((a ||| b) ||| c) ||| d) &&& f = 0 ∧ ((a ||| b) ||| c) ||| d < 4294967296 ∧ f < 4294967296) : bits .or .u32 (bits .or .u32 (bits .or .u32 (bits .or .u32 x y) z) u) v = x + y + z + u + v ∧ In (x + y + z + u + v) ((((a ||| b) ||| c) ||| d) ||| f) := by
  have e := s4 hx hy hz hu h.1
  rw [e.1]; exact s2 e.2 hv h.2
theorem s6 {x y z u v t : Int} {a b c d f g : Nat} (hx : In x a) (hy : In y b) (hz : In z c) (hu : In u d) (hv : In v f) (ht : In t g) (h : ((((a &&& b = 0 ∧ a < 4294967296 ∧ b < 4294967296) ∧ (a ||| b) &&& c = 0 ∧ a ||| b < 4294967296 ∧ c < 4294967296) ∧ ((a ||| b) ||| c) &&& d = 0 ∧ (a ||| b) ||| c < 4294967296 ∧ d < 4294967296) ∧ (((a ||| b) ||| c) ||| d) &&& f = 0 ∧ ((a ||| b) ||| c) ||| d < 4294967296 ∧ f < 4294967296) ∧ ((((a ||| b) ||| c) ||| d) ||| f) &&& g = 0 ∧ (((a ||| b) ||| c) ||| d) ||| f < 4294967296 ∧ g < 4294967296) : bits .or .u32 (bits .or .u32 (bits .or .u32 (bits .or .u32 (bits .or .u32 x y) z) u) v) t = x + y + z + u + v + t := by
  have e := s5 hx hy hz hu hv h.1
  rw [e.1]; exact (s2 e.2 ht h.2).1

theorem ia_5_7 (x : Int) : In (at2 x 32 128) 3968 := In.mk' 5 7 (x % 32) _ (by omega) (by omega) rfl
theorem ia_5_15 (x : Int) : In (at2 x 32 32768) 1015808 := In.mk' 5 15 (x % 32) _ (by omega) (by omega) rfl
theorem ia_5_20 (x : Int) : In (at2 x 32 1048576) 32505856 := In.mk' 5 20 (x % 32) _ (by omega) (by omega) rfl
theorem ia_3_12 (x : Int) : In (at2 x 8 4096) 28672 := In.mk' 3 12 (x % 8) _ (by omega) (by omega) rfl
theorem ia_12_20 (x : Int) : In (at2 x 4096 1048576) 4293918720 := In.mk' 12 20 (x % 4096) _ (by omega) (by omega) rfl
theorem ia_20_12 (x : Int) : In (at2 x 1048576 4096) 4294963200 := In.mk' 20 12 (x % 1048576) _ (by omega) (by omega) rfl
theorem ia_7_25 (x : Int) : In (at2 x 128 33554432) 4261412864 := In.mk' 7 25 (x % 128) _ (by omega) (by omega) rfl
theorem ia_2_12 (x : Int) : In (at2 x 4 4096) 12288 := In.mk' 2 12 (x % 4) _ (by omega) (by omega) rfl
theorem ia_5_27 (x : Int) : In (at2 x 32 134217728) 4160749568 := In.mk' 5 27 (x % 32) _ (by omega) (by omega) rfl
theorem in_sz (x : Int) (h0 : 0 ≤ x) (h1 : x ≤ 7) : In (x * 4096) 28672 := In.mk' 3 12 x _ h0 (by omega) rfl
theorem in_R0 (x y z : Int) : bits .or .u32 (bits .or .u32 (at2 x 32 128) (at2 y 32 32768)) (at2 z 32 1048576) = at2 x 32 128 + at2 y 32 32768 + at2 z 32 1048576 ∧ In (at2 x 32 128 + at2 y 32 32768 + at2 z 32 1048576) 33525632 := s3 (ia_5_7 x) (ia_5_15 y) (ia_5_20 z) (by decide)
theorem in_alu (n : Int) (n0 : 0 ≤ n) (n1 : n ≤ 28) : In (aluT n) 1107324928 := by
  rcases (by omega : n = 0 ∨ n = 1 ∨ n = 2 ∨ n = 3 ∨ n = 4 ∨ n = 5 ∨ n = 6 ∨ n = 7 ∨ n = 8 ∨ n = 9 ∨ n = 10 ∨ n = 11 ∨ n = 12 ∨ n = 13 ∨ n = 14 ∨ n = 15 ∨ n = 16 ∨ n = 17 ∨ n = 18 ∨ n = 19 ∨ n = 20 ∨ n = 21 ∨ n = 22 ∨ n = 23 ∨ n = 24 ∨ n = 25 ∨ n = 26 ∨ n = 27 ∨ n = 28) with rfl | rfl | rfl | rfl | rfl | rfl | rfl | rfl | rfl | rfl | rfl | rfl | rfl | rfl | rfl | rfl | rfl | rfl | rfl | rfl | rfl | rfl | rfl | rfl | rfl | rfl | rfl | rfl | rfl <;> exact ⟨by decide, by decide⟩
theorem at_reg (x : Int) (h : 0 ≤ x ∧ x < 32) (k : Int) : at2 x 32 k = x * k := by unfold at2; rw [Int.emod_eq_of_lt h.1 h.2]
theorem wd_lui (a : Int) (h0 : 0 ≤ a) (h1 : a < 4294967296) (ho : fOp a = 55) : wordX ⟨1, 0, (fRd a), 0, 0, (iU a), 0, false⟩ = a := by
  have hr := fRd_b a
  have hs := fRs1_b a
  have ht := fRs2_b a
  have h3 := fF3_b a
  have h7 := fF7_b a
  have h6 := fF6_b a
  have h5 := fF5_b a
  rw [show wordX ⟨1, 0, (fRd a), 0, 0, (iU a), 0, false⟩ = bits .or .u32 (bits .or .u32 (55) (at2 (fRd a) 32 128)) (at2 ((iU a) / 4096) 1048576 4096) from rfl]
  have hi : at2 (iU a / 4096) 1048576 4096 = a / 4096 * 4096 := imU_iU a h0 h1
  rw [(s3 (show In (55 : Int) 55 from In.lit 55) (ia_5_7 _) (ia_20_12 _) (by decide)).1]
  rw [hi, at_reg _ hr]
  try unfold fOp at *
  try unfold fRd at *
  try unfold fF3 at *
  try unfold fRs1 at *
  try unfold fRs2 at *
  try unfold fF7 at *
  try unfold fF6 at *
  try unfold fF5 at *
  try unfold fSh at *
  try unfold fCs at *
  omega
theorem wd_auipc (a : Int) (h0 : 0 ≤ a) (h1 : a < 4294967296) (ho : fOp a = 23) : wordX ⟨2, 0, (fRd a), 0, 0, (iU a), 0, false⟩ = a := by
  have hr := fRd_b a
  have hs := fRs1_b a
  have ht := fRs2_b a
  have h3 := fF3_b a
  have h7 := fF7_b a
  have h6 := fF6_b a
  have h5 := fF5_b a
  rw [show wordX ⟨2, 0, (fRd a), 0, 0, (iU a), 0, false⟩ = bits .or .u32 (bits .or .u32 (23) (at2 (fRd a) 32 128)) (at2 ((iU a) / 4096) 1048576 4096) from rfl]
  have hi : at2 (iU a / 4096) 1048576 4096 = a / 4096 * 4096 := imU_iU a h0 h1
  rw [(s3 (show In (23 : Int) 23 from In.lit 23) (ia_5_7 _) (ia_20_12 _) (by decide)).1]
  rw [hi, at_reg _ hr]
  try unfold fOp at *
  try unfold fRd at *
  try unfold fF3 at *
  try unfold fRs1 at *
  try unfold fRs2 at *
  try unfold fF7 at *
  try unfold fF6 at *
  try unfold fF5 at *
  try unfold fSh at *
  try unfold fCs at *
  omega
theorem wd_jal (a : Int) (h0 : 0 ≤ a) (h1 : a < 4294967296) (ho : fOp a = 111) : wordX ⟨3, 0, (fRd a), 0, 0, (iJ a), 0, false⟩ = a := by
  have hr := fRd_b a
  have hs := fRs1_b a
  have ht := fRs2_b a
  have h3 := fF3_b a
  have h7 := fF7_b a
  have h6 := fF6_b a
  have h5 := fF5_b a
  rw [show wordX ⟨3, 0, (fRd a), 0, 0, (iJ a), 0, false⟩ = bits .or .u32 (bits .or .u32 (111) (at2 (fRd a) 32 128)) (bits .or .u32 (bits .or .u32 (bits .or .u32 (at2 ((iJ a) / 1048576) 2 2147483648) (at2 ((iJ a) / 4096) 256 4096)) (at2 ((iJ a) / 2048) 2 1048576)) (at2 ((iJ a) / 2) 1024 2097152)) from rfl]
  have hj : bits .or .u32 (bits .or .u32 (bits .or .u32 (at2 (iJ a / 1048576) 2 2147483648) (at2 (iJ a / 4096) 256 4096)) (at2 (iJ a / 2048) 2 1048576)) (at2 (iJ a / 2) 1024 2097152) = imJ (iJ a) := or_imJ (iJ a)
  have hi := imJ_iJ a h0 h1
  rw [hj]
  rw [(s3 (show In (111 : Int) 111 from In.lit 111) (ia_5_7 _) (in_imJ (iJ a)) (by decide)).1]
  rw [hi, at_reg _ hr]
  try unfold fOp at *
  try unfold fRd at *
  try unfold fF3 at *
  try unfold fRs1 at *
  try unfold fRs2 at *
  try unfold fF7 at *
  try unfold fF6 at *
  try unfold fF5 at *
  try unfold fSh at *
  try unfold fCs at *
  omega
theorem wd_jalr (a : Int) (h0 : 0 ≤ a) (h1 : a < 4294967296) (ho : fOp a = 103) (hf : fF3 a = 0) : wordX ⟨4, 0, (fRd a), (fRs1 a), 0, (iI a), 0, false⟩ = a := by
  have hr := fRd_b a
  have hs := fRs1_b a
  have ht := fRs2_b a
  have h3 := fF3_b a
  have h7 := fF7_b a
  have h6 := fF6_b a
  have h5 := fF5_b a
  rw [show wordX ⟨4, 0, (fRd a), (fRs1 a), 0, (iI a), 0, false⟩ = bits .or .u32 (bits .or .u32 (bits .or .u32 (103) (at2 (fRd a) 32 128)) (at2 (fRs1 a) 32 32768)) (at2 (iI a) 4096 1048576) from rfl]
  have hi : at2 (iI a) 4096 1048576 = a / 1048576 * 1048576 := imI_iI a h0 h1
  rw [(s4 (show In (103 : Int) 103 from In.lit 103) (ia_5_7 _) (ia_5_15 _) (ia_12_20 _) (by decide)).1]
  rw [hi, at_reg _ hr, at_reg _ hs]
  try unfold fOp at *
  try unfold fRd at *
  try unfold fF3 at *
  try unfold fRs1 at *
  try unfold fRs2 at *
  try unfold fF7 at *
  try unfold fF6 at *
  try unfold fF5 at *
  try unfold fSh at *
  try unfold fCs at *
  omega
theorem wd_branch (a : Int) (h0 : 0 ≤ a) (h1 : a < 4294967296) (ho : fOp a = 99) (hn : tCond (fF3 a) ≠ 0) : wordX ⟨5, (tCond (fF3 a)), 0, (fRs1 a), (fRs2 a), (iB a), 0, false⟩ = a := by
  have hr := fRd_b a
  have hs := fRs1_b a
  have ht := fRs2_b a
  have h3 := fF3_b a
  have h7 := fF7_b a
  have h6 := fF6_b a
  have h5 := fF5_b a
  rw [show wordX ⟨5, (tCond (fF3 a)), 0, (fRs1 a), (fRs2 a), (iB a), 0, false⟩ = bits .or .u32 (bits .or .u32 (bits .or .u32 (bits .or .u32 (99) (at2 (coS (tCond (fF3 a))) 8 4096)) (at2 (fRs1 a) 32 32768)) (at2 (fRs2 a) 32 1048576)) (bits .or .u32 (bits .or .u32 (bits .or .u32 (at2 ((iB a) / 4096) 2 2147483648) (at2 ((iB a) / 2048) 2 128)) (at2 ((iB a) / 32) 64 33554432)) (at2 ((iB a) / 2) 16 256)) from rfl]
  have hc : at2 (coS (tCond (fF3 a))) 8 4096 = fF3 a * 4096 := by
    rcases eight h3 with q | q | q | q | q | q | q | q <;> rw [q] at hn ⊢ <;> first | exact absurd rfl hn | rfl
  have hj : bits .or .u32 (bits .or .u32 (bits .or .u32 (at2 (iB a / 4096) 2 2147483648) (at2 (iB a / 2048) 2 128)) (at2 (iB a / 32) 64 33554432)) (at2 (iB a / 2) 16 256) = imB (iB a) := or_imB (iB a)
  have hi := imB_iB a h0 h1
  rw [hj]
  rw [(s5 (show In (99 : Int) 99 from In.lit 99) (ia_3_12 _) (ia_5_15 _) (ia_5_20 _) (in_imB (iB a)) (by decide)).1]
  rw [hi, hc, at_reg _ hs, at_reg _ ht]
  try unfold fOp at *
  try unfold fRd at *
  try unfold fF3 at *
  try unfold fRs1 at *
  try unfold fRs2 at *
  try unfold fF7 at *
  try unfold fF6 at *
  try unfold fF5 at *
  try unfold fSh at *
  try unfold fCs at *
  omega
theorem wd_load (a : Int) (h0 : 0 ≤ a) (h1 : a < 4294967296) (ho : fOp a = 3) (hn : tLoad (fF3 a) ≠ 0) : wordX ⟨6, 0, fRd a, fRs1 a, 0, iI a, tLoad (fF3 a), lt4 (fF3 a)⟩ = a := by
  have hr := fRd_b a
  have hs := fRs1_b a
  have ht := fRs2_b a
  have h3 := fF3_b a
  have h7 := fF7_b a
  have h6 := fF6_b a
  have h5 := fF5_b a
  have e : wordX ⟨6, 0, fRd a, fRs1 a, 0, iI a, tLoad (fF3 a), lt4 (fF3 a)⟩ = bits .or .u32 (bits .or .u32 (bits .or .u32 (bits .or .u32 (3) (fF3 a * 4096)) (at2 (fRd a) 32 128)) (at2 (fRs1 a) 32 32768)) (at2 (iI a) 4096 1048576) := by
    rcases eight h3 with q | q | q | q | q | q | q | q <;> rw [q] at hn ⊢ <;> first | exact absurd rfl hn | rfl
  rw [e]
  have hi : at2 (iI a) 4096 1048576 = a / 1048576 * 1048576 := imI_iI a h0 h1
  rw [(s5 (show In (3 : Int) 3 from In.lit 3) (in_sz _ h3.1 (by omega)) (ia_5_7 _) (ia_5_15 _) (ia_12_20 _) (by decide)).1]
  rw [hi, at_reg _ hr, at_reg _ hs]
  try unfold fOp at *
  try unfold fRd at *
  try unfold fF3 at *
  try unfold fRs1 at *
  try unfold fRs2 at *
  try unfold fF7 at *
  try unfold fF6 at *
  try unfold fF5 at *
  try unfold fSh at *
  try unfold fCs at *
  omega
theorem wd_store (a : Int) (h0 : 0 ≤ a) (h1 : a < 4294967296) (ho : fOp a = 35) (hn : tStore (fF3 a) ≠ 0) : wordX ⟨7, 0, 0, (fRs1 a), (fRs2 a), (iS a), (tStore (fF3 a)), false⟩ = a := by
  have hr := fRd_b a
  have hs := fRs1_b a
  have ht := fRs2_b a
  have h3 := fF3_b a
  have h7 := fF7_b a
  have h6 := fF6_b a
  have h5 := fF5_b a
  rw [show wordX ⟨7, 0, 0, (fRs1 a), (fRs2 a), (iS a), (tStore (fF3 a)), false⟩ = bits .or .u32 (bits .or .u32 (bits .or .u32 (bits .or .u32 (bits .or .u32 (35) (szS (tStore (fF3 a)) * 4096)) (at2 (fRs1 a) 32 32768)) (at2 (fRs2 a) 32 1048576)) (at2 (iS a) 32 128)) (at2 ((iS a) / 32) 128 33554432) from rfl]
  have hc : szS (tStore (fF3 a)) = fF3 a := by
    rcases eight h3 with q | q | q | q | q | q | q | q <;> rw [q] at hn ⊢ <;> first | exact absurd rfl hn | rfl
  rw [hc]
  have hi : at2 (iS a / 32) 128 33554432 + at2 (iS a) 32 128 = a / 33554432 * 33554432 + a / 128 % 32 * 128 := imS_iS a h0 h1
  rw [s6 (show In (35 : Int) 35 from In.lit 35) (in_sz _ h3.1 (by omega)) (ia_5_15 _) (ia_5_20 _) (ia_5_7 _) (ia_7_25 _) (by decide)]
  rw [at_reg _ hs, at_reg _ ht]
  try unfold fOp at *
  try unfold fRd at *
  try unfold fF3 at *
  try unfold fRs1 at *
  try unfold fRs2 at *
  try unfold fF7 at *
  try unfold fF6 at *
  try unfold fF5 at *
  try unfold fSh at *
  try unfold fCs at *
  omega
theorem wd_imm (a : Int) (h0 : 0 ≤ a) (h1 : a < 4294967296) (ho : fOp a = 19) (n1 : fF3 a ≠ 1) (n5 : fF3 a ≠ 5) : wordX ⟨9, (tBas (fF3 a)), (fRd a), (fRs1 a), 0, (iI a), 0, false⟩ = a := by
  have hr := fRd_b a
  have hs := fRs1_b a
  have ht := fRs2_b a
  have h3 := fF3_b a
  have h7 := fF7_b a
  have h6 := fF6_b a
  have h5 := fF5_b a
  have hc : aluT (tBas (fF3 a)) = fF3 a * 4096 := by
    rcases eight h3 with q | q | q | q | q | q | q | q <;> rw [q] at n1 n5 ⊢ <;> first | exact absurd rfl n1 | exact absurd rfl n5 | rfl
  have hg : inb (tBas (fF3 a)) 19 23 = false := by
    rcases eight h3 with q | q | q | q | q | q | q | q <;> rw [q] <;> rfl
  have hf : 0 ≤ tBas (fF3 a) ∧ tBas (fF3 a) ≤ 28 := by
    rcases eight h3 with q | q | q | q | q | q | q | q <;> rw [q] <;> decide
  rw [show wordX ⟨9, (tBas (fF3 a)), (fRd a), (fRs1 a), 0, (iI a), 0, false⟩ = bits .or .u32 (bits .or .u32 (bits .or .u32 (bits .or .u32 (19) (aluT (tBas (fF3 a)))) (at2 (fRd a) 32 128)) (at2 (fRs1 a) 32 32768)) (at2 (iI a) 4096 1048576) from if_neg (show ¬ inb (tBas (fF3 a)) 19 23 = true by rw [hg]; decide)]
  rw [hc]
  have hi : at2 (iI a) 4096 1048576 = a / 1048576 * 1048576 := imI_iI a h0 h1
  rw [(s5 (show In (19 : Int) 19 from In.lit 19) (in_sz _ h3.1 (by omega)) (ia_5_7 _) (ia_5_15 _) (ia_12_20 _) (by decide)).1]
  rw [hi, at_reg _ hr, at_reg _ hs]
  try unfold fOp at *
  try unfold fRd at *
  try unfold fF3 at *
  try unfold fRs1 at *
  try unfold fRs2 at *
  try unfold fF7 at *
  try unfold fF6 at *
  try unfold fF5 at *
  try unfold fSh at *
  try unfold fCs at *
  omega
theorem wd_immW (a : Int) (h0 : 0 ≤ a) (h1 : a < 4294967296) (ho : fOp a = 27) (hf : fF3 a = 0) : wordX ⟨9, 19, (fRd a), (fRs1 a), 0, (iI a), 0, false⟩ = a := by
  have hr := fRd_b a
  have hs := fRs1_b a
  have ht := fRs2_b a
  have h3 := fF3_b a
  have h7 := fF7_b a
  have h6 := fF6_b a
  have h5 := fF5_b a
  rw [show wordX ⟨9, 19, (fRd a), (fRs1 a), 0, (iI a), 0, false⟩ = bits .or .u32 (bits .or .u32 (bits .or .u32 (bits .or .u32 (27) (aluT 19)) (at2 (fRd a) 32 128)) (at2 (fRs1 a) 32 32768)) (at2 (iI a) 4096 1048576) from rfl]
  have hi : at2 (iI a) 4096 1048576 = a / 1048576 * 1048576 := imI_iI a h0 h1
  have hc : aluT 19 = 0 := rfl
  rw [hc]
  rw [(s5 (show In (27 : Int) 27 from In.lit 27) (show In (0 : Int) 0 from In.lit 0) (ia_5_7 _) (ia_5_15 _) (ia_12_20 _) (by decide)).1]
  rw [hi, at_reg _ hr, at_reg _ hs]
  try unfold fOp at *
  try unfold fRd at *
  try unfold fF3 at *
  try unfold fRs1 at *
  try unfold fRs2 at *
  try unfold fF7 at *
  try unfold fF6 at *
  try unfold fF5 at *
  try unfold fSh at *
  try unfold fCs at *
  omega
theorem wd_sll (a : Int) (h0 : 0 ≤ a) (h1 : a < 4294967296) (ho : fOp a = 19) (hf : fF3 a = 1) (hq : fF6 a = 0) : wordX ⟨9, 3, (fRd a), (fRs1 a), 0, (fSh a), 0, false⟩ = a := by
  have hr := fRd_b a
  have hs := fRs1_b a
  have ht := fRs2_b a
  have h3 := fF3_b a
  have h7 := fF7_b a
  have h6 := fF6_b a
  have h5 := fF5_b a
  rw [show wordX ⟨9, 3, (fRd a), (fRs1 a), 0, (fSh a), 0, false⟩ = bits .or .u32 (bits .or .u32 (bits .or .u32 (bits .or .u32 (19) (aluT 3)) (at2 (fRd a) 32 128)) (at2 (fRs1 a) 32 32768)) (at2 (fSh a) 4096 1048576) from rfl]
  have hi : at2 (fSh a) 4096 1048576 = fSh a * 1048576 := by have := fSh_b a; unfold at2; omega
  have hc : aluT 3 = 4096 := rfl
  rw [hc, hi]
  rw [(s5 (show In (19 : Int) 19 from In.lit 19) (show In (4096 : Int) 4096 from In.lit 4096) (ia_5_7 _) (ia_5_15 _) (In.mk' 6 20 (fSh a) (fSh a * 1048576) (fSh_b a).1 (by have := (fSh_b a).2; omega) rfl) (by decide)).1]
  rw [at_reg _ hr, at_reg _ hs]
  try unfold fOp at *
  try unfold fRd at *
  try unfold fF3 at *
  try unfold fRs1 at *
  try unfold fRs2 at *
  try unfold fF7 at *
  try unfold fF6 at *
  try unfold fF5 at *
  try unfold fSh at *
  try unfold fCs at *
  omega
theorem wd_srl (a : Int) (h0 : 0 ≤ a) (h1 : a < 4294967296) (ho : fOp a = 19) (hf : fF3 a = 5) (hq : fF6 a = 0) : wordX ⟨9, 7, (fRd a), (fRs1 a), 0, (fSh a), 0, false⟩ = a := by
  have hr := fRd_b a
  have hs := fRs1_b a
  have ht := fRs2_b a
  have h3 := fF3_b a
  have h7 := fF7_b a
  have h6 := fF6_b a
  have h5 := fF5_b a
  rw [show wordX ⟨9, 7, (fRd a), (fRs1 a), 0, (fSh a), 0, false⟩ = bits .or .u32 (bits .or .u32 (bits .or .u32 (bits .or .u32 (19) (aluT 7)) (at2 (fRd a) 32 128)) (at2 (fRs1 a) 32 32768)) (at2 (fSh a) 4096 1048576) from rfl]
  have hi : at2 (fSh a) 4096 1048576 = fSh a * 1048576 := by have := fSh_b a; unfold at2; omega
  have hc : aluT 7 = 20480 := rfl
  rw [hc, hi]
  rw [(s5 (show In (19 : Int) 19 from In.lit 19) (show In (20480 : Int) 20480 from In.lit 20480) (ia_5_7 _) (ia_5_15 _) (In.mk' 6 20 (fSh a) (fSh a * 1048576) (fSh_b a).1 (by have := (fSh_b a).2; omega) rfl) (by decide)).1]
  rw [at_reg _ hr, at_reg _ hs]
  try unfold fOp at *
  try unfold fRd at *
  try unfold fF3 at *
  try unfold fRs1 at *
  try unfold fRs2 at *
  try unfold fF7 at *
  try unfold fF6 at *
  try unfold fF5 at *
  try unfold fSh at *
  try unfold fCs at *
  omega
theorem wd_sra (a : Int) (h0 : 0 ≤ a) (h1 : a < 4294967296) (ho : fOp a = 19) (hf : fF3 a = 5) (hq : fF6 a = 16) : wordX ⟨9, 8, (fRd a), (fRs1 a), 0, (fSh a), 0, false⟩ = a := by
  have hr := fRd_b a
  have hs := fRs1_b a
  have ht := fRs2_b a
  have h3 := fF3_b a
  have h7 := fF7_b a
  have h6 := fF6_b a
  have h5 := fF5_b a
  rw [show wordX ⟨9, 8, (fRd a), (fRs1 a), 0, (fSh a), 0, false⟩ = bits .or .u32 (bits .or .u32 (bits .or .u32 (bits .or .u32 (19) (aluT 8)) (at2 (fRd a) 32 128)) (at2 (fRs1 a) 32 32768)) (at2 (fSh a) 4096 1048576) from rfl]
  have hi : at2 (fSh a) 4096 1048576 = fSh a * 1048576 := by have := fSh_b a; unfold at2; omega
  have hc : aluT 8 = 1073762304 := rfl
  rw [hc, hi]
  rw [(s5 (show In (19 : Int) 19 from In.lit 19) (show In (1073762304 : Int) 1073762304 from In.lit 1073762304) (ia_5_7 _) (ia_5_15 _) (In.mk' 6 20 (fSh a) (fSh a * 1048576) (fSh_b a).1 (by have := (fSh_b a).2; omega) rfl) (by decide)).1]
  rw [at_reg _ hr, at_reg _ hs]
  try unfold fOp at *
  try unfold fRd at *
  try unfold fF3 at *
  try unfold fRs1 at *
  try unfold fRs2 at *
  try unfold fF7 at *
  try unfold fF6 at *
  try unfold fF5 at *
  try unfold fSh at *
  try unfold fCs at *
  omega
theorem wd_sllw (a : Int) (h0 : 0 ≤ a) (h1 : a < 4294967296) (ho : fOp a = 27) (hf : fF3 a = 1) (hq : fF7 a = 0) : wordX ⟨9, 21, (fRd a), (fRs1 a), 0, (fRs2 a), 0, false⟩ = a := by
  have hr := fRd_b a
  have hs := fRs1_b a
  have ht := fRs2_b a
  have h3 := fF3_b a
  have h7 := fF7_b a
  have h6 := fF6_b a
  have h5 := fF5_b a
  rw [show wordX ⟨9, 21, (fRd a), (fRs1 a), 0, (fRs2 a), 0, false⟩ = bits .or .u32 (bits .or .u32 (bits .or .u32 (bits .or .u32 (27) (aluT 21)) (at2 (fRd a) 32 128)) (at2 (fRs1 a) 32 32768)) (at2 (fRs2 a) 4096 1048576) from rfl]
  have hi : at2 (fRs2 a) 4096 1048576 = fRs2 a * 1048576 := by unfold at2; omega
  have hc : aluT 21 = 4096 := rfl
  rw [hc, hi]
  rw [(s5 (show In (27 : Int) 27 from In.lit 27) (show In (4096 : Int) 4096 from In.lit 4096) (ia_5_7 _) (ia_5_15 _) (In.mk' 5 20 (fRs2 a) (fRs2 a * 1048576) ht.1 (by omega) rfl) (by decide)).1]
  rw [at_reg _ hr, at_reg _ hs]
  try unfold fOp at *
  try unfold fRd at *
  try unfold fF3 at *
  try unfold fRs1 at *
  try unfold fRs2 at *
  try unfold fF7 at *
  try unfold fF6 at *
  try unfold fF5 at *
  try unfold fSh at *
  try unfold fCs at *
  omega
theorem wd_srlw (a : Int) (h0 : 0 ≤ a) (h1 : a < 4294967296) (ho : fOp a = 27) (hf : fF3 a = 5) (hq : fF7 a = 0) : wordX ⟨9, 22, (fRd a), (fRs1 a), 0, (fRs2 a), 0, false⟩ = a := by
  have hr := fRd_b a
  have hs := fRs1_b a
  have ht := fRs2_b a
  have h3 := fF3_b a
  have h7 := fF7_b a
  have h6 := fF6_b a
  have h5 := fF5_b a
  rw [show wordX ⟨9, 22, (fRd a), (fRs1 a), 0, (fRs2 a), 0, false⟩ = bits .or .u32 (bits .or .u32 (bits .or .u32 (bits .or .u32 (27) (aluT 22)) (at2 (fRd a) 32 128)) (at2 (fRs1 a) 32 32768)) (at2 (fRs2 a) 4096 1048576) from rfl]
  have hi : at2 (fRs2 a) 4096 1048576 = fRs2 a * 1048576 := by unfold at2; omega
  have hc : aluT 22 = 20480 := rfl
  rw [hc, hi]
  rw [(s5 (show In (27 : Int) 27 from In.lit 27) (show In (20480 : Int) 20480 from In.lit 20480) (ia_5_7 _) (ia_5_15 _) (In.mk' 5 20 (fRs2 a) (fRs2 a * 1048576) ht.1 (by omega) rfl) (by decide)).1]
  rw [at_reg _ hr, at_reg _ hs]
  try unfold fOp at *
  try unfold fRd at *
  try unfold fF3 at *
  try unfold fRs1 at *
  try unfold fRs2 at *
  try unfold fF7 at *
  try unfold fF6 at *
  try unfold fF5 at *
  try unfold fSh at *
  try unfold fCs at *
  omega
theorem wd_sraw (a : Int) (h0 : 0 ≤ a) (h1 : a < 4294967296) (ho : fOp a = 27) (hf : fF3 a = 5) (hq : fF7 a = 32) : wordX ⟨9, 23, (fRd a), (fRs1 a), 0, (fRs2 a), 0, false⟩ = a := by
  have hr := fRd_b a
  have hs := fRs1_b a
  have ht := fRs2_b a
  have h3 := fF3_b a
  have h7 := fF7_b a
  have h6 := fF6_b a
  have h5 := fF5_b a
  rw [show wordX ⟨9, 23, (fRd a), (fRs1 a), 0, (fRs2 a), 0, false⟩ = bits .or .u32 (bits .or .u32 (bits .or .u32 (bits .or .u32 (27) (aluT 23)) (at2 (fRd a) 32 128)) (at2 (fRs1 a) 32 32768)) (at2 (fRs2 a) 4096 1048576) from rfl]
  have hi : at2 (fRs2 a) 4096 1048576 = fRs2 a * 1048576 := by unfold at2; omega
  have hc : aluT 23 = 1073762304 := rfl
  rw [hc, hi]
  rw [(s5 (show In (27 : Int) 27 from In.lit 27) (show In (1073762304 : Int) 1073762304 from In.lit 1073762304) (ia_5_7 _) (ia_5_15 _) (In.mk' 5 20 (fRs2 a) (fRs2 a * 1048576) ht.1 (by omega) rfl) (by decide)).1]
  rw [at_reg _ hr, at_reg _ hs]
  try unfold fOp at *
  try unfold fRd at *
  try unfold fF3 at *
  try unfold fRs1 at *
  try unfold fRs2 at *
  try unfold fF7 at *
  try unfold fF6 at *
  try unfold fF5 at *
  try unfold fSh at *
  try unfold fCs at *
  omega
theorem wd_51_0 (a : Int) (h0 : 0 ≤ a) (h1 : a < 4294967296) (ho : fOp a = 51) (hq : fF7 a = 0) (hn : tBas (fF3 a) ≠ 0) : wordX ⟨8, (tBas (fF3 a)), (fRd a), (fRs1 a), (fRs2 a), 0, 0, false⟩ = a := by
  have hr := fRd_b a
  have hs := fRs1_b a
  have ht := fRs2_b a
  have h3 := fF3_b a
  have h7 := fF7_b a
  have h6 := fF6_b a
  have h5 := fF5_b a
  have hf : tBas (fF3 a) < 19 ∧ 0 ≤ tBas (fF3 a) ∧ tBas (fF3 a) ≤ 28 ∧ aluT (tBas (fF3 a)) = fF3 a * 4096 + 0 := by
    rcases eight h3 with q | q | q | q | q | q | q | q <;> rw [q] at hn ⊢ <;> first | exact absurd rfl hn | exact ⟨by decide, by decide, by decide, rfl⟩
  rw [show wordX ⟨8, (tBas (fF3 a)), (fRd a), (fRs1 a), (fRs2 a), 0, 0, false⟩ = bits .or .u32 (bits .or .u32 (51) (aluT (tBas (fF3 a)))) (bits .or .u32 (bits .or .u32 (at2 (fRd a) 32 128) (at2 (fRs1 a) 32 32768)) (at2 (fRs2 a) 32 1048576)) from if_neg (show ¬ 19 ≤ tBas (fF3 a) by omega)]
  rw [(in_R0 (fRd a) (fRs1 a) (fRs2 a)).1]
  rw [(s3 (show In (51 : Int) 51 from In.lit 51) (in_alu _ hf.2.1 hf.2.2.1) (in_R0 _ _ _).2 (by decide)).1]
  rw [hf.2.2.2, at_reg _ hr, at_reg _ hs, at_reg _ ht]
  try unfold fOp at *
  try unfold fRd at *
  try unfold fF3 at *
  try unfold fRs1 at *
  try unfold fRs2 at *
  try unfold fF7 at *
  try unfold fF6 at *
  try unfold fF5 at *
  try unfold fSh at *
  try unfold fCs at *
  omega
theorem wd_51_32 (a : Int) (h0 : 0 ≤ a) (h1 : a < 4294967296) (ho : fOp a = 51) (hq : fF7 a = 32) (hn : tAlt (fF3 a) ≠ 0) : wordX ⟨8, (tAlt (fF3 a)), (fRd a), (fRs1 a), (fRs2 a), 0, 0, false⟩ = a := by
  have hr := fRd_b a
  have hs := fRs1_b a
  have ht := fRs2_b a
  have h3 := fF3_b a
  have h7 := fF7_b a
  have h6 := fF6_b a
  have h5 := fF5_b a
  have hf : tAlt (fF3 a) < 19 ∧ 0 ≤ tAlt (fF3 a) ∧ tAlt (fF3 a) ≤ 28 ∧ aluT (tAlt (fF3 a)) = fF3 a * 4096 + 1073741824 := by
    rcases eight h3 with q | q | q | q | q | q | q | q <;> rw [q] at hn ⊢ <;> first | exact absurd rfl hn | exact ⟨by decide, by decide, by decide, rfl⟩
  rw [show wordX ⟨8, (tAlt (fF3 a)), (fRd a), (fRs1 a), (fRs2 a), 0, 0, false⟩ = bits .or .u32 (bits .or .u32 (51) (aluT (tAlt (fF3 a)))) (bits .or .u32 (bits .or .u32 (at2 (fRd a) 32 128) (at2 (fRs1 a) 32 32768)) (at2 (fRs2 a) 32 1048576)) from if_neg (show ¬ 19 ≤ tAlt (fF3 a) by omega)]
  rw [(in_R0 (fRd a) (fRs1 a) (fRs2 a)).1]
  rw [(s3 (show In (51 : Int) 51 from In.lit 51) (in_alu _ hf.2.1 hf.2.2.1) (in_R0 _ _ _).2 (by decide)).1]
  rw [hf.2.2.2, at_reg _ hr, at_reg _ hs, at_reg _ ht]
  try unfold fOp at *
  try unfold fRd at *
  try unfold fF3 at *
  try unfold fRs1 at *
  try unfold fRs2 at *
  try unfold fF7 at *
  try unfold fF6 at *
  try unfold fF5 at *
  try unfold fSh at *
  try unfold fCs at *
  omega
theorem wd_51_1 (a : Int) (h0 : 0 ≤ a) (h1 : a < 4294967296) (ho : fOp a = 51) (hq : fF7 a = 1) (hn : tPro (fF3 a) ≠ 0) : wordX ⟨8, (tPro (fF3 a)), (fRd a), (fRs1 a), (fRs2 a), 0, 0, false⟩ = a := by
  have hr := fRd_b a
  have hs := fRs1_b a
  have ht := fRs2_b a
  have h3 := fF3_b a
  have h7 := fF7_b a
  have h6 := fF6_b a
  have h5 := fF5_b a
  have hf : tPro (fF3 a) < 19 ∧ 0 ≤ tPro (fF3 a) ∧ tPro (fF3 a) ≤ 28 ∧ aluT (tPro (fF3 a)) = fF3 a * 4096 + 33554432 := by
    rcases eight h3 with q | q | q | q | q | q | q | q <;> rw [q] at hn ⊢ <;> first | exact absurd rfl hn | exact ⟨by decide, by decide, by decide, rfl⟩
  rw [show wordX ⟨8, (tPro (fF3 a)), (fRd a), (fRs1 a), (fRs2 a), 0, 0, false⟩ = bits .or .u32 (bits .or .u32 (51) (aluT (tPro (fF3 a)))) (bits .or .u32 (bits .or .u32 (at2 (fRd a) 32 128) (at2 (fRs1 a) 32 32768)) (at2 (fRs2 a) 32 1048576)) from if_neg (show ¬ 19 ≤ tPro (fF3 a) by omega)]
  rw [(in_R0 (fRd a) (fRs1 a) (fRs2 a)).1]
  rw [(s3 (show In (51 : Int) 51 from In.lit 51) (in_alu _ hf.2.1 hf.2.2.1) (in_R0 _ _ _).2 (by decide)).1]
  rw [hf.2.2.2, at_reg _ hr, at_reg _ hs, at_reg _ ht]
  try unfold fOp at *
  try unfold fRd at *
  try unfold fF3 at *
  try unfold fRs1 at *
  try unfold fRs2 at *
  try unfold fF7 at *
  try unfold fF6 at *
  try unfold fF5 at *
  try unfold fSh at *
  try unfold fCs at *
  omega
theorem wd_59_0 (a : Int) (h0 : 0 ≤ a) (h1 : a < 4294967296) (ho : fOp a = 59) (hq : fF7 a = 0) (hn : tBasW (fF3 a) ≠ 0) : wordX ⟨8, (tBasW (fF3 a)), (fRd a), (fRs1 a), (fRs2 a), 0, 0, false⟩ = a := by
  have hr := fRd_b a
  have hs := fRs1_b a
  have ht := fRs2_b a
  have h3 := fF3_b a
  have h7 := fF7_b a
  have h6 := fF6_b a
  have h5 := fF5_b a
  have hf : 19 ≤ tBasW (fF3 a) ∧ 0 ≤ tBasW (fF3 a) ∧ tBasW (fF3 a) ≤ 28 ∧ aluT (tBasW (fF3 a)) = fF3 a * 4096 + 0 := by
    rcases eight h3 with q | q | q | q | q | q | q | q <;> rw [q] at hn ⊢ <;> first | exact absurd rfl hn | exact ⟨by decide, by decide, by decide, rfl⟩
  rw [show wordX ⟨8, (tBasW (fF3 a)), (fRd a), (fRs1 a), (fRs2 a), 0, 0, false⟩ = bits .or .u32 (bits .or .u32 (59) (aluT (tBasW (fF3 a)))) (bits .or .u32 (bits .or .u32 (at2 (fRd a) 32 128) (at2 (fRs1 a) 32 32768)) (at2 (fRs2 a) 32 1048576)) from if_pos hf.1]
  rw [(in_R0 (fRd a) (fRs1 a) (fRs2 a)).1]
  rw [(s3 (show In (59 : Int) 59 from In.lit 59) (in_alu _ hf.2.1 hf.2.2.1) (in_R0 _ _ _).2 (by decide)).1]
  rw [hf.2.2.2, at_reg _ hr, at_reg _ hs, at_reg _ ht]
  try unfold fOp at *
  try unfold fRd at *
  try unfold fF3 at *
  try unfold fRs1 at *
  try unfold fRs2 at *
  try unfold fF7 at *
  try unfold fF6 at *
  try unfold fF5 at *
  try unfold fSh at *
  try unfold fCs at *
  omega
theorem wd_59_32 (a : Int) (h0 : 0 ≤ a) (h1 : a < 4294967296) (ho : fOp a = 59) (hq : fF7 a = 32) (hn : tAltW (fF3 a) ≠ 0) : wordX ⟨8, (tAltW (fF3 a)), (fRd a), (fRs1 a), (fRs2 a), 0, 0, false⟩ = a := by
  have hr := fRd_b a
  have hs := fRs1_b a
  have ht := fRs2_b a
  have h3 := fF3_b a
  have h7 := fF7_b a
  have h6 := fF6_b a
  have h5 := fF5_b a
  have hf : 19 ≤ tAltW (fF3 a) ∧ 0 ≤ tAltW (fF3 a) ∧ tAltW (fF3 a) ≤ 28 ∧ aluT (tAltW (fF3 a)) = fF3 a * 4096 + 1073741824 := by
    rcases eight h3 with q | q | q | q | q | q | q | q <;> rw [q] at hn ⊢ <;> first | exact absurd rfl hn | exact ⟨by decide, by decide, by decide, rfl⟩
  rw [show wordX ⟨8, (tAltW (fF3 a)), (fRd a), (fRs1 a), (fRs2 a), 0, 0, false⟩ = bits .or .u32 (bits .or .u32 (59) (aluT (tAltW (fF3 a)))) (bits .or .u32 (bits .or .u32 (at2 (fRd a) 32 128) (at2 (fRs1 a) 32 32768)) (at2 (fRs2 a) 32 1048576)) from if_pos hf.1]
  rw [(in_R0 (fRd a) (fRs1 a) (fRs2 a)).1]
  rw [(s3 (show In (59 : Int) 59 from In.lit 59) (in_alu _ hf.2.1 hf.2.2.1) (in_R0 _ _ _).2 (by decide)).1]
  rw [hf.2.2.2, at_reg _ hr, at_reg _ hs, at_reg _ ht]
  try unfold fOp at *
  try unfold fRd at *
  try unfold fF3 at *
  try unfold fRs1 at *
  try unfold fRs2 at *
  try unfold fF7 at *
  try unfold fF6 at *
  try unfold fF5 at *
  try unfold fSh at *
  try unfold fCs at *
  omega
theorem wd_59_1 (a : Int) (h0 : 0 ≤ a) (h1 : a < 4294967296) (ho : fOp a = 59) (hq : fF7 a = 1) (hn : tProW (fF3 a) ≠ 0) : wordX ⟨8, (tProW (fF3 a)), (fRd a), (fRs1 a), (fRs2 a), 0, 0, false⟩ = a := by
  have hr := fRd_b a
  have hs := fRs1_b a
  have ht := fRs2_b a
  have h3 := fF3_b a
  have h7 := fF7_b a
  have h6 := fF6_b a
  have h5 := fF5_b a
  have hf : 19 ≤ tProW (fF3 a) ∧ 0 ≤ tProW (fF3 a) ∧ tProW (fF3 a) ≤ 28 ∧ aluT (tProW (fF3 a)) = fF3 a * 4096 + 33554432 := by
    rcases eight h3 with q | q | q | q | q | q | q | q <;> rw [q] at hn ⊢ <;> first | exact absurd rfl hn | exact ⟨by decide, by decide, by decide, rfl⟩
  rw [show wordX ⟨8, (tProW (fF3 a)), (fRd a), (fRs1 a), (fRs2 a), 0, 0, false⟩ = bits .or .u32 (bits .or .u32 (59) (aluT (tProW (fF3 a)))) (bits .or .u32 (bits .or .u32 (at2 (fRd a) 32 128) (at2 (fRs1 a) 32 32768)) (at2 (fRs2 a) 32 1048576)) from if_pos hf.1]
  rw [(in_R0 (fRd a) (fRs1 a) (fRs2 a)).1]
  rw [(s3 (show In (59 : Int) 59 from In.lit 59) (in_alu _ hf.2.1 hf.2.2.1) (in_R0 _ _ _).2 (by decide)).1]
  rw [hf.2.2.2, at_reg _ hr, at_reg _ hs, at_reg _ ht]
  try unfold fOp at *
  try unfold fRd at *
  try unfold fF3 at *
  try unfold fRs1 at *
  try unfold fRs2 at *
  try unfold fF7 at *
  try unfold fF6 at *
  try unfold fF5 at *
  try unfold fSh at *
  try unfold fCs at *
  omega
theorem wd_csr1 (a : Int) (h0 : 0 ≤ a) (h1 : a < 4294967296) (ho : fOp a = 115) (hf : fF3 a = 1) : wordX ⟨13, 1, (fRd a), (fRs1 a), 0, (fCs a), 0, false⟩ = a := by
  have hr := fRd_b a
  have hs := fRs1_b a
  have ht := fRs2_b a
  have h3 := fF3_b a
  have h7 := fF7_b a
  have h6 := fF6_b a
  have h5 := fF5_b a
  rw [show wordX ⟨13, 1, (fRd a), (fRs1 a), 0, (fCs a), 0, false⟩ = bits .or .u32 (bits .or .u32 (bits .or .u32 (bits .or .u32 (115) (at2 1 4 4096)) (at2 (fRd a) 32 128)) (at2 (fRs1 a) 32 32768)) (at2 (fCs a) 4096 1048576) from rfl]
  have hi : at2 (fCs a) 4096 1048576 = fCs a * 1048576 := by have := fCs_b a; unfold at2; omega
  have hc : at2 1 4 4096 = 4096 := rfl
  rw [(s5 (show In (115 : Int) 115 from In.lit 115) (ia_2_12 _) (ia_5_7 _) (ia_5_15 _) (ia_12_20 _) (by decide)).1]
  rw [hi, hc, at_reg _ hr, at_reg _ hs]
  try unfold fOp at *
  try unfold fRd at *
  try unfold fF3 at *
  try unfold fRs1 at *
  try unfold fRs2 at *
  try unfold fF7 at *
  try unfold fF6 at *
  try unfold fF5 at *
  try unfold fSh at *
  try unfold fCs at *
  omega
theorem wd_csr2 (a : Int) (h0 : 0 ≤ a) (h1 : a < 4294967296) (ho : fOp a = 115) (hf : fF3 a = 2) : wordX ⟨13, 2, (fRd a), (fRs1 a), 0, (fCs a), 0, false⟩ = a := by
  have hr := fRd_b a
  have hs := fRs1_b a
  have ht := fRs2_b a
  have h3 := fF3_b a
  have h7 := fF7_b a
  have h6 := fF6_b a
  have h5 := fF5_b a
  rw [show wordX ⟨13, 2, (fRd a), (fRs1 a), 0, (fCs a), 0, false⟩ = bits .or .u32 (bits .or .u32 (bits .or .u32 (bits .or .u32 (115) (at2 2 4 4096)) (at2 (fRd a) 32 128)) (at2 (fRs1 a) 32 32768)) (at2 (fCs a) 4096 1048576) from rfl]
  have hi : at2 (fCs a) 4096 1048576 = fCs a * 1048576 := by have := fCs_b a; unfold at2; omega
  have hc : at2 2 4 4096 = 8192 := rfl
  rw [(s5 (show In (115 : Int) 115 from In.lit 115) (ia_2_12 _) (ia_5_7 _) (ia_5_15 _) (ia_12_20 _) (by decide)).1]
  rw [hi, hc, at_reg _ hr, at_reg _ hs]
  try unfold fOp at *
  try unfold fRd at *
  try unfold fF3 at *
  try unfold fRs1 at *
  try unfold fRs2 at *
  try unfold fF7 at *
  try unfold fF6 at *
  try unfold fF5 at *
  try unfold fSh at *
  try unfold fCs at *
  omega
theorem wd_csr3 (a : Int) (h0 : 0 ≤ a) (h1 : a < 4294967296) (ho : fOp a = 115) (hf : fF3 a = 3) : wordX ⟨13, 3, (fRd a), (fRs1 a), 0, (fCs a), 0, false⟩ = a := by
  have hr := fRd_b a
  have hs := fRs1_b a
  have ht := fRs2_b a
  have h3 := fF3_b a
  have h7 := fF7_b a
  have h6 := fF6_b a
  have h5 := fF5_b a
  rw [show wordX ⟨13, 3, (fRd a), (fRs1 a), 0, (fCs a), 0, false⟩ = bits .or .u32 (bits .or .u32 (bits .or .u32 (bits .or .u32 (115) (at2 3 4 4096)) (at2 (fRd a) 32 128)) (at2 (fRs1 a) 32 32768)) (at2 (fCs a) 4096 1048576) from rfl]
  have hi : at2 (fCs a) 4096 1048576 = fCs a * 1048576 := by have := fCs_b a; unfold at2; omega
  have hc : at2 3 4 4096 = 12288 := rfl
  rw [(s5 (show In (115 : Int) 115 from In.lit 115) (ia_2_12 _) (ia_5_7 _) (ia_5_15 _) (ia_12_20 _) (by decide)).1]
  rw [hi, hc, at_reg _ hr, at_reg _ hs]
  try unfold fOp at *
  try unfold fRd at *
  try unfold fF3 at *
  try unfold fRs1 at *
  try unfold fRs2 at *
  try unfold fF7 at *
  try unfold fF6 at *
  try unfold fF5 at *
  try unfold fSh at *
  try unfold fCs at *
  omega
theorem wd_csr5 (a : Int) (h0 : 0 ≤ a) (h1 : a < 4294967296) (ho : fOp a = 115) (hf : fF3 a = 5) : wordX ⟨14, 1, (fRd a), (fRs1 a), 0, (fCs a), 0, false⟩ = a := by
  have hr := fRd_b a
  have hs := fRs1_b a
  have ht := fRs2_b a
  have h3 := fF3_b a
  have h7 := fF7_b a
  have h6 := fF6_b a
  have h5 := fF5_b a
  rw [show wordX ⟨14, 1, (fRd a), (fRs1 a), 0, (fCs a), 0, false⟩ = bits .or .u32 (bits .or .u32 (bits .or .u32 (bits .or .u32 (16499) (at2 1 4 4096)) (at2 (fRd a) 32 128)) (at2 (fRs1 a) 32 32768)) (at2 (fCs a) 4096 1048576) from rfl]
  have hi : at2 (fCs a) 4096 1048576 = fCs a * 1048576 := by have := fCs_b a; unfold at2; omega
  have hc : at2 1 4 4096 = 4096 := rfl
  rw [(s5 (show In (16499 : Int) 16499 from In.lit 16499) (ia_2_12 _) (ia_5_7 _) (ia_5_15 _) (ia_12_20 _) (by decide)).1]
  rw [hi, hc, at_reg _ hr, at_reg _ hs]
  try unfold fOp at *
  try unfold fRd at *
  try unfold fF3 at *
  try unfold fRs1 at *
  try unfold fRs2 at *
  try unfold fF7 at *
  try unfold fF6 at *
  try unfold fF5 at *
  try unfold fSh at *
  try unfold fCs at *
  omega
theorem wd_csr6 (a : Int) (h0 : 0 ≤ a) (h1 : a < 4294967296) (ho : fOp a = 115) (hf : fF3 a = 6) : wordX ⟨14, 2, (fRd a), (fRs1 a), 0, (fCs a), 0, false⟩ = a := by
  have hr := fRd_b a
  have hs := fRs1_b a
  have ht := fRs2_b a
  have h3 := fF3_b a
  have h7 := fF7_b a
  have h6 := fF6_b a
  have h5 := fF5_b a
  rw [show wordX ⟨14, 2, (fRd a), (fRs1 a), 0, (fCs a), 0, false⟩ = bits .or .u32 (bits .or .u32 (bits .or .u32 (bits .or .u32 (16499) (at2 2 4 4096)) (at2 (fRd a) 32 128)) (at2 (fRs1 a) 32 32768)) (at2 (fCs a) 4096 1048576) from rfl]
  have hi : at2 (fCs a) 4096 1048576 = fCs a * 1048576 := by have := fCs_b a; unfold at2; omega
  have hc : at2 2 4 4096 = 8192 := rfl
  rw [(s5 (show In (16499 : Int) 16499 from In.lit 16499) (ia_2_12 _) (ia_5_7 _) (ia_5_15 _) (ia_12_20 _) (by decide)).1]
  rw [hi, hc, at_reg _ hr, at_reg _ hs]
  try unfold fOp at *
  try unfold fRd at *
  try unfold fF3 at *
  try unfold fRs1 at *
  try unfold fRs2 at *
  try unfold fF7 at *
  try unfold fF6 at *
  try unfold fF5 at *
  try unfold fSh at *
  try unfold fCs at *
  omega
theorem wd_csr7 (a : Int) (h0 : 0 ≤ a) (h1 : a < 4294967296) (ho : fOp a = 115) (hf : fF3 a = 7) : wordX ⟨14, 3, (fRd a), (fRs1 a), 0, (fCs a), 0, false⟩ = a := by
  have hr := fRd_b a
  have hs := fRs1_b a
  have ht := fRs2_b a
  have h3 := fF3_b a
  have h7 := fF7_b a
  have h6 := fF6_b a
  have h5 := fF5_b a
  rw [show wordX ⟨14, 3, (fRd a), (fRs1 a), 0, (fCs a), 0, false⟩ = bits .or .u32 (bits .or .u32 (bits .or .u32 (bits .or .u32 (16499) (at2 3 4 4096)) (at2 (fRd a) 32 128)) (at2 (fRs1 a) 32 32768)) (at2 (fCs a) 4096 1048576) from rfl]
  have hi : at2 (fCs a) 4096 1048576 = fCs a * 1048576 := by have := fCs_b a; unfold at2; omega
  have hc : at2 3 4 4096 = 12288 := rfl
  rw [(s5 (show In (16499 : Int) 16499 from In.lit 16499) (ia_2_12 _) (ia_5_7 _) (ia_5_15 _) (ia_12_20 _) (by decide)).1]
  rw [hi, hc, at_reg _ hr, at_reg _ hs]
  try unfold fOp at *
  try unfold fRd at *
  try unfold fF3 at *
  try unfold fRs1 at *
  try unfold fRs2 at *
  try unfold fF7 at *
  try unfold fF6 at *
  try unfold fF5 at *
  try unfold fSh at *
  try unfold fCs at *
  omega
theorem wd_sfence (a : Int) (h0 : 0 ≤ a) (h1 : a < 4294967296) (ho : fOp a = 115) (hf : fF3 a = 0) (hz : fF7 a = 9) (hd : fRd a = 0) : wordX ⟨20, 0, 0, (fRs1 a), (fRs2 a), 0, 0, false⟩ = a := by
  have hr := fRd_b a
  have hs := fRs1_b a
  have ht := fRs2_b a
  have h3 := fF3_b a
  have h7 := fF7_b a
  have h6 := fF6_b a
  have h5 := fF5_b a
  rw [show wordX ⟨20, 0, 0, (fRs1 a), (fRs2 a), 0, 0, false⟩ = bits .or .u32 (bits .or .u32 (301990003) (at2 (fRs1 a) 32 32768)) (at2 (fRs2 a) 32 1048576) from rfl]
  rw [(s3 (show In (301990003 : Int) 301990003 from In.lit 301990003) (ia_5_15 _) (ia_5_20 _) (by decide)).1]
  rw [at_reg _ hs, at_reg _ ht]
  try unfold fOp at *
  try unfold fRd at *
  try unfold fF3 at *
  try unfold fRs1 at *
  try unfold fRs2 at *
  try unfold fF7 at *
  try unfold fF6 at *
  try unfold fF5 at *
  try unfold fSh at *
  try unfold fCs at *
  omega
theorem wd_lr (a : Int) (h0 : 0 ≤ a) (h1 : a < 4294967296) (ho : fOp a = 47) (hn : tWid (fF3 a) ≠ 0) (hq : fF5 a = 2) (hz : fRs2 a = 0) : wordX ⟨15, 0, (fRd a), (fRs1 a), 0, 0, (tWid (fF3 a)), false⟩ = clr a := by
  have hr := fRd_b a
  have hs := fRs1_b a
  have ht := fRs2_b a
  have h3 := fF3_b a
  have h7 := fF7_b a
  have h6 := fF6_b a
  have h5 := fF5_b a
  rw [show wordX ⟨15, 0, (fRd a), (fRs1 a), 0, 0, (tWid (fF3 a)), false⟩ = bits .or .u32 (bits .or .u32 (bits .or .u32 (268435503) (szS (tWid (fF3 a)) * 4096)) (at2 (fRd a) 32 128)) (at2 (fRs1 a) 32 32768) from rfl]
  have hc : szS (tWid (fF3 a)) = fF3 a := by
    rcases eight h3 with q | q | q | q | q | q | q | q <;> rw [q] at hn ⊢ <;> first | exact absurd rfl hn | rfl
  rw [hc]
  rw [(s4 (show In (268435503 : Int) 268435503 from In.lit 268435503) (in_sz _ h3.1 (by omega)) (ia_5_7 _) (ia_5_15 _) (by decide)).1]
  rw [at_reg _ hr, at_reg _ hs]
  unfold clr
  try unfold fOp at *
  try unfold fRd at *
  try unfold fF3 at *
  try unfold fRs1 at *
  try unfold fRs2 at *
  try unfold fF7 at *
  try unfold fF6 at *
  try unfold fF5 at *
  try unfold fSh at *
  try unfold fCs at *
  omega
theorem wd_sc (a : Int) (h0 : 0 ≤ a) (h1 : a < 4294967296) (ho : fOp a = 47) (hn : tWid (fF3 a) ≠ 0) (hq : fF5 a = 3) : wordX ⟨16, 0, (fRd a), (fRs1 a), (fRs2 a), 0, (tWid (fF3 a)), false⟩ = clr a := by
  have hr := fRd_b a
  have hs := fRs1_b a
  have ht := fRs2_b a
  have h3 := fF3_b a
  have h7 := fF7_b a
  have h6 := fF6_b a
  have h5 := fF5_b a
  rw [show wordX ⟨16, 0, (fRd a), (fRs1 a), (fRs2 a), 0, (tWid (fF3 a)), false⟩ = bits .or .u32 (bits .or .u32 (402653231) (szS (tWid (fF3 a)) * 4096)) (bits .or .u32 (bits .or .u32 (at2 (fRd a) 32 128) (at2 (fRs1 a) 32 32768)) (at2 (fRs2 a) 32 1048576)) from rfl]
  have hc : szS (tWid (fF3 a)) = fF3 a := by
    rcases eight h3 with q | q | q | q | q | q | q | q <;> rw [q] at hn ⊢ <;> first | exact absurd rfl hn | rfl
  rw [hc]
  rw [(in_R0 (fRd a) (fRs1 a) (fRs2 a)).1]
  rw [(s3 (show In (402653231 : Int) 402653231 from In.lit 402653231) (in_sz _ h3.1 (by omega)) (in_R0 _ _ _).2 (by decide)).1]
  rw [at_reg _ hr, at_reg _ hs, at_reg _ ht]
  unfold clr
  try unfold fOp at *
  try unfold fRd at *
  try unfold fF3 at *
  try unfold fRs1 at *
  try unfold fRs2 at *
  try unfold fF7 at *
  try unfold fF6 at *
  try unfold fF5 at *
  try unfold fSh at *
  try unfold fCs at *
  omega
theorem wd_amo (a : Int) (h0 : 0 ≤ a) (h1 : a < 4294967296) (ho : fOp a = 47) (hn : tWid (fF3 a) ≠ 0) (ha : tAto (fF5 a) ≠ 0) : wordX ⟨17, (tAto (fF5 a)), (fRd a), (fRs1 a), (fRs2 a), 0, (tWid (fF3 a)), false⟩ = clr a := by
  have hr := fRd_b a
  have hs := fRs1_b a
  have ht := fRs2_b a
  have h3 := fF3_b a
  have h7 := fF7_b a
  have h6 := fF6_b a
  have h5 := fF5_b a
  rw [show wordX ⟨17, (tAto (fF5 a)), (fRd a), (fRs1 a), (fRs2 a), 0, (tWid (fF3 a)), false⟩ = bits .or .u32 (bits .or .u32 (bits .or .u32 (47) (at2 (fiS (tAto (fF5 a))) 32 134217728)) (szS (tWid (fF3 a)) * 4096)) (bits .or .u32 (bits .or .u32 (at2 (fRd a) 32 128) (at2 (fRs1 a) 32 32768)) (at2 (fRs2 a) 32 1048576)) from rfl]
  have hc : szS (tWid (fF3 a)) = fF3 a := by
    rcases eight h3 with q | q | q | q | q | q | q | q <;> rw [q] at hn ⊢ <;> first | exact absurd rfl hn | rfl
  rw [hc]
  have hz : at2 (fiS (tAto (fF5 a))) 32 134217728 = fF5 a * 134217728 := by
    rcases (by omega : fF5 a = 0 ∨ fF5 a = 1 ∨ fF5 a = 2 ∨ fF5 a = 3 ∨ fF5 a = 4 ∨ fF5 a = 5 ∨ fF5 a = 6 ∨ fF5 a = 7 ∨ fF5 a = 8 ∨ fF5 a = 9 ∨ fF5 a = 10 ∨ fF5 a = 11 ∨ fF5 a = 12 ∨ fF5 a = 13 ∨ fF5 a = 14 ∨ fF5 a = 15 ∨ fF5 a = 16 ∨ fF5 a = 17 ∨ fF5 a = 18 ∨ fF5 a = 19 ∨ fF5 a = 20 ∨ fF5 a = 21 ∨ fF5 a = 22 ∨ fF5 a = 23 ∨ fF5 a = 24 ∨ fF5 a = 25 ∨ fF5 a = 26 ∨ fF5 a = 27 ∨ fF5 a = 28 ∨ fF5 a = 29 ∨ fF5 a = 30 ∨ fF5 a = 31) with q | q | q | q | q | q | q | q | q | q | q | q | q | q | q | q | q | q | q | q | q | q | q | q | q | q | q | q | q | q | q | q <;> rw [q] at ha ⊢ <;> first | exact absurd rfl ha | rfl
  rw [(in_R0 (fRd a) (fRs1 a) (fRs2 a)).1]
  rw [(s4 (show In (47 : Int) 47 from In.lit 47) (ia_5_27 _) (in_sz _ h3.1 (by omega)) (in_R0 _ _ _).2 (by decide)).1]
  rw [hz, at_reg _ hr, at_reg _ hs, at_reg _ ht]
  unfold clr
  try unfold fOp at *
  try unfold fRd at *
  try unfold fF3 at *
  try unfold fRs1 at *
  try unfold fRs2 at *
  try unfold fF7 at *
  try unfold fF6 at *
  try unfold fF5 at *
  try unfold fSh at *
  try unfold fCs at *
  omega
end Go.Proofs.YtioodijiejipiaaGreatDoor
