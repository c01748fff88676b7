/- What is read is written as a word that is read the same. Nothing here speaks of the program. -/
import Derived.Test.YtioodijiejipiaaGreatDoorIMF
namespace Go.Proofs.YtioodijiejipiaaGreatDoor
open Go.RowKit
set_option linter.unusedVariables false

/-! bases, by their numbers -/
theorem b_branch (f : Int) (h : 0 ≤ f ∧ f < 8) (hn : tCond f ≠ 0) (rd r1 r2 im : Int) : baseF ⟨5, tCond f, rd, r1, r2, im, 0, false⟩ = 99 + f * 4096 := by
  rcases eight h with q | q | q | q | q | q | q | q <;> subst q <;> first | exact absurd rfl hn | kernel_rfl
theorem b_load (f : Int) (h : 0 ≤ f ∧ f < 8) (hn : tLoad f ≠ 0) (rd r1 r2 im : Int) : baseF ⟨6, 0, rd, r1, r2, im, tLoad f, lt4 f⟩ = 3 + f * 4096 := by
  rcases eight h with q | q | q | q | q | q | q | q <;> subst q <;> first | exact absurd rfl hn | kernel_rfl
theorem b_store (f : Int) (h : 0 ≤ f ∧ f < 8) (hn : tStore f ≠ 0) (rd r1 r2 im : Int) : baseF ⟨7, 0, rd, r1, r2, im, tStore f, false⟩ = 35 + f * 4096 := by
  rcases eight h with q | q | q | q | q | q | q | q <;> subst q <;> first | exact absurd rfl hn | kernel_rfl
theorem b_imm (f : Int) (h : 0 ≤ f ∧ f < 8) (h1 : f ≠ 1) (h5 : f ≠ 5) (rd r1 r2 im : Int) : baseF ⟨9, tBas f, rd, r1, r2, im, 0, false⟩ = 19 + f * 4096 := by
  rcases eight h with q | q | q | q | q | q | q | q <;> subst q <;> first | exact absurd rfl h1 | exact absurd rfl h5 | kernel_rfl
theorem b_immW (f : Int) (h : 0 ≤ f ∧ f < 8) (h1 : f ≠ 1) (h5 : f ≠ 5) (hn : tBasW f ≠ 0) (rd r1 r2 im : Int) : baseF ⟨9, tBasW f, rd, r1, r2, im, 0, false⟩ = 27 + f * 4096 := by
  rcases eight h with q | q | q | q | q | q | q | q <;> subst q <;> first | exact absurd rfl hn | exact absurd rfl h1 | exact absurd rfl h5 | kernel_rfl
theorem chos_n {f p o t : Int} (h : chos f p o t ≠ 0) : f = 0 ∧ p ≠ 0 ∨ f = 32 ∧ o ≠ 0 ∨ f = 1 ∧ t ≠ 0 := by
  unfold chos at h
  by_cases h1 : f = 0
  · rw [if_pos h1] at h; exact Or.inl ⟨h1, h⟩
  · rw [if_neg h1] at h
    by_cases h2 : f = 32
    · rw [if_pos h2] at h; exact Or.inr (Or.inl ⟨h2, h⟩)
    · rw [if_neg h2] at h
      by_cases h3 : f = 1
      · rw [if_pos h3] at h; exact Or.inr (Or.inr ⟨h3, h⟩)
      · rw [if_neg h3] at h; exact absurd rfl h
theorem b_sh (f s : Int) (h : f = 1 ∨ f = 5) (hn : chos (s * 2) (tBas f) (tAlt f) 0 ≠ 0) (rd r1 r2 im : Int) : baseF ⟨9, chos (s * 2) (tBas f) (tAlt f) 0, rd, r1, r2, im, 0, false⟩ = 19 + f * 4096 + s * 67108864 := by
  rcases chos_n hn with ⟨q, n⟩ | ⟨q, n⟩ | ⟨q, n⟩
  · obtain rfl : s = 0 := by omega
    rcases h with q | q <;> subst q <;> kernel_rfl
  · obtain rfl : s = 16 := by omega
    rcases h with q | q <;> subst q <;> first | exact absurd rfl n | kernel_rfl
  · exact absurd rfl n
theorem b_shW (f s : Int) (h : f = 1 ∨ f = 5) (hn : chos s (tBasW f) (tAltW f) 0 ≠ 0) (rd r1 r2 im : Int) : baseF ⟨9, chos s (tBasW f) (tAltW f) 0, rd, r1, r2, im, 0, false⟩ = 27 + f * 4096 + s * 33554432 := by
  rcases chos_n hn with ⟨q, n⟩ | ⟨q, n⟩ | ⟨q, n⟩
  · subst q; rcases h with q | q <;> subst q <;> kernel_rfl
  · subst q; rcases h with q | q <;> subst q <;> first | exact absurd rfl n | kernel_rfl
  · exact absurd rfl n
theorem b_alu (f s : Int) (h : 0 ≤ f ∧ f < 8) (hn : chos s (tBas f) (tAlt f) (tPro f) ≠ 0) (rd r1 r2 im : Int) : baseF ⟨8, chos s (tBas f) (tAlt f) (tPro f), rd, r1, r2, im, 0, false⟩ = 51 + f * 4096 + s * 33554432 := by
  rcases chos_n hn with ⟨q, n⟩ | ⟨q, n⟩ | ⟨q, n⟩ <;> subst q <;> rcases eight h with q | q | q | q | q | q | q | q <;> subst q <;> first | exact absurd rfl n | kernel_rfl
theorem b_aluW (f s : Int) (h : 0 ≤ f ∧ f < 8) (hn : chos s (tBasW f) (tAltW f) (tProW f) ≠ 0) (rd r1 r2 im : Int) : baseF ⟨8, chos s (tBasW f) (tAltW f) (tProW f), rd, r1, r2, im, 0, false⟩ = 59 + f * 4096 + s * 33554432 := by
  rcases chos_n hn with ⟨q, n⟩ | ⟨q, n⟩ | ⟨q, n⟩ <;> subst q <;> rcases eight h with q | q | q | q | q | q | q | q <;> subst q <;> first | exact absurd rfl n | kernel_rfl
theorem b_csr (f : Int) (h : f = 1 ∨ f = 2 ∨ f = 3) (rd r1 r2 im : Int) : baseF ⟨13, f, rd, r1, r2, im, 0, false⟩ = 115 + f * 4096 := by
  rcases h with q | q | q <;> subst q <;> kernel_rfl
theorem b_csrI (f : Int) (h : f = 5 ∨ f = 6 ∨ f = 7) (rd r1 r2 im : Int) : baseF ⟨14, f - 4, rd, r1, r2, im, 0, false⟩ = 115 + f * 4096 := by
  rcases h with q | q | q <;> subst q <;> kernel_rfl
theorem b_lr (f : Int) (h : 0 ≤ f ∧ f < 8) (hn : tWid f ≠ 0) (rd r1 r2 im : Int) : baseF ⟨15, 0, rd, r1, r2, im, tWid f, false⟩ = 47 + f * 4096 + 2 * 134217728 := by
  rcases eight h with q | q | q | q | q | q | q | q <;> subst q <;> first | exact absurd rfl hn | kernel_rfl
theorem b_sc (f : Int) (h : 0 ≤ f ∧ f < 8) (hn : tWid f ≠ 0) (rd r1 r2 im : Int) : baseF ⟨16, 0, rd, r1, r2, im, tWid f, false⟩ = 47 + f * 4096 + 3 * 134217728 := by
  rcases eight h with q | q | q | q | q | q | q | q <;> subst q <;> first | exact absurd rfl hn | kernel_rfl
theorem wid2 {f : Int} (h : 0 ≤ f ∧ f < 8) (hn : tWid f ≠ 0) : f = 2 ∨ f = 3 := by
  rcases eight h with q | q | q | q | q | q | q | q <;> subst q <;> first | exact absurd rfl hn | simp
theorem ato_n {s : Int} (h : 0 ≤ s ∧ s < 32) (hn : tAto s ≠ 0) : s = 0 ∨ s = 1 ∨ s = 4 ∨ s = 8 ∨ s = 12 ∨ s = 16 ∨ s = 20 ∨ s = 24 ∨ s = 28 := by
  obtain ⟨n, rfl⟩ := Int.eq_ofNat_of_zero_le h.1
  have h2 : n < 32 := by omega
  have : ∀ m : Nat, m < 32 → tAto (m : Int) ≠ 0 → m = 0 ∨ m = 1 ∨ m = 4 ∨ m = 8 ∨ m = 12 ∨ m = 16 ∨ m = 20 ∨ m = 24 ∨ m = 28 := by decide
  have := this n h2 hn
  omega
theorem b_amo (f s : Int) (h : 0 ≤ f ∧ f < 8) (hf : tWid f ≠ 0) (hs : 0 ≤ s ∧ s < 32) (hn : tAto s ≠ 0) (rd r1 r2 im : Int) : baseF ⟨17, tAto s, rd, r1, r2, im, tWid f, false⟩ = 47 + f * 4096 + s * 134217728 := by
  rcases wid2 h hf with q | q <;> subst q <;> rcases ato_n hs hn with q | q | q | q | q | q | q | q | q <;> subst q <;> kernel_rfl
/-! the sum -/
theorem draft_sum (i : I) {m0 m1 m2 m3 m4 : Nat} (h0 : In (baseF i) m0) (h1 : In (reg i.rd * 128) m1) (h2 : In (reg i.rs1 * 32768) m2) (h3 : In (reg i.rs2 * 1048576) m3) (h4 : In (imm i.kind i.imm) m4)
    (d : (m0 &&& m1 == 0 && (m0 ||| m1) &&& m2 == 0 && (m0 ||| m1 ||| m2) &&& m3 == 0 && (m0 ||| m1 ||| m2 ||| m3) &&& m4 == 0 && decide (m0 ||| m1 ||| m2 ||| m3 < 4294967296) && decide (m0 < 4294967296) && decide (m1 < 4294967296) && decide (m2 < 4294967296) && decide (m3 < 4294967296) && decide (m4 < 4294967296) && decide (m0 ||| m1 < 4294967296) && decide (m0 ||| m1 ||| m2 < 4294967296)) = true) :
    draftF i = baseF i + reg i.rd * 128 + reg i.rs1 * 32768 + reg i.rs2 * 1048576 + imm i.kind i.imm := by
  simp only [Bool.and_eq_true, beq_iff_eq, decide_eq_true_eq] at d
  obtain ⟨⟨⟨⟨⟨⟨⟨⟨⟨⟨⟨d1, d2⟩, d3⟩, d4⟩, e5⟩, e0⟩, e1⟩, e2⟩, e3⟩, e4⟩, e6⟩, e7⟩ := d
  have c1 := h0.or h1 d1 e0 e1
  have c2 := c1.2.or h2 d2 e6 e2
  have c3 := c2.2.or h3 d3 e7 e3
  have c4 := c3.2.or h4 d4 e5 e4
  unfold draftF
  rw [c1.1, c2.1, c3.1, c4.1]
theorem in_rd (n : Int) : In (reg n * 128) ((2 ^ 5 - 1) * 2 ^ 7) := In.mk' 5 7 (reg n) _ (by unfold reg; omega) (by unfold reg; omega) rfl
theorem in_rs1 (n : Int) : In (reg n * 32768) ((2 ^ 5 - 1) * 2 ^ 15) := In.mk' 5 15 (reg n) _ (by unfold reg; omega) (by unfold reg; omega) rfl
theorem in_rs2 (n : Int) : In (reg n * 1048576) ((2 ^ 5 - 1) * 2 ^ 20) := In.mk' 5 20 (reg n) _ (by unfold reg; omega) (by unfold reg; omega) rfl
theorem in_imU (n : Int) : In (imU n) ((2 ^ 20 - 1) * 2 ^ 12) := In.mk' 20 12 (n / 4096 % 1048576) _ (by omega) (by omega) rfl
theorem in_imI (n : Int) : In (imI n) ((2 ^ 12 - 1) * 2 ^ 20) := In.mk' 12 20 (n % 4096) _ (by omega) (by omega) rfl
theorem in_imS (n : Int) : In (imS n) ((2 ^ 7 - 1) * 2 ^ 25 ||| (2 ^ 5 - 1) * 2 ^ 7) := by
  have a1 := In.mk' 7 25 (n / 32 % 128) _ (by omega) (by omega) rfl
  have a2 := In.mk' 5 7 (n % 32) _ (by omega) (by omega) rfl
  exact (a1.or a2 (by decide) (by decide) (by decide)).2
theorem in_imB (n : Int) : In (imB n) (((2 ^ 1 - 1) * 2 ^ 31 ||| (2 ^ 1 - 1) * 2 ^ 7) ||| (2 ^ 6 - 1) * 2 ^ 25 ||| (2 ^ 4 - 1) * 2 ^ 8) := by
  have a1 := In.mk' 1 31 (n / 4096 % 2) _ (by omega) (by omega) rfl
  have a2 := In.mk' 1 7 (n / 2048 % 2) _ (by omega) (by omega) rfl
  have a3 := In.mk' 6 25 (n / 32 % 64) _ (by omega) (by omega) rfl
  have a4 := In.mk' 4 8 (n / 2 % 16) _ (by omega) (by omega) rfl
  have b1 := a1.or a2 (by decide) (by decide) (by decide)
  have b2 := b1.2.or a3 (by decide) (by decide) (by decide)
  exact (b2.2.or a4 (by decide) (by decide) (by decide)).2
theorem in_imJ (n : Int) : In (imJ n) (((2 ^ 1 - 1) * 2 ^ 31 ||| (2 ^ 8 - 1) * 2 ^ 12) ||| (2 ^ 1 - 1) * 2 ^ 20 ||| (2 ^ 10 - 1) * 2 ^ 21) := by
  have a1 := In.mk' 1 31 (n / 1048576 % 2) _ (by omega) (by omega) rfl
  have a2 := In.mk' 8 12 (n / 4096 % 256) _ (by omega) (by omega) rfl
  have a3 := In.mk' 1 20 (n / 2048 % 2) _ (by omega) (by omega) rfl
  have a4 := In.mk' 10 21 (n / 2 % 1024) _ (by omega) (by omega) rfl
  have b1 := a1.or a2 (by decide) (by decide) (by decide)
  have b2 := b1.2.or a3 (by decide) (by decide) (by decide)
  exact (b2.2.or a4 (by decide) (by decide) (by decide)).2
theorem in_f3 (c : Nat) (hc : c < 4096) (f : Int) (h : 0 ≤ f ∧ f < 8) : In (c + f * 4096) (c ||| (2 ^ 3 - 1) * 2 ^ 12) := by
  have a1 := In.mk' 3 12 f (f * 4096) h.1 (by have := h.2; omega) rfl
  have hd : c &&& ((2 ^ 3 - 1) * 2 ^ 12) = 0 := by
    apply Nat.eq_of_testBit_eq
    intro j
    rw [Nat.testBit_and, Nat.zero_testBit]
    by_cases q : j < 12
    · have : ((2 ^ 3 - 1) * 2 ^ 12 : Nat).testBit j = false := by rw [Nat.testBit_mul_two_pow]; simp; omega
      rw [this]; simp
    · have : c.testBit j = false := Nat.testBit_lt_two_pow (Nat.lt_of_lt_of_le hc (by rw [show (4096 : Nat) = 2 ^ 12 from rfl]; exact Nat.pow_le_pow_right (by omega) (by omega)))
      rw [this]; simp
  exact ((In.lit c).or a1 hd (by omega) (by decide)).2
theorem in_f3f (c : Nat) (hc : c < 4096) (f : Int) (h : 0 ≤ f ∧ f < 8) (k j : Nat) (s : Int) (h0 : 0 ≤ s) (h1 : s < 2 ^ k) (hm : (c ||| (2 ^ 3 - 1) * 2 ^ 12) &&& ((2 ^ k - 1) * 2 ^ j) = 0) (hl : (2 ^ k - 1) * 2 ^ j < 4294967296) (hk : c ||| (2 ^ 3 - 1) * 2 ^ 12 < 4294967296) :
    In (c + f * 4096 + s * 2 ^ j) (c ||| (2 ^ 3 - 1) * 2 ^ 12 ||| (2 ^ k - 1) * 2 ^ j) :=
  ((in_f3 c hc f h).or (In.mk' k j s (s * 2 ^ j) h0 h1 rfl) hm hk hl).2
end Go.Proofs.YtioodijiejipiaaGreatDoor
