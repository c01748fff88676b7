/- The reference's memory: New, Has, Read, Write, Bytes, Fill, Clear. -/
import Derived.Test.YtdohbblginbkgabQB
import Derived.Test.YtdohbblginbkgabRZA
namespace Go.Proofs.Ytdohbblginbkgab
open Go.RowKit
set_option linter.unusedVariables false

theorem q_HasM (w : World) (S : Nat → Prop) (p : Nat) (base : Int) (n : Nat) (f : Nat → Int) (h : RMem w S p base n f) (addr size : Int) (a0 : 0 ≤ addr) (a1 : addr < 18446744073709551616) (s0 : -9223372036854775808 ≤ size) (s1 : size ≤ 9223372036854775807) :
    Calls Try.prog 27 #[.pointer (some ⟨p, 0, none⟩), .int .u64 addr, .int .i64 size] w fun e w' => e = .returned (.bool (hasB base n addr size)) ∧ Still w w' := by
  obtain ⟨g, hs, hr, rfl, hS⟩ := h
  exact q_Has w p g base hs f hr addr size a0 a1 s0 s1
theorem RMem.nums {w : World} {S : Nat → Prop} {p : Nat} {base : Int} {n : Nat} {f : Nat → Int} (h : RMem w S p base n f) : 0 ≤ base ∧ base ≤ 4503599627370496 ∧ 0 < n ∧ n ≤ 1024 := by
  obtain ⟨g, hs, hr, rfl, _⟩ := h
  exact ⟨hr.base0, hr.base1, hr.len0, hr.len1⟩
theorem RMem.byt {w : World} {S : Nat → Prop} {p : Nat} {base : Int} {n : Nat} {f : Nat → Int} (h : RMem w S p base n f) (j : Nat) : 0 ≤ f j ∧ f j < 256 := by
  obtain ⟨g, hs, hr, _, _⟩ := h
  exact hr.byt j
theorem nu_shift (b : Nat → Int) : ∀ m, nu b (m + 1) = b 0 + 256 * nu (fun j => b (1 + j)) m
  | 0 => by simp [nu]
  | m + 1 => by
    have ih := nu_shift b m
    show nu b (m + 1) + b (m + 1) * 256 ^ (m + 1) = b 0 + 256 * (nu (fun j => b (1 + j)) m + b (1 + m) * 256 ^ m)
    rw [ih, Int.pow_succ, Nat.add_comm 1 m, Int.mul_add, ← Int.add_assoc]
    congr 1
    ac_rfl
theorem nu_small (b : Nat → Int) (hb : ∀ j, 0 ≤ b j ∧ b j < 256) (k : Nat) (hk : k ≤ 7) : 0 ≤ nu b k ∧ nu b k < 72057594037927936 := by
  have h := nu_lt b hb k
  have : (256 : Int) ^ k ≤ 72057594037927936 := by
    rcases (show k = 0 ∨ k = 1 ∨ k = 2 ∨ k = 3 ∨ k = 4 ∨ k = 5 ∨ k = 6 ∨ k = 7 by omega) with rfl | rfl | rfl | rfl | rfl | rfl | rfl | rfl <;> decide
  omega
theorem div_pow (v : Int) (k : Nat) : v / 256 ^ k / 256 = v / 256 ^ (k + 1) := by rw [Int.pow_succ, Int.ediv_ediv_of_nonneg (Int.pow_nonneg (by decide))]
theorem div_b (v : Int) (v0 : 0 ≤ v) (v1 : v < 18446744073709551616) (k : Nat) : 0 ≤ v / 256 ^ k ∧ v / 256 ^ k < 18446744073709551616 := by
  have hp : (0 : Int) < 256 ^ k := Int.pow_pos (by decide)
  exact ⟨Int.ediv_nonneg v0 (by omega), Int.lt_of_le_of_lt (Int.ediv_le_self _ v0) v1⟩
set_option maxHeartbeats 1000000 in
theorem q_Write (w : World) (S : Nat → Prop) (p : Nat) (base : Int) (n : Nat) (f : Nat → Int) (h : RMem w S p base n f) (off size : Nat) (hl : off + size ≤ 4096 * n) (hw : size = 1 ∨ size = 2 ∨ size = 4 ∨ size = 8) (addr : Int) (ha : addr = base + off) (v : Int) (v0 : 0 ≤ v) (v1 : v < 18446744073709551616) :
    Calls Try.prog 15 #[.pointer (some ⟨p, 0, none⟩), .int .u64 addr, .int .i64 size, .int .u64 v] w fun e w' => ∃ S', e = .returned (.bool true) ∧ RMem w' S' p base n (put f off size (byt v)) ∧ Only S w w' ∧ ∀ k, S' k → S k ∨ w.heap.size ≤ k := by
  subst ha
  obtain ⟨b0, b1, l0, l1⟩ := h.nums
  have hh := hasB_of (base := base) hl
  have hwd : decide ((size : Int) = 1 ∨ (size : Int) = 2 ∨ (size : Int) = 4 ∨ (size : Int) = 8) = true := by simp; omega
  have hs8 : 0 < size ∧ size ≤ 8 := by omega
  have HR := hid h
  clear hw h
  go_enter Try.func15, Try.ntmps15
  go_wp2_with (first
    | (go_at_call 26; refine (q_right _ w).mono ?_; rintro e w1 ⟨rfl, hw1⟩; obtain rfl := hw1.symm; rw [hwd])
    | (go_at_call 27; refine (q_HasM w S p base n f HR.out _ _ (by omega) (by omega) (by omega) (by omega)).mono ?_; rintro e w1 ⟨rfl, hst⟩; rw [hh]; have HST := hid hst; clear hst))
  go_loopw [3, 9] (fun x i wr => ∃ (k : Nat) (S' : Nat → Prop), k ≤ size ∧ i = .int .i64 k ∧ x = .int .u64 (v / 256 ^ k) ∧ RMem wr S' p base n (put f off k (byt v)) ∧ Only S w wr ∧ ∀ k, S' k → S k ∨ w.heap.size ≤ k) (fun _ i _ => size - (intOf i).toNat)
  case atStart => exact ⟨0, S, by omega, rfl, by simp, by rw [put_zero]; exact HR.out.below (HST.out.below _), HST.out.only, fun k q => .inl q⟩
  case round =>
    obtain ⟨k, S', hk, rfl, rfl, hr, ho, hS⟩ := hrel
    have HR2 := hid hr
    have HO := hid ho
    have HS := hid hS
    clear hr ho hS
    obtain ⟨V, hV⟩ : ∃ V, v / 256 ^ k = V := ⟨_, rfl⟩
    have hVb := div_b v v0 v1 k
    have HVn : Hid (v / 256 ^ (k + 1) = V / 256) := by show _ = _; rw [← hV, div_pow]
    have HVb : Hid (V % 256 = byt v k) := by show _ = _; rw [← hV]; rfl
    rw [hV] at hVb ⊢
    clear hV
    by_cases hlt : k < size
    · go_wp2_with (first
        | (go_at_call 28; refine (q_put wr S' p base n _ HR2.out (off + k) (by omega) _ (by omega) (V % 256) (by omega) (by omega)).mono ?_; rintro e w2 ⟨S2, rfl, hm, ho, hS2⟩; rw [put_step _ _ _ _ _ HVb.out] at hm; have HM2 := hid hm; have HO2 := hid ho; have HS2 := hid hS2; clear hm ho hS2))
      go_roundw
      case rel => exact ⟨k + 1, S2, by omega, by go_num, by rw [HVn.out], HM2.out, HO.out.trans' HO2.out (fun i hi q => by
          rcases HS.out i q with q | q
          · exact q
          · omega), fun i q => by
          rcases HS2.out i q with q | q
          · exact HS.out i q
          · exact .inr (Nat.le_trans HO.out.size q)⟩
      case measure => simp [intOf]; omega
    · obtain rfl : k = size := by omega
      go_wp2
      go_ret
      exact ⟨S', rfl, HR2.out, HO.out, HS.out⟩
end Go.Proofs.Ytdohbblginbkgab
