/- What both memories answer to any call, in the memory or not. -/
import Derived.Test.YtioodijiejipiaaQF
namespace Go.Proofs.Ytioodijiejipiaa
open Go.RowKit
set_option linter.unusedVariables false

theorem hasB_off {base : Int} {n : Nat} {addr size : Int} (h : hasB base n addr size = true) : ∃ off len : Nat, addr = base + off ∧ size = len ∧ off + len ≤ 4096 * n := by
  simp [hasB] at h
  exact ⟨(addr - base).toNat, size.toNat, by omega, by omega, by omega⟩
theorem wid_of {z : Nat} (h : wid (z : Int) = true) : z = 1 ∨ z = 2 ∨ z = 4 ∨ z = 8 := by
  simp [wid] at h; omega
def okN (base : Int) (n : Nat) (addr size : Int) : Bool := wid size && hasB base n addr size
/-- the bytes behind a write -/
def wrF (base : Int) (n : Nat) (f : Nat → Int) (addr size v : Int) : Nat → Int := if okN base n addr size = true then put f (addr - base).toNat size.toNat (byt v) else f
def rdF (base : Int) (n : Nat) (f : Nat → Int) (addr size : Int) : Int := if okN base n addr size = true then nu (fun j => f ((addr - base).toNat + j)) size.toNat else 0
def fiF (base : Int) (n : Nat) (f : Nat → Int) (addr : Int) (len : Nat) (s : Nat → Int) : Nat → Int := if hasB base n addr len = true then put f (addr - base).toNat len s else f
def clF (n : Nat) (f : Nat → Int) (i : Int) : Nat → Int := if 0 ≤ i ∧ i < n then put f (4096 * i.toNat) 4096 (fun _ => 0) else f
section
variable (w : World) (S : Nat → Prop) (p : Nat) (base : Int) (n : Nat) (f : Nat → Int)
theorem c_WriteA (h : Mem w S p base n f) (addr size v : Int) (a0 : 0 ≤ addr) (a1 : addr < 18446744073709551616) (s0 : -9223372036854775808 ≤ size) (s1 : size ≤ 9223372036854775807) (v0 : 0 ≤ v) (v1 : v < 18446744073709551616) :
    Calls Try.prog 13 #[.pointer (some ⟨p, 0, none⟩), .int .u64 addr, .int .i64 size, .int .u64 v] w fun e w' => ∃ S', e = .returned (.bool (okN base n addr size)) ∧ Mem w' S' p base n (wrF base n f addr size v) ∧ Only S w w' ∧ ∀ k, S' k → S k ∨ w.heap.size ≤ k := by
  unfold wrF
  cases hk : okN base n addr size with
  | false =>
    refine (c_Write_bad2 w S p base n f h addr size v a0 a1 s0 s1 hk).mono ?_
    rintro e w' ⟨rfl, hs⟩
    exact ⟨S, rfl, h.below (hs.below _), hs.only, fun k z => .inl z⟩
  | true =>
    have hk' := hk
    simp only [okN, Bool.and_eq_true] at hk'
    obtain ⟨off, len, rfl, rfl, hl⟩ := hasB_off hk'.2
    refine (c_Write w S p base n f h off len hl (wid_of hk'.1) _ rfl v v0 v1).mono ?_
    rintro e w' ⟨S', rfl, h1, h2, h3⟩
    have e1 : (base + (off : Int) - base).toNat = off := by omega
    exact ⟨S', rfl, by rw [if_pos rfl, e1]; exact h1, h2, h3⟩
theorem q_WriteA (h : RMem w S p base n f) (addr size v : Int) (a0 : 0 ≤ addr) (a1 : addr < 18446744073709551616) (s0 : -9223372036854775808 ≤ size) (s1 : size ≤ 9223372036854775807) (v0 : 0 ≤ v) (v1 : v < 18446744073709551616) :
    Calls Try.prog 14 #[.pointer (some ⟨p, 0, none⟩), .int .u64 addr, .int .i64 size, .int .u64 v] w fun e w' => ∃ S', e = .returned (.bool (okN base n addr size)) ∧ RMem w' S' p base n (wrF base n f addr size v) ∧ Only S w w' ∧ ∀ k, S' k → S k ∨ w.heap.size ≤ k := by
  unfold wrF
  cases hk : okN base n addr size with
  | false =>
    refine (q_Write_bad w S p base n f h addr size v a0 a1 s0 s1 hk).mono ?_
    rintro e w' ⟨rfl, hs⟩
    exact ⟨S, rfl, h.below (hs.below _), hs.only, fun k z => .inl z⟩
  | true =>
    have hk' := hk
    simp only [okN, Bool.and_eq_true] at hk'
    obtain ⟨off, len, rfl, rfl, hl⟩ := hasB_off hk'.2
    refine (q_Write w S p base n f h off len hl (wid_of hk'.1) _ rfl v v0 v1).mono ?_
    rintro e w' ⟨S', rfl, h1, h2, h3⟩
    have e1 : (base + (off : Int) - base).toNat = off := by omega
    exact ⟨S', rfl, by rw [if_pos rfl, e1]; exact h1, h2, h3⟩
theorem c_ReadA (h : Mem w S p base n f) (addr size : Int) (a0 : 0 ≤ addr) (a1 : addr < 18446744073709551616) (s0 : -9223372036854775808 ≤ size) (s1 : size ≤ 9223372036854775807) :
    Calls Try.prog 15 #[.pointer (some ⟨p, 0, none⟩), .int .u64 addr, .int .i64 size] w fun e w' => e = .returned (.tuple #[.int .u64 (rdF base n f addr size), .bool (okN base n addr size)]) ∧ Below w.heap.size w w' := by
  unfold rdF
  cases hk : okN base n addr size with
  | false =>
    refine (c_Read_bad2 w S p base n f h addr size a0 a1 s0 s1 hk).mono ?_
    rintro e w' ⟨rfl, hs⟩
    exact ⟨rfl, hs.below _⟩
  | true =>
    have hk' := hk
    simp only [okN, Bool.and_eq_true] at hk'
    obtain ⟨off, len, rfl, rfl, hl⟩ := hasB_off hk'.2
    refine (c_Read w S p base n f h off len hl (wid_of hk'.1) _ rfl).mono ?_
    rintro e w' ⟨rfl, h1⟩
    have e1 : (base + (off : Int) - base).toNat = off := by omega
    exact ⟨by rw [if_pos rfl, e1]; rfl, h1⟩
theorem q_ReadA (h : RMem w S p base n f) (addr size : Int) (a0 : 0 ≤ addr) (a1 : addr < 18446744073709551616) (s0 : -9223372036854775808 ≤ size) (s1 : size ≤ 9223372036854775807) :
    Calls Try.prog 16 #[.pointer (some ⟨p, 0, none⟩), .int .u64 addr, .int .i64 size] w fun e w' => e = .returned (.tuple #[.int .u64 (rdF base n f addr size), .bool (okN base n addr size)]) ∧ Below w.heap.size w w' := by
  unfold rdF
  cases hk : okN base n addr size with
  | false =>
    refine (q_Read_bad w S p base n f h addr size a0 a1 s0 s1 hk).mono ?_
    rintro e w' ⟨rfl, hs⟩
    exact ⟨rfl, hs.below _⟩
  | true =>
    have hk' := hk
    simp only [okN, Bool.and_eq_true] at hk'
    obtain ⟨off, len, rfl, rfl, hl⟩ := hasB_off hk'.2
    refine (q_Read w S p base n f h off len hl (wid_of hk'.1) _ rfl).mono ?_
    rintro e w' ⟨rfl, h1⟩
    have e1 : (base + (off : Int) - base).toNat = off := by omega
    exact ⟨by rw [if_pos rfl, e1]; rfl, h1.below _⟩
theorem c_ClearA (h : Mem w S p base n f) (i : Int) : Calls Try.prog 23 #[.pointer (some ⟨p, 0, none⟩), .int .i64 i] w fun e w' => ∃ S', e = .returned (.bool (decide (0 ≤ i ∧ i < n))) ∧ Mem w' S' p base n (clF n f i) ∧ Only S w w' ∧ ∀ k, S' k → S k ∨ w.heap.size ≤ k := by
  unfold clF
  by_cases hi : 0 ≤ i ∧ i < n
  · obtain ⟨j, rfl⟩ : ∃ j : Nat, i = j := ⟨i.toNat, by omega⟩
    refine (c_Clear w S p base n f h j (by omega)).mono ?_
    rintro e w' ⟨S', rfl, h1, h2, h3⟩
    exact ⟨S', by rw [decide_eq_true hi], by rw [if_pos hi]; exact h1, h2, fun k z => .inl (h3 k z)⟩
  · refine (c_Clear_bad w S p base n f h i (by omega)).mono ?_
    rintro e w' ⟨rfl, rfl⟩
    exact ⟨S, by rw [decide_eq_false hi], by rw [if_neg hi]; exact h, Only.refl _, fun k z => .inl z⟩
theorem q_ClearA (h : RMem w S p base n f) (i : Int) : Calls Try.prog 24 #[.pointer (some ⟨p, 0, none⟩), .int .i64 i] w fun e w' => ∃ S', e = .returned (.bool (decide (0 ≤ i ∧ i < n))) ∧ RMem w' S' p base n (clF n f i) ∧ Only S w w' ∧ ∀ k, S' k → S k ∨ w.heap.size ≤ k := by
  unfold clF
  by_cases hi : 0 ≤ i ∧ i < n
  · obtain ⟨j, rfl⟩ : ∃ j : Nat, i = j := ⟨i.toNat, by omega⟩
    refine (q_Clear w S p base n f h j (by omega)).mono ?_
    rintro e w' ⟨S', rfl, h1, h2, h3⟩
    exact ⟨S', by rw [decide_eq_true hi], by rw [if_pos hi]; exact h1, h2, fun k z => .inl (h3 k z)⟩
  · refine (q_Clear_bad w S p base n f h i (by omega)).mono ?_
    rintro e w' ⟨rfl, rfl⟩
    exact ⟨S, by rw [decide_eq_false hi], by rw [if_neg hi]; exact h, Only.refl _, fun k z => .inl z⟩
theorem c_BytesA (h : Mem w S p base n f) (addr size : Int) (a0 : 0 ≤ addr) (a1 : addr < 18446744073709551616) (s0 : -9223372036854775808 ≤ size) (s1 : size ≤ 9223372036854775807) :
    Calls Try.prog 20 #[.pointer (some ⟨p, 0, none⟩), .int .u64 addr, .int .i64 size] w fun e w' => ∃ u m, e = .returned (.tuple #[u, .bool (hasB base n addr size)]) ∧ Sl w' u m (fun j => f ((addr - base).toNat + j)) ∧ m = (if hasB base n addr size = true then size.toNat else 0) ∧ Below w.heap.size w w' := by
  cases hk : hasB base n addr size with
  | false =>
    refine (c_Bytes_bad w S p base n f h addr size a0 a1 s0 s1 hk).mono ?_
    rintro e w' ⟨rfl, hs⟩
    exact ⟨_, 0, rfl, ⟨none, 0, rfl, Nat.le_refl _, ⟨0, 0, none⟩, fun z => absurd z (Nat.lt_irrefl _)⟩, rfl, hs.below _⟩
  | true =>
    obtain ⟨off, len, rfl, rfl, hl⟩ := hasB_off hk
    refine (c_Bytes w S p base n f h off len hl _ rfl).mono ?_
    rintro e w' ⟨b, rfl, h1, h2, h3⟩
    have e1 : (base + (off : Int) - base).toNat = off := by omega
    refine ⟨_, len, rfl, ⟨_, len, rfl, Nat.le_refl _, ⟨b, 0, none⟩, fun _ => ⟨rfl, lt_of_block h1, fun j hj => ?_⟩⟩, rfl, h3⟩
    rw [addr_add, Nat.zero_add, e1, row_cell h1 j hj, Nat.zero_add]
theorem q_BytesA (h : RMem w S p base n f) (addr size : Int) (a0 : 0 ≤ addr) (a1 : addr < 18446744073709551616) (s0 : -9223372036854775808 ≤ size) (s1 : size ≤ 9223372036854775807) :
    Calls Try.prog 21 #[.pointer (some ⟨p, 0, none⟩), .int .u64 addr, .int .i64 size] w fun e w' => ∃ u m, e = .returned (.tuple #[u, .bool (hasB base n addr size)]) ∧ Sl w' u m (fun j => f ((addr - base).toNat + j)) ∧ m = (if hasB base n addr size = true then size.toNat else 0) ∧ Below w.heap.size w w' := by
  cases hk : hasB base n addr size with
  | false =>
    refine (q_Bytes_bad w S p base n f h addr size a0 a1 s0 s1 hk).mono ?_
    rintro e w' ⟨rfl, hs⟩
    exact ⟨_, 0, rfl, ⟨none, 0, rfl, Nat.le_refl _, ⟨0, 0, none⟩, fun z => absurd z (Nat.lt_irrefl _)⟩, rfl, hs.below _⟩
  | true =>
    obtain ⟨off, len, rfl, rfl, hl⟩ := hasB_off hk
    refine (q_Bytes w S p base n f h off len hl _ rfl).mono ?_
    rintro e w' ⟨b, rfl, h1, h2, h3⟩
    have e1 : (base + (off : Int) - base).toNat = off := by omega
    refine ⟨_, len, rfl, ⟨_, len, rfl, Nat.le_refl _, ⟨b, 0, none⟩, fun _ => ⟨rfl, lt_of_block h1, fun j hj => ?_⟩⟩, rfl, h3⟩
    rw [addr_add, Nat.zero_add, e1, row_cell h1 j hj, Nat.zero_add]
end
end Go.Proofs.Ytioodijiejipiaa
