/- The document's page: entries. -/
import Derived.Test.YtieoingbinfdiaaPD
import Derived.Test.YtieoingbinfdiaaPGC
import Derived.Test.YtieoingbinfdiaaQD
namespace Go.Proofs.Ytieoingbinfdiaa
open Go.RowKit
set_option linter.unusedVariables false

def numR (e : Int) : Int := e / 1024 % 17592186044416
theorem numR_eq {e : Int} (h0 : 0 ≤ e) (h : wr e = false) : numR e = num e := by
  have := wr_lt h
  unfold numR num; omega
theorem and_mask44 (x : Int) (h0 : 0 ≤ x) (h1 : x < 18446744073709551616) : bits .and .u64 x 17592186044415 = x % 17592186044416 := by
  obtain ⟨n, rfl⟩ := Int.eq_ofNat_of_zero_le h0
  have h := Nat.and_two_pow_sub_one_eq_mod n 44
  rw [show (17592186044415 : Int) = ((2 ^ 44 - 1 : Nat) : Int) from rfl, bits_and_u64_nat _ _ (by omega) (by decide), h]
  omega
theorem low2 : ∀ k : Fin 256, hsN k.val 1 = decide (k.val % 2 = 1) ∧ hsN k.val 2 = decide (k.val &&& 2 ≠ 0) ∧ hsN k.val 4 = decide (k.val &&& 4 ≠ 0) ∧ hsN k.val 8 = decide (k.val &&& 8 ≠ 0) ∧ hsN k.val 16 = decide (k.val &&& 16 ≠ 0) ∧ hsN k.val 64 = decide (k.val &&& 64 ≠ 0) ∧ hsN k.val 128 = decide (k.val &&& 128 ≠ 0) ∧ hsN k.val 80 = (hsN k.val 16 && hsN k.val 64) ∧ hsN k.val 132 = (hsN k.val 4 && hsN k.val 128) := of_decide_eq_true (by kernel_rfl)
/-- a bit, as the document asks for it -/
theorem bit_of (e : Int) (h0 : 0 ≤ e) (h1 : e < 18446744073709551616) (m : Nat) (hm : m < 256) (mi : Int) (hmi : mi = m) (hb : hsN (lo e) m = decide (lo e &&& m ≠ 0)) : (hs e m = true → (bits .and .u64 e mi == 0) = false ∧ (bits .and .u64 e mi != 0) = true) ∧ (hs e m = false → (bits .and .u64 e mi == 0) = true ∧ (bits .and .u64 e mi != 0) = false) := by
  subst hmi
  have hz : hs e m = decide (lo e &&& m ≠ 0) := hb
  rw [and_lo e h0 h1 m hm, hz]
  constructor
  · intro h
    have h := of_decide_eq_true h
    constructor
    · simp; omega
    · simp; omega
  · intro h
    have h := of_decide_eq_false h
    constructor
    · simp; omega
    · simp; omega
theorem bit_eq (e : Int) (h0 : 0 ≤ e) (h1 : e < 18446744073709551616) : (bits .and .u64 e 2 != 0) = hs e 2 ∧ (bits .and .u64 e 4 != 0) = hs e 4 ∧ (bits .and .u64 e 8 != 0) = hs e 8 ∧ (bits .and .u64 e 16 != 0) = hs e 16 ∧ (bits .and .u64 e 64 != 0) = hs e 64 ∧ (bits .and .u64 e 128 != 0) = hs e 128 ∧ (bits .and .u64 e 10 != 0) = lf e := by
  obtain ⟨l1, l2, l4, l8, l16, l64, l128, _, _⟩ := low2 ⟨lo e, lo_lt e⟩
  have one : ∀ (m : Nat) (mi : Int), m < 256 → mi = m → hsN (lo e) m = decide (lo e &&& m ≠ 0) → (bits .and .u64 e mi != 0) = hs e m := fun m mi hm hmi hb => by
    have q := bit_of e h0 h1 m hm mi hmi hb
    cases h : hs e m
    · exact (q.2 h).2
    · exact (q.1 h).2
  refine ⟨one 2 2 (by decide) rfl l2, one 4 4 (by decide) rfl l4, one 8 8 (by decide) rfl l8, one 16 16 (by decide) rfl l16, one 64 64 (by decide) rfl l64, one 128 128 (by decide) rfl l128, ?_⟩
  rw [show (10 : Int) = ((10 : Nat) : Int) from rfl, and_lo e h0 h1 10 (by decide)]
  unfold lf
  rw [Bool.eq_iff_iff]; simp
theorem odd_eq (e : Int) (h0 : 0 ≤ e) : hs e 1 = decide (e % 2 = 1) := by
  have l1 := (low2 ⟨lo e, lo_lt e⟩).1
  have : hs e 1 = decide (lo e % 2 = 1) := l1
  rw [this]
  unfold lo
  rw [Bool.eq_iff_iff]; simp; omega
theorem bit0_eq (e : Int) (h0 : 0 ≤ e) (h1 : e < 18446744073709551616) : (bits .and .u64 e 2 == 0) = !hs e 2 ∧ (bits .and .u64 e 16 == 0) = !hs e 16 ∧ (bits .and .u64 e 64 == 0) = !hs e 64 ∧ (bits .and .u64 e 10 == 0) = !lf e := by
  obtain ⟨b2, b4, b8, b16, b64, b128, bl⟩ := bit_eq e h0 h1
  have f : ∀ x : Int, (x == 0) = !(x != 0) := fun x => by simp [bne]
  exact ⟨by rw [f, b2], by rw [f, b16], by rw [f, b64], by rw [f, bl]⟩
end Go.Proofs.Ytieoingbinfdiaa
