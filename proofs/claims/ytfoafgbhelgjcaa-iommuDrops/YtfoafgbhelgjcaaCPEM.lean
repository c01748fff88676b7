/- PageEntries: the numbers. -/
import Derived.Test.YtfoafgbhelgjcaaCPEN
namespace Go.Proofs.Ytfoafgbhelgjcaa.C
open Go.RowKit
set_option linter.unusedVariables false
set_option maxRecDepth 100000

theorem andn_eq (x M M' : Int) (h : ~~~(BitVec.ofInt 64 M) = BitVec.ofInt 64 M') : bits .andNot .u64 x M = bits .and .u64 x M' := by
  show IntKind.u64.wrap ((BitVec.ofInt 64 x &&& ~~~BitVec.ofInt 64 M).toNat : Int) = IntKind.u64.wrap ((BitVec.ofInt 64 x &&& BitVec.ofInt 64 M').toNat : Int)
  rw [h]
theorem bit_of_fin (c a n : Nat) (hc : c < 2 ^ 64) (h : ∀ k : Fin 64, c.testBit k.val = !(decide (a ≤ k.val) && decide (k.val < a + n))) (i : Nat) : c.testBit i = (decide (i < 64) && !(decide (a ≤ i) && decide (i < a + n))) := by
  by_cases q : i < 64
  · rw [h ⟨i, q⟩, decide_eq_true q, Bool.true_and]
  · rw [Nat.testBit_lt_two_pow (Nat.lt_of_lt_of_le hc (Nat.pow_le_pow_right (by decide) (by omega))), decide_eq_false q, Bool.false_and]
theorem clear_num (x : Int) (h0 : 0 ≤ x) (h1 : x < 18446744073709551616) : bits .andNot .u64 x 18014398509480960 = x / 18014398509481984 * 18014398509481984 + x % 1024 := by
  obtain ⟨n, rfl⟩ := Int.eq_ofNat_of_zero_le h0
  rw [andn_eq _ _ 18428729675200070655 (by decide), show (18428729675200070655 : Int) = ((18428729675200070655 : Nat) : Int) from rfl, bits_and_u64_nat _ _ (by omega) (by decide), nat_clear n 10 44 _ (bit_of_fin _ 10 44 (by decide) (by decide)) (by omega)]
  omega
theorem clear_low (x : Int) (h0 : 0 ≤ x) (h1 : x < 18446744073709551616) : bits .andNot .u64 x 17592186044415 = x / 17592186044416 * 17592186044416 := by
  obtain ⟨n, rfl⟩ := Int.eq_ofNat_of_zero_le h0
  rw [andn_eq _ _ 18446726481523507200 (by decide), show (18446726481523507200 : Int) = ((18446726481523507200 : Nat) : Int) from rfl, bits_and_u64_nat _ _ (by omega) (by decide), nat_clear n 0 44 _ (bit_of_fin _ 0 44 (by decide) (by decide)) (by omega)]
  omega
theorem or_low (x y : Int) (h0 : 0 ≤ x) (h1 : x < 18446744073709551616) (y0 : 0 ≤ y) (y1 : y < 17592186044416) : bits .or .u64 (x / 17592186044416 * 17592186044416) y = x / 17592186044416 * 17592186044416 + y := by
  obtain ⟨n, rfl⟩ := Int.eq_ofNat_of_zero_le h0
  obtain ⟨m, rfl⟩ := Int.eq_ofNat_of_zero_le y0
  have h := Nat.two_pow_add_eq_or_of_lt (i := 44) (b := m) (by omega) (n / 17592186044416)
  rw [show ((n : Int) / 17592186044416 * 17592186044416) = ((2 ^ 44 * (n / 17592186044416) : Nat) : Int) by omega, bits_or_u64_nat _ _ (by omega) (by omega), ← h]
  omega
/-- an entry, its number taken away where it is no leaf and leads above 5 -/
def lowV (V : Int) : Int := if lf V = true ∨ numR V ≤ 5 then V else V / 18014398509481984 * 18014398509481984 + V % 1024
theorem lowV_ok (V : Int) (h0 : 0 ≤ V) (h1 : V < 18446744073709551616) : (0 ≤ lowV V ∧ lowV V < 18446744073709551616) ∧ okT (lowV V) := by
  unfold lowV
  split
  · rename_i h; exact ⟨⟨h0, h1⟩, h⟩
  · exact ⟨by omega, .inr (by unfold numR; omega)⟩
theorem lf_and (V : Int) (h0 : 0 ≤ V) (h1 : V < 18446744073709551616) : (bits .and .u64 V 10 == 0) = !lf V := by
  have h := and_lo V h0 h1 10 (by decide)
  have h' : bits .and .u64 V 10 = ((lo V &&& 10 : Nat) : Int) := h
  rw [h']
  unfold lf
  by_cases q : lo V &&& 10 = 0
  · rw [q]; simp
  · simp [q]
/-- the cells that are laid -/
def Yof (X : Nat → Int × Int) (i : Nat) : Int × Int := ((X i).1 % 3072, lowV (X i).2)
def cy (Y : Nat → Int × Int) : Nat → List Value
  | 0 => []
  | k + 1 => cy Y k ++ [.int .i64 (Y k).1, .int .u64 (Y k).2]
theorem cy_len (Y : Nat → Int × Int) : ∀ k, (cy Y k).length = k * 2
  | 0 => rfl
  | k + 1 => by show (cy Y k ++ _).length = _; rw [List.length_append, cy_len Y k]; simp; omega
theorem cy_get (Y : Nat → Int × Int) : ∀ k i, i < k → (cy Y k)[i * 2]? = some (.int .i64 (Y i).1) ∧ (cy Y k)[i * 2 + 1]? = some (.int .u64 (Y i).2)
  | k + 1, i, h => by
    show (cy Y k ++ _)[i * 2]? = _ ∧ (cy Y k ++ _)[i * 2 + 1]? = _
    by_cases q : i < k
    · rw [List.getElem?_append_left (by rw [cy_len]; omega), List.getElem?_append_left (by rw [cy_len]; omega)]
      exact cy_get Y k i q
    · obtain rfl : i = k := by omega
      rw [List.getElem?_append_right (by rw [cy_len]; omega), List.getElem?_append_right (by rw [cy_len]; omega), cy_len, Nat.sub_self, show i * 2 + 1 - i * 2 = 1 by omega]
      exact ⟨rfl, rfl⟩
theorem add_mk (g n : Nat) : (⟨g, 0, none⟩ : Addr).add n = ⟨g, 0 + n, none⟩ := by
  cases n with
  | zero => rfl
  | succ n => simp [Addr.add]
/-- what is laid, as Memory takes it -/
theorem cl_of_own {w : World} {base : Nat} {v : Value} {k : Nat} {Y : Nat → Int × Int} (h : w.ownsRow base 71 2 v k (cy Y k)) (hk : k ≤ 9223372036854775807) (hY : ∀ i, i < k → (-9223372036854775808 ≤ (Y i).1 ∧ (Y i).1 ≤ 9223372036854775807) ∧ 0 ≤ (Y i).2 ∧ (Y i).2 < 18446744073709551616) : ∃ ad cap ab, v = .slice ad k cap ∧ Cl w ad k cap ab 0 Y := by
  rcases h.2 with ⟨rfl, rfl⟩ | ⟨g, cap, cur, rfl, hbg, hg, hnc, hcm, hcs, htake⟩
  · exact ⟨none, 0, 0, rfl, Nat.le_refl _, by decide, fun q => absurd q (by decide), fun i q => absurd q (Nat.not_lt_zero _), fun i q => absurd q (Nat.not_lt_zero _)⟩
  · have hc := h.cells (g := g) rfl
    refine ⟨_, cap, g, rfl, hnc, by unfold maxLen at hcm; omega, fun _ => ⟨rfl, ?_⟩, fun i hi => ?_, hY⟩
    · exact lt_of_block hg
    · obtain ⟨e1, e2⟩ := cy_get Y k i hi
      have h1 := hc _ _ e1
      have h2 := hc _ _ e2
      rw [add_mk] at h1 h2
      exact ⟨h1, by rw [← Nat.add_assoc] at h2; exact h2⟩
end Go.Proofs.Ytfoafgbhelgjcaa.C
