/- PageEntries: what a translation hangs on. -/
import Derived.Test.YtfoafgbhelgjcaaCPRG
import Derived.Test.YtfoafgbhelgjcaaCPQ
namespace Go.Proofs.Ytfoafgbhelgjcaa.C
open Go.RowKit
set_option linter.unusedVariables false
set_option maxRecDepth 100000

/-- an entry that leads to no table above 5 -/
def okT (e : Int) : Prop := lf e = true ∨ numR e ≤ 5
/-- two memories that are the same below frame 6, whose entries there lead no further -/
structure Agr (f g : Nat → Int) : Prop where
  same : ∀ j, j < 24576 → f j = g j
  tab : ∀ i, i < 3072 → okT (rd8 f (8 * i))
  byt : ∀ j, 0 ≤ f j ∧ f j < 256
theorem agr_rd {f g : Nat → Int} (h : Agr f g) (i : Nat) (hi : i < 3072) : rd8 f (8 * i) = rd8 g (8 * i) := by
  unfold rd8
  exact nu_congr 8 (fun j hj => h.same _ (by omega))
theorem agr_rdm {f g : Nat → Int} (h : Agr f g) (addr t : Int) (k : Nat) (t0 : 0 ≤ t) (t1 : t ≤ 5) : ∃ e : Int, rdm 8 f (atF addr k t) = (e, 0) ∧ rdm 8 g (atF addr k t) = (e, 0) ∧ 0 ≤ e ∧ okT e := by
  obtain ⟨i, hi⟩ : ∃ i : Nat, t * 512 + addr / 4096 / pw k % 512 = (i : Int) := ⟨(t * 512 + addr / 4096 / pw k % 512).toNat, by omega⟩
  have hi2 : i < 3072 := by omega
  have ha : atF addr k t = ((8 * i : Nat) : Int) := by unfold atF; omega
  refine ⟨rd8 f (8 * i), rdm_in 8 f _ _ ha (by omega), ?_, ?_, h.tab i hi2⟩
  · rw [rdm_in 8 g _ _ ha (by omega), agr_rd h i hi2]
  · exact (nu_lt (fun j => f (8 * i + j)) (fun j => h.byt _) 8).1
theorem agr_D {f g : Nat → Int} (h : Agr f g) (addr wrong : Int) : ∀ (k : Nat) (t : Int), 0 ≤ t → t ≤ 5 → D (rdm 8 f) addr wrong k t = D (rdm 8 g) addr wrong k t := by
  intro k
  induction k with
  | zero =>
    intro t t0 t1
    obtain ⟨e, h1, h2, _, _⟩ := agr_rdm h addr t 0 t0 t1
    unfold D
    rw [h1, h2]
  | succ k ih =>
    intro t t0 t1
    obtain ⟨e, h1, h2, e0, ho⟩ := agr_rdm h addr t (k + 1) t0 t1
    have g1 : t ≤ 4503599627370495 := by omega
    cases g3 : wr e
    · cases g4 : lf e
      · rw [D_next g1 (by rw [h1]) (by rw [h1]; exact g3) (by rw [h1]; exact g4), D_next g1 (by rw [h2]) (by rw [h2]; exact g3) (by rw [h2]; exact g4), h1, h2]
        have hn : num e ≤ 5 := by
          rcases ho with q | q
          · rw [g4] at q; cases q
          · rw [← numR_eq e0 g3]; exact q
        exact ih _ (by show 0 ≤ num e; unfold num; omega) hn
      · by_cases g5 : num e % pw (k + 1) = 0
        · rw [D_leaf g1 (by rw [h1]) (by rw [h1]; exact g3) (by rw [h1]; exact g4) (by rw [h1]; exact g5), D_leaf g1 (by rw [h2]) (by rw [h2]; exact g3) (by rw [h2]; exact g4) (by rw [h2]; exact g5), h1, h2]
        · rw [D_mis g1 (by rw [h1]) (by rw [h1]; exact g3) (by rw [h1]; exact g4) (by rw [h1]; exact g5), D_mis g1 (by rw [h2]) (by rw [h2]; exact g3) (by rw [h2]; exact g4) (by rw [h2]; exact g5)]
    · rw [D_wrong g1 (by rw [h1]) (by rw [h1]; exact g3), D_wrong g1 (by rw [h2]) (by rw [h2]; exact g3)]
theorem agr_gst {f g : Nat → Int} (h : Agr f g) (root gpa acc : Int) (r0 : 0 ≤ root) (r1 : root ≤ 5) : gst (rdm 8 f) root gpa acc = gst (rdm 8 g) root gpa acc := by
  unfold gst
  rw [agr_D h gpa 2 2 root r0 r1]
theorem agr_tr {f g : Nat → Int} (h : Agr f g) (v : EnvV) (va acc : Int) (r0 : 0 ≤ v.root) (r1 : v.root ≤ 5) (s0 : 0 ≤ v.satp) (s1 : v.satp % 17592186044416 ≤ 5) (hm : v.root ≠ 0 → v.satp / 1152921504606846976 = 0) : tr (rdm 8 f) v va acc = tr (rdm 8 g) v va acc := by
  have hp : ∀ x, plOf (rdm 8 f) v.root x acc = plOf (rdm 8 g) v.root x acc := fun x => by unfold plOf; rw [agr_gst h v.root x acc r0 r1]
  unfold tr
  by_cases h0 : v.satp / 1152921504606846976 = 0
  · rw [if_pos h0, if_pos h0, hp]
  · rw [if_neg h0, if_neg h0]
    have hr : v.root = 0 := Classical.byContradiction fun q => h0 (hm q)
    have hd : D (rdg (rdm 8 f) v.root) va 1 2 (v.satp % 17592186044416) = D (rdg (rdm 8 g) v.root) va 1 2 (v.satp % 17592186044416) := by
      have e1 : rdg (rdm 8 f) v.root = rdm 8 f := by rw [hr]; funext a; exact rdg0 _ a
      have e2 : rdg (rdm 8 g) v.root = rdm 8 g := by rw [hr]; funext a; exact rdg0 _ a
      rw [e1, e2]
      exact agr_D h va 1 2 _ (by omega) s1
    unfold thr
    rw [hd, hp]
/-- cells whose entries lead to no table above 5 -/
theorem fcl_tab (X : Nat → Int × Int) : ∀ k, (∀ i, i < k → (0 ≤ (X i).1 ∧ (X i).1 < 3072) ∧ (0 ≤ (X i).2 ∧ (X i).2 < 18446744073709551616) ∧ okT (X i).2) → ∀ i, i < 3072 → okT (rd8 (fcl 8 X k) (8 * i))
  | 0, _, i, _ => by
    show okT (rd8 (fun _ => 0) (8 * i))
    rw [rd8_zero]; exact .inr (by decide)
  | k + 1, h, i, hi => by
    obtain ⟨⟨a0, a1⟩, ⟨v0, v1⟩, ho⟩ := h k (by omega)
    have e : 8 * ((X k).1 % (512 * ((8 : Nat) : Int))).toNat = 8 * (X k).1.toNat := by omega
    show okT (rd8 (put (fcl 8 X k) (8 * ((X k).1 % (512 * ((8 : Nat) : Int))).toNat) 8 (byt (X k).2)) (8 * i))
    rw [e]
    by_cases q : i = (X k).1.toNat
    · rw [← q, rd8_same _ _ _ v0 v1]; exact ho
    · rw [rd8_other _ _ _ _ (by omega)]
      exact fcl_tab X k (fun j hj => h j (by omega)) i hi
theorem nat_clear (x a n : Nat) (c : Nat) (hc : ∀ i, c.testBit i = (decide (i < 64) && !(decide (a ≤ i) && decide (i < a + n)))) (hx : x < 2 ^ 64) : x &&& c = x / 2 ^ (a + n) * 2 ^ (a + n) + x % 2 ^ a := by
  have h1 : x % 2 ^ a < 2 ^ (a + n) := Nat.lt_of_lt_of_le (Nat.mod_lt _ (Nat.two_pow_pos a)) (Nat.pow_le_pow_right (by decide) (by omega))
  have h2 := Nat.two_pow_add_eq_or_of_lt h1 (x / 2 ^ (a + n))
  rw [Nat.mul_comm (x / 2 ^ (a + n)), h2]
  apply Nat.eq_of_testBit_eq
  intro i
  rw [Nat.testBit_and, Nat.testBit_or, hc, Nat.testBit_mod_two_pow]
  rw [Nat.mul_comm, ← Nat.shiftLeft_eq, ← Nat.shiftRight_eq_div_pow, Nat.testBit_shiftLeft, Nat.testBit_shiftRight]
  by_cases q1 : i < a
  · have : ¬ (a + n ≤ i) := by omega
    by_cases q3 : i < 64
    · simp [q1, q3, this]
      try omega
    · have hz : x.testBit i = false := Nat.testBit_lt_two_pow (Nat.lt_of_lt_of_le hx (Nat.pow_le_pow_right (by decide) (by omega)))
      simp [hz, this]
  · by_cases q2 : i < a + n
    · have h3 : ¬ (a + n ≤ i) := by omega
      have h4 : a ≤ i := by omega
      simp [q1, q2, h3, h4]
    · have h3 : a + n ≤ i := by omega
      have e : a + n + (i - (a + n)) = i := by omega
      by_cases q3 : i < 64
      · simp [q1, q2, q3, h3, e]
      · have hz : x.testBit i = false := Nat.testBit_lt_two_pow (Nat.lt_of_lt_of_le hx (Nat.pow_le_pow_right (by decide) (by omega)))
        simp [q1, h3, e, hz]
end Go.Proofs.Ytfoafgbhelgjcaa.C
