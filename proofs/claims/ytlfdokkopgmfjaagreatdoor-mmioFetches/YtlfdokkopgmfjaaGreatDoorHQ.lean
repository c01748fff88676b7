/- A region that draws its order, whose last operation waits for all the others: these walked once, in the order of the text, then the last one. -/
import Derived.WalkKit
import Derived.ProofKit
import Derived.Outline
import Derived.Deep.QuietTactic
import Derived.BigQuiet
namespace Go.Proofs.YtlfdokkopgmfjaaGreatDoor
open Go.RowKit
set_option linter.unusedVariables false
section
variable {P : Program} {ops : Array Oper} {md : Region.Mode} {C : World → Prop}
/-- what is listed is listed with all that it waits for -/
def Dn (md : Region.Mode) (ops : Array Oper) (listed : Array Bool) : Prop := listed.size = ops.size ∧ ∀ (k : Nat) (o : Oper), ops[k]? = some o → listed.getD k true = true → ∀ e ∈ o.after, Region.binds md e = true → listed.getD e.on false = true
theorem getD_set_up {listed : Array Bool} {i j : Nat} (h : listed.getD j false = true) : (listed.setIfInBounds i true).getD j false = true := by
  by_cases e : i = j
  · subst e
    have hl : i < listed.size := by
      rcases Nat.lt_or_ge i listed.size with q | q
      · exact q
      · simp [Array.getElem?_eq_none q] at h
    simp [hl]
  · rw [getD_set_ne false e]; exact h
theorem Dn.set {listed : Array Bool} {i : Nat} (h : Dn md ops listed) (hi : i ∈ Region.ready md ops listed) : Dn md ops (listed.setIfInBounds i true) := by
  obtain ⟨h0, o, ho, hall⟩ := mem_ready.1 hi
  refine ⟨by simpa using h.1, fun k ok hk hl e he hb => ?_⟩
  by_cases q : i = k
  · subst q
    rw [ho] at hk
    cases hk
    exact getD_set_up (hall e he hb)
  · rw [getD_set_ne true q] at hl
    exact getD_set_up (h.2 k ok hk hl e he hb)
/-- each operation but z is waited for by a later one -/
def covB (md : Region.Mode) (ops : Array Oper) (z : Nat) : Bool :=
  (List.range z).all fun j => (List.range (z + 1)).any fun k => decide (j < k) && ((ops[k]?).map fun o => o.after.any fun e => Region.binds md e && e.on == j).getD false
theorem cov_spec {z : Nat} (h : covB md ops z = true) {j : Nat} (hj : j < z) : ∃ k o e, j < k ∧ k ≤ z ∧ ops[k]? = some o ∧ e ∈ o.after ∧ Region.binds md e = true ∧ e.on = j := by
  unfold covB at h
  rw [List.all_eq_true] at h
  have h1 := h j (List.mem_range.2 hj)
  rw [List.any_eq_true] at h1
  obtain ⟨k, hk, h2⟩ := h1
  simp only [Bool.and_eq_true, decide_eq_true_eq] at h2
  obtain ⟨hlt, h3⟩ := h2
  cases ho : ops[k]? with
  | none => simp [ho] at h3
  | some o =>
    simp only [ho, Option.map_some, Option.getD_some] at h3
    rw [Array.any_eq_true] at h3
    obtain ⟨i, hi, h4⟩ := h3
    simp only [Bool.and_eq_true, beq_iff_eq] at h4
    exact ⟨k, o, o.after[i], hlt, by have := List.mem_range.1 hk; omega, ho, Array.getElem_mem hi, h4.1, h4.2⟩
/-- the last one is ready only when all others are listed -/
theorem last_ready {z : Nat} (hc : covB md ops z = true) {listed : Array Bool} (hd : Dn md ops listed) (hz : z ∈ Region.ready md ops listed) : ∀ j, j < z → listed.getD j false = true := by
  obtain ⟨h0, oz, hoz, hall⟩ := mem_ready.1 hz
  have key : ∀ n j, z - j ≤ n → j < z → listed.getD j false = true := by
    intro n
    induction n with
    | zero => intro j h1 h2; omega
    | succ n ih =>
      intro j h1 h2
      obtain ⟨k, o, e, hjk, hkz, ho, he, hb, hon⟩ := cov_spec hc h2
      rcases Nat.lt_or_ge k z with q | q
      · have hk := ih k (by omega) q
        have hk' : listed.getD k true = true := by
          have hl : k < listed.size := by
            rcases Nat.lt_or_ge k listed.size with q | q
            · exact q
            · simp [Array.getElem?_eq_none q] at hk
          simp [hl] at hk ⊢
          exact hk
        have := hd.2 k o ho hk' e he hb
        rwa [hon] at this
      · have : k = z := by omega
        subst this
        rw [hoz] at ho
        cases ho
        have := hall e he hb
        rwa [hon] at this
  exact fun j hj => key _ j (Nat.le_refl _) hj
end
theorem below_dn {B : Nat} {a w : World} (h : Below B a w) (n : Nat) : Below B a (w.drewN n) := ⟨h.os, h.tape, h.output, h.size, h.block⟩
end Go.Proofs.YtlfdokkopgmfjaaGreatDoor
