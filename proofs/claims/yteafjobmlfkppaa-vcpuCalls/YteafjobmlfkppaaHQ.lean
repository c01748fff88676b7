/- A region that draws its order, whose last operation waits for all the others: these walked once, in the order of the text, then the last one. -/
import Derived.WalkKit
import Derived.ProofKit
import Derived.Outline
import Derived.Deep.QuietTactic
import Derived.BigQuiet
namespace Go.Proofs.Yteafjobmlfkppaa
open Go.RowKit
set_option linter.unusedVariables false

section
variable {P : Program} {ops : Array Oper} {md : Region.Mode} {C : World → Prop}
/-- what is listed is listed with all that it waits for -/
def Dn (md : Region.Mode) (ops : Array Oper) (listed : Array Bool) : Prop := listed.size = ops.size ∧ ∀ (k : Nat) (o : Oper), ops[k]? = some o → listed.getD k true = true → ∀ e ∈ o.after, Region.binds md e = true → listed.getD e.on false = true
theorem getD_set_same {listed : Array Bool} {i : Nat} : (listed.setIfInBounds i true).getD i true = true := by
  rcases Nat.lt_or_ge i listed.size with h | h
  · simp [h]
  · have : ¬ i < listed.size := by omega
    simp [this]
theorem getD_set_up {listed : Array Bool} {i j : Nat} (h : listed.getD j false = true) : (listed.setIfInBounds i true).getD j false = true := by
  by_cases e : i = j
  · subst e
    have hl : i < listed.size := by
      rcases Nat.lt_or_ge i listed.size with q | q
      · exact q
      · simp [Array.getElem?_eq_none q] at h
    simp [hl]
  · rw [getD_set_ne false e]; exact h
theorem Dn.set {listed : Array Bool} {i : Nat} (h : Dn md ops listed) (hi : i ∈ Region.ready md ops listed) : Dn md ops (listed.setIfInBounds i true) := by
  obtain ⟨h0, o, ho, hall⟩ := mem_ready.1 hi
  refine ⟨by simpa using h.1, fun k ok hk hl e he hb => ?_⟩
  by_cases q : i = k
  · subst q
    rw [ho] at hk
    cases hk
    exact getD_set_up (hall e he hb)
  · rw [getD_set_ne true q] at hl
    exact getD_set_up (h.2 k ok hk hl e he hb)
/-- each operation but z is waited for by a later one -/
def covB (md : Region.Mode) (ops : Array Oper) (z : Nat) : Bool :=
  (List.range z).all fun j => (List.range (z + 1)).any fun k => decide (j < k) && ((ops[k]?).map fun o => o.after.any fun e => Region.binds md e && e.on == j).getD false
theorem cov_spec {z : Nat} (h : covB md ops z = true) {j : Nat} (hj : j < z) : ∃ k o e, j < k ∧ k ≤ z ∧ ops[k]? = some o ∧ e ∈ o.after ∧ Region.binds md e = true ∧ e.on = j := by
  unfold covB at h
  rw [List.all_eq_true] at h
  have h1 := h j (List.mem_range.2 hj)
  rw [List.any_eq_true] at h1
  obtain ⟨k, hk, h2⟩ := h1
  simp only [Bool.and_eq_true, decide_eq_true_eq] at h2
  obtain ⟨hlt, h3⟩ := h2
  cases ho : ops[k]? with
  | none => simp [ho] at h3
  | some o =>
    simp only [ho, Option.map_some, Option.getD_some] at h3
    rw [Array.any_eq_true] at h3
    obtain ⟨i, hi, h4⟩ := h3
    simp only [Bool.and_eq_true, beq_iff_eq] at h4
    exact ⟨k, o, o.after[i], hlt, by have := List.mem_range.1 hk; omega, ho, Array.getElem_mem hi, h4.1, h4.2⟩
/-- the last one is ready only when all others are listed -/
theorem last_ready {z : Nat} (hc : covB md ops z = true) {listed : Array Bool} (hd : Dn md ops listed) (hz : z ∈ Region.ready md ops listed) : ∀ j, j < z → listed.getD j false = true := by
  obtain ⟨h0, oz, hoz, hall⟩ := mem_ready.1 hz
  have key : ∀ n j, z - j ≤ n → j < z → listed.getD j false = true := by
    intro n
    induction n with
    | zero => intro j h1 h2; omega
    | succ n ih =>
      intro j h1 h2
      obtain ⟨k, o, e, hjk, hkz, ho, he, hb, hon⟩ := cov_spec hc h2
      rcases Nat.lt_or_ge k z with q | q
      · have hk := ih k (by omega) q
        have hk' : listed.getD k true = true := by
          have hl : k < listed.size := by
            rcases Nat.lt_or_ge k listed.size with q | q
            · exact q
            · simp [Array.getElem?_eq_none q] at hk
          simp [hl] at hk ⊢
          exact hk
        have := hd.2 k o ho hk' e he hb
        rwa [hon] at this
      · have : k = z := by omega
        subst this
        rw [hoz] at ho
        cases ho
        have := hall e he hb
        rwa [hon] at this
  exact fun j hj => key _ j (Nat.le_refl _) hj
def wpAnyL (P : Program) (md : Region.Mode) (ops : Array Oper) (C : World → Prop) (z : Nat) (Q : Act → Prop) : Nat → Array Bool → Act → Prop
  | 0, listed, a => (∀ j, j ≠ z → listed.getD j true = true) ∧ z ∈ Region.ready md ops listed ∧ Q a
  | fuel + 1, listed, a => Region.ready md ops listed ≠ [] ∧ ∀ i ∈ Region.ready md ops listed, qOp P ops C i (wpAnyL P md ops C z Q fuel (listed.setIfInBounds i true)) a
theorem wpAny_of_last {z : Nat} {Q : Act → Prop} {Q' : Exit → Act → World → Prop} (hQ : ∀ a w, C w → Q a → wpOp P ops Q' z (Q' .normal) a w) : ∀ (fuel : Nat) (listed : Array Bool) (a : Act) (w : World), C w →
    wpAnyL P md ops C z Q fuel listed a → wpAny P md ops Q' (fuel + 1) listed a w
  | 0, listed, a, w, hw, h => by
    obtain ⟨h1, h2, h3⟩ := h
    refine ⟨fun h0 => (by rw [h0] at h2; cases h2), fun i hi => ?_⟩
    have e : i = z := by
      by_cases e : i = z
      · exact e
      · have := (mem_ready.1 hi).1
        rw [h1 i e] at this
        cases this
    subst e
    refine wpOp_mono (fun a' w' h' => ⟨?_, h'⟩) (hQ a w hw h3)
    cases hr : Region.ready md ops (listed.setIfInBounds i true) with
    | nil => rfl
    | cons j r =>
      exfalso
      have hj : j ∈ Region.ready md ops (listed.setIfInBounds i true) := by rw [hr]; simp
      have hu := (mem_ready.1 hj).1
      by_cases e : i = j
      · subst e; rw [getD_set_same] at hu; cases hu
      · rw [getD_set_ne true e, h1 j (Ne.symm e)] at hu; cases hu
  | fuel + 1, listed, a, w, hw, h => ⟨fun h0 => absurd h0 h.1, fun i hi => wpOp_of_qOp hw (fun a' w' hw' => wpAny_of_last hQ fuel _ a' w' hw') (h.2 i hi)⟩
theorem wpAnyL_first {z : Nat} {Q : Act → Prop} {i : Nat} {oi : Oper} {v : Value} (hc : covB md ops z = true) (hiz : i < z) (hi : ops[i]? = some oi) (hsel : ∀ (j : Nat) (o : Oper) cs b, ops[j]? = some o → o.op ≠ .select cs b) :
    ∀ (fuel : Nat) (listed : Array Bool) (a : Act), Dn md ops listed →
      (∀ j oj, ops[j]? = some oj → j ≠ i → listed.getD j true = false → (∀ e ∈ oj.after, Region.binds md e = true → e.on ≠ i) → oi.apart ops oj = true) →
      i ∈ Region.ready md ops listed → YieldsIn P ops C oi v a →
      wpAnyL P md ops C z Q fuel (listed.setIfInBounds i true) (a.put oi.dst v) → wpAnyL P md ops C z Q (fuel + 1) listed a := by
  have hzn : ∀ listed : Array Bool, Dn md ops listed → i ∈ Region.ready md ops listed → z ∉ Region.ready md ops listed := fun listed hd hr hz => by
    have h1 := last_ready hc hd hz i hiz
    have h0 := (mem_ready.1 hr).1
    have hl : i < listed.size := by
      rcases Nat.lt_or_ge i listed.size with q | q
      · exact q
      · simp [Array.getElem?_eq_none q] at h1
    simp [hl] at h0 h1
    rw [h0] at h1
    cases h1
  intro fuel
  induction fuel with
  | zero =>
    intro listed a hd _ hr hy H
    refine ⟨fun h => (by rw [h] at hr; cases hr), fun j hj => ?_⟩
    by_cases hji : j = i
    · subst hji; exact hy.qOp hi H
    · exfalso
      have h1 := (mem_ready.1 (ready_mono hj hji)).1
      by_cases e : j = z
      · subst e; exact hzn listed hd hr hj
      · rw [H.1 j e] at h1; cases h1
  | succ fuel ih =>
    intro listed a hd hfree hr hy H
    refine ⟨fun h => (by rw [h] at hr; cases hr), fun j hj => ?_⟩
    by_cases hji : j = i
    · subst hji; exact hy.qOp hi H
    · have h1 := H.2 j (ready_mono hj hji)
      obtain ⟨hjun, oj, hoj, hall⟩ := mem_ready.1 hj
      have hnot : ∀ e ∈ oj.after, Region.binds md e = true → e.on ≠ i := fun e he hb heq => by
        have h1 := hall e he hb
        have h0 := (mem_ready.1 hr).1
        rw [heq] at h1
        rcases Nat.lt_or_ge i listed.size with h' | h'
        · simp [h'] at h0 h1; rw [h0] at h1; cases h1
        · simp [Array.getElem?_eq_none h'] at h1
      have h2 := qOp_put hoj (hfree j oj hoj hji hjun hnot) (fun cs b => hsel i oi cs b hi) (fun cs b => hsel j oj cs b hoj) hy h1
      have hfree' : ∀ k ok, ops[k]? = some ok → k ≠ i → (listed.setIfInBounds j true).getD k true = false →
          (∀ e ∈ ok.after, Region.binds md e = true → e.on ≠ i) → oi.apart ops ok = true := fun k ok hk hki hun hno => by
        refine hfree k ok hk hki ?_ hno
        by_cases hjk : j = k
        · subst hjk; exact hjun
        · rw [getD_set_ne true hjk] at hun; exact hun
      refine qOp_mono (fun a' h3 => ih (listed.setIfInBounds j true) a' (hd.set hj) hfree' (ready_mono hr (Ne.symm hji)) h3.1 ?_) h2
      rw [Array.setIfInBounds_comm _ _ hji]
      exact h3.2
theorem wpAnyL_lex {z : Nat} {Q : Act → Prop} (hc : covB md ops z = true) (hs : Region.noSelect ops = true) : ∀ (l : List Oper) (k : Nat) (listed : Array Bool) (a : Act), k + l.length = z → (∀ j, j < l.length → l[j]? = ops[k + j]?) → Dn md ops listed →
    (∀ j, j < k → listed.getD j true = true) → ops.size = z + 1 →
    Region.lexFrom md ops (l.length + 1) k listed = true → wpQuiet P ops C Q l a → wpAnyL P md ops C z Q l.length listed a
  | [], k, listed, a, hk, _, hd, hb, hz, hB, h => by
    simp only [List.length_nil, Nat.add_zero] at hk
    subst hk
    simp only [List.length_nil, Region.lexFrom, Bool.and_eq_true] at hB
    refine ⟨fun j hj => ?_, by simpa using hB.1.1, h⟩
    rcases Nat.lt_or_ge j k with q | q
    · exact hb j q
    · have : ¬ j < listed.size := by rw [hd.1]; omega
      simp [Array.getElem?_eq_none (Nat.le_of_not_lt this)]
  | o :: l, k, listed, a, hk, hl, hd, hb, hz, hB, h => by
    have h0 : ops[k]? = some o := by simpa using (hl 0 (by simp)).symm
    simp only [List.length_cons] at hB hk
    rw [Region.lexFrom] at hB
    simp only [Bool.and_eq_true] at hB
    obtain ⟨⟨hr, hf⟩, hB'⟩ := hB
    have hr' : k ∈ Region.ready md ops listed := by simpa using hr
    have hst : qOp P ops C k (wpQuiet P ops C Q l) a := by unfold qOp; simp only [h0]; exact h
    obtain ⟨v, hy, hK⟩ := yieldsIn_of_qOp h0 hst
    exact wpAnyL_first hc (by omega) h0 (Region.noSelect_spec hs) l.length listed a hd (Region.free_spec h0 hf) hr' hy
      (wpAnyL_lex hc hs l (k + 1) _ _ (by omega) (fun j hj => by have := hl (j + 1) (by simp; omega); simpa [Nat.add_assoc, Nat.add_comm 1 j] using this) (hd.set hr')
        (fun j hj => by
          by_cases e : k = j
          · subst e; exact getD_set_same
          · rw [getD_set_ne true e]; exact hb j (by omega)) hz hB' hK)
/-- the quiet ones, then the last -/
theorem wp_region_last {id : Nat} {Q : Exit → Act → World → Prop} {a : Act} {w : World} {l : List Oper} {L : List Oper} {o : Oper} (hL : L = l ++ [o]) (hm : P.follows .mixedOrders = true) (hB : Region.lexB .any L.toArray = true) (hc : covB .any L.toArray l.length = true) (hC : C w.drew)
    (h : wpQuiet P L.toArray C (fun a' => ∀ w', C w' → wpList P L.toArray Q [o] a' w') l a) : (Code.region id L.toArray true).wp P Q a w := by
  subst hL
  simp only [Region.lexB, Bool.and_eq_true] at hB
  refine wp_region_any hm ?_
  have hsz : (l ++ [o]).toArray.size = l.length + 1 := by simp
  rw [hsz]
  have hdn : Dn .any (l ++ [o]).toArray (Array.replicate (l.length + 1) false) := ⟨by simp, fun k ok hk hl => by
    have : k < l.length + 1 := by have := (Array.getElem?_eq_some_iff.1 hk).1; simpa using this
    simp [this] at hl⟩
  have hlast : ((l ++ [o]).toArray)[l.length]? = some o := by simp
  refine wpAny_of_last (z := l.length) (C := C) (Q := fun a' => ∀ w', C w' → wpList P (l ++ [o]).toArray Q [o] a' w') (fun a' w' hw' hh => ?_) l.length _ a _ hC
    (wpAnyL_lex (C := C) (md := .any) hc hB.1 l 0 _ a (by simp) (fun j hj => by simp [List.getElem?_append_left hj]) hdn (fun j hj => by omega) hsz (by have := hB.2; rwa [hsz] at this) h)
  have := hh w' hw'
  unfold wpOp
  rw [hlast]
  exact this
end
/-- at the class 'w after some draws' -/
theorem wp_region_last_dn {P : Program} {id : Nat} {Q : Exit → Act → World → Prop} {a : Act} {w : World} {l : List Oper} {L : List Oper} {o : Oper} (hL : L = l ++ [o]) (hm : P.follows .mixedOrders = true) (hB : Region.lexB .any L.toArray = true) (hc : covB .any L.toArray l.length = true)
    (h : wpQuiet P L.toArray (fun w' => ∃ n, w' = w.drewN n) (fun a' => ∀ w', (∃ n, w' = w.drewN n) → wpList P L.toArray Q [o] a' w') l a) : (Code.region id L.toArray true).wp P Q a w :=
  wp_region_last (C := fun w' => ∃ n, w' = w.drewN n) hL hm hB hc ⟨1, rfl⟩ h
theorem wp_region_last_lit {P : Program} {id : Nat} {Q : Exit → Act → World → Prop} {a : Act} {w : World} {L : List Oper} (hne : L ≠ []) (hm : P.follows .mixedOrders = true) (hB : Region.lexB .any L.toArray = true) (hc : covB .any L.toArray L.dropLast.length = true)
    (h : wpQuiet P L.toArray (fun w' => ∃ n, w' = w.drewN n) (fun a' => ∀ w', (∃ n, w' = w.drewN n) → wpList P L.toArray Q [L.getLast hne] a' w') L.dropLast a) : (Code.region id L.toArray true).wp P Q a w :=
  wp_region_last_dn (List.dropLast_concat_getLast hne).symm hm hB hc h
theorem below_dn {B : Nat} {a w : World} (h : Below B a w) (n : Nat) : Below B a (w.drewN n) := ⟨h.os, h.tape, h.output, h.size, h.block⟩
end Go.Proofs.Yteafjobmlfkppaa
