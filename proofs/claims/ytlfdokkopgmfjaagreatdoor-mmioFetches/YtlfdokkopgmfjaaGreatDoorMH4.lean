/- Match of the document's. -/
import Derived.Test.YtlfdokkopgmfjaaGreatDoorWD
import Derived.Test.YtlfdokkopgmfjaaGreatDoorHQ
namespace Go.Proofs.YtlfdokkopgmfjaaGreatDoor
open Go.RowKit
set_option linter.unusedVariables false
set_option maxRecDepth 100000
end Go.Proofs.YtlfdokkopgmfjaaGreatDoor
namespace Go.Proofs.YtlfdokkopgmfjaaGreatDoor
open Go.RowKit
set_option linter.unusedVariables false
def Lk (n k : Nat) : Array Bool := ((List.range n).map fun j => decide (j < k)).toArray
theorem Lk_zero (n : Nat) : Array.replicate n false = Lk n 0 := by
  apply Array.ext
  · simp [Lk]
  · intro i h1 h2; simp [Lk]
theorem Lk_set (n k : Nat) (hk : k < n) : (Lk n k).setIfInBounds k true = Lk n (k + 1) := by
  apply Array.ext
  · simp [Lk]
  · intro i h1 h2
    have hi : i < n := by simpa [Lk] using h2
    rw [Array.getElem_setIfInBounds]
    · split
      · rename_i e; subst e; simp [Lk]
      · rename_i e; simp [Lk]; omega
    · simpa [Lk] using hi
section
variable {P : Program} {ops : Array Oper} {md : Region.Mode} {C : World → Prop}
def wpAnyM (P : Program) (md : Region.Mode) (ops : Array Oper) (C : World → Prop) (z : Nat) (Q : Act → Prop) : Nat → Array Bool → Act → Prop
  | 0, listed, a => listed = Lk ops.size z ∧ Q a
  | fuel + 1, listed, a => Region.ready md ops listed ≠ [] ∧ ∀ i ∈ Region.ready md ops listed, qOp P ops C i (wpAnyM P md ops C z Q fuel (listed.setIfInBounds i true)) a
theorem wpAny_of_mid {z m : Nat} {Q : Act → Prop} {Q' : Exit → Act → World → Prop} (hz : Region.ready md ops (Lk ops.size z) = [z]) (hQ : ∀ a w, C w → Q a → wpOp P ops Q' z (fun a' w' => wpAny P md ops Q' m ((Lk ops.size z).setIfInBounds z true) a' w') a w) : ∀ (fuel : Nat) (listed : Array Bool) (a : Act) (w : World), C w →
    wpAnyM P md ops C z Q fuel listed a → wpAny P md ops Q' (fuel + 1 + m) listed a w
  | 0, listed, a, w, hw, h => by
    obtain ⟨rfl, h3⟩ := h
    rw [show 0 + 1 + m = m + 1 by omega]
    refine ⟨fun h0 => (by rw [hz] at h0; cases h0), fun i hi => ?_⟩
    rw [hz] at hi
    obtain rfl : i = z := by simpa using hi
    exact hQ a w hw h3
  | fuel + 1, listed, a, w, hw, h => by
    rw [show fuel + 1 + 1 + m = (fuel + 1 + m) + 1 by omega]
    exact ⟨fun h0 => absurd h0 h.1, fun i hi => wpOp_of_qOp hw (fun a' w' hw' => wpAny_of_mid hz hQ fuel _ a' w' hw') (h.2 i hi)⟩
theorem wpAnyM_first {z : Nat} {Q : Act → Prop} {i : Nat} {oi : Oper} {v : Value} (hz : Region.ready md ops (Lk ops.size z) = [z]) (hc : covB md ops z = true) (hiz : i < z) (hi : ops[i]? = some oi) (hsel : ∀ (j : Nat) (o : Oper) cs b, ops[j]? = some o → o.op ≠ .select cs b) :
    ∀ (fuel : Nat) (listed : Array Bool) (a : Act), Dn md ops listed →
      (∀ j oj, ops[j]? = some oj → j ≠ i → listed.getD j true = false → (∀ e ∈ oj.after, Region.binds md e = true → e.on ≠ i) → oi.apart ops oj = true) →
      i ∈ Region.ready md ops listed → YieldsIn P ops C oi v a →
      wpAnyM P md ops C z Q fuel (listed.setIfInBounds i true) (a.put oi.dst v) → wpAnyM P md ops C z Q (fuel + 1) listed a := by
  have hzn : ∀ listed : Array Bool, Dn md ops listed → i ∈ Region.ready md ops listed → z ∉ Region.ready md ops listed := fun listed hd hr hz => by
    have h1 := last_ready hc hd hz i hiz
    have h0 := (mem_ready.1 hr).1
    have hl : i < listed.size := by
      rcases Nat.lt_or_ge i listed.size with q | q
      · exact q
      · simp [Array.getElem?_eq_none q] at h1
    simp [hl] at h0 h1
    rw [h0] at h1
    cases h1
  intro fuel
  induction fuel with
  | zero =>
    intro listed a hd _ hr hy H
    refine ⟨fun h => (by rw [h] at hr; cases hr), fun j hj => ?_⟩
    by_cases hji : j = i
    · subst hji; exact hy.qOp hi H
    · exfalso
      have h1 := ready_mono hj hji
      rw [H.1, hz] at h1
      obtain rfl : j = z := by simpa using h1
      exact hzn listed hd hr hj
  | succ fuel ih =>
    intro listed a hd hfree hr hy H
    refine ⟨fun h => (by rw [h] at hr; cases hr), fun j hj => ?_⟩
    by_cases hji : j = i
    · subst hji; exact hy.qOp hi H
    · have h1 := H.2 j (ready_mono hj hji)
      obtain ⟨hjun, oj, hoj, hall⟩ := mem_ready.1 hj
      have hnot : ∀ e ∈ oj.after, Region.binds md e = true → e.on ≠ i := fun e he hb heq => by
        have h1 := hall e he hb
        have h0 := (mem_ready.1 hr).1
        rw [heq] at h1
        rcases Nat.lt_or_ge i listed.size with h' | h'
        · simp [h'] at h0 h1; rw [h0] at h1; cases h1
        · simp [Array.getElem?_eq_none h'] at h1
      have h2 := qOp_put hoj (hfree j oj hoj hji hjun hnot) (fun cs b => hsel i oi cs b hi) (fun cs b => hsel j oj cs b hoj) hy h1
      have hfree' : ∀ k ok, ops[k]? = some ok → k ≠ i → (listed.setIfInBounds j true).getD k true = false →
          (∀ e ∈ ok.after, Region.binds md e = true → e.on ≠ i) → oi.apart ops ok = true := fun k ok hk hki hun hno => by
        refine hfree k ok hk hki ?_ hno
        by_cases hjk : j = k
        · subst hjk; exact hjun
        · rw [getD_set_ne true hjk] at hun; exact hun
      refine qOp_mono (fun a' h3 => ih (listed.setIfInBounds j true) a' (hd.set hj) hfree' (ready_mono hr (Ne.symm hji)) h3.1 ?_) h2
      rw [Array.setIfInBounds_comm _ _ hji]
      exact h3.2
theorem wpAnyM_lex {z m : Nat} {Q : Act → Prop} (hz : Region.ready md ops (Lk ops.size z) = [z]) (hc : covB md ops z = true) (hs : Region.noSelect ops = true) (hzs : z < ops.size) : ∀ (l : List Oper) (k : Nat) (listed : Array Bool) (a : Act), k + l.length = z → (∀ j, j < l.length → l[j]? = ops[k + j]?) → Dn md ops listed →
    listed = Lk ops.size k → Region.lexFrom md ops (l.length + m) k listed = true → wpQuiet P ops C Q l a → wpAnyM P md ops C z Q l.length listed a ∧ Region.lexFrom md ops m z (Lk ops.size z) = true
  | [], k, listed, a, hk, _, hd, hb, hB, h => by
    simp only [List.length_nil, Nat.add_zero] at hk
    subst hk
    simp only [List.length_nil, Nat.zero_add] at hB
    exact ⟨⟨hb, h⟩, by rw [← hb]; exact hB⟩
  | o :: l, k, listed, a, hk, hl, hd, hb, hB, h => by
    have h0 : ops[k]? = some o := by simpa using (hl 0 (by simp)).symm
    simp only [List.length_cons] at hB hk
    rw [show l.length + 1 + m = (l.length + m) + 1 by omega, Region.lexFrom] at hB
    simp only [Bool.and_eq_true] at hB
    obtain ⟨⟨hr, hf⟩, hB'⟩ := hB
    have hr' : k ∈ Region.ready md ops listed := by simpa using hr
    have hst : qOp P ops C k (wpQuiet P ops C Q l) a := by unfold qOp; simp only [h0]; exact h
    obtain ⟨v, hy, hK⟩ := yieldsIn_of_qOp h0 hst
    have ih := wpAnyM_lex hz hc hs hzs l (k + 1) _ (a.put o.dst v) (by omega) (fun j hj => by have := hl (j + 1) (by simp; omega); simpa [Nat.add_assoc, Nat.add_comm 1 j] using this) (hd.set hr') (by rw [hb]; exact Lk_set _ _ (by omega)) hB' hK
    exact ⟨wpAnyM_first hz hc (by omega) h0 (Region.noSelect_spec hs) l.length listed a hd (Region.free_spec h0 hf) hr' hy ih.1, ih.2⟩
/-- the quiet ones, then the one that waits for them, then quiet ones again -/
theorem wp_region_mid {id : Nat} {Q : Exit → Act → World → Prop} {a : Act} {w : World} {L : List Oper} (z : Nat) (hm : P.follows .mixedOrders = true) (hB : Region.lexB .any L.toArray = true) (hc : covB .any L.toArray z = true) (hzs : z < L.length) (hz : Region.ready .any L.toArray (Lk L.length z) = [z]) (hC : C w.drew)
    (h : wpQuiet P L.toArray C (fun a' => ∀ w', C w' → wpOp P L.toArray Q z (fun a2 w2 => wpQuiet P L.toArray (fun w3 => ∃ n, w3 = w2.drewN n) (fun a3 => ∀ w3, (∃ n, w3 = w2.drewN n) → Q .normal a3 w3) (L.drop (z + 1)) a2) a' w') (L.take z) a) : (Code.region id L.toArray true).wp P Q a w := by
  simp only [Region.lexB, Bool.and_eq_true] at hB
  have hsz : L.toArray.size = L.length := by simp
  rw [hsz] at hB
  have hzz : Region.ready .any L.toArray (Lk L.toArray.size z) = [z] := by rw [hsz]; exact hz
  refine wp_region_any hm ?_
  rw [hsz]
  have hdn : Dn .any L.toArray (Array.replicate L.length false) := ⟨by simp, fun k ok hk hl => by
    have : k < L.length := by have := (Array.getElem?_eq_some_iff.1 hk).1; simpa using this
    simp [this] at hl⟩
  have hlen : (L.take z).length = z := by simp; omega
  have hlex := wpAnyM_lex (P := P) (C := C) (m := L.length - z) hzz hc hB.1 (by rw [hsz]; exact hzs) (L.take z) 0 _ a (by omega) (fun j hj => by rw [hlen] at hj; simp [hj]) hdn (by rw [hsz]; exact Lk_zero _) (by rw [hlen, show z + (L.length - z) = L.length by omega]; exact hB.2) h
  obtain ⟨h1, h2⟩ := hlex
  rw [hlen] at h1
  rw [show L.length - z = (L.length - z - 1) + 1 by omega, Region.lexFrom] at h2
  simp only [Bool.and_eq_true] at h2
  have h3 := wpAny_of_mid (m := L.length - z - 1) hzz (fun a' w' hw' hh => wpOp_mono (fun a2 w2 hq => ?_) (hh w' hw')) z _ a _ hC h1
  · rw [show z + 1 + (L.length - z - 1) = L.length by omega] at h3
    exact h3
  · refine wpAny_of_quiet (C := fun w3 => ∃ n, w3 = w2.drewN n) (Q := fun a3 => ∀ w3, (∃ n, w3 = w2.drewN n) → Q .normal a3 w3) (fun _ w3 hw3 hx => hx w3 hw3) _ _ _ _ ⟨0, rfl⟩ ?_
    have := wpAnyQ_lex (C := fun w3 => ∃ n, w3 = w2.drewN n) (md := .any) hB.1 (L.drop (z + 1)) (z + 1) _ a2 (fun j => by simp) (by rw [show (L.drop (z + 1)).length = L.length - z - 1 by simp; omega]; exact h2.2) hq
    rwa [show (L.drop (z + 1)).length = L.length - z - 1 by simp; omega] at this
end
end Go.Proofs.YtlfdokkopgmfjaaGreatDoor
