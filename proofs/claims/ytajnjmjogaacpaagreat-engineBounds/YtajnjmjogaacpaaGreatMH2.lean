/- A region that draws its order: operations that read, then one that waits for all of them, then some that wait for it. -/
import Derived.Test.YtajnjmjogaacpaaGreatHQ
import Derived.Test.YtajnjmjogaacpaaGreatMH1
import Derived.Test.YtajnjmjogaacpaaGreatMC3
namespace Go.Proofs.YtajnjmjogaacpaaGreat
open Go.RowKit
set_option linter.unusedVariables false

def Lk (n k : Nat) : Array Bool := ((List.range n).map fun j => decide (j < k)).toArray
theorem Lk_size (n k : Nat) : (Lk n k).size = n := by simp [Lk]
theorem Lk_zero (n : Nat) : Array.replicate n false = Lk n 0 := by
  apply Array.ext
  · simp [Lk]
  · intro i h1 h2; simp [Lk]
theorem Lk_get (n k j : Nat) (hj : j < n) : (Lk n k).getD j true = decide (j < k) := by simp [Lk, hj]
theorem Lk_set (n k : Nat) (hk : k < n) : (Lk n k).setIfInBounds k true = Lk n (k + 1) := by
  apply Array.ext
  · simp [Lk]
  · intro i h1 h2
    have hi : i < n := by simpa [Lk] using h2
    rw [Array.getElem_setIfInBounds]
    · split
      · rename_i e; subst e; simp [Lk]
      · rename_i e; simp [Lk]; omega
    · simpa [Lk] using hi
section
variable {P : Program} {ops : Array Oper} {md : Region.Mode} {C : World → Prop}
def wpAnyM (P : Program) (md : Region.Mode) (ops : Array Oper) (C : World → Prop) (z : Nat) (Q : Act → Prop) : Nat → Array Bool → Act → Prop
  | 0, listed, a => listed = Lk ops.size z ∧ Q a
  | fuel + 1, listed, a => Region.ready md ops listed ≠ [] ∧ ∀ i ∈ Region.ready md ops listed, qOp P ops C i (wpAnyM P md ops C z Q fuel (listed.setIfInBounds i true)) a
theorem wpAny_of_mid {z m : Nat} {Q : Act → Prop} {Q' : Exit → Act → World → Prop} (hz : Region.ready md ops (Lk ops.size z) = [z]) (hQ : ∀ a w, C w → Q a → wpOp P ops Q' z (fun a' w' => wpAny P md ops Q' m ((Lk ops.size z).setIfInBounds z true) a' w') a w) : ∀ (fuel : Nat) (listed : Array Bool) (a : Act) (w : World), C w →
    wpAnyM P md ops C z Q fuel listed a → wpAny P md ops Q' (fuel + 1 + m) listed a w
  | 0, listed, a, w, hw, h => by
    obtain ⟨rfl, h3⟩ := h
    rw [show 0 + 1 + m = m + 1 by omega]
    refine ⟨fun h0 => (by rw [hz] at h0; cases h0), fun i hi => ?_⟩
    rw [hz] at hi
    obtain rfl : i = z := by simpa using hi
    exact hQ a w hw h3
  | fuel + 1, listed, a, w, hw, h => by
    rw [show fuel + 1 + 1 + m = (fuel + 1 + m) + 1 by omega]
    exact ⟨fun h0 => absurd h0 h.1, fun i hi => wpOp_of_qOp hw (fun a' w' hw' => wpAny_of_mid hz hQ fuel _ a' w' hw') (h.2 i hi)⟩
theorem wpAnyM_first {z : Nat} {Q : Act → Prop} {i : Nat} {oi : Oper} {v : Value} (hz : Region.ready md ops (Lk ops.size z) = [z]) (hc : covB md ops z = true) (hiz : i < z) (hi : ops[i]? = some oi) (hsel : ∀ (j : Nat) (o : Oper) cs b, ops[j]? = some o → o.op ≠ .select cs b) :
    ∀ (fuel : Nat) (listed : Array Bool) (a : Act), Dn md ops listed →
      (∀ j oj, ops[j]? = some oj → j ≠ i → listed.getD j true = false → (∀ e ∈ oj.after, Region.binds md e = true → e.on ≠ i) → oi.apart ops oj = true) →
      i ∈ Region.ready md ops listed → YieldsIn P ops C oi v a →
      wpAnyM P md ops C z Q fuel (listed.setIfInBounds i true) (a.put oi.dst v) → wpAnyM P md ops C z Q (fuel + 1) listed a := by
  have hzn : ∀ listed : Array Bool, Dn md ops listed → i ∈ Region.ready md ops listed → z ∉ Region.ready md ops listed := fun listed hd hr hz => by
    have h1 := last_ready hc hd hz i hiz
    have h0 := (mem_ready.1 hr).1
    have hl : i < listed.size := by
      rcases Nat.lt_or_ge i listed.size with q | q
      · exact q
      · simp [Array.getElem?_eq_none q] at h1
    simp [hl] at h0 h1
    rw [h0] at h1
    cases h1
  intro fuel
  induction fuel with
  | zero =>
    intro listed a hd _ hr hy H
    refine ⟨fun h => (by rw [h] at hr; cases hr), fun j hj => ?_⟩
    by_cases hji : j = i
    · subst hji; exact hy.qOp hi H
    · exfalso
      have h1 := ready_mono hj hji
      rw [H.1, hz] at h1
      obtain rfl : j = z := by simpa using h1
      exact hzn listed hd hr hj
  | succ fuel ih =>
    intro listed a hd hfree hr hy H
    refine ⟨fun h => (by rw [h] at hr; cases hr), fun j hj => ?_⟩
    by_cases hji : j = i
    · subst hji; exact hy.qOp hi H
    · have h1 := H.2 j (ready_mono hj hji)
      obtain ⟨hjun, oj, hoj, hall⟩ := mem_ready.1 hj
      have hnot : ∀ e ∈ oj.after, Region.binds md e = true → e.on ≠ i := fun e he hb heq => by
        have h1 := hall e he hb
        have h0 := (mem_ready.1 hr).1
        rw [heq] at h1
        rcases Nat.lt_or_ge i listed.size with h' | h'
        · simp [h'] at h0 h1; rw [h0] at h1; cases h1
        · simp [Array.getElem?_eq_none h'] at h1
      have h2 := qOp_put hoj (hfree j oj hoj hji hjun hnot) (fun cs b => hsel i oi cs b hi) (fun cs b => hsel j oj cs b hoj) hy h1
      have hfree' : ∀ k ok, ops[k]? = some ok → k ≠ i → (listed.setIfInBounds j true).getD k true = false →
          (∀ e ∈ ok.after, Region.binds md e = true → e.on ≠ i) → oi.apart ops ok = true := fun k ok hk hki hun hno => by
        refine hfree k ok hk hki ?_ hno
        by_cases hjk : j = k
        · subst hjk; exact hjun
        · rw [getD_set_ne true hjk] at hun; exact hun
      refine qOp_mono (fun a' h3 => ih (listed.setIfInBounds j true) a' (hd.set hj) hfree' (ready_mono hr (Ne.symm hji)) h3.1 ?_) h2
      rw [Array.setIfInBounds_comm _ _ hji]
      exact h3.2
theorem wpAnyM_lex {z m : Nat} {Q : Act → Prop} (hz : Region.ready md ops (Lk ops.size z) = [z]) (hc : covB md ops z = true) (hs : Region.noSelect ops = true) (hzs : z < ops.size) : ∀ (l : List Oper) (k : Nat) (listed : Array Bool) (a : Act), k + l.length = z → (∀ j, j < l.length → l[j]? = ops[k + j]?) → Dn md ops listed →
    listed = Lk ops.size k → Region.lexFrom md ops (l.length + m) k listed = true → wpQuiet P ops C Q l a → wpAnyM P md ops C z Q l.length listed a ∧ Region.lexFrom md ops m z (Lk ops.size z) = true
  | [], k, listed, a, hk, _, hd, hb, hB, h => by
    simp only [List.length_nil, Nat.add_zero] at hk
    subst hk
    simp only [List.length_nil, Nat.zero_add] at hB
    exact ⟨⟨hb, h⟩, by rw [← hb]; exact hB⟩
  | o :: l, k, listed, a, hk, hl, hd, hb, hB, h => by
    have h0 : ops[k]? = some o := by simpa using (hl 0 (by simp)).symm
    simp only [List.length_cons] at hB hk
    rw [show l.length + 1 + m = (l.length + m) + 1 by omega, Region.lexFrom] at hB
    simp only [Bool.and_eq_true] at hB
    obtain ⟨⟨hr, hf⟩, hB'⟩ := hB
    have hr' : k ∈ Region.ready md ops listed := by simpa using hr
    have hst : qOp P ops C k (wpQuiet P ops C Q l) a := by unfold qOp; simp only [h0]; exact h
    obtain ⟨v, hy, hK⟩ := yieldsIn_of_qOp h0 hst
    have ih := wpAnyM_lex hz hc hs hzs l (k + 1) _ (a.put o.dst v) (by omega) (fun j hj => by have := hl (j + 1) (by simp; omega); simpa [Nat.add_assoc, Nat.add_comm 1 j] using this) (hd.set hr') (by rw [hb]; exact Lk_set _ _ (by omega)) hB' hK
    exact ⟨wpAnyM_first hz hc (by omega) h0 (Region.noSelect_spec hs) l.length listed a hd (Region.free_spec h0 hf) hr' hy ih.1, ih.2⟩
/-- the quiet ones, then the one that waits for them, then quiet ones again -/
theorem wp_region_mid {id : Nat} {Q : Exit → Act → World → Prop} {a : Act} {w : World} {L : List Oper} (z : Nat) (hm : P.follows .mixedOrders = true) (hB : Region.lexB .any L.toArray = true) (hc : covB .any L.toArray z = true) (hzs : z < L.length) (hz : Region.ready .any L.toArray (Lk L.length z) = [z]) (hC : C w.drew)
    (h : wpQuiet P L.toArray C (fun a' => ∀ w', C w' → wpOp P L.toArray Q z (fun a2 w2 => wpQuiet P L.toArray (fun w3 => ∃ n, w3 = w2.drewN n) (fun a3 => ∀ w3, (∃ n, w3 = w2.drewN n) → Q .normal a3 w3) (L.drop (z + 1)) a2) a' w') (L.take z) a) : (Code.region id L.toArray true).wp P Q a w := by
  simp only [Region.lexB, Bool.and_eq_true] at hB
  have hsz : L.toArray.size = L.length := by simp
  rw [hsz] at hB
  have hzz : Region.ready .any L.toArray (Lk L.toArray.size z) = [z] := by rw [hsz]; exact hz
  refine wp_region_any hm ?_
  rw [hsz]
  have hdn : Dn .any L.toArray (Array.replicate L.length false) := ⟨by simp, fun k ok hk hl => by
    have : k < L.length := by have := (Array.getElem?_eq_some_iff.1 hk).1; simpa using this
    simp [this] at hl⟩
  have hlen : (L.take z).length = z := by simp; omega
  have hlex := wpAnyM_lex (P := P) (C := C) (m := L.length - z) hzz hc hB.1 (by rw [hsz]; exact hzs) (L.take z) 0 _ a (by omega) (fun j hj => by rw [hlen] at hj; simp [hj]) hdn (by rw [hsz]; exact Lk_zero _) (by rw [hlen, show z + (L.length - z) = L.length by omega]; exact hB.2) h
  obtain ⟨h1, h2⟩ := hlex
  rw [hlen] at h1
  rw [show L.length - z = (L.length - z - 1) + 1 by omega, Region.lexFrom] at h2
  simp only [Bool.and_eq_true] at h2
  have h3 := wpAny_of_mid (m := L.length - z - 1) hzz (fun a' w' hw' hh => wpOp_mono (fun a2 w2 hq => ?_) (hh w' hw')) z _ a _ hC h1
  · rw [show z + 1 + (L.length - z - 1) = L.length by omega] at h3
    exact h3
  · refine wpAny_of_quiet (C := fun w3 => ∃ n, w3 = w2.drewN n) (Q := fun a3 => ∀ w3, (∃ n, w3 = w2.drewN n) → Q .normal a3 w3) (fun _ w3 hw3 hx => hx w3 hw3) _ _ _ _ ⟨0, rfl⟩ ?_
    have := wpAnyQ_lex (C := fun w3 => ∃ n, w3 = w2.drewN n) (md := .any) hB.1 (L.drop (z + 1)) (z + 1) _ a2 (fun j => by simp) (by rw [show (L.drop (z + 1)).length = L.length - z - 1 by simp; omega]; exact h2.2) hq
    rwa [show (L.drop (z + 1)).length = L.length - z - 1 by simp; omega] at this
end
theorem wp_region_mid_dn {P : Program} {id : Nat} {Q : Exit → Act → World → Prop} {a : Act} {w : World} {L : List Oper} (z : Nat) (hm : P.follows .mixedOrders = true) (hB : Region.lexB .any L.toArray = true) (hc : covB .any L.toArray z = true) (hzs : z < L.length) (hz : Region.ready .any L.toArray (Lk L.length z) = [z])
    (h : wpQuiet P L.toArray (fun w' => ∃ n, w' = w.drewN n) (fun a' => ∀ w', (∃ n, w' = w.drewN n) → wpOp P L.toArray Q z (fun a2 w2 => wpQuiet P L.toArray (fun w3 => ∃ n, w3 = w2.drewN n) (fun a3 => ∀ w3, (∃ n, w3 = w2.drewN n) → Q .normal a3 w3) (L.drop (z + 1)) a2) a' w') (L.take z) a) : (Code.region id L.toArray true).wp P Q a w :=
  wp_region_mid (C := fun w' => ∃ n, w' = w.drewN n) z hm hB hc hzs hz ⟨1, rfl⟩ h
end Go.Proofs.YtajnjmjogaacpaaGreat
namespace Go.Proofs.YtajnjmjogaacpaaGreat
open Go.RowKit
set_option linter.unusedVariables false

def backB (ops : Array Oper) : Bool := (List.range ops.size).all fun j => (match ops[j]? with | some o => o.after.all fun e => decide (e.on < j) | none => true)
theorem Dn_Lk {ops : Array Oper} (hb : backB ops = true) (k : Nat) (hk : k ≤ ops.size) : Dn .any ops (Lk ops.size k) := by
  refine ⟨by simp [Lk], fun j o hj hl e he _ => ?_⟩
  have hjl : j < ops.size := (Array.getElem?_eq_some_iff.1 hj).1
  have h1 := List.all_eq_true.1 hb j (by simpa using hjl)
  rw [hj] at h1
  have h2 := Array.all_eq_true_iff_forall_mem.1 h1 e he
  have hlt : e.on < j := by simpa using h2
  rw [Lk_get _ _ _ hjl] at hl
  have hjk : j < k := by simpa using hl
  have hel : e.on < ops.size := by omega
  simp [Lk, hel]
  omega
section
variable {P : Program}
def dnW (w w' : World) : Prop := ∃ n, w' = w.drewN n
theorem wp_region_mid2 {id : Nat} {Q : Exit → Act → World → Prop} {a : Act} {w : World} {L : List Oper} (z y : Nat) (hm : P.follows .mixedOrders = true) (hB : Region.lexB .any L.toArray = true) (hc : covB .any L.toArray z = true) (hcy : covB .any L.toArray y = true) (hbk : backB L.toArray = true) (hzy : z < y) (hys : y < L.length) (hz : Region.ready .any L.toArray (Lk L.length z) = [z]) (hy : Region.ready .any L.toArray (Lk L.length y) = [y])
    (h : wpQuiet P L.toArray (fun w' => ∃ n, w' = w.drewN n) (fun a' => ∀ w', (∃ n, w' = w.drewN n) → wpOp P L.toArray Q z (fun a2 w2 => wpQuiet P L.toArray (fun w' => ∃ n, w' = w2.drewN n) (fun a3 => ∀ w3, (∃ n, w3 = w2.drewN n) → wpOp P L.toArray Q y (fun a4 w4 => wpQuiet P L.toArray (fun w5 => ∃ n, w5 = w4.drewN n) (fun a5 => ∀ w5, (∃ n, w5 = w4.drewN n) → Q .normal a5 w5) (L.drop (y + 1)) a4) a3 w3) ((L.take y).drop (z + 1)) a2) a' w') (L.take z) a) : (Code.region id L.toArray true).wp P Q a w := by
  simp only [Region.lexB, Bool.and_eq_true] at hB
  have hsz : L.toArray.size = L.length := by simp
  rw [hsz] at hB
  have hzz : Region.ready .any L.toArray (Lk L.toArray.size z) = [z] := by rw [hsz]; exact hz
  have hyy : Region.ready .any L.toArray (Lk L.toArray.size y) = [y] := by rw [hsz]; exact hy
  refine wp_region_any hm ?_
  rw [hsz]
  have hdn : Dn .any L.toArray (Array.replicate L.length false) := ⟨by simp, fun k ok hk hl => by
    have : k < L.length := by have := (Array.getElem?_eq_some_iff.1 hk).1; simpa using this
    simp [this] at hl⟩
  have hlen : (L.take z).length = z := by simp; omega
  have hlex := wpAnyM_lex (P := P) (C := fun w' => ∃ n, w' = w.drewN n) (m := L.length - z) hzz hc hB.1 (by rw [hsz]; omega) (L.take z) 0 _ a (by omega) (fun j hj => by rw [hlen] at hj; simp [hj]) hdn (by rw [hsz]; exact Lk_zero _) (by rw [hlen, show z + (L.length - z) = L.length by omega]; exact hB.2) h
  obtain ⟨h1, h2⟩ := hlex
  rw [hlen] at h1
  rw [show L.length - z = (L.length - z - 1) + 1 by omega, Region.lexFrom] at h2
  simp only [Bool.and_eq_true] at h2
  have h3 := wpAny_of_mid (m := L.length - z - 1) hzz (fun a' w' hw' hh => wpOp_mono (fun a2 w2 hq => ?_) (hh w' hw')) z _ a _ (⟨1, rfl⟩ : ∃ n, w.drew = w.drewN n) h1
  · rw [show z + 1 + (L.length - z - 1) = L.length by omega] at h3
    exact h3
  · have hlen2 : ((L.take y).drop (z + 1)).length = y - (z + 1) := by simp; omega
    have hset : (Lk L.toArray.size z).setIfInBounds z true = Lk L.toArray.size (z + 1) := Lk_set _ _ (by rw [hsz]; omega)
    rw [hset] at h2 ⊢
    have hlex2 := wpAnyM_lex (P := P) (C := fun w' => ∃ n, w' = w2.drewN n) (m := L.length - y) hyy hcy hB.1 (by rw [hsz]; omega) ((L.take y).drop (z + 1)) (z + 1) (Lk L.toArray.size (z + 1)) a2 (by omega) (fun j hj => by
      rw [hlen2] at hj
      rw [List.getElem?_drop, List.getElem?_take, if_pos (by omega)]
      simp) (Dn_Lk hbk _ (by rw [hsz]; omega)) rfl (by rw [hlen2, show y - (z + 1) + (L.length - y) = L.length - z - 1 by omega]; exact h2.2) hq
    obtain ⟨g1, g2⟩ := hlex2
    rw [hlen2] at g1
    rw [show L.length - y = (L.length - y - 1) + 1 by omega, Region.lexFrom] at g2
    simp only [Bool.and_eq_true] at g2
    have g3 := wpAny_of_mid (m := L.length - y - 1) hyy (fun a' w' hw' hh => wpOp_mono (fun a4 w4 hq4 => ?_) (hh w' hw')) (y - (z + 1)) _ a2 w2 (⟨0, rfl⟩ : ∃ n, w2 = w2.drewN n) g1
    · rw [show y - (z + 1) + 1 + (L.length - y - 1) = L.length - z - 1 by omega] at g3
      exact g3
    · refine wpAny_of_quiet (C := fun w3 => ∃ n, w3 = w4.drewN n) (Q := fun a3 => ∀ w3, (∃ n, w3 = w4.drewN n) → Q .normal a3 w3) (fun _ w3 hw3 hx => hx w3 hw3) _ _ _ _ ⟨0, rfl⟩ ?_
      have := wpAnyQ_lex (C := fun w3 => ∃ n, w3 = w4.drewN n) (md := .any) hB.1 (L.drop (y + 1)) (y + 1) _ a4 (fun j => by simp) (by rw [show (L.drop (y + 1)).length = L.length - y - 1 by simp; omega]; exact g2.2) hq4
      rwa [show (L.drop (y + 1)).length = L.length - y - 1 by simp; omega] at this
end
end Go.Proofs.YtajnjmjogaacpaaGreat
namespace Go.Proofs.YtajnjmjogaacpaaGreat
open Go.RowKit
open C (Only hid Still ret_int ret_bool)
set_option linter.unusedVariables false
set_option maxRecDepth 100000

theorem wp_inv3 {P : Program} {ops : Array Oper} {Q : Exit → Act → World → Prop} {i : Nat} {o : Oper} {K : Act → World → Prop} {a : Act} {w : World} (ho : ops[i]? = some o) (hg : o.guard = none) (nm : String) (g : Value) (x y z u : Operand) (ts : Array TypeId) (hop : o.op = .call { callee := .invoke x nm, args := #[y, z, u], argTypes := ts }) (vy vz vu : Value) (hx : a.eval x = g) (hy : a.eval y = vy) (hz : a.eval z = vz) (hu : a.eval u = vu) (f : FuncId) (rc : Value)
    (hr : (callMethod g nm #[vy, vz, vu]).run P w = .ok (.enter f (#[rc] ++ #[vy, vz, vu])) w) {R : Ending → World → Prop} (hc : Calls P f #[rc, vy, vz, vu] w R) (h : ∀ e w', R e w' → ∃ v, e = .returned v ∧ K (a.put o.dst v) w') : wpOp P ops Q i K a w := by
  refine wpOp_step ho fun K' hK => ?_
  rw [if_pos (by simp [Region.wanted, hg])]
  unfold Oper.wp
  have he : (execOp a.eval o).run P w = .ok (.enter f #[rc, vy, vz, vu]) w := by
    have hr' : (callMethod g nm #[vy, vz, vu]).run P w = .ok (.enter f #[rc, vy, vz, vu]) w := hr
    simp [execOp, hop, resolve, invoke, hx, hy, hz, hu, hr']
  rw [he, Oper.upon_enter]
  refine hc.mono fun e w' hR => ?_
  obtain ⟨v, rfl, hk⟩ := h e w' hR
  exact hK _ _ hk
theorem wp_inv4 {P : Program} {ops : Array Oper} {Q : Exit → Act → World → Prop} {i : Nat} {o : Oper} {K : Act → World → Prop} {a : Act} {w : World} (ho : ops[i]? = some o) (hg : o.guard = none) (nm : String) (g : Value) (x y z u t : Operand) (ts : Array TypeId) (hop : o.op = .call { callee := .invoke x nm, args := #[y, z, u, t], argTypes := ts }) (vy vz vu vt : Value) (hx : a.eval x = g) (hy : a.eval y = vy) (hz : a.eval z = vz) (hu : a.eval u = vu) (ht : a.eval t = vt) (f : FuncId) (rc : Value)
    (hr : (callMethod g nm #[vy, vz, vu, vt]).run P w = .ok (.enter f (#[rc] ++ #[vy, vz, vu, vt])) w) {R : Ending → World → Prop} (hc : Calls P f #[rc, vy, vz, vu, vt] w R) (h : ∀ e w', R e w' → ∃ v, e = .returned v ∧ K (a.put o.dst v) w') : wpOp P ops Q i K a w := by
  refine wpOp_step ho fun K' hK => ?_
  rw [if_pos (by simp [Region.wanted, hg])]
  unfold Oper.wp
  have he : (execOp a.eval o).run P w = .ok (.enter f #[rc, vy, vz, vu, vt]) w := by
    have hr' : (callMethod g nm #[vy, vz, vu, vt]).run P w = .ok (.enter f #[rc, vy, vz, vu, vt]) w := hr
    simp [execOp, hop, resolve, invoke, hx, hy, hz, hu, ht, hr']
  rw [he, Oper.upon_enter]
  refine hc.mono fun e w' hR => ?_
  obtain ⟨v, rfl, hk⟩ := h e w' hR
  exact hK _ _ hk
/-- what one call may turn -/
def Tx (w : World) (F : Nat → Prop) (w' : World) (F' : Nat → Prop) : Prop := Only F w w' ∧ ∀ k, F' k → F k ∨ w.heap.size ≤ k
theorem Tx.trans {w w' w'' : World} {F F' F'' : Nat → Prop} (h : Tx w F w' F') (k : Tx w' F' w'' F'') : Tx w F w'' F'' :=
  ⟨h.1.trans' k.1 fun i hi q => (h.2 i q).resolve_right (by omega), fun i q => (k.2 i q).elim (h.2 i) fun z => .inr (Nat.le_trans h.1.size z)⟩
theorem Tx.refl (w : World) (F : Nat → Prop) : Tx w F w F := ⟨Only.refl w, fun _ q => .inl q⟩
theorem Tx.ofBelow {w w' : World} {F : Nat → Prop} (h : Below w.heap.size w w') : Tx w F w' F := ⟨Only.ofBelow h, fun _ q => .inl q⟩
/-- a gate over a memory: its states, and what each call comes to -/
structure Gate where
  σ : Type
  R : World → (Nat → Prop) → σ → Prop
  acc : σ → Int → Bool → Int × Bool × σ
  vld : σ → Int → Prop
  rd : σ → Int → Int
  st : σ → Int → Int → σ
  msg : σ → Int → Int → Int × Int × Bool × σ
structure GateC (G : Gate) (ty : TypeId) (rv : Value) (m : Nat) (dev : Int) (fA fM : FuncId) (rc : Value) : Prop where
  cA : ∀ args w, (callMethod (.iface ty rv) "Access" args).run Tryz.prog w = .ok (.enter fA (#[rc] ++ args)) w
  cM : ∀ args w, (callMethod (.iface ty rv) "Message" args).run Tryz.prog w = .ok (.enter fM (#[rc] ++ args)) w
  sep : ∀ w F s, G.R w F s → ∀ k, F k → ∃ c t f, w.heap[k]? = some (.cells c t f) ∧ t ≠ 102
  only : ∀ w F s, G.R w F s → ∀ w' T, Only T w w' → (∀ k, F k → ¬ T k) → G.R w' F s
  A : ∀ w F s, G.R w F s → ∀ a wt, 0 ≤ a → a < 18446744073709551616 → Calls Tryz.prog fA #[rc, .int .i64 dev, .int .u64 a, .int .i64 8, .bool wt] w fun e w' => e = .returned (.tuple #[.int .u64 (G.acc s a wt).1, .bool (G.acc s a wt).2.1]) ∧ ∃ F', G.R w' F' (G.acc s a wt).2.2 ∧ Tx w F w' F'
  ok : ∀ s a wt, (G.acc s a wt).2.1 = true → G.vld (G.acc s a wt).2.2 (G.acc s a wt).1
  kp : ∀ s a wt p, G.vld s p → G.vld (G.acc s a wt).2.2 p
  Rd : ∀ w F s, G.R w F s → ∀ p, G.vld s p → Calls Tryz.prog 29 #[.pointer (some ⟨m, 0, none⟩), .int .u64 p, .int .i64 8] w fun e w' => e = .returned (.tuple #[.int .u64 (G.rd s p), .bool true]) ∧ Below w.heap.size w w'
  rb : ∀ w F s, G.R w F s → ∀ p, 0 ≤ G.rd s p ∧ G.rd s p < 18446744073709551616
  W : ∀ w F s, G.R w F s → ∀ p x, G.vld s p → 0 ≤ x → x < 18446744073709551616 → Calls Tryz.prog 45 #[.pointer (some ⟨m, 0, none⟩), .int .u64 p, .int .i64 8, .int .u64 x] w fun e w' => e = .returned (.bool true) ∧ ∃ F', G.R w' F' (G.st s p x) ∧ Tx w F w' F'
  M : ∀ w F s, G.R w F s → ∀ a d, 0 ≤ a → a < 18446744073709551616 → 0 ≤ d → d < 18446744073709551616 → Calls Tryz.prog fM #[rc, .int .i64 dev, .int .u64 a, .int .u64 d] w fun e w' => e = .returned (.tuple #[.agg #[.int .i64 (G.msg s a d).1, .int .i64 (G.msg s a d).2.1], .bool (G.msg s a d).2.2.1]) ∧ ∃ F', G.R w' F' (G.msg s a d).2.2.2 ∧ Tx w F w' F'
section
variable {G : Gate} {ty : TypeId} {rv : Value} {m : Nat} {dev : Int} {fA fM : FuncId} {rc : Value}
theorem GateC.lt (hG : GateC G ty rv m dev fA fM rc) {w : World} {F : Nat → Prop} {s : G.σ} (h : G.R w F s) {k : Nat} (hk : F k) : k < w.heap.size := by
  obtain ⟨c, t, f, q, -⟩ := hG.sep w F s h k hk
  exact lt_of_block q
theorem GateC.below (hG : GateC G ty rv m dev fA fM rc) {w w' : World} {F : Nat → Prop} {s : G.σ} (h : G.R w F s) (hb : Below w.heap.size w w') : G.R w' F s := hG.only w F s h w' (fun _ => False) (.ofBelow hb) fun _ _ q => q
theorem GateC.ne (hG : GateC G ty rv m dev fA fM rc) {w : World} {F : Nat → Prop} {s : G.σ} (h : G.R w F s) {e : Nat} {v : EV} (he : Eg w e v) : ¬ F e := fun q => by
  obtain ⟨c, t, f, q1, q2⟩ := hG.sep w F s h e q
  obtain ⟨d, x, q3⟩ := he.blk
  rw [q3] at q1
  cases q1
  exact q2 rfl
theorem GateC.eg (hG : GateC G ty rv m dev fA fM rc) {w w' : World} {F F' : Nat → Prop} {s : G.σ} (h : G.R w F s) {e : Nat} {v : EV} (he : Eg w e v) (ht : Tx w F w' F') : Eg w' e v :=
  he.only ht.1 (hG.ne h he) fun k hk => by obtain ⟨c, t, f, q, -⟩ := hG.sep w F s h k hk; exact ⟨c, t, f, q⟩
/-- the engine's own block turned: the gate's stay -/
theorem GateC.own (hG : GateC G ty rv m dev fA fM rc) {w w' : World} {F : Nat → Prop} {s : G.σ} (h : G.R w F s) {e : Nat} {v : EV} (he : Eg w e v) (ho : Only (· = e) w w') : G.R w' F s := hG.only w F s h w' _ ho fun k hk q => hG.ne h he (q ▸ hk)
end
def w64 (x : Int) : Int := x % 18446744073709551616
theorem w64_b (x : Int) : 0 ≤ w64 x ∧ w64 x < 18446744073709551616 := by unfold w64; omega
set_option maxHeartbeats 1000000 in
theorem x_place {G : Gate} {ty : TypeId} {rv : Value} {m : Nat} {dev : Int} {fA fM : FuncId} {rc : Value} (hG : GateC G ty rv m dev fA fM rc) (w : World) (e : Nat) (v : EV) (h : Eg w e v) (hg : v.g = .iface ty rv) (hd : v.dev = dev) (hr : RB v.r) (F : Nat → Prop) (s : G.σ) (hR : G.R w F s) (x : Int) (x0 : 0 ≤ x) (x1 : x < 18446744073709551616) (wt : Bool) :
    Calls Tryz.prog 48 #[.pointer (some ⟨e, 0, none⟩), .int .u64 x, .bool wt] w fun r w' => r = .returned (.tuple #[.int .u64 (G.acc s (w64 (x + v.r 6)) wt).1, .bool (G.acc s (w64 (x + v.r 6)) wt).2.1]) ∧ ∃ F', G.R w' F' (G.acc s (w64 (x + v.r 6)) wt).2.2 ∧ Tx w F w' F' := by
  have k0 := h.c0
  have k2 := h.c2
  have k9 := h.c9
  rw [hg] at k2
  rw [hd] at k0
  have hw : IntKind.u64.wrap (x + v.r 6) = w64 (x + v.r 6) := by rw [IntKind.wrap_u64]; rfl
  have HR := hid hR
  clear hR h hg hd
  go_enter Tryz.func48, Tryz.ntmps48
  go_wp2_with fail
  refine wp_region_mid_dn 18 (by kernel_rfl) (by kernel_rfl) (by kernel_rfl) (by decide) (by kernel_rfl) ?_
  simp only [List.take, List.drop]
  repeat (go_big_quiet_step (fail))
  refine wpQuiet_nil ?_
  intro _ hwq
  obtain ⟨nq, hwq⟩ := hwq
  subst hwq
  refine wp_inv4 rfl rfl "Access" (.iface ty rv) _ _ _ _ _ _ rfl (.int .i64 dev) (.int .u64 (w64 (x + v.r 6))) (.int .i64 8) (.bool wt) rfl rfl rfl rfl rfl fA rc (hG.cA _ _) (hG.A _ F s (hG.below HR.out (below_dn (Below.refl _ _) nq)) (w64 (x + v.r 6)) wt (w64_b _).1 (w64_b _).2) ?_
  · rintro r w1 ⟨rfl, F', h1, h2⟩
    refine ⟨_, rfl, ?_⟩
    have H1 := hid h1
    have H2 := hid h2
    clear h1 h2
    go_simp
    repeat (go_big_quiet_step (fail))
    refine wpQuiet_nil ?_
    intro nr
    go_wp2
    go_ret2
    exact ⟨rfl, F', hG.below H1.out (below_dn (Below.refl _ _) nr), (Tx.ofBelow (below_dn (Below.refl _ _) nq)).trans (H2.out.trans (.ofBelow (below_dn (Below.refl _ _) nr)))⟩
end Go.Proofs.YtajnjmjogaacpaaGreat
namespace Go.Proofs.YtajnjmjogaacpaaGreat
open Go.RowKit
open C (Only hid Still ret_int ret_bool)
set_option linter.unusedVariables false
set_option maxRecDepth 100000

/-- what the next eight bytes come to: the status, the registers, the gate -/
def cpN (G : Gate) (r : Nat → Int) (s : G.σ) : Int × (Nat → Int) × G.σ :=
  bif (G.acc s (w64 (r 0 + r 6)) false).2.1 then
    (bif (G.acc (G.acc s (w64 (r 0 + r 6)) false).2.2 (w64 (r 1 + r 6)) true).2.1 then
      (bif w64 (r 6 + 8) == r 2 then 2 else 1, eu r 6 (w64 (r 6 + 8)), G.st (G.acc (G.acc s (w64 (r 0 + r 6)) false).2.2 (w64 (r 1 + r 6)) true).2.2 (G.acc (G.acc s (w64 (r 0 + r 6)) false).2.2 (w64 (r 1 + r 6)) true).1 (G.rd (G.acc (G.acc s (w64 (r 0 + r 6)) false).2.2 (w64 (r 1 + r 6)) true).2.2 (G.acc s (w64 (r 0 + r 6)) false).1))
    else (3, r, (G.acc (G.acc s (w64 (r 0 + r 6)) false).2.2 (w64 (r 1 + r 6)) true).2.2))
  else (3, r, (G.acc s (w64 (r 0 + r 6)) false).2.2)
def Txe (w : World) (e : Nat) (F : Nat → Prop) (w' : World) (F' : Nat → Prop) : Prop := Only (fun k => k = e ∨ F k) w w' ∧ ∀ k, F' k → F k ∨ w.heap.size ≤ k
theorem Tx.te {w w' : World} {F F' : Nat → Prop} (h : Tx w F w' F') (e : Nat) : Txe w e F w' F' := ⟨h.1.mono fun _ _ q => .inr q, h.2⟩
theorem Txe.own {w w' : World} {e : Nat} (F : Nat → Prop) (h : Only (· = e) w w') : Txe w e F w' F := ⟨h.mono fun _ _ q => .inl q, fun _ q => .inl q⟩
theorem Txe.trans {w w' w'' : World} {e : Nat} {F F' F'' : Nat → Prop} (h : Txe w e F w' F') (k : Txe w' e F' w'' F'') : Txe w e F w'' F'' :=
  ⟨h.1.trans' k.1 fun i hi q => q.elim .inl fun z => .inr ((h.2 i z).resolve_right (by omega)), fun i q => (k.2 i q).elim (h.2 i) fun z => .inr (Nat.le_trans h.1.size z)⟩
theorem Txe.refl (w : World) (e : Nat) (F : Nat → Prop) : Txe w e F w F := ⟨Only.refl w, fun _ q => .inl q⟩
theorem Txe.ofBelow {w w' : World} {e : Nat} {F : Nat → Prop} (h : Below w.heap.size w w') : Txe w e F w' F := ⟨Only.ofBelow h, fun _ q => .inl q⟩
theorem EV.wr_self (v : EV) : v.wr v.r = v := rfl
section
variable {G : Gate} {ty : TypeId} {rv : Value} {m : Nat} {dev : Int} {fA fM : FuncId} {rc : Value} (hG : GateC G ty rv m dev fA fM rc) (w : World) (e : Nat) (v : EV) (h : Eg w e v) (hm : v.m = m) (hg : v.g = .iface ty rv) (hd : v.dev = dev) (hr : RB v.r) (F : Nat → Prop) (s : G.σ) (hR : G.R w F s)
include hG h hm hg hd hr hR
set_option maxHeartbeats 1000000 in
theorem x_copyNext : Calls Tryz.prog 30 #[.pointer (some ⟨e, 0, none⟩)] w fun x w' => x = .returned (.int .u64 (cpN G v.r s).1) ∧ Eg w' e (v.wr (cpN G v.r s).2.1) ∧ ∃ F', G.R w' F' (cpN G v.r s).2.2 ∧ Txe w e F w' F' := by
  have k3 := h.c3
  have HE := hid h
  have HR := hid hR
  have HB := hid hr
  have hw6 : IntKind.u64.wrap (v.r 6 + 8) = w64 (v.r 6 + 8) := by rw [IntKind.wrap_u64]; rfl
  clear h hR hr
  unfold cpN
  cases h1 : (G.acc s (w64 (v.r 0 + v.r 6)) false).2.1
  · go_enter Tryz.func30, Tryz.ntmps30
    go_wp2_with (first
      | (go_at_call 48; refine (x_place hG _ e v HE.out hg hd HB.out F s HR.out (v.r 0) (HB.out 0).1 (HB.out 0).2 false).mono ?_; rw [h1]; rintro x w1 ⟨rfl, F1, r1, t1⟩; have R1 := hid r1; have T1 := hid t1; clear r1 t1))
    go_ret
    exact ⟨rfl, hG.eg HR.out HE.out T1.out, F1, R1.out, T1.out.te e⟩
  · cases h2 : (G.acc (G.acc s (w64 (v.r 0 + v.r 6)) false).2.2 (w64 (v.r 1 + v.r 6)) true).2.1
    · go_enter Tryz.func30, Tryz.ntmps30
      have T0 : Hid True := hid trivial
      go_wp2_with (first
        | (go_at_call 48; have t := T0; clear t T0; refine (x_place hG _ e v HE.out hg hd HB.out F s HR.out (v.r 0) (HB.out 0).1 (HB.out 0).2 false).mono ?_; rw [h1]; rintro x w1 ⟨rfl, F1, r1, t1⟩; have R1 := hid r1; have T1 := hid t1; have E1 := hid (hG.eg HR.out HE.out t1); have k4 := E1.out.c4; clear r1 t1)
        | (go_at_call 48; refine (x_place hG _ e v E1.out hg hd HB.out F1 _ R1.out (v.r 1) (HB.out 1).1 (HB.out 1).2 true).mono ?_; rw [h2]; rintro x w2 ⟨rfl, F2, r2, t2⟩; have R2 := hid r2; have T2 := hid t2; clear r2 t2))
      go_ret
      exact ⟨rfl, hG.eg R1.out E1.out T2.out, F2, R2.out, (T1.out.trans T2.out).te e⟩
    · have v1 := hG.ok s _ false h1
      have v2 := hG.ok _ _ true h2
      have v3 := hG.kp _ (w64 (v.r 1 + v.r 6)) true _ v1
      have V2 := hid v2
      have V3 := hid v3
      clear v1 v2 v3
      go_enter Tryz.func30, Tryz.ntmps30
      have T0 : Hid True := hid trivial
      go_wp2_with (first
        | (go_at_call 48; have t := T0; clear t T0; refine (x_place hG _ e v HE.out hg hd HB.out F s HR.out (v.r 0) (HB.out 0).1 (HB.out 0).2 false).mono ?_; rw [h1]; rintro x w1 ⟨rfl, F1, r1, t1⟩; have R1 := hid r1; have T1 := hid t1; have E1 := hid (hG.eg HR.out HE.out t1); have k4 := E1.out.c4; clear r1 t1)
        | (go_at_call 48; refine (x_place hG _ e v E1.out hg hd HB.out F1 _ R1.out (v.r 1) (HB.out 1).1 (HB.out 1).2 true).mono ?_; rw [h2]; rintro x w2 ⟨rfl, F2, r2, t2⟩; have R2 := hid r2; have T2 := hid t2; have E2 := hid (hG.eg R1.out E1.out t2); have k1 := E2.out.c1; rw [hm] at k1; clear r2 t2)
        | (go_at_call 29; refine (hG.Rd _ F2 _ R2.out _ V3.out).mono ?_; rintro x w3 ⟨rfl, b3⟩; have B3 := hid b3; have E3 := hid (E2.out.below b3); have k1' := E3.out.c1; rw [hm] at k1'; clear b3)
        | (go_at_call 45; refine (hG.W _ F2 _ (hG.below R2.out B3.out) _ _ V2.out (hG.rb _ _ _ R2.out _).1 (hG.rb _ _ _ R2.out _).2).mono ?_; rintro x w4 ⟨rfl, F4, r4, t4⟩; have R4 := hid r4; have T4 := hid t4; have E4 := hid (hG.eg (hG.below R2.out B3.out) E3.out t4); have k9 := E4.out.c9; have k5 := E4.out.c5; have kz := E4.out.z; clear r4 t4))
      have fin : ∀ n, Hid (Eg ((w4.setCell ⟨e, 9, none⟩ (.int .u64 (w64 (v.r 6 + 8)))).drewN n) e (v.wr (eu v.r 6 (w64 (v.r 6 + 8)))) ∧ ∃ F', G.R ((w4.setCell ⟨e, 9, none⟩ (.int .u64 (w64 (v.r 6 + 8)))).drewN n) F' (G.st (G.acc (G.acc s (w64 (v.r 0 + v.r 6)) false).2.2 (w64 (v.r 1 + v.r 6)) true).2.2 (G.acc (G.acc s (w64 (v.r 0 + v.r 6)) false).2.2 (w64 (v.r 1 + v.r 6)) true).1 (G.rd (G.acc (G.acc s (w64 (v.r 0 + v.r 6)) false).2.2 (w64 (v.r 1 + v.r 6)) true).2.2 (G.acc s (w64 (v.r 0 + v.r 6)) false).1)) ∧ Txe w e F ((w4.setCell ⟨e, 9, none⟩ (.int .u64 (w64 (v.r 6 + 8)))).drewN n) F') := fun n =>
        ⟨(E4.out.s6 _).dn n, F4, hG.below (hG.own R4.out E4.out (only_e _ _ _ _)) (below_dn (Below.refl _ _) n), ((((T1.out.trans T2.out).trans (.ofBelow B3.out)).trans T4.out).te e).trans ((Txe.own F4 (only_e _ _ _ _)).trans (.ofBelow (below_dn (Below.refl _ _) n)))⟩
      clear R1 T1 E1 R2 T2 E2 B3 E3 R4 T4 E4 V2 V3 h1 h2 k1 k1' k3 k4
      cases h3 : (w64 (v.r 6 + 8) == v.r 2)
      · go_quiet (fail)
        go_wp2
        go_ret
        exact ⟨by rw [h3]; rfl, (fin _).out⟩
      · go_quiet (fail)
        go_wp2
        go_ret
        exact ⟨by rw [h3]; rfl, (fin _).out⟩
end
end Go.Proofs.YtajnjmjogaacpaaGreat
namespace Go.Proofs.YtajnjmjogaacpaaGreat
open Go.RowKit
open C (Only hid Still ret_int ret_bool)
set_option linter.unusedVariables false
set_option maxRecDepth 100000

/-- whether a message is sent, behind a copy -/
def msB (G : Gate) (r : Nat → Int) (s : G.σ) : Bool := !((cpN G r s).1 == 1) && !(r 4 == 0)
/-- what a step comes to: the message, the registers, the gate -/
def stN (G : Gate) (r : Nat → Int) (s : G.σ) : (Int × Int × Bool) × (Nat → Int) × G.σ :=
  bif r 3 == 1 then
    (bif msB G r s then (((G.msg (cpN G r s).2.2 (r 4) (r 5)).1, (G.msg (cpN G r s).2.2 (r 4) (r 5)).2.1, (G.msg (cpN G r s).2.2 (r 4) (r 5)).2.2.1), eu (cpN G r s).2.1 3 (cpN G r s).1, (G.msg (cpN G r s).2.2 (r 4) (r 5)).2.2.2)
    else ((0, 0, false), eu (cpN G r s).2.1 3 (cpN G r s).1, (cpN G r s).2.2))
  else ((0, 0, false), r, s)
theorem cpN_b {G : Gate} {r : Nat → Int} (s : G.σ) (h : RB r) : RB (cpN G r s).2.1 := by
  unfold cpN
  cases (G.acc s (w64 (r 0 + r 6)) false).2.1
  · exact h
  · cases (G.acc (G.acc s (w64 (r 0 + r 6)) false).2.2 (w64 (r 1 + r 6)) true).2.1
    · exact h
    · exact h.eu 6 _ (w64_b _).1 (w64_b _).2
theorem cpN_st {G : Gate} {r : Nat → Int} (s : G.σ) : (cpN G r s).1 = 1 ∨ (cpN G r s).1 = 2 ∨ (cpN G r s).1 = 3 := by
  unfold cpN
  cases (G.acc s (w64 (r 0 + r 6)) false).2.1
  · exact .inr (.inr rfl)
  · cases (G.acc (G.acc s (w64 (r 0 + r 6)) false).2.2 (w64 (r 1 + r 6)) true).2.1
    · exact .inr (.inr rfl)
    · cases (w64 (r 6 + 8) == r 2)
      · exact .inl rfl
      · exact .inr (.inl rfl)
theorem cpN_eq {G : Gate} {r : Nat → Int} (s : G.σ) (k : Nat) (hk : k ≠ 6) : (cpN G r s).2.1 k = r k := by
  unfold cpN
  cases (G.acc s (w64 (r 0 + r 6)) false).2.1
  · rfl
  · cases (G.acc (G.acc s (w64 (r 0 + r 6)) false).2.2 (w64 (r 1 + r 6)) true).2.1
    · rfl
    · show eu r 6 _ k = r k
      unfold eu; rw [if_neg hk]
theorem stN_b {G : Gate} {r : Nat → Int} (s : G.σ) (h : RB r) : RB (stN G r s).2.1 := by
  have hc := (cpN_b s h).eu 3 (cpN G r s).1 (by have := cpN_st (r := r) s; omega) (by have := cpN_st (r := r) s; omega)
  unfold stN
  cases (r 3 == 1)
  · exact h
  · cases msB G r s
    · exact hc
    · exact hc
theorem Txe.setN {w w' : World} {e : Nat} {F F' : Nat → Prop} (h : Txe w e F w' F') (n k : Nat) (x : Value) (hn : w.heap.size ≤ n) : Txe w e F (w'.setCell ⟨n, k, none⟩ x) F' := ⟨h.1.setCell (.inr hn) _, h.2⟩
section
variable {G : Gate} {ty : TypeId} {rv : Value} {m : Nat} {dev : Int} {fA fM : FuncId} {rc : Value} (hG : GateC G ty rv m dev fA fM rc) (w : World) (e : Nat) (v : EV) (h : Eg w e v) (hm : v.m = m) (hg : v.g = .iface ty rv) (hd : v.dev = dev) (hr : RB v.r) (F : Nat → Prop) (s : G.σ) (hR : G.R w F s)
include hG h hm hg hd hr hR
set_option maxHeartbeats 1000000 in
theorem x_Step : Calls Tryz.prog 15 #[.pointer (some ⟨e, 0, none⟩)] w fun x w' => x = .returned (.tuple #[.agg #[.int .i64 (stN G v.r s).1.1, .int .i64 (stN G v.r s).1.2.1], .bool (stN G v.r s).1.2.2]) ∧ Eg w' e (v.wr (stN G v.r s).2.1) ∧ ∃ F', G.R w' F' (stN G v.r s).2.2 ∧ Txe w e F w' F' := by
  have hel := h.lt
  have hlt : ∀ k, F k → k < w.heap.size := fun k => hG.lt hR
  have HE := hid h
  have HR := hid hR
  have HB := hid hr
  have HLT := hid hlt
  clear h hR hr hlt
  have hb0 : Below w.heap.size w (w.alloc (.cells #[.int .i64 0, .int .i64 0] 47)) := (Below.refl _ _).alloc (Nat.le_refl _) _
  have E0 := hid (HE.out.below hb0)
  have R0 := hid (hG.below HR.out hb0)
  have P0 := hid (heap_alloc_new w (.cells #[.int .i64 0, .int .i64 0] 47))
  have B0 := hid hb0
  clear hb0
  cases h3 : (v.r 3 == 1)
  · rw [show stN G v.r s = ((0, 0, false), v.r, s) by unfold stN; rw [h3]; rfl]
    go_enter Tryz.func15, Tryz.ntmps15
    go_wp2_with (first
      | (go_at_call 11; refine (x_Busy _ e v E0.out).mono ?_; rw [h3]; rintro x w1 ⟨rfl, hw⟩; obtain rfl := hw.symm))
    go_returns
    exact ⟨rfl, E0.out, F, R0.out, .ofBelow B0.out⟩
  · have hne : w.heap.size ≠ e := by omega
    have hne' : ¬ e = w.heap.size := by omega
    cases h5 : ((cpN G v.r s).1 == 1)
    · cases h6 : (v.r 4 == 0)
      · have h4 : msB G v.r s = true := by unfold msB; rw [h5, h6]; rfl
        rw [show stN G v.r s = (((G.msg (cpN G v.r s).2.2 (v.r 4) (v.r 5)).1, (G.msg (cpN G v.r s).2.2 (v.r 4) (v.r 5)).2.1, (G.msg (cpN G v.r s).2.2 (v.r 4) (v.r 5)).2.2.1), eu (cpN G v.r s).2.1 3 (cpN G v.r s).1, (G.msg (cpN G v.r s).2.2 (v.r 4) (v.r 5)).2.2.2) by unfold stN; rw [h3, h4]; rfl]
        go_enter Tryz.func15, Tryz.ntmps15
        have T0 : Hid True := hid trivial
        go_wp2_with (first
          | (go_at_call 11; have t := T0; clear t T0; refine (x_Busy _ e v E0.out).mono ?_; rw [h3]; rintro x w1 ⟨rfl, hw⟩; obtain rfl := hw.symm)
          | (go_at_call 30; refine (x_copyNext hG _ e v E0.out hm hg hd HB.out F s R0.out).mono ?_; rintro x w1 ⟨rfl, e1, F1, r1, t1⟩; have k6 := e1.c6; have kz := e1.z; have k7 := e1.c7; have k8 := e1.c8; have k0 := e1.c0; have k2 := e1.c2; rw [show (v.wr (cpN G v.r s).2.1).r 4 = v.r 4 from cpN_eq s 4 (by decide)] at k7; rw [show (v.wr (cpN G v.r s).2.1).r 5 = v.r 5 from cpN_eq s 5 (by decide)] at k8; rw [show (v.wr (cpN G v.r s).2.1).g = _ from hg] at k2; rw [show (v.wr (cpN G v.r s).2.1).dev = _ from hd] at k0; have p1 := t1.1.old P0.out (fun q => q.elim (by omega) fun z => by have := HLT.out _ z; omega); obtain ⟨y0, y1, yf, yl⟩ := c_row p1; have E1 := hid (e1.s3 (cpN G v.r s).1); have R1 := hid (hG.own r1 e1 (only_e w1 e 6 (.int .u64 (cpN G v.r s).1))); have nF1 : Hid (¬ F1 w.heap.size) := hid (fun q => (t1.2 _ q).elim (fun z => by have := HLT.out _ z; omega) fun z => by simp at z; omega); have T1 := hid (t1.trans (Txe.own F1 (only_e w1 e 6 (.int .u64 (cpN G v.r s).1)))); have P1 := hid ((setCell_other_block w1 e 6 (.int .u64 (cpN G v.r s).1) w.heap.size (by omega)).trans p1); clear e1 r1 t1 p1)
          | (go_at_call 11; refine (x_Busy _ e _ E1.out).mono ?_; rw [show (((v.wr (cpN G v.r s).2.1).set 3 (cpN G v.r s).1).r 3 == 1) = false from h5]; rintro x w2 ⟨rfl, hw⟩; obtain rfl := hw.symm))
        refine wp_region_mid2 20 23 (by kernel_rfl) (by kernel_rfl) (by kernel_rfl) (by kernel_rfl) (by kernel_rfl) (by decide) (by decide) (by kernel_rfl) (by kernel_rfl) ?_
        simp only [List.take, List.drop]
        repeat (go_big_quiet_step (fail))
        refine wpQuiet_nil ?_
        intro _ hwq
        obtain ⟨nq, hwq⟩ := hwq
        subst hwq
        have bq : Below (w1.setCell ⟨e, 6, none⟩ (.int .u64 (cpN G v.r s).1)).heap.size (w1.setCell ⟨e, 6, none⟩ (.int .u64 (cpN G v.r s).1)) ((w1.setCell ⟨e, 6, none⟩ (.int .u64 (cpN G v.r s).1)).drewN nq) := below_dn (Below.refl _ _) nq
        refine wp_inv3 rfl rfl "Message" (.iface ty rv) _ _ _ _ _ rfl (.int .i64 dev) (.int .u64 (v.r 4)) (.int .u64 (v.r 5)) rfl rfl rfl rfl fM rc (hG.cM _ _) (hG.M _ F1 _ (hG.below R1.out bq) (v.r 4) (v.r 5) (HB.out 4).1 (HB.out 4).2 (HB.out 5).1 (HB.out 5).2) ?_
        rintro r w2 ⟨rfl, F2, r2, t2⟩
        refine ⟨_, rfl, ?_⟩
        have E2 := hid (hG.eg (hG.below R1.out bq) (E1.out.below bq) t2)
        have p2 := t2.1.old ((bq.block _ (lt_of_block P1.out)).trans P1.out) nF1.out
        have nF2 : Hid (¬ F2 w.heap.size) := hid (fun q => (t2.2 _ q).elim nF1.out fun z => by have := lt_of_block P1.out; have := bq.size; omega)
        have R2 := hid r2
        have T2 := hid (((Txe.ofBelow B0.out).trans T1.out).trans ((Txe.ofBelow bq).trans (t2.te e)))
        clear r2 t2 bq y0 y1 yf yl
        obtain ⟨y0, y1, yf, yl⟩ := c_row p2
        clear p2
        go_simp
        repeat (go_big_quiet_step (fail))
        refine wpQuiet_nil ?_
        intro nr
        refine wpOp_step rfl (fun K hK => ?_)
        go_simp
        refine hK _ _ ?_
        clear hK
        repeat (go_big_quiet_step (fail))
        refine wpQuiet_nil ?_
        intro ns
        go_wp2
        refine bodyPost_ret (v := .tuple #[.agg #[.int .i64 (G.msg (cpN G v.r s).2.2 (v.r 4) (v.r 5)).1, .int .i64 (G.msg (cpN G v.r s).2.2 (v.r 4) (v.r 5)).2.1], .bool (G.msg (cpN G v.r s).2.2 (v.r 4) (v.r 5)).2.2.1]) (by simp [results, Tryz.results15, go_sem, y0, y1]) rfl ⟨rfl, (((E2.out.dn nr).setC _ _ _ hne).setC _ _ _ hne).dn ns, F2, hG.below (hG.only _ _ _ (hG.below R2.out (below_dn (Below.refl _ _) nr)) _ (· = w.heap.size) ((only_e _ _ _ _).trans (only_e _ _ _ _)) (fun k hk q => nF2.out (q ▸ hk))) (below_dn (Below.refl _ _) ns), (((T2.out.trans (.ofBelow (below_dn (Below.refl _ _) nr))).setN _ _ _ (Nat.le_refl _)).setN _ _ _ (Nat.le_refl _)).trans (.ofBelow (below_dn (Below.refl _ _) ns))⟩
      · have h4 : msB G v.r s = false := by unfold msB; rw [h5, h6]; rfl
        rw [show stN G v.r s = ((0, 0, false), eu (cpN G v.r s).2.1 3 (cpN G v.r s).1, (cpN G v.r s).2.2) by unfold stN; rw [h3, h4]; rfl]
        go_enter Tryz.func15, Tryz.ntmps15
        have T0 : Hid True := hid trivial
        go_wp2_with (first
          | (go_at_call 11; have t := T0; clear t T0; refine (x_Busy _ e v E0.out).mono ?_; rw [h3]; rintro x w1 ⟨rfl, hw⟩; obtain rfl := hw.symm)
          | (go_at_call 30; refine (x_copyNext hG _ e v E0.out hm hg hd HB.out F s R0.out).mono ?_; rintro x w1 ⟨rfl, e1, F1, r1, t1⟩; have k6 := e1.c6; have kz := e1.z; have k7 := e1.c7; have k8 := e1.c8; have k0 := e1.c0; have k2 := e1.c2; rw [show (v.wr (cpN G v.r s).2.1).r 4 = v.r 4 from cpN_eq s 4 (by decide)] at k7; rw [show (v.wr (cpN G v.r s).2.1).r 5 = v.r 5 from cpN_eq s 5 (by decide)] at k8; rw [show (v.wr (cpN G v.r s).2.1).g = _ from hg] at k2; rw [show (v.wr (cpN G v.r s).2.1).dev = _ from hd] at k0; have p1 := t1.1.old P0.out (fun q => q.elim (by omega) fun z => by have := HLT.out _ z; omega); obtain ⟨y0, y1, yf, yl⟩ := c_row p1; have E1 := hid (e1.s3 (cpN G v.r s).1); have R1 := hid (hG.own r1 e1 (only_e w1 e 6 (.int .u64 (cpN G v.r s).1))); have nF1 : Hid (¬ F1 w.heap.size) := hid (fun q => (t1.2 _ q).elim (fun z => by have := HLT.out _ z; omega) fun z => by simp at z; omega); have T1 := hid (t1.trans (Txe.own F1 (only_e w1 e 6 (.int .u64 (cpN G v.r s).1)))); have P1 := hid ((setCell_other_block w1 e 6 (.int .u64 (cpN G v.r s).1) w.heap.size (by omega)).trans p1); clear e1 r1 t1 p1)
          | (go_at_call 11; refine (x_Busy _ e _ E1.out).mono ?_; rw [show (((v.wr (cpN G v.r s).2.1).set 3 (cpN G v.r s).1).r 3 == 1) = false from h5]; rintro x w2 ⟨rfl, hw⟩; obtain rfl := hw.symm))
        refine bodyPost_ret (v := .tuple #[.agg #[.int .i64 0, .int .i64 0], .bool false]) (by simp [results, Tryz.results15, go_sem, y0, y1]) rfl ⟨rfl, (E1.out.setC _ _ _ hne).setC _ _ _ hne, F1, hG.only _ _ _ R1.out _ (· = w.heap.size) ((only_e _ _ _ _).trans (only_e _ _ _ _)) (fun k hk q => nF1.out (q ▸ hk)), (((Txe.ofBelow B0.out).trans T1.out).setN _ _ _ (Nat.le_refl _)).setN _ _ _ (Nat.le_refl _)⟩
    · have h4 : msB G v.r s = false := by unfold msB; rw [h5]; rfl
      rw [show stN G v.r s = ((0, 0, false), eu (cpN G v.r s).2.1 3 (cpN G v.r s).1, (cpN G v.r s).2.2) by unfold stN; rw [h3, h4]; rfl]
      go_enter Tryz.func15, Tryz.ntmps15
      have T0 : Hid True := hid trivial
      go_wp2_with (first
        | (go_at_call 11; have t := T0; clear t T0; refine (x_Busy _ e v E0.out).mono ?_; rw [h3]; rintro x w1 ⟨rfl, hw⟩; obtain rfl := hw.symm)
        | (go_at_call 30; refine (x_copyNext hG _ e v E0.out hm hg hd HB.out F s R0.out).mono ?_; rintro x w1 ⟨rfl, e1, F1, r1, t1⟩; have k6 := e1.c6; have kz := e1.z; have k7 := e1.c7; have k8 := e1.c8; have k0 := e1.c0; have k2 := e1.c2; rw [show (v.wr (cpN G v.r s).2.1).r 4 = v.r 4 from cpN_eq s 4 (by decide)] at k7; rw [show (v.wr (cpN G v.r s).2.1).r 5 = v.r 5 from cpN_eq s 5 (by decide)] at k8; rw [show (v.wr (cpN G v.r s).2.1).g = _ from hg] at k2; rw [show (v.wr (cpN G v.r s).2.1).dev = _ from hd] at k0; have p1 := t1.1.old P0.out (fun q => q.elim (by omega) fun z => by have := HLT.out _ z; omega); obtain ⟨y0, y1, yf, yl⟩ := c_row p1; have E1 := hid (e1.s3 (cpN G v.r s).1); have R1 := hid (hG.own r1 e1 (only_e w1 e 6 (.int .u64 (cpN G v.r s).1))); have nF1 : Hid (¬ F1 w.heap.size) := hid (fun q => (t1.2 _ q).elim (fun z => by have := HLT.out _ z; omega) fun z => by simp at z; omega); have T1 := hid (t1.trans (Txe.own F1 (only_e w1 e 6 (.int .u64 (cpN G v.r s).1)))); have P1 := hid ((setCell_other_block w1 e 6 (.int .u64 (cpN G v.r s).1) w.heap.size (by omega)).trans p1); clear e1 r1 t1 p1)
        | (go_at_call 11; refine (x_Busy _ e _ E1.out).mono ?_; rw [show (((v.wr (cpN G v.r s).2.1).set 3 (cpN G v.r s).1).r 3 == 1) = true from h5]; rintro x w2 ⟨rfl, hw⟩; obtain rfl := hw.symm))
      refine bodyPost_ret (v := .tuple #[.agg #[.int .i64 0, .int .i64 0], .bool false]) (by simp [results, Tryz.results15, go_sem, y0, y1]) rfl ⟨rfl, (E1.out.setC _ _ _ hne).setC _ _ _ hne, F1, hG.only _ _ _ R1.out _ (· = w.heap.size) ((only_e _ _ _ _).trans (only_e _ _ _ _)) (fun k hk q => nF1.out (q ▸ hk)), (((Txe.ofBelow B0.out).trans T1.out).setN _ _ _ (Nat.le_refl _)).setN _ _ _ (Nat.le_refl _)⟩
end
end Go.Proofs.YtajnjmjogaacpaaGreat
namespace Go.Proofs.YtajnjmjogaacpaaGreat
open Go.RowKit
open C (Only hid Mem Still ret_int ret_bool put byt nu hasB)
set_option linter.unusedVariables false
set_option maxRecDepth 100000

def gF (m : Nat) : Value := .iface 161 (.agg #[.pointer (some ⟨m, 0, none⟩)])
def e0 (m : Nat) : EV := ⟨0, m, gF m, fun _ => 0⟩
theorem x_Flat (w : World) (m : Nat) : Calls Tryz.prog 32 #[.pointer (some ⟨m, 0, none⟩)] w fun r w' => r = .returned (.pointer (some ⟨w.heap.size, 0, none⟩)) ∧ Eg w' w.heap.size (e0 m) ∧ Below w.heap.size w w' := by
  go_enter Tryz.func32, Tryz.ntmps32
  go_wp2
  go_ret
  exact ⟨rfl, .inl (heap_alloc_new w _), (Below.refl _ _).alloc (Nat.le_refl _) _⟩
theorem x_flA (w : World) (S : Nat → Prop) (m : Nat) (bs : Int) (n : Nat) (f : Nat → Int) (h : Mem w S m bs n f) (d a : Int) (wt : Bool) (a0 : 0 ≤ a) (a1 : a < 18446744073709551616) : Calls Tryz.prog 149 #[.agg #[.pointer (some ⟨m, 0, none⟩)], .int .i64 d, .int .u64 a, .int .i64 8, .bool wt] w fun r w' => r = .returned (.tuple #[.int .u64 (bif hasB bs n a 8 then a else 0), .bool (hasB bs n a 8)]) ∧ Below w.heap.size w w' := by
  have hb : Below w.heap.size w (w.alloc (.cells #[.pointer (some ⟨m, 0, none⟩)] 161)) := (Below.refl _ _).alloc (Nat.le_refl _) _
  have HM := hid (h.below hb)
  have HB := hid hb
  clear h hb
  go_enter Tryz.func149, Tryz.ntmps149
  cases hh : hasB bs n a 8
  · go_wp2_with (go_at_call 21; refine (C.c_HasM _ S m bs n f HM.out a 8 a0 a1 (by decide) (by decide) false hh).mono ?_; rintro r w1 ⟨rfl, hs⟩; have HS := hid hs; clear hs)
    go_ret2
    exact ⟨rfl, HB.out.trans (HS.out.below _)⟩
  · go_wp2_with (go_at_call 21; refine (C.c_HasM _ S m bs n f HM.out a 8 a0 a1 (by decide) (by decide) true hh).mono ?_; rintro r w1 ⟨rfl, hs⟩; have HS := hid hs; clear hs)
    go_ret2
    exact ⟨rfl, HB.out.trans (HS.out.below _)⟩
def msF (a d : Int) : Bool := a == 4276092928 && decide (d < 16)
theorem x_flM (w : World) (m : Nat) (v a d : Int) (a0 : 0 ≤ a) (a1 : a < 18446744073709551616) (d0 : 0 ≤ d) (d1 : d < 18446744073709551616) : Calls Tryz.prog 150 #[.agg #[.pointer (some ⟨m, 0, none⟩)], .int .i64 v, .int .u64 a, .int .u64 d] w fun r w' => r = .returned (.tuple #[.agg #[.int .i64 (bif msF a d then 1 else 0), .int .i64 (bif msF a d then 16 + d else 0)], .bool (msF a d)]) ∧ Below w.heap.size w w' := by
  cases h1 : (a == 4276092928)
  · have hm : msF a d = false := by unfold msF; rw [h1]; rfl
    have ha : (a != 4276092928) = true := by rw [bne, h1]; rfl
    rw [hm]
    go_enter Tryz.func150, Tryz.ntmps150
    go_wp2
    go_returns
    exact ⟨rfl, ((Below.refl _ _).alloc (Nat.le_refl _) _).alloc (by simp) _⟩
  · have ha : (a != 4276092928) = false := by rw [bne, h1]; rfl
    by_cases h2 : d < 16
    · have hm : msF a d = true := by unfold msF; rw [h1]; simpa using h2
      rw [hm]
      go_enter Tryz.func150, Tryz.ntmps150
      go_wp2
      go_returns
      exact ⟨rfl, ((Below.refl _ _).alloc (Nat.le_refl _) _).alloc (by simp) _⟩
    · have hm : msF a d = false := by unfold msF; rw [h1]; simpa using h2
      rw [hm]
      go_enter Tryz.func150, Tryz.ntmps150
      go_wp2
      go_returns
      exact ⟨rfl, ((Below.refl _ _).alloc (Nat.le_refl _) _).alloc (by simp) _⟩
/-- the gate -/
def FlG (m : Nat) (bs : Int) (n : Nat) : Gate := ⟨Nat → Int, fun w F f => Mem w F m bs n f, fun f a wt => (bif hasB bs n a 8 then a else 0, hasB bs n a 8, f), fun f p => hasB bs n p 8 = true, fun f p => nu (fun j => f ((p - bs).toNat + j)) 8, fun f p x => put f (p - bs).toNat 8 (byt x), fun f a d => (bif msF a d then 1 else 0, bif msF a d then 16 + d else 0, msF a d, f)⟩
theorem fl_cA (m : Nat) (args : Array Value) (w : World) : (callMethod (gF m) "Access" args).run Tryz.prog w = .ok (.enter 149 (#[.agg #[.pointer (some ⟨m, 0, none⟩)]] ++ args)) w := by
  rfl
theorem fl_cM (m : Nat) (args : Array Value) (w : World) : (callMethod (gF m) "Message" args).run Tryz.prog w = .ok (.enter 150 (#[.agg #[.pointer (some ⟨m, 0, none⟩)]] ++ args)) w := by
  rfl
theorem mem_sep {w : World} {S : Nat → Prop} {m : Nat} {bs : Int} {n : Nat} {f : Nat → Int} (h : Mem w S m bs n f) (k : Nat) (hk : S k) : ∃ c t fr, w.heap[k]? = some (.cells c t fr) ∧ (t = 120 ∨ t = 121 ∨ t = 123) := by
  obtain ⟨g, hs, hr, rfl, hS⟩ := h
  rcases (hS k).1 hk with rfl | rfl | ⟨i, hi⟩
  · exact ⟨_, _, _, hr.top, .inl rfl⟩
  · exact ⟨_, _, _, hr.tab, .inr (.inl rfl)⟩
  · exact ⟨_, _, _, hr.full i k hi, .inr (.inr rfl)⟩
theorem has_off {bs : Int} {n : Nat} {p : Int} (h : hasB bs n p 8 = true) : (p - bs).toNat + 8 ≤ 4096 * n ∧ p = bs + ((p - bs).toNat : Int) := by
  have h' : 0 ≤ (8 : Int) ∧ bs ≤ p ∧ p - bs + 8 ≤ 4096 * n := by simpa [hasB] using h
  omega
theorem flC (m : Nat) (bs : Int) (n : Nat) (dev : Int) : GateC (FlG m bs n) 161 (.agg #[.pointer (some ⟨m, 0, none⟩)]) m dev 149 150 (.agg #[.pointer (some ⟨m, 0, none⟩)]) where
  cA := fl_cA m
  cM := fl_cM m
  sep w F s h k hk := by
    obtain ⟨c, t, f, q, z⟩ := mem_sep h k hk
    exact ⟨c, t, f, q, by rcases z with rfl | rfl | rfl <;> decide⟩
  only w F s h w' T ho hd := h.only ho hd
  A w F s h a wt a0 a1 := (x_flA w F m bs n s h dev a wt a0 a1).mono (by
    rintro e w' ⟨rfl, hb⟩
    exact ⟨rfl, F, h.below hb, .ofBelow hb⟩)
  ok s a wt h := by
    have h' : hasB bs n a 8 = true := h
    show hasB bs n (bif hasB bs n a 8 then a else 0) 8 = true
    rw [h']; exact h'
  kp s a wt p h := h
  Rd w F s h p hp := by
    obtain ⟨h1, h2⟩ := has_off hp
    exact C.c_Read w F m bs n s h (p - bs).toNat 8 h1 (by decide) p h2
  rb w F s h p := C.nu_lt (fun j => s ((p - bs).toNat + j)) (fun j => h.byt _) 8
  W w F s h p x hp x0 x1 := by
    obtain ⟨h1, h2⟩ := has_off hp
    refine (C.c_Write w F m bs n s h (p - bs).toNat 8 h1 (by decide) p h2 x x0 x1).mono ?_
    rintro e w' ⟨S', rfl, q1, q2, q3⟩
    exact ⟨rfl, S', q1, q2, q3⟩
  M w F s h a d a0 a1 d0 d1 := (x_flM w m dev a d a0 a1 d0 d1).mono (by
    rintro e w' ⟨rfl, hb⟩
    exact ⟨rfl, F, h.below hb, .ofBelow hb⟩)
end Go.Proofs.YtajnjmjogaacpaaGreat
