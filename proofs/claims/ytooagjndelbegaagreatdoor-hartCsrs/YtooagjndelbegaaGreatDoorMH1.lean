/- A region that draws its order, whose last operation waits for all the others: these walked once, in the order of the text, then the last one. -/
import Derived.WalkKit
import Derived.ProofKit
import Derived.Outline
import Derived.Deep.QuietTactic
import Derived.BigQuiet
import Derived.Test.YtooagjndelbegaaGreatDoorProg
import Derived.Laws.MathBits
import Derived.Laws.BitsAllLaws
import Derived.Laws.Rows
import Derived.Laws.Tables
import Derived.Deep.CutBlock
namespace Go.Proofs.YtooagjndelbegaaGreatDoor
open Go.RowKit
set_option linter.unusedVariables false

section
variable {P : Program} {ops : Array Oper} {md : Region.Mode} {C : World → Prop}
/-- what is listed is listed with all that it waits for -/
def Dn (md : Region.Mode) (ops : Array Oper) (listed : Array Bool) : Prop := listed.size = ops.size ∧ ∀ (k : Nat) (o : Oper), ops[k]? = some o → listed.getD k true = true → ∀ e ∈ o.after, Region.binds md e = true → listed.getD e.on false = true
theorem getD_set_same {listed : Array Bool} {i : Nat} : (listed.setIfInBounds i true).getD i true = true := by
  rcases Nat.lt_or_ge i listed.size with h | h
  · simp [h]
  · have : ¬ i < listed.size := by omega
    simp [this]
theorem getD_set_up {listed : Array Bool} {i j : Nat} (h : listed.getD j false = true) : (listed.setIfInBounds i true).getD j false = true := by
  by_cases e : i = j
  · subst e
    have hl : i < listed.size := by
      rcases Nat.lt_or_ge i listed.size with q | q
      · exact q
      · simp [Array.getElem?_eq_none q] at h
    simp [hl]
  · rw [getD_set_ne false e]; exact h
theorem Dn.set {listed : Array Bool} {i : Nat} (h : Dn md ops listed) (hi : i ∈ Region.ready md ops listed) : Dn md ops (listed.setIfInBounds i true) := by
  obtain ⟨h0, o, ho, hall⟩ := mem_ready.1 hi
  refine ⟨by simpa using h.1, fun k ok hk hl e he hb => ?_⟩
  by_cases q : i = k
  · subst q
    rw [ho] at hk
    cases hk
    exact getD_set_up (hall e he hb)
  · rw [getD_set_ne true q] at hl
    exact getD_set_up (h.2 k ok hk hl e he hb)
/-- each operation but z is waited for by a later one -/
def covB (md : Region.Mode) (ops : Array Oper) (z : Nat) : Bool :=
  (List.range z).all fun j => (List.range (z + 1)).any fun k => decide (j < k) && ((ops[k]?).map fun o => o.after.any fun e => Region.binds md e && e.on == j).getD false
theorem cov_spec {z : Nat} (h : covB md ops z = true) {j : Nat} (hj : j < z) : ∃ k o e, j < k ∧ k ≤ z ∧ ops[k]? = some o ∧ e ∈ o.after ∧ Region.binds md e = true ∧ e.on = j := by
  unfold covB at h
  rw [List.all_eq_true] at h
  have h1 := h j (List.mem_range.2 hj)
  rw [List.any_eq_true] at h1
  obtain ⟨k, hk, h2⟩ := h1
  simp only [Bool.and_eq_true, decide_eq_true_eq] at h2
  obtain ⟨hlt, h3⟩ := h2
  cases ho : ops[k]? with
  | none => simp [ho] at h3
  | some o =>
    simp only [ho, Option.map_some, Option.getD_some] at h3
    rw [Array.any_eq_true] at h3
    obtain ⟨i, hi, h4⟩ := h3
    simp only [Bool.and_eq_true, beq_iff_eq] at h4
    exact ⟨k, o, o.after[i], hlt, by have := List.mem_range.1 hk; omega, ho, Array.getElem_mem hi, h4.1, h4.2⟩
/-- the last one is ready only when all others are listed -/
theorem last_ready {z : Nat} (hc : covB md ops z = true) {listed : Array Bool} (hd : Dn md ops listed) (hz : z ∈ Region.ready md ops listed) : ∀ j, j < z → listed.getD j false = true := by
  obtain ⟨h0, oz, hoz, hall⟩ := mem_ready.1 hz
  have key : ∀ n j, z - j ≤ n → j < z → listed.getD j false = true := by
    intro n
    induction n with
    | zero => intro j h1 h2; omega
    | succ n ih =>
      intro j h1 h2
      obtain ⟨k, o, e, hjk, hkz, ho, he, hb, hon⟩ := cov_spec hc h2
      rcases Nat.lt_or_ge k z with q | q
      · have hk := ih k (by omega) q
        have hk' : listed.getD k true = true := by
          have hl : k < listed.size := by
            rcases Nat.lt_or_ge k listed.size with q | q
            · exact q
            · simp [Array.getElem?_eq_none q] at hk
          simp [hl] at hk ⊢
          exact hk
        have := hd.2 k o ho hk' e he hb
        rwa [hon] at this
      · have : k = z := by omega
        subst this
        rw [hoz] at ho
        cases ho
        have := hall e he hb
        rwa [hon] at this
  exact fun j hj => key _ j (Nat.le_refl _) hj
def wpAnyL (P : Program) (md : Region.Mode) (ops : Array Oper) (C : World → Prop) (z : Nat) (Q : Act → Prop) : Nat → Array Bool → Act → Prop
  | 0, listed, a => (∀ j, j ≠ z → listed.getD j true = true) ∧ z ∈ Region.ready md ops listed ∧ Q a
  | fuel + 1, listed, a => Region.ready md ops listed ≠ [] ∧ ∀ i ∈ Region.ready md ops listed, qOp P ops C i (wpAnyL P md ops C z Q fuel (listed.setIfInBounds i true)) a
theorem wpAny_of_last {z : Nat} {Q : Act → Prop} {Q' : Exit → Act → World → Prop} (hQ : ∀ a w, C w → Q a → wpOp P ops Q' z (Q' .normal) a w) : ∀ (fuel : Nat) (listed : Array Bool) (a : Act) (w : World), C w →
    wpAnyL P md ops C z Q fuel listed a → wpAny P md ops Q' (fuel + 1) listed a w
  | 0, listed, a, w, hw, h => by
    obtain ⟨h1, h2, h3⟩ := h
    refine ⟨fun h0 => (by rw [h0] at h2; cases h2), fun i hi => ?_⟩
    have e : i = z := by
      by_cases e : i = z
      · exact e
      · have := (mem_ready.1 hi).1
        rw [h1 i e] at this
        cases this
    subst e
    refine wpOp_mono (fun a' w' h' => ⟨?_, h'⟩) (hQ a w hw h3)
    cases hr : Region.ready md ops (listed.setIfInBounds i true) with
    | nil => rfl
    | cons j r =>
      exfalso
      have hj : j ∈ Region.ready md ops (listed.setIfInBounds i true) := by rw [hr]; simp
      have hu := (mem_ready.1 hj).1
      by_cases e : i = j
      · subst e; rw [getD_set_same] at hu; cases hu
      · rw [getD_set_ne true e, h1 j (Ne.symm e)] at hu; cases hu
  | fuel + 1, listed, a, w, hw, h => ⟨fun h0 => absurd h0 h.1, fun i hi => wpOp_of_qOp hw (fun a' w' hw' => wpAny_of_last hQ fuel _ a' w' hw') (h.2 i hi)⟩
theorem wpAnyL_first {z : Nat} {Q : Act → Prop} {i : Nat} {oi : Oper} {v : Value} (hc : covB md ops z = true) (hiz : i < z) (hi : ops[i]? = some oi) (hsel : ∀ (j : Nat) (o : Oper) cs b, ops[j]? = some o → o.op ≠ .select cs b) :
    ∀ (fuel : Nat) (listed : Array Bool) (a : Act), Dn md ops listed →
      (∀ j oj, ops[j]? = some oj → j ≠ i → listed.getD j true = false → (∀ e ∈ oj.after, Region.binds md e = true → e.on ≠ i) → oi.apart ops oj = true) →
      i ∈ Region.ready md ops listed → YieldsIn P ops C oi v a →
      wpAnyL P md ops C z Q fuel (listed.setIfInBounds i true) (a.put oi.dst v) → wpAnyL P md ops C z Q (fuel + 1) listed a := by
  have hzn : ∀ listed : Array Bool, Dn md ops listed → i ∈ Region.ready md ops listed → z ∉ Region.ready md ops listed := fun listed hd hr hz => by
    have h1 := last_ready hc hd hz i hiz
    have h0 := (mem_ready.1 hr).1
    have hl : i < listed.size := by
      rcases Nat.lt_or_ge i listed.size with q | q
      · exact q
      · simp [Array.getElem?_eq_none q] at h1
    simp [hl] at h0 h1
    rw [h0] at h1
    cases h1
  intro fuel
  induction fuel with
  | zero =>
    intro listed a hd _ hr hy H
    refine ⟨fun h => (by rw [h] at hr; cases hr), fun j hj => ?_⟩
    by_cases hji : j = i
    · subst hji; exact hy.qOp hi H
    · exfalso
      have h1 := (mem_ready.1 (ready_mono hj hji)).1
      by_cases e : j = z
      · subst e; exact hzn listed hd hr hj
      · rw [H.1 j e] at h1; cases h1
  | succ fuel ih =>
    intro listed a hd hfree hr hy H
    refine ⟨fun h => (by rw [h] at hr; cases hr), fun j hj => ?_⟩
    by_cases hji : j = i
    · subst hji; exact hy.qOp hi H
    · have h1 := H.2 j (ready_mono hj hji)
      obtain ⟨hjun, oj, hoj, hall⟩ := mem_ready.1 hj
      have hnot : ∀ e ∈ oj.after, Region.binds md e = true → e.on ≠ i := fun e he hb heq => by
        have h1 := hall e he hb
        have h0 := (mem_ready.1 hr).1
        rw [heq] at h1
        rcases Nat.lt_or_ge i listed.size with h' | h'
        · simp [h'] at h0 h1; rw [h0] at h1; cases h1
        · simp [Array.getElem?_eq_none h'] at h1
      have h2 := qOp_put hoj (hfree j oj hoj hji hjun hnot) (fun cs b => hsel i oi cs b hi) (fun cs b => hsel j oj cs b hoj) hy h1
      have hfree' : ∀ k ok, ops[k]? = some ok → k ≠ i → (listed.setIfInBounds j true).getD k true = false →
          (∀ e ∈ ok.after, Region.binds md e = true → e.on ≠ i) → oi.apart ops ok = true := fun k ok hk hki hun hno => by
        refine hfree k ok hk hki ?_ hno
        by_cases hjk : j = k
        · subst hjk; exact hjun
        · rw [getD_set_ne true hjk] at hun; exact hun
      refine qOp_mono (fun a' h3 => ih (listed.setIfInBounds j true) a' (hd.set hj) hfree' (ready_mono hr (Ne.symm hji)) h3.1 ?_) h2
      rw [Array.setIfInBounds_comm _ _ hji]
      exact h3.2
theorem wpAnyL_lex {z : Nat} {Q : Act → Prop} (hc : covB md ops z = true) (hs : Region.noSelect ops = true) : ∀ (l : List Oper) (k : Nat) (listed : Array Bool) (a : Act), k + l.length = z → (∀ j, j < l.length → l[j]? = ops[k + j]?) → Dn md ops listed →
    (∀ j, j < k → listed.getD j true = true) → ops.size = z + 1 →
    Region.lexFrom md ops (l.length + 1) k listed = true → wpQuiet P ops C Q l a → wpAnyL P md ops C z Q l.length listed a
  | [], k, listed, a, hk, _, hd, hb, hz, hB, h => by
    simp only [List.length_nil, Nat.add_zero] at hk
    subst hk
    simp only [List.length_nil, Region.lexFrom, Bool.and_eq_true] at hB
    refine ⟨fun j hj => ?_, by simpa using hB.1.1, h⟩
    rcases Nat.lt_or_ge j k with q | q
    · exact hb j q
    · have : ¬ j < listed.size := by rw [hd.1]; omega
      simp [Array.getElem?_eq_none (Nat.le_of_not_lt this)]
  | o :: l, k, listed, a, hk, hl, hd, hb, hz, hB, h => by
    have h0 : ops[k]? = some o := by simpa using (hl 0 (by simp)).symm
    simp only [List.length_cons] at hB hk
    rw [Region.lexFrom] at hB
    simp only [Bool.and_eq_true] at hB
    obtain ⟨⟨hr, hf⟩, hB'⟩ := hB
    have hr' : k ∈ Region.ready md ops listed := by simpa using hr
    have hst : qOp P ops C k (wpQuiet P ops C Q l) a := by unfold qOp; simp only [h0]; exact h
    obtain ⟨v, hy, hK⟩ := yieldsIn_of_qOp h0 hst
    exact wpAnyL_first hc (by omega) h0 (Region.noSelect_spec hs) l.length listed a hd (Region.free_spec h0 hf) hr' hy
      (wpAnyL_lex hc hs l (k + 1) _ _ (by omega) (fun j hj => by have := hl (j + 1) (by simp; omega); simpa [Nat.add_assoc, Nat.add_comm 1 j] using this) (hd.set hr')
        (fun j hj => by
          by_cases e : k = j
          · subst e; exact getD_set_same
          · rw [getD_set_ne true e]; exact hb j (by omega)) hz hB' hK)
/-- the quiet ones, then the last -/
theorem wp_region_last {id : Nat} {Q : Exit → Act → World → Prop} {a : Act} {w : World} {l : List Oper} {L : List Oper} {o : Oper} (hL : L = l ++ [o]) (hm : P.follows .mixedOrders = true) (hB : Region.lexB .any L.toArray = true) (hc : covB .any L.toArray l.length = true) (hC : C w.drew)
    (h : wpQuiet P L.toArray C (fun a' => ∀ w', C w' → wpList P L.toArray Q [o] a' w') l a) : (Code.region id L.toArray true).wp P Q a w := by
  subst hL
  simp only [Region.lexB, Bool.and_eq_true] at hB
  refine wp_region_any hm ?_
  have hsz : (l ++ [o]).toArray.size = l.length + 1 := by simp
  rw [hsz]
  have hdn : Dn .any (l ++ [o]).toArray (Array.replicate (l.length + 1) false) := ⟨by simp, fun k ok hk hl => by
    have : k < l.length + 1 := by have := (Array.getElem?_eq_some_iff.1 hk).1; simpa using this
    simp [this] at hl⟩
  have hlast : ((l ++ [o]).toArray)[l.length]? = some o := by simp
  refine wpAny_of_last (z := l.length) (C := C) (Q := fun a' => ∀ w', C w' → wpList P (l ++ [o]).toArray Q [o] a' w') (fun a' w' hw' hh => ?_) l.length _ a _ hC
    (wpAnyL_lex (C := C) (md := .any) hc hB.1 l 0 _ a (by simp) (fun j hj => by simp [List.getElem?_append_left hj]) hdn (fun j hj => by omega) hsz (by have := hB.2; rwa [hsz] at this) h)
  have := hh w' hw'
  unfold wpOp
  rw [hlast]
  exact this
end
/-- at the class 'w after some draws' -/
theorem wp_region_last_dn {P : Program} {id : Nat} {Q : Exit → Act → World → Prop} {a : Act} {w : World} {l : List Oper} {L : List Oper} {o : Oper} (hL : L = l ++ [o]) (hm : P.follows .mixedOrders = true) (hB : Region.lexB .any L.toArray = true) (hc : covB .any L.toArray l.length = true)
    (h : wpQuiet P L.toArray (fun w' => ∃ n, w' = w.drewN n) (fun a' => ∀ w', (∃ n, w' = w.drewN n) → wpList P L.toArray Q [o] a' w') l a) : (Code.region id L.toArray true).wp P Q a w :=
  wp_region_last (C := fun w' => ∃ n, w' = w.drewN n) hL hm hB hc ⟨1, rfl⟩ h
theorem wp_region_last_lit {P : Program} {id : Nat} {Q : Exit → Act → World → Prop} {a : Act} {w : World} {L : List Oper} (hne : L ≠ []) (hm : P.follows .mixedOrders = true) (hB : Region.lexB .any L.toArray = true) (hc : covB .any L.toArray L.dropLast.length = true)
    (h : wpQuiet P L.toArray (fun w' => ∃ n, w' = w.drewN n) (fun a' => ∀ w', (∃ n, w' = w.drewN n) → wpList P L.toArray Q [L.getLast hne] a' w') L.dropLast a) : (Code.region id L.toArray true).wp P Q a w :=
  wp_region_last_dn (List.dropLast_concat_getLast hne).symm hm hB hc h
theorem below_dn {B : Nat} {a w : World} (h : Below B a w) (n : Nat) : Below B a (w.drewN n) := ⟨h.os, h.tape, h.output, h.size, h.block⟩
end Go.Proofs.YtooagjndelbegaaGreatDoor
namespace Go.Proofs.YtooagjndelbegaaGreatDoor
open Go.RowKit
set_option linter.unusedVariables false

/-- a hart -/
structure HV where
  x : Nat → Int
  pc : Int
  user : Bool
  on : Bool
  spie : Bool
  spp : Bool
  sum : Bool
  mxr : Bool
  resd : Bool
  stvec : Int
  sscr : Int
  sepc : Int
  scause : Int
  stval : Int
  sie : Int
  sip : Int
  satp : Int
  resv : Int
def HV.cs (h : HV) : List Value := [.int .u64 (h.x 0), .int .u64 (h.x 1), .int .u64 (h.x 2), .int .u64 (h.x 3), .int .u64 (h.x 4), .int .u64 (h.x 5), .int .u64 (h.x 6), .int .u64 (h.x 7), .int .u64 (h.x 8), .int .u64 (h.x 9), .int .u64 (h.x 10), .int .u64 (h.x 11), .int .u64 (h.x 12), .int .u64 (h.x 13), .int .u64 (h.x 14), .int .u64 (h.x 15), .int .u64 (h.x 16), .int .u64 (h.x 17), .int .u64 (h.x 18), .int .u64 (h.x 19), .int .u64 (h.x 20), .int .u64 (h.x 21), .int .u64 (h.x 22), .int .u64 (h.x 23), .int .u64 (h.x 24), .int .u64 (h.x 25), .int .u64 (h.x 26), .int .u64 (h.x 27), .int .u64 (h.x 28), .int .u64 (h.x 29), .int .u64 (h.x 30), .int .u64 (h.x 31), .int .u64 h.pc, .bool h.user, .bool h.on, .bool h.spie, .bool h.spp, .bool h.sum, .bool h.mxr, .bool h.resd, .int .u64 h.stvec, .int .u64 h.sscr, .int .u64 h.sepc, .int .u64 h.scause, .int .u64 h.stval, .int .u64 h.sie, .int .u64 h.sip, .int .u64 h.satp, .int .u64 h.resv]
def HV.ca (h : HV) : Array Value := h.cs.toArray
@[reducible] def HV.v (h : HV) : Value := .agg h.ca
def HV.zero : HV := ⟨fun _ => 0, 0, false, false, false, false, false, false, false, 0, 0, 0, 0, 0, 0, 0, 0, 0⟩
theorem z_hart : (Tryz.prog.info? 28).map (fun i => i.zero) = some (some (.agg HV.zero.ca)) := by kernel_rfl
theorem s_hart : (Tryz.prog.info? 28).map (·.size) = some 49 := by kernel_rfl
theorem ca_size (h : HV) : h.ca.size = 49 := rfl
theorem u_hart : Tryz.prog.underlying 28 = some (.struct (Tryz.prog.fieldsOf 28)) := by kernel_rfl
theorem ca_one (h : HV) : h.ca.all (·.oneCell') = true := by simp [HV.ca, HV.cs, Value.oneCell']
/-- numbers of 64 bits -/
structure HOk (h : HV) : Prop where
  x : ∀ r, 0 ≤ h.x r ∧ h.x r < 18446744073709551616
  pc : 0 ≤ h.pc ∧ h.pc < 18446744073709551616
  stvec : 0 ≤ h.stvec ∧ h.stvec < 18446744073709551616
  sscr : 0 ≤ h.sscr ∧ h.sscr < 18446744073709551616
  sepc : 0 ≤ h.sepc ∧ h.sepc < 18446744073709551616
  scause : 0 ≤ h.scause ∧ h.scause < 18446744073709551616
  stval : 0 ≤ h.stval ∧ h.stval < 18446744073709551616
  sie : 0 ≤ h.sie ∧ h.sie < 18446744073709551616
  sip : 0 ≤ h.sip ∧ h.sip < 18446744073709551616
  satp : 0 ≤ h.satp ∧ h.satp < 18446744073709551616
  resv : 0 ≤ h.resv ∧ h.resv < 18446744073709551616
def zx (x : Nat → Int) (r : Nat) : Int := if r = 0 then 0 else x r
/-- the bits of interrupts alone -/
def ib (n : Int) : Int := bits .and .u64 n 546
def ordH (h : HV) : HV := { h with x := zx h.x, pc := h.pc / 2 * 2, sepc := h.sepc / 2 * 2, stvec := h.stvec / 4 * 4 + h.stvec % 2, sie := ib h.sie, sip := ib h.sip }
theorem wpList_new {P : Program} {ops : Array Oper} {rest : List Oper} {d : Option Nat} {ty e : TypeId} {pos : String} {after : Array Edge} {Q : Exit → Act → World → Prop} {a : Act} {w : World} {z : Value} (c : Array Value) (hc : z.cells = c)
    (hz : (P.info? e).map (fun i => i.zero) = some (some z)) (h : wpList P ops Q rest (a.put d (.pointer (some ⟨w.heap.size, 0, none⟩))) (w.alloc (.cells c e))) :
    wpList P ops Q ({ dst := d, op := Op.alloc e, type := ty, pos := pos, after := after, guard := none } :: rest) a w := by
  subst hc
  refine wpList_plain rfl fun K' hK' => ?_
  have hr : (Instr.alloc e true (.tuple #[])).run P w = .ok (.pointer (some ⟨w.heap.size, 0, none⟩)) (w.alloc (.cells z.cells e)) := by
    cases hq : P.info? e with
    | none => rw [hq] at hz; cases hz
    | some i =>
      have hi : i.zero = some z := by rw [hq] at hz; simpa using hz
      simp [Instr.alloc, zeroValue, typeInfo, hq, hi, newVar, newRow]
  unfold Oper.wp
  simp [execOp, hr, Result.andThen]
  exact hK' _ _ h
/-- a frame that is not there is made -/
theorem wpL_loadH {ops : Array Oper} {rest : List Oper} {d : Option Nat} {ty : TypeId} {x : Operand} {pos : String} {after : Array Edge} {Q : Exit → Act → World → Prop} {a : Act} {w : World} (g : Nat) (hx : a.eval x = .pointer (some ⟨g, 0, none⟩)) (h : HV)
    (hg : w.heap[g]? = some (.cells h.ca 28 (0, 0))) (hK : wpList Tryz.prog ops Q rest (a.put d h.v) w) :
    wpList Tryz.prog ops Q ({ dst := d, op := Op.load 28 x, type := ty, pos := pos, after := after, guard := none } :: rest) a w :=
  wpList_load_row rfl 28 x rfl g hx 28 _ (0, 0) (.struct (Tryz.prog.fieldsOf 28)) hg u_hart rfl (by rw [s_hart]; rfl) hK
theorem wpL_storeH {ops : Array Oper} {rest : List Oper} {d : Option Nat} {ty : TypeId} {x y : Operand} {pos : String} {after : Array Edge} {Q : Exit → Act → World → Prop} {a : Act} {w : World} (g : Nat) (hx : a.eval x = .pointer (some ⟨g, 0, none⟩)) (h : HV) (hy : a.eval y = h.v) (old : Array Value)
    (hg : w.heap[g]? = some (.cells old 28 (0, 0))) (ho : old.size = 49) (hK : wpList Tryz.prog ops Q rest (a.put d undef) (w.setRow g h.ca)) :
    wpList Tryz.prog ops Q ({ dst := d, op := Op.store 28 x y, type := ty, pos := pos, after := after, guard := none } :: rest) a w :=
  wpList_store_row rfl 28 x y rfl g _ hx hy 28 old hg (by rw [s_hart]; rfl) (by rw [ho]; rfl) (ca_one h) hK
theorem heap2 (w : World) (o o' : Obj) : ((w.alloc o).alloc o').heap[w.heap.size]? = some o := by
  show ((w.heap.push o).push o')[w.heap.size]? = some o
  simp [Array.getElem?_push]
theorem heap2' (w : World) (o o' : Obj) : ((w.alloc o).alloc o').heap[w.heap.size + 1]? = some o' := by
  have := heap_alloc_new (w.alloc o) o'
  simpa using this
theorem setRow_other (w : World) (g k : Nat) (cs : Array Value) (h : k ≠ g) : (w.setRow g cs).heap[k]? = w.heap[k]? := by
  unfold World.setRow
  simp [Array.getElem?_modify, Ne.symm h]
theorem below_setRow {B : Nat} {a w : World} (h : Below B a w) {g : Nat} (hg : B ≤ g) (c : Array Value) : Below B a (w.setRow g c) :=
  ⟨h.os, h.tape, h.output, by have := h.size; simpa [World.setRow] using this, fun k hk => (setRow_other w g k c (by omega)).trans (h.block k hk)⟩
theorem below2 {w : World} (o o' : Obj) : Below w.heap.size w ((w.alloc o).alloc o') := ((Below.refl _ _).alloc (Nat.le_refl _) o).alloc (by simp) _
theorem heap_setRow (w : World) (g : Nat) (c c' : Array Value) (t : TypeId) (h : w.heap[g]? = some (.cells c t (0, 0))) : (w.setRow g c').heap[g]? = some (.cells c' t (0, 0)) := by
  unfold World.setRow
  simp [Array.getElem?_modify, h]
theorem ret_row {fn : Func} {p : Tmp} (hf : fn.results = #[.cell p 28]) {tmps : Array Value} {w : World} (g : Nat) (h : HV) (hp : tmps.getD p undef = .pointer (some ⟨g, 0, none⟩)) (hg : w.heap[g]? = some (.cells h.ca 28 (0, 0))) : (results fn tmps).run Tryz.prog w = .ok h.v w :=
  results_cell_row hf tmps w g 28 h.ca (0, 0) (.struct (Tryz.prog.fieldsOf 28)) hp hg u_hart rfl (by rw [s_hart]; rfl)
theorem ord_ca (h : HV) : (((((h.ca.setIfInBounds 0 (.int .u64 0)).setIfInBounds 32 (.int .u64 (h.pc / 2 * 2))).setIfInBounds 42 (.int .u64 (h.sepc / 2 * 2))).setIfInBounds 40 (.int .u64 (h.stvec / 4 * 4 + h.stvec % 2))).setIfInBounds 45 (.int .u64 (bits .and .u64 h.sie 546))).setIfInBounds 46 (.int .u64 (bits .and .u64 h.sip 546)) = (ordH h).ca := rfl
set_option maxHeartbeats 1000000 in
set_option maxRecDepth 100000 in
theorem r_Order (h : HV) (ok : HOk h) (w : World) : Calls Tryz.prog 38 #[h.v] w fun e w' => e = .returned (ordH h).v ∧ Below w.heap.size w w' := by
  obtain ⟨p0, p1⟩ := ok.pc
  obtain ⟨s0, s1⟩ := ok.sepc
  obtain ⟨t0, t1⟩ := ok.stvec
  clear ok
  have sz : h.ca.size = 49 := rfl
  have c32 : ∀ p : 32 < h.ca.size, h.ca[32]'p = .int .u64 h.pc := fun _ => rfl
  have c40 : ∀ p : 40 < h.ca.size, h.ca[40]'p = .int .u64 h.stvec := fun _ => rfl
  have c42 : ∀ p : 42 < h.ca.size, h.ca[42]'p = .int .u64 h.sepc := fun _ => rfl
  have c45 : ∀ p : 45 < h.ca.size, h.ca[45]'p = .int .u64 h.sie := fun _ => rfl
  have c46 : ∀ p : 46 < h.ca.size, h.ca[46]'p = .int .u64 h.sip := fun _ => rfl
  go_enter Tryz.func38, Tryz.ntmps38
  go_wp2_with (first
    | ((with_reducible refine wpList_new (z := .agg HV.zero.ca) HV.zero.ca ?_ ?_ ?_); rfl; exact z_hart)
    | ((with_reducible refine wpL_loadH (x := .tmp 1) w.heap.size ?_ (ordH h) ?_ ?_); rfl; exact (heap2 _ _ _).trans (by rw [← ord_ca]))
    | ((with_reducible refine wpL_storeH (x := .tmp 2) (y := .tmp 32) (w.heap.size + 1) ?_ (ordH h) ?_ HV.zero.ca ?_ rfl ?_); rfl; rfl; exact heap2' _ _ _))
  refine bodyPost_ret (ret_row Tryz.results38 (w.heap.size + 1) (ordH h) rfl (heap_setRow _ _ _ _ _ (heap2' _ _ _))) rfl ⟨rfl, below_setRow (below2 _ _) (by omega) _⟩
end Go.Proofs.YtooagjndelbegaaGreatDoor
namespace Go.Proofs.YtooagjndelbegaaGreatDoor
open Go.RowKit
set_option linter.unusedVariables false

theorem hid {p : Prop} (h : p) : Hid p := h
theorem row_cellH {w : World} {b : Nat} {h : HV} (hb : w.heap[b]? = some (.cells h.ca 28 (0, 0))) (k : Nat) {v : Value} (hv : h.ca[k]? = some v) : w.cell? ⟨b, k, none⟩ = some v := by
  simp [World.cell?, hb, hv]
theorem row_fz {w : World} {b : Nat} {c : Array Value} {t : TypeId} (hb : w.heap[b]? = some (.cells c t (0, 0))) (k : Nat) : w.frozen? ⟨b, k, none⟩ = false := by
  simp [World.frozen?, hb]
theorem lt_of_row {w : World} {b : Nat} {o : Obj} (h : w.heap[b]? = some o) : b < w.heap.size := by
  rcases Nat.lt_or_ge b w.heap.size with q | q
  · exact q
  · rw [Array.getElem?_eq_none q] at h; cases h
theorem bT {a b c : World} (h : Below a.heap.size a b) (k : Below b.heap.size b c) : Below a.heap.size a c := h.trans (k.mono h.size)
theorem row_set {w : World} {b : Nat} {c : Array Value} {t : TypeId} {fr : Nat × Nat} (hb : w.heap[b]? = some (.cells c t fr)) (k : Nat) (v : Value) : (w.setCell ⟨b, k, none⟩ v).heap[b]? = some (.cells (c.setIfInBounds k v) t fr) := by
  simp [World.setCell, Array.getElem?_modify, hb]
def trapO (o : HV) (cause value pc : Int) : HV := { o with sepc := o.pc, scause := cause, stval := value, spp := !o.user, spie := o.on, on := false, user := false, pc := pc }
def trapPC (o : HV) (cause : Int) : Int := if 9223372036854775808 ≤ cause ∧ o.stvec % 2 = 1 then IntKind.u64.wrap (o.stvec / 4 * 4 + IntKind.u64.wrap (4 * (cause - 9223372036854775808))) else o.stvec / 4 * 4
theorem trap_ca (o : HV) (cause value pc : Int) : ((((((((o.ca.setIfInBounds 42 (.int .u64 o.pc)).setIfInBounds 43 (.int .u64 cause)).setIfInBounds 44 (.int .u64 value)).setIfInBounds 36 (.bool (!o.user))).setIfInBounds 35 (.bool o.on)).setIfInBounds 34 (.bool false)).setIfInBounds 33 (.bool false)).setIfInBounds 32 (.int .u64 pc)) = (trapO o cause value pc).ca := by simp [HV.ca, HV.cs, trapO]
theorem and64_b (x y : Int) : 0 ≤ bits .and .u64 x y ∧ bits .and .u64 x y < 18446744073709551616 := by
  unfold bits
  have e : ∀ z : Int, IntKind.u64.wrap z = z % 18446744073709551616 := fun z => by simp [IntKind.wrap, IntKind.bits, IntKind.signed]
  rw [e]; omega
theorem ordOk {h : HV} (ok : HOk h) : HOk (ordH h) := by
  have p := ok.pc; have s := ok.sepc; have t := ok.stvec
  exact ⟨fun r => by show 0 ≤ zx h.x r ∧ zx h.x r < 18446744073709551616; unfold zx; split; omega; exact ok.x r, by show 0 ≤ h.pc / 2 * 2 ∧ h.pc / 2 * 2 < 18446744073709551616; omega, by show 0 ≤ h.stvec / 4 * 4 + h.stvec % 2 ∧ h.stvec / 4 * 4 + h.stvec % 2 < 18446744073709551616; omega, ok.sscr, by show 0 ≤ h.sepc / 2 * 2 ∧ h.sepc / 2 * 2 < 18446744073709551616; omega, ok.scause, ok.stval, and64_b _ _, and64_b _ _, ok.satp, ok.resv⟩
theorem trap_ca9 (o : HV) (cause value pc0 pc : Int) : (((((((((o.ca.setIfInBounds 42 (.int .u64 o.pc)).setIfInBounds 43 (.int .u64 cause)).setIfInBounds 44 (.int .u64 value)).setIfInBounds 36 (.bool (!o.user))).setIfInBounds 35 (.bool o.on)).setIfInBounds 34 (.bool false)).setIfInBounds 33 (.bool false)).setIfInBounds 32 (.int .u64 pc0)).setIfInBounds 32 (.int .u64 pc)) = (trapO o cause value pc).ca := by simp [HV.ca, HV.cs, trapO]
theorem wrap_b (x : Int) : 0 ≤ IntKind.u64.wrap x ∧ IntKind.u64.wrap x < 18446744073709551616 := by
  have e : IntKind.u64.wrap x = x % 18446744073709551616 := by simp [IntKind.wrap, IntKind.bits, IntKind.signed]
  rw [e]; omega
set_option maxHeartbeats 1000000 in
set_option maxRecDepth 100000 in
theorem r_Trap_c (h : HV) (ok : HOk h) (cause value : Int) (c0 : 0 ≤ cause) (c1 : cause < 9223372036854775808) (d0 : 0 ≤ value) (d1 : value < 18446744073709551616) (w : World) : Calls Tryz.prog 19 #[h.v, .int .u64 cause, .int .u64 value] w fun e w' => e = .returned (ordH (trapO (ordH h) cause value ((ordH h).stvec / 4 * 4))).v ∧ Below w.heap.size w w' := by
  have OK := hid ok
  have OO := hid (ordOk ok)
  clear ok
  go_enter Tryz.func19, Tryz.ntmps19
  go_upto_region 2 with (first
    | ((with_reducible refine wpList_new (z := .agg HV.zero.ca) HV.zero.ca ?_ ?_ ?_); rfl; exact z_hart)
    | ((with_reducible refine wpL_loadH (x := .tmp 3) w.heap.size ?_ h ?_ ?_); rfl; exact heap2 _ _ _)
    | (go_at_call 38; refine (r_Order h OK.out _).mono ?_; rintro e w1 ⟨rfl, hb⟩; have HB1 := hid hb; clear hb)
    | ((with_reducible refine wpL_storeH (x := .tmp 3) (y := .tmp 9) w.heap.size ?_ (ordH h) ?_ h.ca ?_ rfl ?_); rfl; rfl; exact (HB1.out.block _ (by simp; omega)).trans (heap2 _ _ _)))
  have HP : Hid (w1.heap[w.heap.size]? = some (.cells h.ca 28 (0, 0))) := (HB1.out.block _ (by simp; omega)).trans (heap2 _ _ _)
  have HQ : Hid (w1.heap[w.heap.size + 1]? = some (.cells HV.zero.ca 28 (0, 0))) := (HB1.out.block _ (by simp)).trans (heap2' _ _ _)
  have HB0 : Hid (Below w.heap.size w w1) := (below2 _ _).trans (HB1.out.mono (by simp; omega))
  obtain ⟨o, ho⟩ : ∃ o, o = ordH h := ⟨_, rfl⟩
  rw [← ho] at OO ⊢
  have HO := hid ho
  clear ho
  obtain ⟨wa, hwa⟩ : ∃ wa, wa = w1.setRow w.heap.size o.ca := ⟨_, rfl⟩
  have HR : Hid (wa.heap[w.heap.size]? = some (.cells o.ca 28 (0, 0))) := by show _ = _; rw [hwa]; exact heap_setRow _ _ _ _ _ HP.out
  have HZ : Hid (wa.heap[w.heap.size + 1]? = some (.cells HV.zero.ca 28 (0, 0))) := by show _ = _; rw [hwa, setRow_other _ _ _ _ (by omega)]; exact HQ.out
  have HW : Hid (Below w.heap.size w wa) := by show Below _ _ _; rw [hwa]; exact below_setRow HB0.out (Nat.le_refl _) _
  rw [← hwa]
  clear hwa HP HQ HB0 HB1
  have x32 := row_cellH HR.out 32 (v := .int .u64 o.pc) (by simp [HV.ca, HV.cs])
  have x33 := row_cellH HR.out 33 (v := .bool o.user) (by simp [HV.ca, HV.cs])
  have x34 := row_cellH HR.out 34 (v := .bool o.on) (by simp [HV.ca, HV.cs])
  have x40 := row_cellH HR.out 40 (v := .int .u64 o.stvec) (by simp [HV.ca, HV.cs])
  have x35 := row_cellH HR.out 35 (v := .bool o.spie) (by simp [HV.ca, HV.cs])
  have x36 := row_cellH HR.out 36 (v := .bool o.spp) (by simp [HV.ca, HV.cs])
  have x42 := row_cellH HR.out 42 (v := .int .u64 o.sepc) (by simp [HV.ca, HV.cs])
  have x43 := row_cellH HR.out 43 (v := .int .u64 o.scause) (by simp [HV.ca, HV.cs])
  have x44 := row_cellH HR.out 44 (v := .int .u64 o.stval) (by simp [HV.ca, HV.cs])
  have fz := row_fz HR.out
  obtain ⟨t0, t1⟩ := OO.out.stvec
  have HT : Hid (HOk (trapO o cause value (o.stvec / 4 * 4))) := by
    have := OO.out
    exact ⟨this.x, by show 0 ≤ o.stvec / 4 * 4 ∧ o.stvec / 4 * 4 < 18446744073709551616; omega, this.stvec, this.sscr, this.pc, ⟨c0, by show cause < 18446744073709551616; omega⟩, ⟨d0, d1⟩, this.sie, this.sip, this.satp, this.resv⟩
  go_wp2_with (first
    | ((with_reducible refine wpL_loadH (x := .tmp 3) w.heap.size ?_ (trapO o cause value (o.stvec / 4 * 4)) ?_ ?_); rfl; exact ((row_set (row_set (row_set (row_set (row_set (row_set (row_set (row_set HR.out 42 _) 43 _) 44 _) 36 _) 35 _) 34 _) 33 _) 32 _)).trans (by rw [← trap_ca]))
    | (go_at_call 38; refine (r_Order _ HT.out _).mono ?_; rintro e w2 ⟨rfl, hb⟩; have HB2 := hid hb; clear hb)
    | ((with_reducible refine wpL_storeH (x := .tmp 6) (y := .tmp 47) (w.heap.size + 1) ?_ (ordH (trapO o cause value (o.stvec / 4 * 4))) ?_ HV.zero.ca ?_ rfl ?_); rfl; rfl; exact (HB2.out.block _ (by have := lt_of_row HZ.out; simpa [World.setCell] using this)).trans (((Below.heap_setCell _ _ _ _ (by show w.heap.size + 1 ≠ w.heap.size; omega)).trans (((Below.heap_setCell _ _ _ _ (by show w.heap.size + 1 ≠ w.heap.size; omega)).trans (((Below.heap_setCell _ _ _ _ (by show w.heap.size + 1 ≠ w.heap.size; omega)).trans (((Below.heap_setCell _ _ _ _ (by show w.heap.size + 1 ≠ w.heap.size; omega)).trans (((Below.heap_setCell _ _ _ _ (by show w.heap.size + 1 ≠ w.heap.size; omega)).trans (((Below.heap_setCell _ _ _ _ (by show w.heap.size + 1 ≠ w.heap.size; omega)).trans (((Below.heap_setCell _ _ _ _ (by show w.heap.size + 1 ≠ w.heap.size; omega)).trans (((Below.heap_setCell _ _ _ _ (by show w.heap.size + 1 ≠ w.heap.size; omega)).trans (HZ.out)))))))))))))))))))
  have HN : w2.heap[w.heap.size + 1]? = some (.cells HV.zero.ca 28 (0, 0)) := (HB2.out.block _ (by have := lt_of_row HZ.out; simpa [World.setCell] using this)).trans (((Below.heap_setCell _ _ _ _ (by show w.heap.size + 1 ≠ w.heap.size; omega)).trans (((Below.heap_setCell _ _ _ _ (by show w.heap.size + 1 ≠ w.heap.size; omega)).trans (((Below.heap_setCell _ _ _ _ (by show w.heap.size + 1 ≠ w.heap.size; omega)).trans (((Below.heap_setCell _ _ _ _ (by show w.heap.size + 1 ≠ w.heap.size; omega)).trans (((Below.heap_setCell _ _ _ _ (by show w.heap.size + 1 ≠ w.heap.size; omega)).trans (((Below.heap_setCell _ _ _ _ (by show w.heap.size + 1 ≠ w.heap.size; omega)).trans (((Below.heap_setCell _ _ _ _ (by show w.heap.size + 1 ≠ w.heap.size; omega)).trans (((Below.heap_setCell _ _ _ _ (by show w.heap.size + 1 ≠ w.heap.size; omega)).trans (HZ.out)))))))))))))))))
  refine bodyPost_ret (ret_row Tryz.results19 (w.heap.size + 1) (ordH (trapO o cause value (o.stvec / 4 * 4))) rfl (heap_setRow _ _ _ _ _ HN)) rfl ⟨by rw [HO.out], ?_⟩
  have hs := HW.out.size
  refine below_setRow (bT ?_ HB2.out) (by omega) _
  exact ((((((((((((((((HW.out).setCell (p := ⟨w.heap.size, _, none⟩) (Nat.le_refl _) _)).setCell (p := ⟨w.heap.size, _, none⟩) (Nat.le_refl _) _)).setCell (p := ⟨w.heap.size, _, none⟩) (Nat.le_refl _) _)).setCell (p := ⟨w.heap.size, _, none⟩) (Nat.le_refl _) _)).setCell (p := ⟨w.heap.size, _, none⟩) (Nat.le_refl _) _)).setCell (p := ⟨w.heap.size, _, none⟩) (Nat.le_refl _) _)).setCell (p := ⟨w.heap.size, _, none⟩) (Nat.le_refl _) _)).setCell (p := ⟨w.heap.size, _, none⟩) (Nat.le_refl _) _)
set_option maxHeartbeats 1000000 in
set_option maxRecDepth 100000 in
theorem r_Trap_b (h : HV) (ok : HOk h) (cause value : Int) (c0 : 0 ≤ cause) (c1 : cause < 18446744073709551616) (c2 : 9223372036854775808 ≤ cause) (hs : (ordH h).stvec % 2 = 0) (d0 : 0 ≤ value) (d1 : value < 18446744073709551616) (w : World) : Calls Tryz.prog 19 #[h.v, .int .u64 cause, .int .u64 value] w fun e w' => e = .returned (ordH (trapO (ordH h) cause value ((ordH h).stvec / 4 * 4))).v ∧ Below w.heap.size w w' := by
  have OK := hid ok
  have OO := hid (ordOk ok)
  clear ok
  go_enter Tryz.func19, Tryz.ntmps19
  go_upto_region 2 with (first
    | ((with_reducible refine wpList_new (z := .agg HV.zero.ca) HV.zero.ca ?_ ?_ ?_); rfl; exact z_hart)
    | ((with_reducible refine wpL_loadH (x := .tmp 3) w.heap.size ?_ h ?_ ?_); rfl; exact heap2 _ _ _)
    | (go_at_call 38; refine (r_Order h OK.out _).mono ?_; rintro e w1 ⟨rfl, hb⟩; have HB1 := hid hb; clear hb)
    | ((with_reducible refine wpL_storeH (x := .tmp 3) (y := .tmp 9) w.heap.size ?_ (ordH h) ?_ h.ca ?_ rfl ?_); rfl; rfl; exact (HB1.out.block _ (by simp; omega)).trans (heap2 _ _ _)))
  have HP : Hid (w1.heap[w.heap.size]? = some (.cells h.ca 28 (0, 0))) := (HB1.out.block _ (by simp; omega)).trans (heap2 _ _ _)
  have HQ : Hid (w1.heap[w.heap.size + 1]? = some (.cells HV.zero.ca 28 (0, 0))) := (HB1.out.block _ (by simp)).trans (heap2' _ _ _)
  have HB0 : Hid (Below w.heap.size w w1) := (below2 _ _).trans (HB1.out.mono (by simp; omega))
  obtain ⟨o, ho⟩ : ∃ o, o = ordH h := ⟨_, rfl⟩
  rw [← ho] at OO ⊢
  have HO := hid ho
  rw [← ho] at hs
  clear ho
  obtain ⟨wa, hwa⟩ : ∃ wa, wa = w1.setRow w.heap.size o.ca := ⟨_, rfl⟩
  have HR : Hid (wa.heap[w.heap.size]? = some (.cells o.ca 28 (0, 0))) := by show _ = _; rw [hwa]; exact heap_setRow _ _ _ _ _ HP.out
  have HZ : Hid (wa.heap[w.heap.size + 1]? = some (.cells HV.zero.ca 28 (0, 0))) := by show _ = _; rw [hwa, setRow_other _ _ _ _ (by omega)]; exact HQ.out
  have HW : Hid (Below w.heap.size w wa) := by show Below _ _ _; rw [hwa]; exact below_setRow HB0.out (Nat.le_refl _) _
  rw [← hwa]
  clear hwa HP HQ HB0 HB1
  have x32 := row_cellH HR.out 32 (v := .int .u64 o.pc) (by simp [HV.ca, HV.cs])
  have x33 := row_cellH HR.out 33 (v := .bool o.user) (by simp [HV.ca, HV.cs])
  have x34 := row_cellH HR.out 34 (v := .bool o.on) (by simp [HV.ca, HV.cs])
  have x40 := row_cellH HR.out 40 (v := .int .u64 o.stvec) (by simp [HV.ca, HV.cs])
  have x35 := row_cellH HR.out 35 (v := .bool o.spie) (by simp [HV.ca, HV.cs])
  have x36 := row_cellH HR.out 36 (v := .bool o.spp) (by simp [HV.ca, HV.cs])
  have x42 := row_cellH HR.out 42 (v := .int .u64 o.sepc) (by simp [HV.ca, HV.cs])
  have x43 := row_cellH HR.out 43 (v := .int .u64 o.scause) (by simp [HV.ca, HV.cs])
  have x44 := row_cellH HR.out 44 (v := .int .u64 o.stval) (by simp [HV.ca, HV.cs])
  have fz := row_fz HR.out
  obtain ⟨t0, t1⟩ := OO.out.stvec
  have HT : Hid (HOk (trapO o cause value (o.stvec / 4 * 4))) := by
    have := OO.out
    exact ⟨this.x, by show 0 ≤ o.stvec / 4 * 4 ∧ o.stvec / 4 * 4 < 18446744073709551616; omega, this.stvec, this.sscr, this.pc, ⟨c0, by show cause < 18446744073709551616; omega⟩, ⟨d0, d1⟩, this.sie, this.sip, this.satp, this.resv⟩
  go_wp2_with (first
    | ((with_reducible refine wpL_loadH (x := .tmp 3) w.heap.size ?_ (trapO o cause value (o.stvec / 4 * 4)) ?_ ?_); rfl; exact ((row_set (row_set (row_set (row_set (row_set (row_set (row_set (row_set HR.out 42 _) 43 _) 44 _) 36 _) 35 _) 34 _) 33 _) 32 _)).trans (by rw [← trap_ca]))
    | (go_at_call 38; refine (r_Order _ HT.out _).mono ?_; rintro e w2 ⟨rfl, hb⟩; have HB2 := hid hb; clear hb)
    | ((with_reducible refine wpL_storeH (x := .tmp 6) (y := .tmp 47) (w.heap.size + 1) ?_ (ordH (trapO o cause value (o.stvec / 4 * 4))) ?_ HV.zero.ca ?_ rfl ?_); rfl; rfl; exact (HB2.out.block _ (by have := lt_of_row HZ.out; simpa [World.setCell] using this)).trans (((Below.heap_setCell _ _ _ _ (by show w.heap.size + 1 ≠ w.heap.size; omega)).trans (((Below.heap_setCell _ _ _ _ (by show w.heap.size + 1 ≠ w.heap.size; omega)).trans (((Below.heap_setCell _ _ _ _ (by show w.heap.size + 1 ≠ w.heap.size; omega)).trans (((Below.heap_setCell _ _ _ _ (by show w.heap.size + 1 ≠ w.heap.size; omega)).trans (((Below.heap_setCell _ _ _ _ (by show w.heap.size + 1 ≠ w.heap.size; omega)).trans (((Below.heap_setCell _ _ _ _ (by show w.heap.size + 1 ≠ w.heap.size; omega)).trans (((Below.heap_setCell _ _ _ _ (by show w.heap.size + 1 ≠ w.heap.size; omega)).trans (((Below.heap_setCell _ _ _ _ (by show w.heap.size + 1 ≠ w.heap.size; omega)).trans (HZ.out)))))))))))))))))))
  have HN : w2.heap[w.heap.size + 1]? = some (.cells HV.zero.ca 28 (0, 0)) := (HB2.out.block _ (by have := lt_of_row HZ.out; simpa [World.setCell] using this)).trans (((Below.heap_setCell _ _ _ _ (by show w.heap.size + 1 ≠ w.heap.size; omega)).trans (((Below.heap_setCell _ _ _ _ (by show w.heap.size + 1 ≠ w.heap.size; omega)).trans (((Below.heap_setCell _ _ _ _ (by show w.heap.size + 1 ≠ w.heap.size; omega)).trans (((Below.heap_setCell _ _ _ _ (by show w.heap.size + 1 ≠ w.heap.size; omega)).trans (((Below.heap_setCell _ _ _ _ (by show w.heap.size + 1 ≠ w.heap.size; omega)).trans (((Below.heap_setCell _ _ _ _ (by show w.heap.size + 1 ≠ w.heap.size; omega)).trans (((Below.heap_setCell _ _ _ _ (by show w.heap.size + 1 ≠ w.heap.size; omega)).trans (((Below.heap_setCell _ _ _ _ (by show w.heap.size + 1 ≠ w.heap.size; omega)).trans (HZ.out)))))))))))))))))
  refine bodyPost_ret (ret_row Tryz.results19 (w.heap.size + 1) (ordH (trapO o cause value (o.stvec / 4 * 4))) rfl (heap_setRow _ _ _ _ _ HN)) rfl ⟨by rw [HO.out], ?_⟩
  have hs := HW.out.size
  refine below_setRow (bT ?_ HB2.out) (by omega) _
  exact ((((((((((((((((HW.out).setCell (p := ⟨w.heap.size, _, none⟩) (Nat.le_refl _) _)).setCell (p := ⟨w.heap.size, _, none⟩) (Nat.le_refl _) _)).setCell (p := ⟨w.heap.size, _, none⟩) (Nat.le_refl _) _)).setCell (p := ⟨w.heap.size, _, none⟩) (Nat.le_refl _) _)).setCell (p := ⟨w.heap.size, _, none⟩) (Nat.le_refl _) _)).setCell (p := ⟨w.heap.size, _, none⟩) (Nat.le_refl _) _)).setCell (p := ⟨w.heap.size, _, none⟩) (Nat.le_refl _) _)).setCell (p := ⟨w.heap.size, _, none⟩) (Nat.le_refl _) _)
set_option maxHeartbeats 1000000 in
set_option maxRecDepth 100000 in
theorem r_Trap_a (h : HV) (ok : HOk h) (cause value : Int) (c0 : 0 ≤ cause) (c1 : cause < 18446744073709551616) (c2 : 9223372036854775808 ≤ cause) (hs : (ordH h).stvec % 2 = 1) (d0 : 0 ≤ value) (d1 : value < 18446744073709551616) (w : World) : Calls Tryz.prog 19 #[h.v, .int .u64 cause, .int .u64 value] w fun e w' => e = .returned (ordH (trapO (ordH h) cause value (IntKind.u64.wrap ((ordH h).stvec / 4 * 4 + IntKind.u64.wrap (4 * (cause - 9223372036854775808)))))).v ∧ Below w.heap.size w w' := by
  have OK := hid ok
  have OO := hid (ordOk ok)
  clear ok
  go_enter Tryz.func19, Tryz.ntmps19
  go_upto_region 2 with (first
    | ((with_reducible refine wpList_new (z := .agg HV.zero.ca) HV.zero.ca ?_ ?_ ?_); rfl; exact z_hart)
    | ((with_reducible refine wpL_loadH (x := .tmp 3) w.heap.size ?_ h ?_ ?_); rfl; exact heap2 _ _ _)
    | (go_at_call 38; refine (r_Order h OK.out _).mono ?_; rintro e w1 ⟨rfl, hb⟩; have HB1 := hid hb; clear hb)
    | ((with_reducible refine wpL_storeH (x := .tmp 3) (y := .tmp 9) w.heap.size ?_ (ordH h) ?_ h.ca ?_ rfl ?_); rfl; rfl; exact (HB1.out.block _ (by simp; omega)).trans (heap2 _ _ _)))
  have HP : Hid (w1.heap[w.heap.size]? = some (.cells h.ca 28 (0, 0))) := (HB1.out.block _ (by simp; omega)).trans (heap2 _ _ _)
  have HQ : Hid (w1.heap[w.heap.size + 1]? = some (.cells HV.zero.ca 28 (0, 0))) := (HB1.out.block _ (by simp)).trans (heap2' _ _ _)
  have HB0 : Hid (Below w.heap.size w w1) := (below2 _ _).trans (HB1.out.mono (by simp; omega))
  obtain ⟨o, ho⟩ : ∃ o, o = ordH h := ⟨_, rfl⟩
  rw [← ho] at OO ⊢
  have HO := hid ho
  rw [← ho] at hs
  clear ho
  obtain ⟨wa, hwa⟩ : ∃ wa, wa = w1.setRow w.heap.size o.ca := ⟨_, rfl⟩
  have HR : Hid (wa.heap[w.heap.size]? = some (.cells o.ca 28 (0, 0))) := by show _ = _; rw [hwa]; exact heap_setRow _ _ _ _ _ HP.out
  have HZ : Hid (wa.heap[w.heap.size + 1]? = some (.cells HV.zero.ca 28 (0, 0))) := by show _ = _; rw [hwa, setRow_other _ _ _ _ (by omega)]; exact HQ.out
  have HW : Hid (Below w.heap.size w wa) := by show Below _ _ _; rw [hwa]; exact below_setRow HB0.out (Nat.le_refl _) _
  rw [← hwa]
  clear hwa HP HQ HB0 HB1
  have x32 := row_cellH HR.out 32 (v := .int .u64 o.pc) (by simp [HV.ca, HV.cs])
  have x33 := row_cellH HR.out 33 (v := .bool o.user) (by simp [HV.ca, HV.cs])
  have x34 := row_cellH HR.out 34 (v := .bool o.on) (by simp [HV.ca, HV.cs])
  have x40 := row_cellH HR.out 40 (v := .int .u64 o.stvec) (by simp [HV.ca, HV.cs])
  have x35 := row_cellH HR.out 35 (v := .bool o.spie) (by simp [HV.ca, HV.cs])
  have x36 := row_cellH HR.out 36 (v := .bool o.spp) (by simp [HV.ca, HV.cs])
  have x42 := row_cellH HR.out 42 (v := .int .u64 o.sepc) (by simp [HV.ca, HV.cs])
  have x43 := row_cellH HR.out 43 (v := .int .u64 o.scause) (by simp [HV.ca, HV.cs])
  have x44 := row_cellH HR.out 44 (v := .int .u64 o.stval) (by simp [HV.ca, HV.cs])
  have fz := row_fz HR.out
  obtain ⟨t0, t1⟩ := OO.out.stvec
  have HT : Hid (HOk (trapO o cause value (IntKind.u64.wrap (o.stvec / 4 * 4 + IntKind.u64.wrap (4 * (cause - 9223372036854775808)))))) := by
    have := OO.out
    exact ⟨this.x, wrap_b _, this.stvec, this.sscr, this.pc, ⟨c0, by show cause < 18446744073709551616; omega⟩, ⟨d0, d1⟩, this.sie, this.sip, this.satp, this.resv⟩
  go_wp2_with (first
    | ((with_reducible refine wpL_loadH (x := .tmp 3) w.heap.size ?_ (trapO o cause value (IntKind.u64.wrap (o.stvec / 4 * 4 + IntKind.u64.wrap (4 * (cause - 9223372036854775808))))) ?_ ?_); rfl; exact ((row_set (row_set (row_set (row_set (row_set (row_set (row_set (row_set (row_set HR.out 42 _) 43 _) 44 _) 36 _) 35 _) 34 _) 33 _) 32 _) 32 _)).trans (by rw [← trap_ca9]))
    | (go_at_call 38; refine (r_Order _ HT.out _).mono ?_; rintro e w2 ⟨rfl, hb⟩; have HB2 := hid hb; clear hb)
    | ((with_reducible refine wpL_storeH (x := .tmp 6) (y := .tmp 47) (w.heap.size + 1) ?_ (ordH (trapO o cause value (IntKind.u64.wrap (o.stvec / 4 * 4 + IntKind.u64.wrap (4 * (cause - 9223372036854775808)))))) ?_ HV.zero.ca ?_ rfl ?_); rfl; rfl; exact (HB2.out.block _ (by have := lt_of_row HZ.out; simpa [World.setCell] using this)).trans (((Below.heap_setCell _ _ _ _ (by show w.heap.size + 1 ≠ w.heap.size; omega)).trans (((Below.heap_setCell _ _ _ _ (by show w.heap.size + 1 ≠ w.heap.size; omega)).trans (((Below.heap_setCell _ _ _ _ (by show w.heap.size + 1 ≠ w.heap.size; omega)).trans (((Below.heap_setCell _ _ _ _ (by show w.heap.size + 1 ≠ w.heap.size; omega)).trans (((Below.heap_setCell _ _ _ _ (by show w.heap.size + 1 ≠ w.heap.size; omega)).trans (((Below.heap_setCell _ _ _ _ (by show w.heap.size + 1 ≠ w.heap.size; omega)).trans (((Below.heap_setCell _ _ _ _ (by show w.heap.size + 1 ≠ w.heap.size; omega)).trans (((Below.heap_setCell _ _ _ _ (by show w.heap.size + 1 ≠ w.heap.size; omega)).trans (((Below.heap_setCell _ _ _ _ (by show w.heap.size + 1 ≠ w.heap.size; omega)).trans (HZ.out)))))))))))))))))))))
  have HN : w2.heap[w.heap.size + 1]? = some (.cells HV.zero.ca 28 (0, 0)) := (HB2.out.block _ (by have := lt_of_row HZ.out; simpa [World.setCell] using this)).trans (((Below.heap_setCell _ _ _ _ (by show w.heap.size + 1 ≠ w.heap.size; omega)).trans (((Below.heap_setCell _ _ _ _ (by show w.heap.size + 1 ≠ w.heap.size; omega)).trans (((Below.heap_setCell _ _ _ _ (by show w.heap.size + 1 ≠ w.heap.size; omega)).trans (((Below.heap_setCell _ _ _ _ (by show w.heap.size + 1 ≠ w.heap.size; omega)).trans (((Below.heap_setCell _ _ _ _ (by show w.heap.size + 1 ≠ w.heap.size; omega)).trans (((Below.heap_setCell _ _ _ _ (by show w.heap.size + 1 ≠ w.heap.size; omega)).trans (((Below.heap_setCell _ _ _ _ (by show w.heap.size + 1 ≠ w.heap.size; omega)).trans (((Below.heap_setCell _ _ _ _ (by show w.heap.size + 1 ≠ w.heap.size; omega)).trans (((Below.heap_setCell _ _ _ _ (by show w.heap.size + 1 ≠ w.heap.size; omega)).trans (HZ.out)))))))))))))))))))
  refine bodyPost_ret (ret_row Tryz.results19 (w.heap.size + 1) (ordH (trapO o cause value (IntKind.u64.wrap (o.stvec / 4 * 4 + IntKind.u64.wrap (4 * (cause - 9223372036854775808)))))) rfl (heap_setRow _ _ _ _ _ HN)) rfl ⟨by rw [HO.out], ?_⟩
  have hs := HW.out.size
  refine below_setRow (bT ?_ HB2.out) (by omega) _
  exact ((((((((((((((((((HW.out).setCell (p := ⟨w.heap.size, _, none⟩) (Nat.le_refl _) _)).setCell (p := ⟨w.heap.size, _, none⟩) (Nat.le_refl _) _)).setCell (p := ⟨w.heap.size, _, none⟩) (Nat.le_refl _) _)).setCell (p := ⟨w.heap.size, _, none⟩) (Nat.le_refl _) _)).setCell (p := ⟨w.heap.size, _, none⟩) (Nat.le_refl _) _)).setCell (p := ⟨w.heap.size, _, none⟩) (Nat.le_refl _) _)).setCell (p := ⟨w.heap.size, _, none⟩) (Nat.le_refl _) _)).setCell (p := ⟨w.heap.size, _, none⟩) (Nat.le_refl _) _)).setCell (p := ⟨w.heap.size, _, none⟩) (Nat.le_refl _) _)
def trapH (h : HV) (cause value : Int) : HV := ordH (trapO (ordH h) cause value (trapPC (ordH h) cause))
theorem r_Trap (h : HV) (ok : HOk h) (cause value : Int) (c0 : 0 ≤ cause) (c1 : cause < 18446744073709551616) (d0 : 0 ≤ value) (d1 : value < 18446744073709551616) (w : World) : Calls Tryz.prog 19 #[h.v, .int .u64 cause, .int .u64 value] w fun e w' => e = .returned (trapH h cause value).v ∧ Below w.heap.size w w' := by
  unfold trapH trapPC
  by_cases c2 : 9223372036854775808 ≤ cause
  · by_cases hs : (ordH h).stvec % 2 = 1
    · rw [if_pos ⟨c2, hs⟩]; exact r_Trap_a h ok cause value c0 c1 c2 hs d0 d1 w
    · rw [if_neg (fun x => hs x.2)]; exact r_Trap_b h ok cause value c0 c1 c2 (by omega) d0 d1 w
  · rw [if_neg (fun x => c2 x.1)]; exact r_Trap_c h ok cause value c0 (by omega) d0 d1 w
end Go.Proofs.YtooagjndelbegaaGreatDoor
namespace Go.Proofs.YtooagjndelbegaaGreatDoor
open Go.RowKit
set_option linter.unusedVariables false
set_option maxRecDepth 100000

theorem not1 (a : Int) (h0 : 0 ≤ a) (h1 : a < 18446744073709551616) : bits .andNot .u64 a 1 = a / 2 * 2 := by
  obtain ⟨n, rfl⟩ := Int.eq_ofNat_of_zero_le h0
  have e := u64_andNot_nat n 1 (by omega) (by omega)
  have e' : bits .andNot .u64 (n : Int) 1 = ((n &&& 18446744073709551614 : Nat) : Int) := e
  rw [e']
  have d : (n &&& 18446744073709551614) / 2 = n / 2 := by
    have := Nat.and_div_two_pow (a := n) (b := 18446744073709551614) (n := 1)
    simp only [Nat.pow_one] at this
    rw [this]
    have := Nat.and_two_pow_sub_one_eq_mod (n / 2) 63
    simp only [show (18446744073709551614 : Nat) / 2 = 2 ^ 63 - 1 by decide, this]
    omega
  have m : (n &&& 18446744073709551614) % 2 = 0 := by
    have := Nat.and_mod_two_pow (a := n) (b := 18446744073709551614) (n := 1)
    simp only [Nat.pow_one] at this
    rw [this]
    simp
  omega
theorem not2 (a : Int) (h0 : 0 ≤ a) (h1 : a < 18446744073709551616) : bits .andNot .u64 a 2 = a / 4 * 4 + a % 2 := by
  obtain ⟨n, rfl⟩ := Int.eq_ofNat_of_zero_le h0
  have e := u64_andNot_nat n 2 (by omega) (by omega)
  have e' : bits .andNot .u64 (n : Int) 2 = ((n &&& 18446744073709551613 : Nat) : Int) := e
  rw [e']
  have d : (n &&& 18446744073709551613) / 4 = n / 4 := by
    have := Nat.and_div_two_pow (a := n) (b := 18446744073709551613) (n := 2)
    simp only [show (2 : Nat) ^ 2 = 4 by decide] at this
    rw [this]
    have := Nat.and_two_pow_sub_one_eq_mod (n / 4) 62
    simp only [show (18446744073709551613 : Nat) / 4 = 2 ^ 62 - 1 by decide, this]
    omega
  have m : (n &&& 18446744073709551613) % 4 = n % 2 := by
    have := Nat.and_mod_two_pow (a := n) (b := 18446744073709551613) (n := 2)
    simp only [show (2 : Nat) ^ 2 = 4 by decide] at this
    rw [this]
    have := Nat.and_two_pow_sub_one_eq_mod (n % 4) 1
    simp only [show (18446744073709551613 : Nat) % 4 = 2 ^ 1 - 1 by decide, this]
    omega
  omega
theorem not63 (a : Int) (h0 : 0 ≤ a) (h1 : a < 18446744073709551616) : bits .andNot .u64 a 9223372036854775808 = a % 9223372036854775808 := by
  obtain ⟨n, rfl⟩ := Int.eq_ofNat_of_zero_le h0
  have e := u64_andNot_nat n 9223372036854775808 (by omega) (by omega)
  have e' : bits .andNot .u64 (n : Int) 9223372036854775808 = ((n &&& 9223372036854775807 : Nat) : Int) := e
  rw [e']
  have := Nat.and_two_pow_sub_one_eq_mod n 63
  simp only [show (2 : Nat) ^ 63 - 1 = 9223372036854775807 by decide, show (2 : Nat) ^ 63 = 9223372036854775808 by decide] at this
  rw [this]
  omega
theorem inord_ca (h : HV) (ok : HOk h) : (((((h.ca.setIfInBounds 0 (.int .u64 0)).setIfInBounds 32 (.int .u64 (bits .andNot .u64 h.pc 1))).setIfInBounds 42 (.int .u64 (bits .andNot .u64 h.sepc 1))).setIfInBounds 40 (.int .u64 (bits .andNot .u64 h.stvec 2))).setIfInBounds 45 (.int .u64 (bits .and .u64 h.sie 546))).setIfInBounds 46 (.int .u64 (bits .and .u64 h.sip 546)) = (ordH h).ca := by
  rw [not1 _ ok.pc.1 ok.pc.2, not1 _ ok.sepc.1 ok.sepc.2, not2 _ ok.stvec.1 ok.stvec.2]
  exact ord_ca h
set_option maxHeartbeats 1000000 in
theorem m_inOrder (h : HV) (ok : HOk h) (w : World) : Calls Tryz.prog 47 #[h.v] w fun e w' => e = .returned (ordH h).v ∧ Below w.heap.size w w' := by
  have HC := inord_ca h ok
  clear ok
  have sz : h.ca.size = 49 := rfl
  have c32 : ∀ p : 32 < h.ca.size, h.ca[32]'p = .int .u64 h.pc := fun _ => rfl
  have c40 : ∀ p : 40 < h.ca.size, h.ca[40]'p = .int .u64 h.stvec := fun _ => rfl
  have c42 : ∀ p : 42 < h.ca.size, h.ca[42]'p = .int .u64 h.sepc := fun _ => rfl
  have c45 : ∀ p : 45 < h.ca.size, h.ca[45]'p = .int .u64 h.sie := fun _ => rfl
  have c46 : ∀ p : 46 < h.ca.size, h.ca[46]'p = .int .u64 h.sip := fun _ => rfl
  go_enter Tryz.func47, Tryz.ntmps47
  go_wp2_with (first
    | ((with_reducible refine wpList_new (z := .agg HV.zero.ca) HV.zero.ca ?_ ?_ ?_); rfl; exact z_hart)
    | ((with_reducible refine wpL_loadH (x := .tmp 1) w.heap.size ?_ (ordH h) ?_ ?_); rfl; exact (heap2 _ _ _).trans (by rw [← HC]))
    | ((with_reducible refine wpL_storeH (x := .tmp 2) (y := .tmp 25) (w.heap.size + 1) ?_ (ordH h) ?_ HV.zero.ca ?_ rfl ?_); rfl; rfl; exact heap2' _ _ _))
  refine bodyPost_ret (ret_row Tryz.results47 (w.heap.size + 1) (ordH h) rfl (heap_setRow _ _ _ _ _ (heap2' _ _ _))) rfl ⟨rfl, below_setRow (below2 _ _) (by omega) _⟩
end Go.Proofs.YtooagjndelbegaaGreatDoor
