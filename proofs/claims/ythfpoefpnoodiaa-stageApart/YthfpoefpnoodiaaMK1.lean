/- A region that draws its order: operations that read, then one that waits for all of them, then some that wait for it. -/
import Derived.Test.YthfpoefpnoodiaaHQ
import Derived.Test.YthfpoefpnoodiaaMC4
namespace Go.Proofs.Ythfpoefpnoodiaa
open Go.RowKit
set_option linter.unusedVariables false

def Lk (n k : Nat) : Array Bool := ((List.range n).map fun j => decide (j < k)).toArray
theorem Lk_size (n k : Nat) : (Lk n k).size = n := by simp [Lk]
theorem Lk_zero (n : Nat) : Array.replicate n false = Lk n 0 := by
  apply Array.ext
  · simp [Lk]
  · intro i h1 h2; simp [Lk]
theorem Lk_get (n k j : Nat) (hj : j < n) : (Lk n k).getD j true = decide (j < k) := by simp [Lk, hj]
theorem Lk_set (n k : Nat) (hk : k < n) : (Lk n k).setIfInBounds k true = Lk n (k + 1) := by
  apply Array.ext
  · simp [Lk]
  · intro i h1 h2
    have hi : i < n := by simpa [Lk] using h2
    rw [Array.getElem_setIfInBounds]
    · split
      · rename_i e; subst e; simp [Lk]
      · rename_i e; simp [Lk]; omega
    · simpa [Lk] using hi
section
variable {P : Program} {ops : Array Oper} {md : Region.Mode} {C : World → Prop}
def wpAnyM (P : Program) (md : Region.Mode) (ops : Array Oper) (C : World → Prop) (z : Nat) (Q : Act → Prop) : Nat → Array Bool → Act → Prop
  | 0, listed, a => listed = Lk ops.size z ∧ Q a
  | fuel + 1, listed, a => Region.ready md ops listed ≠ [] ∧ ∀ i ∈ Region.ready md ops listed, qOp P ops C i (wpAnyM P md ops C z Q fuel (listed.setIfInBounds i true)) a
theorem wpAny_of_mid {z m : Nat} {Q : Act → Prop} {Q' : Exit → Act → World → Prop} (hz : Region.ready md ops (Lk ops.size z) = [z]) (hQ : ∀ a w, C w → Q a → wpOp P ops Q' z (fun a' w' => wpAny P md ops Q' m ((Lk ops.size z).setIfInBounds z true) a' w') a w) : ∀ (fuel : Nat) (listed : Array Bool) (a : Act) (w : World), C w →
    wpAnyM P md ops C z Q fuel listed a → wpAny P md ops Q' (fuel + 1 + m) listed a w
  | 0, listed, a, w, hw, h => by
    obtain ⟨rfl, h3⟩ := h
    rw [show 0 + 1 + m = m + 1 by omega]
    refine ⟨fun h0 => (by rw [hz] at h0; cases h0), fun i hi => ?_⟩
    rw [hz] at hi
    obtain rfl : i = z := by simpa using hi
    exact hQ a w hw h3
  | fuel + 1, listed, a, w, hw, h => by
    rw [show fuel + 1 + 1 + m = (fuel + 1 + m) + 1 by omega]
    exact ⟨fun h0 => absurd h0 h.1, fun i hi => wpOp_of_qOp hw (fun a' w' hw' => wpAny_of_mid hz hQ fuel _ a' w' hw') (h.2 i hi)⟩
theorem wpAnyM_first {z : Nat} {Q : Act → Prop} {i : Nat} {oi : Oper} {v : Value} (hz : Region.ready md ops (Lk ops.size z) = [z]) (hc : covB md ops z = true) (hiz : i < z) (hi : ops[i]? = some oi) (hsel : ∀ (j : Nat) (o : Oper) cs b, ops[j]? = some o → o.op ≠ .select cs b) :
    ∀ (fuel : Nat) (listed : Array Bool) (a : Act), Dn md ops listed →
      (∀ j oj, ops[j]? = some oj → j ≠ i → listed.getD j true = false → (∀ e ∈ oj.after, Region.binds md e = true → e.on ≠ i) → oi.apart ops oj = true) →
      i ∈ Region.ready md ops listed → YieldsIn P ops C oi v a →
      wpAnyM P md ops C z Q fuel (listed.setIfInBounds i true) (a.put oi.dst v) → wpAnyM P md ops C z Q (fuel + 1) listed a := by
  have hzn : ∀ listed : Array Bool, Dn md ops listed → i ∈ Region.ready md ops listed → z ∉ Region.ready md ops listed := fun listed hd hr hz => by
    have h1 := last_ready hc hd hz i hiz
    have h0 := (mem_ready.1 hr).1
    have hl : i < listed.size := by
      rcases Nat.lt_or_ge i listed.size with q | q
      · exact q
      · simp [Array.getElem?_eq_none q] at h1
    simp [hl] at h0 h1
    rw [h0] at h1
    cases h1
  intro fuel
  induction fuel with
  | zero =>
    intro listed a hd _ hr hy H
    refine ⟨fun h => (by rw [h] at hr; cases hr), fun j hj => ?_⟩
    by_cases hji : j = i
    · subst hji; exact hy.qOp hi H
    · exfalso
      have h1 := ready_mono hj hji
      rw [H.1, hz] at h1
      obtain rfl : j = z := by simpa using h1
      exact hzn listed hd hr hj
  | succ fuel ih =>
    intro listed a hd hfree hr hy H
    refine ⟨fun h => (by rw [h] at hr; cases hr), fun j hj => ?_⟩
    by_cases hji : j = i
    · subst hji; exact hy.qOp hi H
    · have h1 := H.2 j (ready_mono hj hji)
      obtain ⟨hjun, oj, hoj, hall⟩ := mem_ready.1 hj
      have hnot : ∀ e ∈ oj.after, Region.binds md e = true → e.on ≠ i := fun e he hb heq => by
        have h1 := hall e he hb
        have h0 := (mem_ready.1 hr).1
        rw [heq] at h1
        rcases Nat.lt_or_ge i listed.size with h' | h'
        · simp [h'] at h0 h1; rw [h0] at h1; cases h1
        · simp [Array.getElem?_eq_none h'] at h1
      have h2 := qOp_put hoj (hfree j oj hoj hji hjun hnot) (fun cs b => hsel i oi cs b hi) (fun cs b => hsel j oj cs b hoj) hy h1
      have hfree' : ∀ k ok, ops[k]? = some ok → k ≠ i → (listed.setIfInBounds j true).getD k true = false →
          (∀ e ∈ ok.after, Region.binds md e = true → e.on ≠ i) → oi.apart ops ok = true := fun k ok hk hki hun hno => by
        refine hfree k ok hk hki ?_ hno
        by_cases hjk : j = k
        · subst hjk; exact hjun
        · rw [getD_set_ne true hjk] at hun; exact hun
      refine qOp_mono (fun a' h3 => ih (listed.setIfInBounds j true) a' (hd.set hj) hfree' (ready_mono hr (Ne.symm hji)) h3.1 ?_) h2
      rw [Array.setIfInBounds_comm _ _ hji]
      exact h3.2
theorem wpAnyM_lex {z m : Nat} {Q : Act → Prop} (hz : Region.ready md ops (Lk ops.size z) = [z]) (hc : covB md ops z = true) (hs : Region.noSelect ops = true) (hzs : z < ops.size) : ∀ (l : List Oper) (k : Nat) (listed : Array Bool) (a : Act), k + l.length = z → (∀ j, j < l.length → l[j]? = ops[k + j]?) → Dn md ops listed →
    listed = Lk ops.size k → Region.lexFrom md ops (l.length + m) k listed = true → wpQuiet P ops C Q l a → wpAnyM P md ops C z Q l.length listed a ∧ Region.lexFrom md ops m z (Lk ops.size z) = true
  | [], k, listed, a, hk, _, hd, hb, hB, h => by
    simp only [List.length_nil, Nat.add_zero] at hk
    subst hk
    simp only [List.length_nil, Nat.zero_add] at hB
    exact ⟨⟨hb, h⟩, by rw [← hb]; exact hB⟩
  | o :: l, k, listed, a, hk, hl, hd, hb, hB, h => by
    have h0 : ops[k]? = some o := by simpa using (hl 0 (by simp)).symm
    simp only [List.length_cons] at hB hk
    rw [show l.length + 1 + m = (l.length + m) + 1 by omega, Region.lexFrom] at hB
    simp only [Bool.and_eq_true] at hB
    obtain ⟨⟨hr, hf⟩, hB'⟩ := hB
    have hr' : k ∈ Region.ready md ops listed := by simpa using hr
    have hst : qOp P ops C k (wpQuiet P ops C Q l) a := by unfold qOp; simp only [h0]; exact h
    obtain ⟨v, hy, hK⟩ := yieldsIn_of_qOp h0 hst
    have ih := wpAnyM_lex hz hc hs hzs l (k + 1) _ (a.put o.dst v) (by omega) (fun j hj => by have := hl (j + 1) (by simp; omega); simpa [Nat.add_assoc, Nat.add_comm 1 j] using this) (hd.set hr') (by rw [hb]; exact Lk_set _ _ (by omega)) hB' hK
    exact ⟨wpAnyM_first hz hc (by omega) h0 (Region.noSelect_spec hs) l.length listed a hd (Region.free_spec h0 hf) hr' hy ih.1, ih.2⟩
/-- the quiet ones, then the one that waits for them, then quiet ones again -/
theorem wp_region_mid {id : Nat} {Q : Exit → Act → World → Prop} {a : Act} {w : World} {L : List Oper} (z : Nat) (hm : P.follows .mixedOrders = true) (hB : Region.lexB .any L.toArray = true) (hc : covB .any L.toArray z = true) (hzs : z < L.length) (hz : Region.ready .any L.toArray (Lk L.length z) = [z]) (hC : C w.drew)
    (h : wpQuiet P L.toArray C (fun a' => ∀ w', C w' → wpOp P L.toArray Q z (fun a2 w2 => wpQuiet P L.toArray (fun w3 => ∃ n, w3 = w2.drewN n) (fun a3 => ∀ w3, (∃ n, w3 = w2.drewN n) → Q .normal a3 w3) (L.drop (z + 1)) a2) a' w') (L.take z) a) : (Code.region id L.toArray true).wp P Q a w := by
  simp only [Region.lexB, Bool.and_eq_true] at hB
  have hsz : L.toArray.size = L.length := by simp
  rw [hsz] at hB
  have hzz : Region.ready .any L.toArray (Lk L.toArray.size z) = [z] := by rw [hsz]; exact hz
  refine wp_region_any hm ?_
  rw [hsz]
  have hdn : Dn .any L.toArray (Array.replicate L.length false) := ⟨by simp, fun k ok hk hl => by
    have : k < L.length := by have := (Array.getElem?_eq_some_iff.1 hk).1; simpa using this
    simp [this] at hl⟩
  have hlen : (L.take z).length = z := by simp; omega
  have hlex := wpAnyM_lex (P := P) (C := C) (m := L.length - z) hzz hc hB.1 (by rw [hsz]; exact hzs) (L.take z) 0 _ a (by omega) (fun j hj => by rw [hlen] at hj; simp [hj]) hdn (by rw [hsz]; exact Lk_zero _) (by rw [hlen, show z + (L.length - z) = L.length by omega]; exact hB.2) h
  obtain ⟨h1, h2⟩ := hlex
  rw [hlen] at h1
  rw [show L.length - z = (L.length - z - 1) + 1 by omega, Region.lexFrom] at h2
  simp only [Bool.and_eq_true] at h2
  have h3 := wpAny_of_mid (m := L.length - z - 1) hzz (fun a' w' hw' hh => wpOp_mono (fun a2 w2 hq => ?_) (hh w' hw')) z _ a _ hC h1
  · rw [show z + 1 + (L.length - z - 1) = L.length by omega] at h3
    exact h3
  · refine wpAny_of_quiet (C := fun w3 => ∃ n, w3 = w2.drewN n) (Q := fun a3 => ∀ w3, (∃ n, w3 = w2.drewN n) → Q .normal a3 w3) (fun _ w3 hw3 hx => hx w3 hw3) _ _ _ _ ⟨0, rfl⟩ ?_
    have := wpAnyQ_lex (C := fun w3 => ∃ n, w3 = w2.drewN n) (md := .any) hB.1 (L.drop (z + 1)) (z + 1) _ a2 (fun j => by simp) (by rw [show (L.drop (z + 1)).length = L.length - z - 1 by simp; omega]; exact h2.2) hq
    rwa [show (L.drop (z + 1)).length = L.length - z - 1 by simp; omega] at this
end
theorem wp_region_mid_dn {P : Program} {id : Nat} {Q : Exit → Act → World → Prop} {a : Act} {w : World} {L : List Oper} (z : Nat) (hm : P.follows .mixedOrders = true) (hB : Region.lexB .any L.toArray = true) (hc : covB .any L.toArray z = true) (hzs : z < L.length) (hz : Region.ready .any L.toArray (Lk L.length z) = [z])
    (h : wpQuiet P L.toArray (fun w' => ∃ n, w' = w.drewN n) (fun a' => ∀ w', (∃ n, w' = w.drewN n) → wpOp P L.toArray Q z (fun a2 w2 => wpQuiet P L.toArray (fun w3 => ∃ n, w3 = w2.drewN n) (fun a3 => ∀ w3, (∃ n, w3 = w2.drewN n) → Q .normal a3 w3) (L.drop (z + 1)) a2) a' w') (L.take z) a) : (Code.region id L.toArray true).wp P Q a w :=
  wp_region_mid (C := fun w' => ∃ n, w' = w.drewN n) z hm hB hc hzs hz ⟨1, rfl⟩ h
end Go.Proofs.Ythfpoefpnoodiaa
namespace Go.Proofs.Ythfpoefpnoodiaa.C
open Go.RowKit
set_option linter.unusedVariables false
set_option maxRecDepth 100000

/-- entries as they are read in a memory of n frames from bs on -/
def rdmB (bs : Int) (n : Nat) (f : Nat → Int) (a : Int) : Int × Int := if bs ≤ a ∧ a + 8 ≤ bs + 4096 * n then (nu (fun j => f ((a - bs).toNat + j)) 8, 0) else (0, 3)
theorem c_Read8B (bs : Int) (w : World) (S : Nat → Prop) (p n : Nat) (f : Nat → Int) (h : Mem w S p bs n f) (a : Int) (a0 : 0 ≤ a) (a1 : a < 18446744073709551616) (v : Int) (ok : Bool) (hv : (rdmB bs n f a).1 = v) (ho : decide ((rdmB bs n f a).2 = 0) = ok) :
    Calls Try.prog 54 #[.pointer (some ⟨p, 0, none⟩), .int .u64 a, .int .i64 8] w fun e w' => e = .returned (.tuple #[.int .u64 v, .bool ok]) ∧ Below w.heap.size w w' := by
  subst hv ho
  by_cases q : bs ≤ a ∧ a + 8 ≤ bs + 4096 * n
  · have hr : rdmB bs n f a = (nu (fun j => f ((a - bs).toNat + j)) 8, 0) := by unfold rdmB; rw [if_pos q]
    rw [hr]
    exact c_Read w S p bs n f h (a - bs).toNat 8 (by omega) (by decide) a (by omega)
  · have hr : rdmB bs n f a = (0, 3) := by unfold rdmB; rw [if_neg q]
    rw [hr]
    exact (c_Read_bad w S p bs n f h a 8 a0 a1 (by decide) (by decide) (by simp [hasB]; omega)).mono fun e w' hh => ⟨hh.1, hh.2.below _⟩
theorem c_loadWB (bs : Int) (w : World) (b : Nat) (ty : TypeId) (tail : List Value) (p : Nat) (addr table level wrong leaf : Int) (h : WK w b ty tail p addr table level wrong leaf)
    (S : Nat → Prop) (n : Nat) (f : Nat → Int) (hm : Mem w S p bs n f) (a : Int) (a0 : 0 ≤ a) (a1 : a < 18446744073709551616) :
    Calls Try.prog 154 #[.pointer (some ⟨b, 0, none⟩), .int .u64 a] w fun e w' => e = .returned (.tuple #[.int .u64 (rdmB bs n f a).1, .int .i64 (rdmB bs n f a).2]) ∧ Below w.heap.size w w' := by
  have c0 := h.c0
  have HM := hid hm
  clear h hm
  go_enter Try.func154, Try.ntmps154
  by_cases q : bs ≤ a ∧ a + 8 ≤ bs + 4096 * n
  · have hr : rdmB bs n f a = (nu (fun j => f ((a - bs).toNat + j)) 8, 0) := by unfold rdmB; rw [if_pos q]
    go_wp2_with (go_at_call 54; refine (c_Read8B bs w S p n f HM.out a a0 a1 (rdmB bs n f a).1 true rfl (by rw [hr]; rfl)).mono ?_; rintro e w1 ⟨rfl, hb⟩; have HB := hid hb; clear hb)
    go_ret2
    rw [hr]
    exact ⟨rfl, HB.out⟩
  · have hr : rdmB bs n f a = (0, 3) := by unfold rdmB; rw [if_neg q]
    go_wp2_with (go_at_call 54; refine (c_Read8B bs w S p n f HM.out a a0 a1 (rdmB bs n f a).1 false rfl (by rw [hr]; rfl)).mono ?_; rintro e w1 ⟨rfl, hb⟩; have HB := hid hb; clear hb)
    go_ret2
    rw [hr]
    exact ⟨rfl, HB.out⟩
theorem rdmB_ok (bs : Int) (n : Nat) (f : Nat → Int) (hf : ∀ j, 0 ≤ f j ∧ f j < 256) : RdOk (rdmB bs n f) := by
  intro a
  unfold rdmB
  split
  · have := nu_lt (fun j => f ((a - bs).toNat + j)) (fun j => hf _) 8
    exact ⟨⟨this.1, this.2⟩, .inl rfl⟩
  · exact ⟨⟨by decide, by decide⟩, .inr (.inr rfl)⟩
set_option maxRecDepth 100000 in
theorem c_find2B (bs : Int) (w : World) (S : Nat → Prop) (p n : Nat) (f : Nat → Int) (hm : Mem w S p bs n f) (b : Nat) (addr root acc : Int) (a0 : 0 ≤ addr) (a1 : addr < 549755813888) (s0 : 0 ≤ root) (s1 : root < 18446744073709551616)
    (h : WK w b 230 [] p addr root 0 2 0) :
    Calls Try.prog 137 #[.pointer (some ⟨b, 0, none⟩), .int .i64 acc] w fun r w' => r = .returned (.int .i64 (fd2 (D (rdmB bs n f) addr 2 2 root) acc)) ∧
      WK w' b 230 [] p addr (D (rdmB bs n f) addr 2 2 root).table (D (rdmB bs n f) addr 2 2 root).level 2 (D (rdmB bs n f) addr 2 2 root).leaf ∧ Only (· = b) w w' := by
  have c1 := h.c1
  have HM := hid hm
  have HW := hid h
  have hnS : ¬ S b := hm.typ h (by decide) (by decide) (by decide)
  have hRd := rdmB_ok bs n f hm.byt
  have hq := D_ok hRd addr 2 2 root (by decide) s0 s1
  obtain ⟨r, hr⟩ : ∃ r, D (rdmB bs n f) addr 2 2 root = r := ⟨_, rfl⟩
  have HR := hid hr
  rw [hr]
  rw [hr] at hq
  have HQ := hid hq
  have hd : addr / 549755813888 = 0 := by omega
  clear h hm hr hq
  go_enter Try.func137, Try.ntmps137
  go_wp2_with fail
  go_region_law (refine step_call rfl 153 (.tmp 20) (.tmp 24) _ _ rfl (.pointer (some ⟨b, 0, none⟩)) (.func (.func 154) #[.pointer (some ⟨b, 0, none⟩)] #[]) (by go_simp) (by go_simp) (Try.call153 _ _) (c_down2 w.drew b 230 [] p addr root 0 2 a0 (by omega) s0 s1 HW.out (rdmB bs n f) (fun a => (hRd a).1) (fun w1 t k hw1 ho1 a q0 q1 => c_loadWB bs w1 b 230 [] p addr t k 2 0 hw1 S n f (HM.out.only (T := (· = b)) ((Only.refl w).drew.trans ho1) (fun j hj q => hnS (q ▸ hj))) a q0 q1)) ?_; rintro e w1 ⟨rfl, hw1, ho1⟩; rw [HR.out] at hw1; rw [HR.out]; have HW1 := hid hw1; have HO1 : Hid (Only (· = b) w w1) := (Only.refl w).drew.trans ho1; have c4 := hw1.c4; clear hw1 ho1; refine ⟨_, rfl, ?_⟩)
  go_wp2_with (first
    | (go_at_call 155; refine (c_allows2 w1 b _ _ p _ _ _ _ _ acc HW1.out HQ.out.leaf0 (by have := HQ.out.leaf1; omega)).mono ?_; rintro e w2 ⟨rfl, hw2⟩; obtain rfl := hw2.symm))
  · go_ret
    have g := ‹(r.fault != 0) = true›
    exact ⟨ret_int (by unfold fd2; rw [if_pos (by simpa using g)]), HW1.out, HO1.out⟩
  · go_ret
    have g := ‹(r.fault != 0) = false›
    have g2 := ‹(!al r.leaf acc) = true›
    exact ⟨ret_int (by unfold fd2; rw [if_neg (by simpa using g), if_neg (by simpa using g2)]), HW1.out, HO1.out⟩
  · go_ret
    have g := ‹(r.fault != 0) = false›
    have g2 := ‹(!al r.leaf acc) = false›
    exact ⟨ret_int (by unfold fd2; rw [if_neg (by simpa using g), if_pos (by simpa using g2)]), HW1.out, HO1.out⟩
set_option maxRecDepth 100000 in
theorem c_SecondB (bs : Int) (w : World) (S : Nat → Prop) (p n : Nat) (f : Nat → Int) (hm : Mem w S p bs n f) (root gpa acc : Int) (s0 : 0 ≤ root) (s1 : root < 18446744073709551616) (a0 : 0 ≤ gpa) (a1 : gpa < 18446744073709551616) (h0 : ¬ root = 0) (x y z : Int) (hg : gst (rdmB bs n f) root gpa acc = (x, y, z)) :
    Calls Try.prog 97 #[.pointer (some ⟨p, 0, none⟩), .int .u64 root, .int .u64 gpa, .int .i64 acc] w fun r w' => r = .returned (.tuple #[.int .u64 x, .int .i64 y, .int .i64 z]) ∧ Below w.heap.size w w' := by
  have HM := hid hm
  have hRd := rdmB_ok bs n f hm.byt
  clear hm
  unfold gst at hg
  go_enter Try.func97, Try.ntmps97
  rw [if_neg h0] at hg
  by_cases h1 : 549755813888 ≤ gpa
  · rw [if_pos h1] at hg
    cases hg
    go_wp2_with (first
      | (go_at_call 136; refine (c_newSecond _ p root gpa).mono ?_; rintro e w1 ⟨rfl, hb1⟩; have HB1 := hid hb1; clear hb1)
      | (go_at_call 137; refine (c_find2_high _ p _ gpa root acc h1 a1 (heap_alloc_new w1 _)).mono ?_; rintro e w2 ⟨rfl, hw2⟩; obtain rfl := hw2.symm))
    go_ret3
    exact ⟨rfl, HB1.out.alloc HB1.out.size _⟩
  · rw [if_neg h1] at hg
    have hq := D_ok hRd gpa 2 2 root (by decide) s0 s1
    obtain ⟨r, hr⟩ : ∃ r, D (rdmB bs n f) gpa 2 2 root = r := ⟨_, rfl⟩
    rw [hr] at hg hq
    have HR := hid hr
    have HQ := hid hq
    have HG := hid hg
    have HF : Hid (fd2 r acc = z ∧ (z ≠ 0 → x = 0 ∧ y = 0) ∧ (z = 0 → x = plc r gpa ∧ y = pm r.leaf)) := by
      show _ ∧ _
      by_cases g1 : r.fault = 0
      · rw [if_neg (by rw [g1]; decide)] at hg
        cases g2 : al r.leaf acc
        · rw [g2, if_neg (by decide)] at hg
          cases hg
          exact ⟨by unfold fd2; rw [if_neg (by rw [g1]; decide), g2, if_neg (by decide)], fun _ => ⟨rfl, rfl⟩, fun q => absurd q (by decide)⟩
        · rw [g2, if_pos rfl] at hg
          cases hg
          exact ⟨by unfold fd2; rw [if_neg (by rw [g1]; decide), g2, if_pos rfl], fun q => absurd rfl q, fun _ => ⟨rfl, rfl⟩⟩
      · rw [if_pos g1] at hg
        cases hg
        exact ⟨by unfold fd2; rw [if_pos g1], fun _ => ⟨rfl, rfl⟩, fun q => absurd q g1⟩
    clear hr hq hg
    by_cases hz : z = 0
    · subst hz
      go_wp2_with (first
        | (go_at_call 136; refine (c_newSecond _ p root gpa).mono ?_; rintro e w1 ⟨rfl, hb1⟩; have HB1 := hid hb1; clear hb1)
        | (go_at_call 137; refine (c_find2B bs _ S p n f (Mem.below (Mem.below HM.out HB1.out) ((Below.refl _ _).alloc (Nat.le_refl _) _)) w1.heap.size gpa root acc a0 (by omega) s0 s1 (heap_alloc_new w1 _)).mono ?_; rintro e w2 ⟨rfl, hw2, ho2⟩; rw [HR.out] at hw2; rw [HR.out, HF.out.1]; have c5 := hw2.c5; have HW2 := hid hw2; have HO2 := hid ho2; clear hw2 ho2))
      go_quiet (first
        | (go_at_call 138; exact Calls.quiet_of (c_place4 _ _ _ _ p gpa _ _ _ _ HQ.out.lev (HW2.out.drewN _) HQ.out.leaf0 HQ.out.leaf1 a0 a1))
        | (go_at_call 139; exact Calls.quiet_of_same (c_perm r.leaf HQ.out.leaf0 (by have := HQ.out.leaf1; omega) _)))
      go_wp2
      go_ret3
      obtain ⟨rfl, rfl⟩ := HF.out.2.2 trivial
      exact ⟨rfl, (HB1.out.alloc HB1.out.size _).trans ((HO2.out.drewN _).below _ (by have := HB1.out.size; simp; omega) (by rintro k rfl; exact HB1.out.size))⟩
    · go_wp2_with (first
        | (go_at_call 136; refine (c_newSecond _ p root gpa).mono ?_; rintro e w1 ⟨rfl, hb1⟩; have HB1 := hid hb1; clear hb1)
        | (go_at_call 137; refine (c_find2B bs _ S p n f (Mem.below (Mem.below HM.out HB1.out) ((Below.refl _ _).alloc (Nat.le_refl _) _)) w1.heap.size gpa root acc a0 (by omega) s0 s1 (heap_alloc_new w1 _)).mono ?_; rintro e w2 ⟨rfl, hw2, ho2⟩; rw [HR.out, HF.out.1]; have HO2 := hid ho2; clear hw2 ho2))
      go_ret3
      obtain ⟨rfl, rfl⟩ := HF.out.2.1 hz
      exact ⟨rfl, (HB1.out.alloc HB1.out.size _).trans (HO2.out.below _ (by have := HB1.out.size; simp; omega) (by rintro k rfl; exact HB1.out.size))⟩
theorem c_GuestB (bs : Int) (w : World) (S : Nat → Prop) (p n : Nat) (f : Nat → Int) (hm : Mem w S p bs n f) (root gpa acc : Int) (s0 : 0 ≤ root) (s1 : root < 18446744073709551616) (a0 : 0 ≤ gpa) (a1 : gpa < 18446744073709551616) (x y z : Int) (hg : gst (rdmB bs n f) root gpa acc = (x, y, z)) :
    Calls Try.prog 29 #[.pointer (some ⟨p, 0, none⟩), .int .u64 root, .int .u64 gpa, .int .i64 acc] w fun r w' => r = .returned (.tuple #[.int .u64 x, .int .i64 y, .int .i64 z]) ∧ Below w.heap.size w w' := by
  have HM := hid hm
  clear hm
  go_enter Try.func29, Try.ntmps29
  by_cases h0 : root = 0
  · unfold gst at hg
    rw [if_pos h0] at hg
    cases hg
    go_wp2
    go_ret3
    exact ⟨rfl, Below.refl _ _⟩
  · have HG := hid hg
    clear hg
    go_wp2_with (first
      | (go_at_call 97; refine (c_SecondB bs _ S p n f HM.out root gpa acc s0 s1 a0 a1 h0 x y z HG.out).mono ?_; rintro e w1 ⟨rfl, hb1⟩; have HB1 := hid hb1; clear hb1))
    go_ret3
    exact ⟨rfl, HB1.out⟩
end Go.Proofs.Ythfpoefpnoodiaa.C
