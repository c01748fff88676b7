/- A region that draws its order: operations that read, then one that waits for all of them, then some that wait for it. -/
import Derived.Test.YtgebjfkmiaobgaaHQ
import Derived.Test.YtgebjfkmiaobgaaMH1
import Derived.ScopeJumps
import Derived.WalkMore
import Derived.Test.YtgebjfkmiaobgaaMC5
import Derived.Deep.QuietTactic
namespace Go.Proofs.Ytgebjfkmiaobgaa
open Go.RowKit
set_option linter.unusedVariables false

def Lk (n k : Nat) : Array Bool := ((List.range n).map fun j => decide (j < k)).toArray
theorem Lk_size (n k : Nat) : (Lk n k).size = n := by simp [Lk]
theorem Lk_zero (n : Nat) : Array.replicate n false = Lk n 0 := by
  apply Array.ext
  · simp [Lk]
  · intro i h1 h2; simp [Lk]
theorem Lk_get (n k j : Nat) (hj : j < n) : (Lk n k).getD j true = decide (j < k) := by simp [Lk, hj]
theorem Lk_set (n k : Nat) (hk : k < n) : (Lk n k).setIfInBounds k true = Lk n (k + 1) := by
  apply Array.ext
  · simp [Lk]
  · intro i h1 h2
    have hi : i < n := by simpa [Lk] using h2
    rw [Array.getElem_setIfInBounds]
    · split
      · rename_i e; subst e; simp [Lk]
      · rename_i e; simp [Lk]; omega
    · simpa [Lk] using hi
section
variable {P : Program} {ops : Array Oper} {md : Region.Mode} {C : World → Prop}
def wpAnyM (P : Program) (md : Region.Mode) (ops : Array Oper) (C : World → Prop) (z : Nat) (Q : Act → Prop) : Nat → Array Bool → Act → Prop
  | 0, listed, a => listed = Lk ops.size z ∧ Q a
  | fuel + 1, listed, a => Region.ready md ops listed ≠ [] ∧ ∀ i ∈ Region.ready md ops listed, qOp P ops C i (wpAnyM P md ops C z Q fuel (listed.setIfInBounds i true)) a
theorem wpAny_of_mid {z m : Nat} {Q : Act → Prop} {Q' : Exit → Act → World → Prop} (hz : Region.ready md ops (Lk ops.size z) = [z]) (hQ : ∀ a w, C w → Q a → wpOp P ops Q' z (fun a' w' => wpAny P md ops Q' m ((Lk ops.size z).setIfInBounds z true) a' w') a w) : ∀ (fuel : Nat) (listed : Array Bool) (a : Act) (w : World), C w →
    wpAnyM P md ops C z Q fuel listed a → wpAny P md ops Q' (fuel + 1 + m) listed a w
  | 0, listed, a, w, hw, h => by
    obtain ⟨rfl, h3⟩ := h
    rw [show 0 + 1 + m = m + 1 by omega]
    refine ⟨fun h0 => (by rw [hz] at h0; cases h0), fun i hi => ?_⟩
    rw [hz] at hi
    obtain rfl : i = z := by simpa using hi
    exact hQ a w hw h3
  | fuel + 1, listed, a, w, hw, h => by
    rw [show fuel + 1 + 1 + m = (fuel + 1 + m) + 1 by omega]
    exact ⟨fun h0 => absurd h0 h.1, fun i hi => wpOp_of_qOp hw (fun a' w' hw' => wpAny_of_mid hz hQ fuel _ a' w' hw') (h.2 i hi)⟩
theorem wpAnyM_first {z : Nat} {Q : Act → Prop} {i : Nat} {oi : Oper} {v : Value} (hz : Region.ready md ops (Lk ops.size z) = [z]) (hc : covB md ops z = true) (hiz : i < z) (hi : ops[i]? = some oi) (hsel : ∀ (j : Nat) (o : Oper) cs b, ops[j]? = some o → o.op ≠ .select cs b) :
    ∀ (fuel : Nat) (listed : Array Bool) (a : Act), Dn md ops listed →
      (∀ j oj, ops[j]? = some oj → j ≠ i → listed.getD j true = false → (∀ e ∈ oj.after, Region.binds md e = true → e.on ≠ i) → oi.apart ops oj = true) →
      i ∈ Region.ready md ops listed → YieldsIn P ops C oi v a →
      wpAnyM P md ops C z Q fuel (listed.setIfInBounds i true) (a.put oi.dst v) → wpAnyM P md ops C z Q (fuel + 1) listed a := by
  have hzn : ∀ listed : Array Bool, Dn md ops listed → i ∈ Region.ready md ops listed → z ∉ Region.ready md ops listed := fun listed hd hr hz => by
    have h1 := last_ready hc hd hz i hiz
    have h0 := (mem_ready.1 hr).1
    have hl : i < listed.size := by
      rcases Nat.lt_or_ge i listed.size with q | q
      · exact q
      · simp [Array.getElem?_eq_none q] at h1
    simp [hl] at h0 h1
    rw [h0] at h1
    cases h1
  intro fuel
  induction fuel with
  | zero =>
    intro listed a hd _ hr hy H
    refine ⟨fun h => (by rw [h] at hr; cases hr), fun j hj => ?_⟩
    by_cases hji : j = i
    · subst hji; exact hy.qOp hi H
    · exfalso
      have h1 := ready_mono hj hji
      rw [H.1, hz] at h1
      obtain rfl : j = z := by simpa using h1
      exact hzn listed hd hr hj
  | succ fuel ih =>
    intro listed a hd hfree hr hy H
    refine ⟨fun h => (by rw [h] at hr; cases hr), fun j hj => ?_⟩
    by_cases hji : j = i
    · subst hji; exact hy.qOp hi H
    · have h1 := H.2 j (ready_mono hj hji)
      obtain ⟨hjun, oj, hoj, hall⟩ := mem_ready.1 hj
      have hnot : ∀ e ∈ oj.after, Region.binds md e = true → e.on ≠ i := fun e he hb heq => by
        have h1 := hall e he hb
        have h0 := (mem_ready.1 hr).1
        rw [heq] at h1
        rcases Nat.lt_or_ge i listed.size with h' | h'
        · simp [h'] at h0 h1; rw [h0] at h1; cases h1
        · simp [Array.getElem?_eq_none h'] at h1
      have h2 := qOp_put hoj (hfree j oj hoj hji hjun hnot) (fun cs b => hsel i oi cs b hi) (fun cs b => hsel j oj cs b hoj) hy h1
      have hfree' : ∀ k ok, ops[k]? = some ok → k ≠ i → (listed.setIfInBounds j true).getD k true = false →
          (∀ e ∈ ok.after, Region.binds md e = true → e.on ≠ i) → oi.apart ops ok = true := fun k ok hk hki hun hno => by
        refine hfree k ok hk hki ?_ hno
        by_cases hjk : j = k
        · subst hjk; exact hjun
        · rw [getD_set_ne true hjk] at hun; exact hun
      refine qOp_mono (fun a' h3 => ih (listed.setIfInBounds j true) a' (hd.set hj) hfree' (ready_mono hr (Ne.symm hji)) h3.1 ?_) h2
      rw [Array.setIfInBounds_comm _ _ hji]
      exact h3.2
theorem wpAnyM_lex {z m : Nat} {Q : Act → Prop} (hz : Region.ready md ops (Lk ops.size z) = [z]) (hc : covB md ops z = true) (hs : Region.noSelect ops = true) (hzs : z < ops.size) : ∀ (l : List Oper) (k : Nat) (listed : Array Bool) (a : Act), k + l.length = z → (∀ j, j < l.length → l[j]? = ops[k + j]?) → Dn md ops listed →
    listed = Lk ops.size k → Region.lexFrom md ops (l.length + m) k listed = true → wpQuiet P ops C Q l a → wpAnyM P md ops C z Q l.length listed a ∧ Region.lexFrom md ops m z (Lk ops.size z) = true
  | [], k, listed, a, hk, _, hd, hb, hB, h => by
    simp only [List.length_nil, Nat.add_zero] at hk
    subst hk
    simp only [List.length_nil, Nat.zero_add] at hB
    exact ⟨⟨hb, h⟩, by rw [← hb]; exact hB⟩
  | o :: l, k, listed, a, hk, hl, hd, hb, hB, h => by
    have h0 : ops[k]? = some o := by simpa using (hl 0 (by simp)).symm
    simp only [List.length_cons] at hB hk
    rw [show l.length + 1 + m = (l.length + m) + 1 by omega, Region.lexFrom] at hB
    simp only [Bool.and_eq_true] at hB
    obtain ⟨⟨hr, hf⟩, hB'⟩ := hB
    have hr' : k ∈ Region.ready md ops listed := by simpa using hr
    have hst : qOp P ops C k (wpQuiet P ops C Q l) a := by unfold qOp; simp only [h0]; exact h
    obtain ⟨v, hy, hK⟩ := yieldsIn_of_qOp h0 hst
    have ih := wpAnyM_lex hz hc hs hzs l (k + 1) _ (a.put o.dst v) (by omega) (fun j hj => by have := hl (j + 1) (by simp; omega); simpa [Nat.add_assoc, Nat.add_comm 1 j] using this) (hd.set hr') (by rw [hb]; exact Lk_set _ _ (by omega)) hB' hK
    exact ⟨wpAnyM_first hz hc (by omega) h0 (Region.noSelect_spec hs) l.length listed a hd (Region.free_spec h0 hf) hr' hy ih.1, ih.2⟩
/-- the quiet ones, then the one that waits for them, then quiet ones again -/
theorem wp_region_mid {id : Nat} {Q : Exit → Act → World → Prop} {a : Act} {w : World} {L : List Oper} (z : Nat) (hm : P.follows .mixedOrders = true) (hB : Region.lexB .any L.toArray = true) (hc : covB .any L.toArray z = true) (hzs : z < L.length) (hz : Region.ready .any L.toArray (Lk L.length z) = [z]) (hC : C w.drew)
    (h : wpQuiet P L.toArray C (fun a' => ∀ w', C w' → wpOp P L.toArray Q z (fun a2 w2 => wpQuiet P L.toArray (fun w3 => ∃ n, w3 = w2.drewN n) (fun a3 => ∀ w3, (∃ n, w3 = w2.drewN n) → Q .normal a3 w3) (L.drop (z + 1)) a2) a' w') (L.take z) a) : (Code.region id L.toArray true).wp P Q a w := by
  simp only [Region.lexB, Bool.and_eq_true] at hB
  have hsz : L.toArray.size = L.length := by simp
  rw [hsz] at hB
  have hzz : Region.ready .any L.toArray (Lk L.toArray.size z) = [z] := by rw [hsz]; exact hz
  refine wp_region_any hm ?_
  rw [hsz]
  have hdn : Dn .any L.toArray (Array.replicate L.length false) := ⟨by simp, fun k ok hk hl => by
    have : k < L.length := by have := (Array.getElem?_eq_some_iff.1 hk).1; simpa using this
    simp [this] at hl⟩
  have hlen : (L.take z).length = z := by simp; omega
  have hlex := wpAnyM_lex (P := P) (C := C) (m := L.length - z) hzz hc hB.1 (by rw [hsz]; exact hzs) (L.take z) 0 _ a (by omega) (fun j hj => by rw [hlen] at hj; simp [hj]) hdn (by rw [hsz]; exact Lk_zero _) (by rw [hlen, show z + (L.length - z) = L.length by omega]; exact hB.2) h
  obtain ⟨h1, h2⟩ := hlex
  rw [hlen] at h1
  rw [show L.length - z = (L.length - z - 1) + 1 by omega, Region.lexFrom] at h2
  simp only [Bool.and_eq_true] at h2
  have h3 := wpAny_of_mid (m := L.length - z - 1) hzz (fun a' w' hw' hh => wpOp_mono (fun a2 w2 hq => ?_) (hh w' hw')) z _ a _ hC h1
  · rw [show z + 1 + (L.length - z - 1) = L.length by omega] at h3
    exact h3
  · refine wpAny_of_quiet (C := fun w3 => ∃ n, w3 = w2.drewN n) (Q := fun a3 => ∀ w3, (∃ n, w3 = w2.drewN n) → Q .normal a3 w3) (fun _ w3 hw3 hx => hx w3 hw3) _ _ _ _ ⟨0, rfl⟩ ?_
    have := wpAnyQ_lex (C := fun w3 => ∃ n, w3 = w2.drewN n) (md := .any) hB.1 (L.drop (z + 1)) (z + 1) _ a2 (fun j => by simp) (by rw [show (L.drop (z + 1)).length = L.length - z - 1 by simp; omega]; exact h2.2) hq
    rwa [show (L.drop (z + 1)).length = L.length - z - 1 by simp; omega] at this
end
theorem wp_region_mid_dn {P : Program} {id : Nat} {Q : Exit → Act → World → Prop} {a : Act} {w : World} {L : List Oper} (z : Nat) (hm : P.follows .mixedOrders = true) (hB : Region.lexB .any L.toArray = true) (hc : covB .any L.toArray z = true) (hzs : z < L.length) (hz : Region.ready .any L.toArray (Lk L.length z) = [z])
    (h : wpQuiet P L.toArray (fun w' => ∃ n, w' = w.drewN n) (fun a' => ∀ w', (∃ n, w' = w.drewN n) → wpOp P L.toArray Q z (fun a2 w2 => wpQuiet P L.toArray (fun w3 => ∃ n, w3 = w2.drewN n) (fun a3 => ∀ w3, (∃ n, w3 = w2.drewN n) → Q .normal a3 w3) (L.drop (z + 1)) a2) a' w') (L.take z) a) : (Code.region id L.toArray true).wp P Q a w :=
  wp_region_mid (C := fun w' => ∃ n, w' = w.drewN n) z hm hB hc hzs hz ⟨1, rfl⟩ h
end Go.Proofs.Ytgebjfkmiaobgaa
namespace Go.Proofs.Ytgebjfkmiaobgaa
open Go.RowKit
open C (Only hid Still ret_int ret_bool)
set_option linter.unusedVariables false
set_option maxRecDepth 100000

/-- the head that is told -/
def hdF (e r : Int) : Int := if e = 0 then r else 0
theorem sli_nil : Sli (.slice none 0 0) := trivial
/-- pieces as cells -/
def sgs (L : List (Int × Int)) : List Value := L.flatMap fun x => [.int .u64 x.1, .int .i64 x.2]
theorem sgs_len (L : List (Int × Int)) : (sgs L).length = L.length * 2 := by
  induction L with
  | nil => rfl
  | cons x L ih => simp [sgs] at ih ⊢; omega
theorem sgs_add (L : List (Int × Int)) (x : Int × Int) : sgs (L ++ [x]) = sgs L ++ [.int .u64 x.1, .int .i64 x.2] := by simp [sgs]
theorem sgs_at (L : List (Int × Int)) (i : Nat) (x : Int × Int) (h : L[i]? = some x) : (sgs L)[i * 2]? = some (.int .u64 x.1) ∧ (sgs L)[i * 2 + 1]? = some (.int .i64 x.2) := by
  induction L generalizing i with
  | nil => cases h
  | cons y L ih =>
    cases i with
    | zero => cases h; exact ⟨rfl, rfl⟩
    | succ i =>
      have := ih i (by simpa using h)
      have e : sgs (y :: L) = .int .u64 y.1 :: .int .i64 y.2 :: sgs L := rfl
      rw [e, show (i + 1) * 2 = i * 2 + 1 + 1 by omega]
      exact this
/-- a list of pieces in a memory of its own -/
structure Sg (w : World) (B : Nat) (v : Value) (L : List (Int × Int)) : Prop where
  own : w.ownsRow 0 61 2 v L.length (sgs L)
  ge : ∀ k, Ug v k → B ≤ k
theorem own_cells {w : World} {e : TypeId} {z : Nat} {u : Value} {n : Nat} {xs : List Value} (h : w.ownsRow 0 e z u n xs) {k : Nat} (hk : Ug u k) : ∃ cur, w.heap[k]? = some (.cells cur e (0, 0)) := by
  rcases h.2 with ⟨h1, h2⟩ | ⟨g, cap, cur, rfl, h2, h3, h4⟩
  · rw [h1] at hk; cases hk
  · obtain rfl : g = k := by simpa [Ug, Value.ownBlock] using hk
    exact ⟨cur, h3⟩
theorem own_frame {w w' : World} {e : TypeId} {z : Nat} {u : Value} {n : Nat} {xs : List Value} (h : w.ownsRow 0 e z u n xs) {T : Nat → Prop} (ho : Only T w w') (hn : ∀ k, Ug u k → ¬ T k) : w'.ownsRow 0 e z u n xs := by
  refine ⟨h.1, ?_⟩
  rcases h.2 with ⟨h1, h2⟩ | ⟨g, cap, cur, rfl, h2, h3, h4⟩
  · exact .inl ⟨h1, h2⟩
  · exact .inr ⟨g, cap, cur, rfl, h2, ho.old h3 (hn g rfl), h4⟩
theorem Sg.only {w w' : World} {B : Nat} {v : Value} {L : List (Int × Int)} (h : Sg w B v L) {T : Nat → Prop} (ho : Only T w w') (hn : ∀ k, Ug v k → ¬ T k) : Sg w' B v L := ⟨own_frame h.own ho hn, h.ge⟩
theorem Sg.below {w w' : World} {B : Nat} {v : Value} {L : List (Int × Int)} (h : Sg w B v L) (hb : Below w.heap.size w w') : Sg w' B v L := h.only (T := fun _ => False) (.ofBelow hb) fun _ _ q => q
theorem Sg.sli {w : World} {B : Nat} {v : Value} {L : List (Int × Int)} (h : Sg w B v L) : ∃ ad c, v = .slice ad L.length c := by
  rcases h.own.2 with ⟨h1, h2⟩ | ⟨g, cap, cur, h1, h2⟩
  · exact ⟨none, 0, by rw [h1, h2]⟩
  · exact ⟨_, cap, h1⟩
theorem Sg.s {w : World} {B : Nat} {v : Value} {L : List (Int × Int)} (h : Sg w B v L) : Sli v := by
  obtain ⟨ad, c, rfl⟩ := h.sli; trivial
theorem Sg.nil (w : World) (B : Nat) : Sg w B (.slice none 0 0) [] := ⟨⟨rfl, .inl ⟨rfl, rfl⟩⟩, fun k hk => by cases hk⟩
theorem Sg.mono {w : World} {B B' : Nat} {v : Value} {L : List (Int × Int)} (h : Sg w B v L) (hb : B' ≤ B) : Sg w B' v L := ⟨h.own, fun k hk => Nat.le_trans hb (h.ge k hk)⟩
theorem Sg.nch {w : World} {B : Nat} {v : Value} {L : List (Int × Int)} (h : Sg w B v L) {k : Nat} {c : Array Value} {t : TypeId} {f : Nat × Nat} (hk : w.heap[k]? = some (.cells c t f)) (ht : t ≠ 61) : ¬ Ug v k := fun e => by
  obtain ⟨cur, hc⟩ := own_cells h.own e
  rw [hk] at hc
  cases hc
  exact ht rfl
section
variable (G : MG) (s : G.σ) (v : QV)
/-- the walk along a chain: error, pieces to read, pieces to write -/
def fol : Nat → Int → List (Int × Int) → List (Int × Int) → Int × List (Int × Int) × List (Int × Int)
  | 0, i, _, _ => (bif decide (v.sz ≤ i) then 32 else 31, [], [])
  | k + 1, i, R, W => bif decide (v.sz ≤ i) then (32, [], []) else
      bif !(okD G s (v.d + 16 * i) && mayD G s (G.rd s (v.d + 16 * i) 8) (G.rd s (v.d + 16 * i + 8) 4) (G.rd s (v.d + 16 * i + 12) 2) (decide (0 < W.length))) then (32, [], []) else
      bif fM (G.rd s (v.d + 16 * i + 12) 2) then fol k (G.rd s (v.d + 16 * i + 14) 2) (bif fW2 (G.rd s (v.d + 16 * i + 12) 2) then R else R ++ [(G.rd s (v.d + 16 * i) 8, G.rd s (v.d + 16 * i + 8) 4)]) (bif fW2 (G.rd s (v.d + 16 * i + 12) 2) then W ++ [(G.rd s (v.d + 16 * i) 8, G.rd s (v.d + 16 * i + 8) 4)] else W)
      else (0, bif fW2 (G.rd s (v.d + 16 * i + 12) 2) then R else R ++ [(G.rd s (v.d + 16 * i) 8, G.rd s (v.d + 16 * i + 8) 4)], bif fW2 (G.rd s (v.d + 16 * i + 12) 2) then W ++ [(G.rd s (v.d + 16 * i) 8, G.rd s (v.d + 16 * i + 8) 4)] else W)
end
abbrev nilc : Array Value := cc 0 (.slice none 0 0) (.slice none 0 0)
/-- the state of a walk: what is told at the end, the chain so far -/
structure Fo (w w' : World) (hd : Int) (vr vw : Value) (R W : List (Int × Int)) : Prop where
  bel : Below w.heap.size w w'
  res : w'.heap[w.heap.size]? = some (.cells nilc 42 (0, 0))
  chn : w'.heap[w.heap.size + 1]? = some (.cells (cc hd vr vw) 42 (0, 0))
  rr : Sg w' w.heap.size vr R
  ww : Sg w' w.heap.size vw W
  dis : ∀ k, Ug vr k → ¬ Ug vw k
section
variable {w w' w'' : World} {hd : Int} {vr vw : Value} {R W : List (Int × Int)}
theorem Fo.below (h : Fo w w' hd vr vw R W) (hb : Below w'.heap.size w' w'') : Fo w w'' hd vr vw R W :=
  ⟨h.bel.trans (hb.mono h.bel.size), (hb.block _ (lt_of_block h.res)).trans h.res, (hb.block _ (lt_of_block h.chn)).trans h.chn, h.rr.below hb, h.ww.below hb, h.dis⟩
theorem Fo.start (w : World) (hd : Int) : Fo w ((w.alloc (.cells #[.int .i64 0, .slice none 0 0, .slice none 0 0] 42)).alloc (.cells #[.int .i64 hd, .slice none 0 0, .slice none 0 0] 42)) hd (.slice none 0 0) (.slice none 0 0) [] [] := by
  have h1 : (w.alloc (.cells #[.int .i64 0, .slice none 0 0, .slice none 0 0] 42)).heap.size = w.heap.size + 1 := by simp
  have h2 := heap_alloc_new (w.alloc (.cells #[.int .i64 0, .slice none 0 0, .slice none 0 0] 42)) (.cells #[.int .i64 hd, .slice none 0 0, .slice none 0 0] 42)
  rw [h1] at h2
  refine ⟨by (repeat (first | (with_reducible exact Below.refl _ _) | (with_reducible assumption) | refine Below.setCell ?_ (by first | exact Nat.le_refl _ | simp | (simp; omega)) _ | refine Below.alloc ?_ (by first | exact Nat.le_refl _ | simp | (simp; omega)) _ | refine below_dn ?_ _ | refine below_setRow ?_ (by first | exact Nat.le_refl _ | simp | (simp; omega)) _)), ?_, h2, .nil _ _, .nil _ _, fun k hk => by cases hk⟩
  exact ((Below.refl _ _).alloc (Nat.le_refl _) _).block _ (by rw [h1]; omega) |>.trans (heap_alloc_new w _)
/-- a piece more to write -/
theorem Fo.addW (h : Fo w w' hd vr vw R W) {x : Int × Int} {v' : Value} {w3 : World} (h1 : w3.ownsRow 0 61 2 v' (W.length + 1) (sgs W ++ [.int .u64 x.1, .int .i64 x.2])) (h2 : Only (Ug vw) w' w3) (h3 : ∀ k, Ug v' k → Ug vw k ∨ w'.heap.size ≤ k) : Fo w (w3.setCell ⟨w.heap.size + 1, 2, none⟩ v') hd vr v' R (W ++ [x]) := by
  have n1 := h.ww.nch h.res (by decide)
  have n2 := h.ww.nch h.chn (by decide)
  have k1 := h2.old h.res n1
  have k2 := h2.old h.chn n2
  have ho : Only (· = w.heap.size + 1) w3 (w3.setCell ⟨w.heap.size + 1, 2, none⟩ v') := only_c w3 _ 2 _
  have hs := h.bel.size
  have g3 : ∀ k, Ug v' k → w.heap.size ≤ k := fun k hk => (h3 k hk).elim (h.ww.ge k) fun z => Nat.le_trans hs z
  have nv : ∀ k, Ug v' k → k ≠ w.heap.size + 1 := fun k hk e => by
    obtain ⟨cur, hc⟩ := own_cells h1 hk
    rw [e, k2] at hc
    cases hc
  have nr : ∀ k, Ug vr k → k ≠ w.heap.size + 1 := fun k hk e => h.rr.nch h.chn (by decide) (e ▸ hk)
  have hlt : ∀ k, Ug vr k → k < w'.heap.size := fun k hk => by
    obtain ⟨cur, hc⟩ := own_cells h.rr.own hk
    exact lt_of_block hc
  refine ⟨?_, ho.old k1 (by omega), setRowB w3 _ 2 _ _ _ _ k2 rfl, (h.rr.only h2 h.dis).only ho nr, ⟨own_frame (by simpa [sgs_add] using h1) ho nv, g3⟩, fun k hk hv => ?_⟩
  · have b3 : Below w.heap.size w w3 := ((Only.ofBelow h.bel).trans' (S := fun _ => False) (T := Ug vw) h2 fun i hi q => by have := h.ww.ge i q; omega).below _ (Nat.le_refl _) fun k q => q.elim
    exact b3.setCell (p := ⟨w.heap.size + 1, 2, none⟩) (Nat.le_succ _) _
  · rcases h3 k hv with z | z
    · exact h.dis k hk z
    · have := hlt k hk; omega
theorem Fo.addR (h : Fo w w' hd vr vw R W) {x : Int × Int} {v' : Value} {w3 : World} (h1 : w3.ownsRow 0 61 2 v' (R.length + 1) (sgs R ++ [.int .u64 x.1, .int .i64 x.2])) (h2 : Only (Ug vr) w' w3) (h3 : ∀ k, Ug v' k → Ug vr k ∨ w'.heap.size ≤ k) : Fo w (w3.setCell ⟨w.heap.size + 1, 1, none⟩ v') hd v' vw (R ++ [x]) W := by
  have n1 := h.rr.nch h.res (by decide)
  have n2 := h.rr.nch h.chn (by decide)
  have k1 := h2.old h.res n1
  have k2 := h2.old h.chn n2
  have ho : Only (· = w.heap.size + 1) w3 (w3.setCell ⟨w.heap.size + 1, 1, none⟩ v') := only_c w3 _ 1 _
  have hs := h.bel.size
  have g3 : ∀ k, Ug v' k → w.heap.size ≤ k := fun k hk => (h3 k hk).elim (h.rr.ge k) fun z => Nat.le_trans hs z
  have nv : ∀ k, Ug v' k → k ≠ w.heap.size + 1 := fun k hk e => by
    obtain ⟨cur, hc⟩ := own_cells h1 hk
    rw [e, k2] at hc
    cases hc
  have nr : ∀ k, Ug vw k → k ≠ w.heap.size + 1 := fun k hk e => h.ww.nch h.chn (by decide) (e ▸ hk)
  have hlt : ∀ k, Ug vw k → k < w'.heap.size := fun k hk => by
    obtain ⟨cur, hc⟩ := own_cells h.ww.own hk
    exact lt_of_block hc
  refine ⟨?_, ho.old k1 (by omega), setRowB w3 _ 1 _ _ _ _ k2 rfl, ⟨own_frame (by simpa [sgs_add] using h1) ho nv, g3⟩, (h.ww.only h2 fun k hk q => h.dis k q hk).only ho nr, fun k hk hv => ?_⟩
  · have b3 : Below w.heap.size w w3 := ((Only.ofBelow h.bel).trans' (S := fun _ => False) (T := Ug vr) h2 fun i hi q => by have := h.rr.ge i q; omega).below _ (Nat.le_refl _) fun k q => q.elim
    exact b3.setCell (p := ⟨w.heap.size + 1, 1, none⟩) (Nat.le_succ _) _
  · rcases h3 k hk with z | z
    · exact h.dis k z hv
    · have := hlt k hv; omega
end
/-- the states of a round that appends a piece -/
def MAp (w0 : World) (V : Value) (n : Nat) (xs : List Value) (a b : Value) (c j : Nat) : Nat → Value × Value → World → Prop
  | 0, _, w => w = w0
  | 1, _, w => Below w0.heap.size w0 w
  | 2, x, w => ∃ w1, Below w0.heap.size w0 w1 ∧ x.1 = .slice (some ⟨w1.heap.size, 0, none⟩) 1 1 ∧ w = w1.alloc (.cells #[a, b] 61)
  | 3, x, w => w.ownsRow 0 61 2 x.2 (n + 1) (xs ++ [a, b]) ∧ Only (Ug V) w0 w ∧ ∀ g, Ug x.2 g → Ug V g ∨ w0.heap.size ≤ g
  | _ + 4, x, w => ∃ w3, (w3.ownsRow 0 61 2 x.2 (n + 1) (xs ++ [a, b]) ∧ Only (Ug V) w0 w3 ∧ ∀ g, Ug x.2 g → Ug V g ∨ w0.heap.size ≤ g) ∧ w = w3.setCell ⟨c, j, none⟩ x.2
theorem MAp.bel {w0 : World} {V : Value} {n : Nat} {xs : List Value} {a b : Value} {c j s : Nat} {x : Value × Value} {w : World} (h : MAp w0 V n xs a b c j s x w) (hs : s ≤ 2) : Below w0.heap.size w0 w := by
  match s, h, hs with
  | 0, h, _ => obtain rfl : w = w0 := h; exact .refl _ _
  | 1, h, _ => exact h
  | 2, ⟨w1, h1, _, h3⟩, _ => rw [h3]; exact h1.trans (((Below.refl _ _).alloc (Nat.le_refl _) _).mono h1.size)
theorem own_slice2 {w : World} {e : TypeId} {z : Nat} {u : Value} {n : Nat} {xs : List Value} (h : w.ownsRow 0 e z u n xs) : ∃ ad c, u = .slice ad n c := by
  rcases h.2 with ⟨h1, h2⟩ | ⟨g, cap, cur, h1, h2⟩
  · exact ⟨none, 0, by rw [h1, h2]⟩
  · exact ⟨_, cap, h1⟩
theorem fill_seg (a b : Value) : Instr.fill (fun i => some (i * 2, 2)) ((Array.range (1 * 2)).map (fun x => (Value.agg #[.int .u64 0, .int .i64 0]).cells[x % (Value.agg #[.int .u64 0, .int .i64 0]).cells.size]!)) [(0, .agg #[a, b])] = some #[a, b] := by
  have h : Array.range 2 = #[0, 1] := by decide
  simp [Instr.fill, Value.cells, h]
theorem wp_scope_label {P : Program} {Q : Exit → Act → World → Prop} {a : Act} {w : World} {c rest : Code} (l : Nat) (J : Act → World → Prop) (μ : Act → World → Nat) (hf : findLabel c l = some (Code.skip.seq rest))
    (first : (∀ a w, J a w → rest.wp P (Exit.jump l J Q) a w) → c.wp P (Exit.jump l J Q) a w)
    (pass : ∀ a w, J a w → rest.wp P (Exit.jump l (fun a' w' => J a' w' ∧ μ a' w' < μ a w) Q) a w) : (Code.scope c).wp P Q a w :=
  wp_scope_jumps l J μ hf (first fun a w hJ => Code.wp_mono (fun e a' w' he => by
    cases e <;> first | exact he | exact ⟨he.1, he.2.1⟩) (pass a w hJ)) fun a w hJ => wp_seq (wp_skip (pass a w hJ))
end Go.Proofs.Ytgebjfkmiaobgaa
namespace Go.Proofs.Ytgebjfkmiaobgaa
open Go.RowKit
open C (Only hid Still ret_int ret_bool)
set_option linter.unusedVariables false
set_option maxRecDepth 100000

section
variable {G : MG} {g : Value} {fH fR fW : FuncId} {rc : Value}
def FoJ (G : MG) (s : G.σ) (v : QV) (w : World) (q : Nat) (g : Value) (hd : Int) (n : Nat) (FF : Int × List (Int × Int) × List (Int × Int)) (a : Act) (w1 : World) : Prop :=
  ∃ (i : Int) (k : Nat) (vr vw : Value) (R W : List (Int × Int)) (u11 u12 u13 u14 u15 u16 u17 u18 u19 u20 u21 u22 u23 u24 u25 u26 u27 u28 u29 u30 u31 u32 u33 u34 u35 u36 u37 u38 u39 u40 u41 u42 u43 u44 u45 u46 u47 u48 u49 u50 u51 u52 u53 u54 u55 u56 u57 u58 u59 u60 u61 u62 u63 u64 u65 u66 u67 u68 u69 u70 u71 u72 u73 u74 : Value), a = { tmps := #[.pointer (some ⟨q, 0, none⟩), g, .int .u16 hd, undef, undef, undef, .pointer (some ⟨w.heap.size, 0, none⟩), .int .i64 0, .pointer (some ⟨w.heap.size + 1, 0, none⟩), .int .u16 i, .int .i64 (k : Int), u11, u12, u13, u14, u15, u16, u17, u18, u19, u20, u21, u22, u23, u24, u25, u26, u27, u28, u29, u30, u31, u32, u33, u34, u35, u36, u37, u38, u39, u40, u41, u42, u43, u44, u45, u46, u47, u48, u49, u50, u51, u52, u53, u54, u55, u56, u57, u58, u59, u60, u61, u62, u63, u64, u65, u66, u67, u68, u69, u70, u71, u72, u73, u74], defers := [] } ∧ Fo w w1 hd vr vw R W ∧ 0 ≤ i ∧ i < 65536 ∧ k ≤ n ∧ R.length + W.length = k ∧ fol G s v (n - k) i R W = FF
def intOfV : Value → Int | .int _ q => q | _ => 0
set_option maxHeartbeats 4000000 in
theorem k_follow (hG : MGC G g fH fR fW rc) (w : World) (F : Nat → Prop) (s : G.σ) (h : G.R w F s) (q : Nat) (v : QV) (hq : Qb w q v) (ho : QOk v) (n : Nat) (hn : v.sz = n) (hd : Int) (h0 : 0 ≤ hd) (h1 : hd < 65536) : Calls Try.prog 62 #[.pointer (some ⟨q, 0, none⟩), g, .int .u16 hd] w fun e w' => ∃ vr vw, e = .returned (.tuple #[.agg (cc (hdF (fol G s v n hd [] []).1 hd) vr vw), .int .i64 (fol G s v n hd [] []).1]) ∧ Below w.heap.size w w' ∧ Sg w' w.heap.size vr (fol G s v n hd [] []).2.1 ∧ Sg w' w.heap.size vw (fol G s v n hd [] []).2.2 ∧ ∀ k, Ug vr k → ¬ Ug vw k := by
  obtain ⟨FF, hFF⟩ : ∃ FF, fol G s v n hd [] [] = FF := ⟨_, rfl⟩
  rw [hFF]
  have HG := hid hG
  have HR := hid h
  have HR0 := hid h
  have HQ := hid hq
  have HOk := hid ho
  have HJ0 : Hid (∀ w2, Fo w w2 hd (.slice none 0 0) (.slice none 0 0) [] [] → ∀ (t : Act), (∃ u11 u12 u13 u14 u15 u16 u17 u18 u19 u20 u21 u22 u23 u24 u25 u26 u27 u28 u29 u30 u31 u32 u33 u34 u35 u36 u37 u38 u39 u40 u41 u42 u43 u44 u45 u46 u47 u48 u49 u50 u51 u52 u53 u54 u55 u56 u57 u58 u59 u60 u61 u62 u63 u64 u65 u66 u67 u68 u69 u70 u71 u72 u73 u74 : Value, t = { tmps := #[.pointer (some ⟨q, 0, none⟩), g, .int .u16 hd, undef, undef, undef, .pointer (some ⟨w.heap.size, 0, none⟩), .int .i64 0, .pointer (some ⟨w.heap.size + 1, 0, none⟩), .int .u16 hd, .int .i64 0, u11, u12, u13, u14, u15, u16, u17, u18, u19, u20, u21, u22, u23, u24, u25, u26, u27, u28, u29, u30, u31, u32, u33, u34, u35, u36, u37, u38, u39, u40, u41, u42, u43, u44, u45, u46, u47, u48, u49, u50, u51, u52, u53, u54, u55, u56, u57, u58, u59, u60, u61, u62, u63, u64, u65, u66, u67, u68, u69, u70, u71, u72, u73, u74], defers := [] }) → FoJ G s v w q g hd n FF t w2) := fun w2 hf t ⟨u11, u12, u13, u14, u15, u16, u17, u18, u19, u20, u21, u22, u23, u24, u25, u26, u27, u28, u29, u30, u31, u32, u33, u34, u35, u36, u37, u38, u39, u40, u41, u42, u43, u44, u45, u46, u47, u48, u49, u50, u51, u52, u53, u54, u55, u56, u57, u58, u59, u60, u61, u62, u63, u64, u65, u66, u67, u68, u69, u70, u71, u72, u73, u74, ht⟩ => ⟨hd, 0, _, _, [], [], u11, u12, u13, u14, u15, u16, u17, u18, u19, u20, u21, u22, u23, u24, u25, u26, u27, u28, u29, u30, u31, u32, u33, u34, u35, u36, u37, u38, u39, u40, u41, u42, u43, u44, u45, u46, u47, u48, u49, u50, u51, u52, u53, u54, u55, u56, u57, u58, u59, u60, u61, u62, u63, u64, u65, u66, u67, u68, u69, u70, u71, u72, u73, u74, ht, hf, h0, h1, Nat.zero_le _, rfl, hFF⟩
  clear hFF
  go_enter Try.func62, Try.ntmps62
  go_wp2
  refine wp_scope_label 0 (FoJ G s v w q g hd n FF) (fun a _ => n - (intOfV (a.tmps.getD 10 undef)).toNat) rfl ?first ?pass
  case first =>
    intro hl
    have HL := hid hl
    clear hl
    go_wp2
    go_step3
    rename_i hK
    exact hK _ _ (HL.out _ _ (HJ0.out _ (Fo.start w hd) _ ⟨_, _, _, _, _, _, _, _, _, _, _, _, _, _, _, _, _, _, _, _, _, _, _, _, _, _, _, _, _, _, _, _, _, _, _, _, _, _, _, _, _, _, _, _, _, _, _, _, _, _, _, _, _, _, _, _, _, _, _, _, _, _, _, _, rfl⟩))
  case pass =>
    rintro a w1 ⟨i, k, vr, vw, R, W, u11, u12, u13, u14, u15, u16, u17, u18, u19, u20, u21, u22, u23, u24, u25, u26, u27, u28, u29, u30, u31, u32, u33, u34, u35, u36, u37, u38, u39, u40, u41, u42, u43, u44, u45, u46, u47, u48, u49, u50, u51, u52, u53, u54, u55, u56, u57, u58, u59, u60, u61, u62, u63, u64, u65, u66, u67, u68, u69, u70, u71, u72, u73, u74, rfl, hf, i0, i1, hk, hlen, hfol⟩
    have Q1 := HQ.out.below hf.bel
    have c0 := Q1.c0
    rw [hn] at c0
    have n64 : n ≤ 64 := by have := HOk.out.szb; omega
    have wi : IntKind.i64.wrap i = i := by rw [IntKind.wrap_i64]; omega
    have HFo := hid hf
    have HFL := hid hfol
    have HQ1 := hid Q1
    have HZ : Hid (∀ w2, Fo w w2 hd vr vw R W → w2.heap[w.heap.size]? = some (.cells (cc 0 (.slice none 0 0) (.slice none 0 0)) 42 (0, 0))) := fun w2 h2 => h2.res
    have HEnd : Hid (∀ w2, Fo w w2 hd vr vw R W → Below w.heap.size w (w2.setRow w.heap.size nilc) ∧ (w2.setRow w.heap.size nilc).heap[w.heap.size]? = some (.cells nilc 42 (0, 0))) := fun w2 h2 => ⟨below_row h2.bel (Nat.le_refl _) _, setRow_heap w2 w.heap.size _ _ _ _ h2.res⟩
    clear hf hfol Q1 HJ0 hG h hq ho HR
    by_cases hi : (n : Int) ≤ i
    · have hFF : FF = (32, [], []) := by
        rw [← HFL.out]
        have hdec : decide (v.sz ≤ i) = true := by rw [hn]; simpa using hi
        cases n - k <;> (unfold fol; rw [hdec]; rfl)
      subst hFF
      clear HFL
      go_wp2_with ((with_reducible refine wpL_stC w.heap.size 0 (.slice none 0 0) (.slice none 0 0) sli_nil sli_nil ?_ ?_ (HZ.out _ HFo.out) ?_); rfl; rfl)
      simp only [Exit.jump]
      exact bodyPost_ret_by (results_pair (fn := Try.f62) rfl _ _ w.heap.size 42 nilc (0, 0) _ rfl (HEnd.out _ HFo.out).2 u_chn rfl s_chn _ rfl) rfl ⟨.slice none 0 0, .slice none 0 0, rfl, (HEnd.out _ HFo.out).1, .nil _ _, .nil _ _, fun k hk => by cases hk⟩
    · have hi' : i < (n : Int) := by omega
      have hdec : decide (v.sz ≤ i) = false := by rw [hn]; simpa using hi'
      by_cases hkn : k = n
      · subst hkn
        have hFF : FF = (31, [], []) := by
          rw [← HFL.out, Nat.sub_self]
          unfold fol
          rw [hdec]
          rfl
        subst hFF
        clear HFL
        go_wp2_with ((with_reducible refine wpL_stC w.heap.size 0 (.slice none 0 0) (.slice none 0 0) sli_nil sli_nil ?_ ?_ (HZ.out _ HFo.out) ?_); rfl; rfl)
        simp only [Exit.jump]
        exact bodyPost_ret_by (results_pair (fn := Try.f62) rfl _ _ w.heap.size 42 nilc (0, 0) _ rfl (HEnd.out _ HFo.out).2 u_chn rfl s_chn _ rfl) rfl ⟨.slice none 0 0, .slice none 0 0, rfl, (HEnd.out _ HFo.out).1, .nil _ _, .nil _ _, fun k hk => by cases hk⟩
      · have hkl : k < n := by omega
        have hkne : ((k : Int) == (n : Int)) = false := by simp; omega
        obtain ⟨m, hm⟩ : ∃ m, n - k = m + 1 := ⟨n - k - 1, by omega⟩
        have hld := k_load HG.out w1 F s (HG.out.below HR0.out HFo.out.bel) q v HQ1.out HOk.out i i0 i1
        obtain ⟨ra0, ra1⟩ := (HG.out.rb w F s HR0.out (v.d + 16 * i) (by have := HOk.out.d; omega)).2.2
        obtain ⟨rl0, rl1⟩ := (HG.out.rb w F s HR0.out (v.d + 16 * i + 8) (by have := HOk.out.d; omega)).2.1
        obtain ⟨rf0, rf1⟩ := (HG.out.rb w F s HR0.out (v.d + 16 * i + 12) (by have := HOk.out.d; omega)).1
        obtain ⟨rn0, rn1⟩ := (HG.out.rb w F s HR0.out (v.d + 16 * i + 14) (by have := HOk.out.d; omega)).1
        have hfe := HFL.out
        rw [hm] at hfe
        unfold fol at hfe
        rw [hdec] at hfe
        simp only [cond_false] at hfe
        obtain ⟨nx, hnx⟩ : ∃ nx, G.rd s (v.d + 16 * i + 14) 2 = nx := ⟨_, rfl⟩
        rw [hnx] at hfe hld rn0 rn1
        generalize G.rd s (v.d + 16 * i) 8 = ad at *
        generalize G.rd s (v.d + 16 * i + 8) 4 = ln at *
        generalize G.rd s (v.d + 16 * i + 12) 2 = fl at *
        generalize okD G s (v.d + 16 * i) = ok at *
        have HFE := hid hfe
        have HMm := hid hm
        clear HFL hfe hm hnx hdec hi
        have HM : Hid (∀ w2, Below w1.heap.size w1 w2 → Calls Try.prog 68 #[.agg #[.int .u64 ad, .int .u32 ln, .int .u16 fl, .int .u16 nx], g, .bool (decide (0 < W.length))] w2 fun e w' => e = .returned (.bool (mayD G s ad ln fl (decide (0 < W.length)))) ∧ Below w2.heap.size w2 w') := fun w2 hb => k_may HG.out w2 F s (HG.out.below HR0.out (HFo.out.bel.trans (hb.mono HFo.out.bel.size))) ad ln fl nx ra0 ra1 rl0 rl1 _
        have HH2 := hid (fun w2 => k_hasF w2 ad ln fl nx 2)
        have HH1 := hid (fun w2 => k_hasF w2 ad ln fl nx 1)
        rw [show (bits BinOp.and IntKind.u16 fl 2 != 0) = fW2 fl from rfl] at HH2
        rw [show (bits BinOp.and IntKind.u16 fl 1 != 0) = fM fl from rfl] at HH1
        have HP := hid (fun w2 => k_piece w2 ad ln fl nx rl0 rl1)
        generalize mayD G s ad ln fl (decide (0 < W.length)) = my at *
        generalize fW2 fl = fw at *
        generalize fM fl = fm at *
        obtain ⟨adv, cv, hvw⟩ := HFo.out.ww.sli
        go_upto_region 8 with (go_at_call 67; refine hld.mono ?_; rintro e w2 ⟨rfl, hb⟩; have HB2 := hid hb; clear hb)
        obtain ⟨w3, hw3⟩ : ∃ w3, w3 = w2.alloc (.cells #[.int .u64 ad, .int .u32 ln, .int .u16 fl, .int .u16 nx] 122) := ⟨_, rfl⟩
        have HB3 : Hid (Below w1.heap.size w1 w3) := by rw [hw3]; exact HB2.out.trans (((Below.refl _ _).alloc (Nat.le_refl _) _).mono HB2.out.size)
        have HF3 := hid (HFo.out.below HB3.out)
        have HD3 : Hid (w3.heap[w2.heap.size]? = some (.cells #[.int .u64 ad, .int .u32 ln, .int .u16 fl, .int .u16 nx] 122 (0, 0))) := hw3 ▸ heap_alloc_new w2 _
        rcases ok with _ | _
        · obtain rfl : FF = (32, [], []) := HFE.out.symm
          rw [← hw3]
          clear hw3
          go_wp2_with ((with_reducible refine wpL_stC w.heap.size 0 (.slice none 0 0) (.slice none 0 0) sli_nil sli_nil ?_ ?_ (HZ.out _ HF3.out) ?_); rfl; rfl)
          try simp only [Exit.jump]
          exact bodyPost_ret_by (results_pair (fn := Try.f62) rfl _ _ w.heap.size 42 nilc (0, 0) _ rfl (HEnd.out _ HF3.out).2 u_chn rfl s_chn _ rfl) rfl ⟨.slice none 0 0, .slice none 0 0, rfl, (HEnd.out _ HF3.out).1, .nil _ _, .nil _ _, fun k hk => by cases hk⟩
        · have hk2 : w3.cell? ⟨w.heap.size + 1, 2, none⟩ = some (.slice adv W.length cv) := by rw [cell_of_row w3 _ 2 _ _ _ HF3.out.chn, hvw]; rfl
          have hwl : (W.length : Int) ≤ 64 := by omega
          have d0 : w3.cell? ⟨w2.heap.size, 0, none⟩ = some (.int .u64 ad) := cell_of_row w3 _ 0 _ _ _ HD3.out
          have d1 : w3.cell? ⟨w2.heap.size, 1, none⟩ = some (.int .u32 ln) := cell_of_row w3 _ 1 _ _ _ HD3.out
          have d2 : w3.cell? ⟨w2.heap.size, 2, none⟩ = some (.int .u16 fl) := cell_of_row w3 _ 2 _ _ _ HD3.out
          have d3 : w3.cell? ⟨w2.heap.size, 3, none⟩ = some (.int .u16 nx) := cell_of_row w3 _ 3 _ _ _ HD3.out
          rw [← hw3]
          clear hw3
          rcases my with _ | _
          · obtain rfl : FF = (32, [], []) := HFE.out.symm
            go_wp2_with (first
              | (go_at_call 68; refine (HM.out _ HB3.out).mono ?_; rintro e w4 ⟨rfl, hb⟩; have HF4 := hid (HF3.out.below hb); have HB4 := hid hb; clear hb)
              | ((with_reducible refine wpL_stC w.heap.size 0 (.slice none 0 0) (.slice none 0 0) sli_nil sli_nil ?_ ?_ (HZ.out _ HF4.out) ?_); rfl; rfl))
            try simp only [Exit.jump]
            exact bodyPost_ret_by (results_pair (fn := Try.f62) rfl _ _ w.heap.size 42 nilc (0, 0) _ rfl (HEnd.out _ HF4.out).2 u_chn rfl s_chn _ rfl) rfl ⟨.slice none 0 0, .slice none 0 0, rfl, (HEnd.out _ HF4.out).1, .nil _ _, .nil _ _, fun k hk => by cases hk⟩
          · go_upto_region 10 with (go_at_call 68; refine (HM.out _ HB3.out).mono ?_; rintro e w4 ⟨rfl, hb⟩; have HF4 := hid (HF3.out.below hb); have HB4 := hid hb; clear hb)
            have HD4 : Hid (w4.heap[w2.heap.size]? = some (.cells #[.int .u64 ad, .int .u32 ln, .int .u16 fl, .int .u16 nx] 122 (0, 0))) := (HB4.out.block _ (lt_of_block HD3.out)).trans HD3.out
            clear d0 d1 d2 d3 hk2 hvw HM HB2 HB3 HF3 HD3 HZ HEnd hld c0 HFo HQ1 wi
            have d0 : w4.cell? ⟨w2.heap.size, 0, none⟩ = some (.int .u64 ad) := cell_of_row w4 _ 0 _ _ _ HD4.out
            have d1 : w4.cell? ⟨w2.heap.size, 1, none⟩ = some (.int .u32 ln) := cell_of_row w4 _ 1 _ _ _ HD4.out
            have d2 : w4.cell? ⟨w2.heap.size, 2, none⟩ = some (.int .u16 fl) := cell_of_row w4 _ 2 _ _ _ HD4.out
            have d3 : w4.cell? ⟨w2.heap.size, 3, none⟩ = some (.int .u16 nx) := cell_of_row w4 _ 3 _ _ _ HD4.out
            rcases fw with _ | _
            · go_upto_region 12 with (go_at_call 69; refine (HH2.out _).mono ?_; rintro e w5 ⟨rfl, hb⟩; have HF5 := hid (HF4.out.below hb); have HD5 : Hid (w5.heap[w2.heap.size]? = some (.cells #[.int .u64 ad, .int .u32 ln, .int .u16 fl, .int .u16 nx] 122 (0, 0))) := (hb.block _ (lt_of_block HD4.out)).trans HD4.out; clear hb)
              clear d0 d1 d2 d3 HF4 HD4 HB4
              obtain ⟨w0, hw0⟩ : ∃ w0, w0 = w5.drew := ⟨_, rfl⟩
              have HB0 : Hid (Below w5.heap.size w5 w0) := hw0 ▸ (Below.refl _ _).drew
              have HF0 := hid (HF5.out.below HB0.out)
              have HD0 : Hid (w0.heap[w2.heap.size]? = some (.cells #[.int .u64 ad, .int .u32 ln, .int .u16 fl, .int .u16 nx] 122 (0, 0))) := (HB0.out.block _ (lt_of_block HD5.out)).trans HD5.out
              refine wp_region_any (by kernel_rfl) ?_
              rw [show ({ w5 with drawn := w5.drawn + 1 } : World) = w0 from hw0.symm]
              clear hw0
              have HCL : Hid (∀ wz, Below w0.heap.size w0 wz → wz.cell? ⟨w.heap.size + 1, 1, none⟩ = some (vr)) := fun wz hb => cell_of_row wz _ 1 _ _ _ (HF0.out.below hb).chn
              have HCD : Hid (∀ wz, Below w0.heap.size w0 wz → wz.cell? ⟨w2.heap.size, 0, none⟩ = some (.int .u64 ad) ∧ wz.cell? ⟨w2.heap.size, 1, none⟩ = some (.int .u32 ln) ∧ wz.cell? ⟨w2.heap.size, 2, none⟩ = some (.int .u16 fl) ∧ wz.cell? ⟨w2.heap.size, 3, none⟩ = some (.int .u16 nx)) := fun wz hb => by
                have hk := (hb.block _ (lt_of_block HD0.out)).trans HD0.out
                exact ⟨cell_of_row wz _ 0 _ _ _ hk, cell_of_row wz _ 1 _ _ _ hk, cell_of_row wz _ 2 _ _ _ hk, cell_of_row wz _ 3 _ _ _ hk⟩
              have HOW : Hid (w0.ownsRow 0 61 2 (vr) R.length (sgs R)) := HF0.out.rr.own
              have HCS : Hid (∀ wz, Only (Ug (vr)) w0 wz → wz.cell? ⟨w.heap.size + 1, 1, none⟩ = some (vr) ∧ wz.frozen? ⟨w.heap.size + 1, 1, none⟩ = false) := fun wz ho => by
                have hk := ho.old HF0.out.chn (HF0.out.rr.nch HF0.out.chn (by decide))
                exact ⟨cell_of_row wz _ 1 _ _ _ hk, frozen_of_row wz _ 1 _ _ hk⟩
              have HCX : Hid (∀ wz vx, Only (Ug (vr)) w0 wz → (wz.setCell ⟨w.heap.size + 1, 1, none⟩ vx).heap[w2.heap.size]? = some (.cells #[.int .u64 ad, .int .u32 ln, .int .u16 fl, .int .u16 nx] 122 (0, 0))) := fun wz vx ho => by
                have hk := ho.old HD0.out (HF0.out.rr.nch HD0.out (by decide))
                exact (only_c wz (w.heap.size + 1) 1 vx).old hk (fun e => by
                  have h1 := HF0.out.chn
                  rw [← e] at h1
                  rw [HD0.out] at h1
                  cases h1)
              refine wpAny_fz (α := Value × Value) (fun x => fun dd => if dd = 61 then .pointer (some ⟨w.heap.size + 1, 1, none⟩) else if dd = 62 then vr else if dd = 63 then .agg #[.int .u64 ad, .int .u32 ln, .int .u16 fl, .int .u16 nx] else if dd = 64 then .agg #[.int .u64 ad, .int .i64 ln] else if dd = 65 then x.1 else if dd = 66 then x.2 else if dd = 67 then .pointer (some ⟨w.heap.size + 1, 1, none⟩) else undef) (VS [3, 4, 5, 7] (MAp w0 (vr) R.length (sgs R) (.int .u64 ad) (.int .i64 ln) (w.heap.size + 1) 1)) ?step ?fin (.bool true, .bool true) ?start
              case start => exact .start rfl
              case step =>
                rintro listed fr wr x hF hW hC i hj
                obtain ⟨hl, o, ho, he⟩ := mem_ready.1 hj
                have hjl : i < listed.size := by rw [hF.q.ls]; exact (Array.getElem?_eq_some_iff.1 ho).1
                have hl0 := getD_tf hjl hl
                clear hj
                have HF := hid hF
                have HW := hid hW
                have HE := hid he
                have HC := hid hC
                clear hF hW he hl hC
                match i, ho with
                | 0, ho =>
                  obtain rfl := Option.some.inj ho
                  have e8 : fr.tmps[8]?.getD undef = .pointer (some ⟨w.heap.size + 1, 0, none⟩) := HF.out.base 8 (by kernel_rfl) rfl
                  exact wp_q rfl rfl (by simp [execOp, go_sem, e8]; try rfl) ⟨x, HF.out.put (by kernel_rfl) rfl rfl rfl (of_decide_eq_true rfl), HW.out.q hjl (by decide)⟩
                | 1, ho =>
                  obtain rfl := Option.some.inj ho
                  have e61 : fr.tmps[61]?.getD undef = .pointer (some ⟨w.heap.size + 1, 1, none⟩) := HF.out.ev (i := 0) rfl rfl (HE.out ⟨0, .data⟩ (by simp) rfl)
                  have h5 : listed.getD 5 false = false := by
                    cases e : listed.getD 5 false
                    · rfl
                    · have := HC.out 5 _ rfl e ⟨1, .data⟩ (by simp) rfl; rw [hl0] at this; cases this
                  obtain ⟨sS, hs1, hs2⟩ := HW.out
                  have hsl : sS ≤ 2 := by have := hs1 2 5 rfl; rw [h5] at this; simpa using this.symm
                  have hc := HCL.out _ (MAp.bel hs2 hsl)
                  exact wp_q rfl rfl (by simp [execOp, go_sem, e61, hc]; try rfl) ⟨x, HF.out.put (by kernel_rfl) rfl rfl rfl (of_decide_eq_true rfl), HW.out.q hjl (by decide)⟩
                | 2, ho =>
                  obtain rfl := Option.some.inj ho
                  have e11 : fr.tmps[11]?.getD undef = .pointer (some ⟨w2.heap.size, 0, none⟩) := HF.out.base 11 (by kernel_rfl) rfl
                  have h3 : listed.getD 3 false = false := by
                    cases e : listed.getD 3 false
                    · rfl
                    · have := HC.out 3 _ rfl e ⟨2, .data⟩ (by simp) rfl; rw [hl0] at this; cases this
                  obtain ⟨sS, hs1, hs2⟩ := HW.out
                  have hsl : sS ≤ 2 := by have := hs1 0 3 rfl; rw [h3] at this; have : ¬ 0 < sS := by simpa using this.symm
                                          omega
                  obtain ⟨hd0, hd1, hd2, hd3⟩ := HCD.out _ (MAp.bel hs2 hsl)
                  exact wp_q rfl rfl (by simp [execOp, go_sem, e11, hd0, hd1, hd2, hd3]; try rfl) ⟨x, HF.out.put (by kernel_rfl) rfl rfl rfl (of_decide_eq_true rfl), HW.out.q hjl (by decide)⟩
                | 3, ho =>
                  obtain rfl := Option.some.inj ho
                  have e63 : fr.tmps[63]?.getD undef = .agg #[.int .u64 ad, .int .u32 ln, .int .u16 fl, .int .u16 nx] := HF.out.ev (i := 2) rfl rfl (HE.out ⟨2, .data⟩ (by simp) rfl)
                  have m0 : wr = w0 := HW.out.at 0 rfl hl0 (fun j hj => by omega)
                  subst m0
                  refine wp_c1 rfl rfl _ _ _ rfl (.agg #[.int .u64 ad, .int .u32 ln, .int .u16 fl, .int .u16 nx]) (by simp [Act.eval, e63]) (Try.call70 _ _) (HP.out _) ?_
                  rintro e w7 ⟨rfl, k1⟩
                  exact ⟨_, rfl, x, HF.out.put (by kernel_rfl) rfl rfl rfl (of_decide_eq_true rfl), HW.out.go 0 hjl rfl hl0 (fun j hj => by omega) (by intro a ha; match a, ha with | 0, _ => rfl | 1, ha => simp at ha | 2, ha => simp at ha | 3, ha => simp at ha) k1⟩
                | 4, ho =>
                  obtain rfl := Option.some.inj ho
                  have e64 : fr.tmps[64]?.getD undef = .agg #[.int .u64 ad, .int .i64 ln] := HF.out.ev (i := 3) rfl rfl (HE.out ⟨3, .data⟩ (by simp) rfl)
                  have hp := HE.out ⟨3, .data⟩ (by simp) rfl
                  have m1 : Below w0.heap.size w0 wr := HW.out.at 1 rfl hl0 (fun j hj => by obtain rfl : j = 0 := (by omega); exact ⟨3, rfl, hp⟩)
                  obtain ⟨i0, hi0, hz0, hs0, hb0⟩ := info_parts info_seg
                  refine wp_bs rfl rfl 40 61 1 _ rfl #[.int .u64 ad, .int .i64 ln] i0 _ u_sseg hi0 hz0 (by rw [hs0]; decide) (by rw [hs0]; decide) ?_ ?_
                  · rw [hs0]
                    have e1 : Act.eval fr (.tmp 64) = .agg #[.int .u64 ad, .int .i64 ln] := by simp [Act.eval, e64]
                    simp only [List.map_toArray, List.map_cons, List.map_nil, e1]
                    exact fill_seg _ _
                  have HFy : Hid (FrK _ ((fun x : Value × Value => fun dd => if dd = 61 then .pointer (some ⟨w.heap.size + 1, 1, none⟩) else if dd = 62 then vr else if dd = 63 then .agg #[.int .u64 ad, .int .u32 ln, .int .u16 fl, .int .u16 nx] else if dd = 64 then .agg #[.int .u64 ad, .int .i64 ln] else if dd = 65 then x.1 else if dd = 66 then x.2 else if dd = 67 then .pointer (some ⟨w.heap.size + 1, 1, none⟩) else undef) (.slice (some ⟨wr.heap.size, 0, none⟩) 1 1, x.2)) _ listed fr) := HF.out.swap (fun j o d g1 g2 g3 => by
                    by_cases e : d = 65
                    · subst e
                      have := ndB_spec (j := j) (k := 4) (d := 65) (by kernel_rfl) g1 rfl g2 rfl
                      subst this
                      rw [hl0] at g3; cases g3
                    · simp [e])
                  exact ⟨(.slice (some ⟨wr.heap.size, 0, none⟩) 1 1, x.2), HFy.out.put (by kernel_rfl) rfl rfl rfl (of_decide_eq_true rfl), HW.out.go 1 hjl rfl hl0 (fun j hj => by obtain rfl : j = 0 := (by omega); exact ⟨3, rfl, hp⟩) (by intro a ha; match a, ha with | 0, ha => simp at ha | 1, _ => rfl | 2, ha => simp at ha | 3, ha => simp at ha) ⟨wr, m1, rfl, rfl⟩⟩
                | 5, ho =>
                  obtain rfl := Option.some.inj ho
                  have e62 : fr.tmps[62]?.getD undef = vr := HF.out.ev (i := 1) rfl rfl (HE.out ⟨1, .data⟩ (by simp) rfl)
                  have e65 : fr.tmps[65]?.getD undef = x.1 := HF.out.ev (i := 4) rfl rfl (HE.out ⟨4, .data⟩ (by simp) rfl)
                  have hp := HE.out ⟨4, .data⟩ (by simp) rfl
                  obtain ⟨wb, b1, b2, rfl⟩ := HW.out.at 2 rfl hl0 (fun j hj => by obtain rfl : j = 1 := (by omega); exact ⟨4, rfl, hp⟩)
                  obtain ⟨i0, hi0, hz0, hs0, hb0⟩ := info_parts info_seg
                  have hb1 : Below w0.heap.size w0 (wb.alloc (.cells #[.int .u64 ad, .int .i64 ln] 61)) := b1.trans (((Below.refl _ _).alloc (Nat.le_refl _) _).mono b1.size)
                  have e28' : Act.eval fr (.tmp 62) = vr := by simp [Act.eval, e62]
                  have e31' : Act.eval fr (.tmp 65) = .slice (some ⟨wb.heap.size, 0, none⟩) 1 1 := by simp [Act.eval, e65, b2]
                  refine wpOp_step rfl fun K' hK => ?_
                  refine step_append_blk _ (.tmp 62) (.tmp 65) 40 rfl 61 i0 _ 2 16 u_sseg hi0 hz0 hs0 hb0 rfl (by decide) (vr) R.length (sgs R) e28' (own_frame HOW.out (T := fun _ => False) (.ofBelow hb1) fun _ _ z => z) ⟨wb.heap.size, 0, none⟩ 1 1 [.int .u64 ad, .int .i64 ln] e31' rfl ?_ (by intro v hv; simp at hv; rcases hv with rfl | rfl <;> rfl) (show R.length + 1 ≤ 9223372036854775807 by omega) (by omega) rfl ?_
                  · intro i v hv
                    rw [C.addr_add, Nat.zero_add, cell_of_row _ _ i _ _ _ (heap_alloc_new wb _)]
                    simpa using hv
                  intro v' w8 hown hgrow hblk
                  have ho : Only (Ug (vr)) w0 w8 := (Only.ofBelow hb1).trans (grown_ug hgrow)
                  have HFy : Hid (FrK _ ((fun x : Value × Value => fun dd => if dd = 61 then .pointer (some ⟨w.heap.size + 1, 1, none⟩) else if dd = 62 then vr else if dd = 63 then .agg #[.int .u64 ad, .int .u32 ln, .int .u16 fl, .int .u16 nx] else if dd = 64 then .agg #[.int .u64 ad, .int .i64 ln] else if dd = 65 then x.1 else if dd = 66 then x.2 else if dd = 67 then .pointer (some ⟨w.heap.size + 1, 1, none⟩) else undef) (x.1, v')) _ listed fr) := HF.out.swap (fun j o d g1 g2 g3 => by
                    by_cases e : d = 66
                    · subst e
                      have := ndB_spec (j := j) (k := 5) (d := 66) (by kernel_rfl) g1 rfl g2 rfl
                      subst this
                      rw [hl0] at g3; cases g3
                    · simp [e])
                  exact hK _ _ ⟨(x.1, v'), HFy.out.put (by kernel_rfl) rfl rfl rfl (of_decide_eq_true rfl), HW.out.go 2 hjl rfl hl0 (fun j hj => by obtain rfl : j = 1 := (by omega); exact ⟨4, rfl, hp⟩) (by intro a ha; match a, ha with | 0, ha => simp at ha | 1, ha => simp at ha | 2, _ => rfl | 3, ha => simp at ha) ⟨hown, ho, fun k hk => (hblk k hk).imp id fun z => Nat.le_trans hb1.size z⟩⟩
                | 6, ho =>
                  obtain rfl := Option.some.inj ho
                  have e8 : fr.tmps[8]?.getD undef = .pointer (some ⟨w.heap.size + 1, 0, none⟩) := HF.out.base 8 (by kernel_rfl) rfl
                  exact wp_q rfl rfl (by simp [execOp, go_sem, e8]; try rfl) ⟨x, HF.out.put (by kernel_rfl) rfl rfl rfl (of_decide_eq_true rfl), HW.out.q hjl (by decide)⟩
                | 7, ho =>
                  obtain rfl := Option.some.inj ho
                  have e67 : fr.tmps[67]?.getD undef = .pointer (some ⟨w.heap.size + 1, 1, none⟩) := HF.out.ev (i := 6) rfl rfl (HE.out ⟨6, .data⟩ (by simp) rfl)
                  have e66 : fr.tmps[66]?.getD undef = x.2 := HF.out.ev (i := 5) rfl rfl (HE.out ⟨5, .data⟩ (by simp) rfl)
                  have hp := HE.out ⟨5, .data⟩ (by simp) rfl
                  obtain ⟨m1, m2, m3⟩ := HW.out.at 3 rfl hl0 (fun j hj => by obtain rfl : j = 2 := (by omega); exact ⟨5, rfl, hp⟩)
                  obtain ⟨hc, hz⟩ := HCS.out _ m2
                  obtain ⟨ad2, c2, hx2⟩ := own_slice2 m1
                  refine wp_s (w' := wr.setCell ⟨w.heap.size + 1, 1, none⟩ x.2) rfl rfl (by simp [execOp, go_sem, e66, e67, hc, hz, hx2]; try rfl) ⟨x, HF.out.skip rfl rfl _, HW.out.go 3 hjl rfl hl0 (fun j hj => by obtain rfl : j = 2 := (by omega); exact ⟨5, rfl, hp⟩) (by intro a ha; match a, ha with | 0, ha => simp at ha | 1, ha => simp at ha | 2, ha => simp at ha | 3, _ => rfl) ⟨wr, ⟨m1, m2, m3⟩, rfl⟩⟩
              case fin =>
                rintro listed fr w2 x hF hW hr
                have all := allDone hr hF.q.ls (by kernel_rfl)
                obtain ⟨sS, hs1, hm⟩ := hW
                have hs : 4 ≤ sS := by
                  have := hs1 3 7 rfl
                  rw [all 7 (by decide)] at this
                  have : 3 < sS := by simpa using this.symm
                  omega
                obtain ⟨s4, rfl⟩ : ∃ s4, sS = s4 + 4 := ⟨sS - 4, by omega⟩
                obtain ⟨w8, ⟨m1, m2, m3⟩, rfl⟩ := hm
                rw [hF.full all]
                have HF6 := hid (HF0.out.addR (x := (ad, ln)) m1 m2 m3)
                have hd6 := HCX.out _ x.2 m2
                clear hF hr all m1 m2 m3 hs1 hs
                generalize x.2 = vx at *
                obtain ⟨w6, hw6⟩ : ∃ w6, w6 = w8.setCell ⟨w.heap.size + 1, 1, none⟩ vx := ⟨_, rfl⟩
                rw [← hw6] at HF6 hd6 ⊢
                have q0' : w6.cell? ⟨w2.heap.size, 0, none⟩ = some (.int .u64 ad) := cell_of_row w6 _ 0 _ _ _ hd6
                have q1' : w6.cell? ⟨w2.heap.size, 1, none⟩ = some (.int .u32 ln) := cell_of_row w6 _ 1 _ _ _ hd6
                have q2' : w6.cell? ⟨w2.heap.size, 2, none⟩ = some (.int .u16 fl) := cell_of_row w6 _ 2 _ _ _ hd6
                have q3' : w6.cell? ⟨w2.heap.size, 3, none⟩ = some (.int .u16 nx) := cell_of_row w6 _ 3 _ _ _ hd6
                have HLT6 : Hid (w2.heap.size < w6.heap.size) := lt_of_block hd6
                clear hw6 hd6 HCX HCS HOW HCD HCL HF0 HD0 HB0
                simp only [List.foldl_cons, List.foldl_nil, fillF]
                go_simp
                have HT3 := hid q3'
                rcases fm with _ | _
                · obtain rfl : FF = (0, (R ++ [(ad, ln)]), W) := HFE.out.symm
                  go_wp2_with (first
                    | (go_at_call 69; refine (HH1.out _).mono ?_; rintro e w9 ⟨rfl, hb⟩; have HF9 := hid (HF6.out.below hb); clear hb)
                    | ((with_reducible refine wpL_ldC (w.heap.size + 1) hd (vx) (vw) ?_ HF9.out.chn ?_); rfl)
                    | ((with_reducible refine wpL_stC w.heap.size hd (vx) (vw) HF9.out.rr.s HF9.out.ww.s ?_ ?_ HF9.out.res ?_); rfl; rfl))
                  try simp only [Exit.jump]
                  have FB := HF9.out
                  have hx1 : (w9.setRow w.heap.size (cc hd (vx) (vw))).heap[w.heap.size]? = some (.cells (cc hd (vx) (vw)) 42 (0, 0)) := setRow_heap w9 w.heap.size _ _ _ _ FB.res
                  have hx2 : Only (· = w.heap.size) w9 (w9.setRow w.heap.size (cc hd (vx) (vw))) := (Only.refl (S := (· = w.heap.size)) w9).setRow (.inl rfl) _
                  exact bodyPost_ret_by (results_pair (fn := Try.f62) rfl _ _ w.heap.size 42 (cc hd (vx) (vw)) (0, 0) _ rfl hx1 u_chn rfl s_chn _ rfl) rfl ⟨(vx), (vw), rfl, below_row FB.bel (Nat.le_refl _) _, FB.rr.only hx2 fun k hk e => FB.rr.nch FB.res (by decide) (e ▸ hk), FB.ww.only hx2 fun k hk e => FB.ww.nch FB.res (by decide) (e ▸ hk), FB.dis⟩
                · go_wp2_with (go_at_call 69; refine (HH1.out _).mono ?_; rintro e w9 ⟨rfl, hb⟩; have HF9 := hid (HF6.out.below hb); have t3 : w9.cell? ⟨w2.heap.size, 3, none⟩ = some (.int .u16 nx) := (hb.cell (p := ⟨w2.heap.size, 3, none⟩) HLT6.out).trans HT3.out; clear hb)
                  go_step3
                  refine ⟨rfl, ⟨nx, k + 1, vx, vw, (R ++ [(ad, ln)]), W, _, _, _, _, _, _, _, _, _, _, _, _, _, _, _, _, _, _, _, _, _, _, _, _, _, _, _, _, _, _, _, _, _, _, _, _, _, _, _, _, _, _, _, _, _, _, _, _, _, _, _, _, _, _, _, _, _, _, _, _, _, _, _, _, rfl, HF9.out, rn0, rn1, by omega, by simp; omega, ?_⟩, ?_⟩
                  · have := HFE.out
                    rw [show n - (k + 1) = m by have := HMm.out; omega]
                    exact this
                  · show n - (intOfV _).toNat < n - (intOfV _).toNat
                    simp [intOfV]
                    omega
            · go_upto_region 11 with (go_at_call 69; refine (HH2.out _).mono ?_; rintro e w5 ⟨rfl, hb⟩; have HF5 := hid (HF4.out.below hb); have HD5 : Hid (w5.heap[w2.heap.size]? = some (.cells #[.int .u64 ad, .int .u32 ln, .int .u16 fl, .int .u16 nx] 122 (0, 0))) := (hb.block _ (lt_of_block HD4.out)).trans HD4.out; clear hb)
              clear d0 d1 d2 d3 HF4 HD4 HB4
              obtain ⟨w0, hw0⟩ : ∃ w0, w0 = w5.drew := ⟨_, rfl⟩
              have HB0 : Hid (Below w5.heap.size w5 w0) := hw0 ▸ (Below.refl _ _).drew
              have HF0 := hid (HF5.out.below HB0.out)
              have HD0 : Hid (w0.heap[w2.heap.size]? = some (.cells #[.int .u64 ad, .int .u32 ln, .int .u16 fl, .int .u16 nx] 122 (0, 0))) := (HB0.out.block _ (lt_of_block HD5.out)).trans HD5.out
              refine wp_region_any (by kernel_rfl) ?_
              rw [show ({ w5 with drawn := w5.drawn + 1 } : World) = w0 from hw0.symm]
              clear hw0
              have HCL : Hid (∀ wz, Below w0.heap.size w0 wz → wz.cell? ⟨w.heap.size + 1, 2, none⟩ = some (vw)) := fun wz hb => cell_of_row wz _ 2 _ _ _ (HF0.out.below hb).chn
              have HCD : Hid (∀ wz, Below w0.heap.size w0 wz → wz.cell? ⟨w2.heap.size, 0, none⟩ = some (.int .u64 ad) ∧ wz.cell? ⟨w2.heap.size, 1, none⟩ = some (.int .u32 ln) ∧ wz.cell? ⟨w2.heap.size, 2, none⟩ = some (.int .u16 fl) ∧ wz.cell? ⟨w2.heap.size, 3, none⟩ = some (.int .u16 nx)) := fun wz hb => by
                have hk := (hb.block _ (lt_of_block HD0.out)).trans HD0.out
                exact ⟨cell_of_row wz _ 0 _ _ _ hk, cell_of_row wz _ 1 _ _ _ hk, cell_of_row wz _ 2 _ _ _ hk, cell_of_row wz _ 3 _ _ _ hk⟩
              have HOW : Hid (w0.ownsRow 0 61 2 (vw) W.length (sgs W)) := HF0.out.ww.own
              have HCS : Hid (∀ wz, Only (Ug (vw)) w0 wz → wz.cell? ⟨w.heap.size + 1, 2, none⟩ = some (vw) ∧ wz.frozen? ⟨w.heap.size + 1, 2, none⟩ = false) := fun wz ho => by
                have hk := ho.old HF0.out.chn (HF0.out.ww.nch HF0.out.chn (by decide))
                exact ⟨cell_of_row wz _ 2 _ _ _ hk, frozen_of_row wz _ 2 _ _ hk⟩
              have HCX : Hid (∀ wz vx, Only (Ug (vw)) w0 wz → (wz.setCell ⟨w.heap.size + 1, 2, none⟩ vx).heap[w2.heap.size]? = some (.cells #[.int .u64 ad, .int .u32 ln, .int .u16 fl, .int .u16 nx] 122 (0, 0))) := fun wz vx ho => by
                have hk := ho.old HD0.out (HF0.out.ww.nch HD0.out (by decide))
                exact (only_c wz (w.heap.size + 1) 2 vx).old hk (fun e => by
                  have h1 := HF0.out.chn
                  rw [← e] at h1
                  rw [HD0.out] at h1
                  cases h1)
              refine wpAny_fz (α := Value × Value) (fun x => fun dd => if dd = 54 then .pointer (some ⟨w.heap.size + 1, 2, none⟩) else if dd = 55 then vw else if dd = 56 then .agg #[.int .u64 ad, .int .u32 ln, .int .u16 fl, .int .u16 nx] else if dd = 57 then .agg #[.int .u64 ad, .int .i64 ln] else if dd = 58 then x.1 else if dd = 59 then x.2 else if dd = 60 then .pointer (some ⟨w.heap.size + 1, 2, none⟩) else undef) (VS [3, 4, 5, 7] (MAp w0 (vw) W.length (sgs W) (.int .u64 ad) (.int .i64 ln) (w.heap.size + 1) 2)) ?step ?fin (.bool true, .bool true) ?start
              case start => exact .start rfl
              case step =>
                rintro listed fr wr x hF hW hC i hj
                obtain ⟨hl, o, ho, he⟩ := mem_ready.1 hj
                have hjl : i < listed.size := by rw [hF.q.ls]; exact (Array.getElem?_eq_some_iff.1 ho).1
                have hl0 := getD_tf hjl hl
                clear hj
                have HF := hid hF
                have HW := hid hW
                have HE := hid he
                have HC := hid hC
                clear hF hW he hl hC
                match i, ho with
                | 0, ho =>
                  obtain rfl := Option.some.inj ho
                  have e8 : fr.tmps[8]?.getD undef = .pointer (some ⟨w.heap.size + 1, 0, none⟩) := HF.out.base 8 (by kernel_rfl) rfl
                  exact wp_q rfl rfl (by simp [execOp, go_sem, e8]; try rfl) ⟨x, HF.out.put (by kernel_rfl) rfl rfl rfl (of_decide_eq_true rfl), HW.out.q hjl (by decide)⟩
                | 1, ho =>
                  obtain rfl := Option.some.inj ho
                  have e54 : fr.tmps[54]?.getD undef = .pointer (some ⟨w.heap.size + 1, 2, none⟩) := HF.out.ev (i := 0) rfl rfl (HE.out ⟨0, .data⟩ (by simp) rfl)
                  have h5 : listed.getD 5 false = false := by
                    cases e : listed.getD 5 false
                    · rfl
                    · have := HC.out 5 _ rfl e ⟨1, .data⟩ (by simp) rfl; rw [hl0] at this; cases this
                  obtain ⟨sS, hs1, hs2⟩ := HW.out
                  have hsl : sS ≤ 2 := by have := hs1 2 5 rfl; rw [h5] at this; simpa using this.symm
                  have hc := HCL.out _ (MAp.bel hs2 hsl)
                  exact wp_q rfl rfl (by simp [execOp, go_sem, e54, hc]; try rfl) ⟨x, HF.out.put (by kernel_rfl) rfl rfl rfl (of_decide_eq_true rfl), HW.out.q hjl (by decide)⟩
                | 2, ho =>
                  obtain rfl := Option.some.inj ho
                  have e11 : fr.tmps[11]?.getD undef = .pointer (some ⟨w2.heap.size, 0, none⟩) := HF.out.base 11 (by kernel_rfl) rfl
                  have h3 : listed.getD 3 false = false := by
                    cases e : listed.getD 3 false
                    · rfl
                    · have := HC.out 3 _ rfl e ⟨2, .data⟩ (by simp) rfl; rw [hl0] at this; cases this
                  obtain ⟨sS, hs1, hs2⟩ := HW.out
                  have hsl : sS ≤ 2 := by have := hs1 0 3 rfl; rw [h3] at this; have : ¬ 0 < sS := by simpa using this.symm
                                          omega
                  obtain ⟨hd0, hd1, hd2, hd3⟩ := HCD.out _ (MAp.bel hs2 hsl)
                  exact wp_q rfl rfl (by simp [execOp, go_sem, e11, hd0, hd1, hd2, hd3]; try rfl) ⟨x, HF.out.put (by kernel_rfl) rfl rfl rfl (of_decide_eq_true rfl), HW.out.q hjl (by decide)⟩
                | 3, ho =>
                  obtain rfl := Option.some.inj ho
                  have e56 : fr.tmps[56]?.getD undef = .agg #[.int .u64 ad, .int .u32 ln, .int .u16 fl, .int .u16 nx] := HF.out.ev (i := 2) rfl rfl (HE.out ⟨2, .data⟩ (by simp) rfl)
                  have m0 : wr = w0 := HW.out.at 0 rfl hl0 (fun j hj => by omega)
                  subst m0
                  refine wp_c1 rfl rfl _ _ _ rfl (.agg #[.int .u64 ad, .int .u32 ln, .int .u16 fl, .int .u16 nx]) (by simp [Act.eval, e56]) (Try.call70 _ _) (HP.out _) ?_
                  rintro e w7 ⟨rfl, k1⟩
                  exact ⟨_, rfl, x, HF.out.put (by kernel_rfl) rfl rfl rfl (of_decide_eq_true rfl), HW.out.go 0 hjl rfl hl0 (fun j hj => by omega) (by intro a ha; match a, ha with | 0, _ => rfl | 1, ha => simp at ha | 2, ha => simp at ha | 3, ha => simp at ha) k1⟩
                | 4, ho =>
                  obtain rfl := Option.some.inj ho
                  have e57 : fr.tmps[57]?.getD undef = .agg #[.int .u64 ad, .int .i64 ln] := HF.out.ev (i := 3) rfl rfl (HE.out ⟨3, .data⟩ (by simp) rfl)
                  have hp := HE.out ⟨3, .data⟩ (by simp) rfl
                  have m1 : Below w0.heap.size w0 wr := HW.out.at 1 rfl hl0 (fun j hj => by obtain rfl : j = 0 := (by omega); exact ⟨3, rfl, hp⟩)
                  obtain ⟨i0, hi0, hz0, hs0, hb0⟩ := info_parts info_seg
                  refine wp_bs rfl rfl 40 61 1 _ rfl #[.int .u64 ad, .int .i64 ln] i0 _ u_sseg hi0 hz0 (by rw [hs0]; decide) (by rw [hs0]; decide) ?_ ?_
                  · rw [hs0]
                    have e1 : Act.eval fr (.tmp 57) = .agg #[.int .u64 ad, .int .i64 ln] := by simp [Act.eval, e57]
                    simp only [List.map_toArray, List.map_cons, List.map_nil, e1]
                    exact fill_seg _ _
                  have HFy : Hid (FrK _ ((fun x : Value × Value => fun dd => if dd = 54 then .pointer (some ⟨w.heap.size + 1, 2, none⟩) else if dd = 55 then vw else if dd = 56 then .agg #[.int .u64 ad, .int .u32 ln, .int .u16 fl, .int .u16 nx] else if dd = 57 then .agg #[.int .u64 ad, .int .i64 ln] else if dd = 58 then x.1 else if dd = 59 then x.2 else if dd = 60 then .pointer (some ⟨w.heap.size + 1, 2, none⟩) else undef) (.slice (some ⟨wr.heap.size, 0, none⟩) 1 1, x.2)) _ listed fr) := HF.out.swap (fun j o d g1 g2 g3 => by
                    by_cases e : d = 58
                    · subst e
                      have := ndB_spec (j := j) (k := 4) (d := 58) (by kernel_rfl) g1 rfl g2 rfl
                      subst this
                      rw [hl0] at g3; cases g3
                    · simp [e])
                  exact ⟨(.slice (some ⟨wr.heap.size, 0, none⟩) 1 1, x.2), HFy.out.put (by kernel_rfl) rfl rfl rfl (of_decide_eq_true rfl), HW.out.go 1 hjl rfl hl0 (fun j hj => by obtain rfl : j = 0 := (by omega); exact ⟨3, rfl, hp⟩) (by intro a ha; match a, ha with | 0, ha => simp at ha | 1, _ => rfl | 2, ha => simp at ha | 3, ha => simp at ha) ⟨wr, m1, rfl, rfl⟩⟩
                | 5, ho =>
                  obtain rfl := Option.some.inj ho
                  have e55 : fr.tmps[55]?.getD undef = vw := HF.out.ev (i := 1) rfl rfl (HE.out ⟨1, .data⟩ (by simp) rfl)
                  have e58 : fr.tmps[58]?.getD undef = x.1 := HF.out.ev (i := 4) rfl rfl (HE.out ⟨4, .data⟩ (by simp) rfl)
                  have hp := HE.out ⟨4, .data⟩ (by simp) rfl
                  obtain ⟨wb, b1, b2, rfl⟩ := HW.out.at 2 rfl hl0 (fun j hj => by obtain rfl : j = 1 := (by omega); exact ⟨4, rfl, hp⟩)
                  obtain ⟨i0, hi0, hz0, hs0, hb0⟩ := info_parts info_seg
                  have hb1 : Below w0.heap.size w0 (wb.alloc (.cells #[.int .u64 ad, .int .i64 ln] 61)) := b1.trans (((Below.refl _ _).alloc (Nat.le_refl _) _).mono b1.size)
                  have e28' : Act.eval fr (.tmp 55) = vw := by simp [Act.eval, e55]
                  have e31' : Act.eval fr (.tmp 58) = .slice (some ⟨wb.heap.size, 0, none⟩) 1 1 := by simp [Act.eval, e58, b2]
                  refine wpOp_step rfl fun K' hK => ?_
                  refine step_append_blk _ (.tmp 55) (.tmp 58) 40 rfl 61 i0 _ 2 16 u_sseg hi0 hz0 hs0 hb0 rfl (by decide) (vw) W.length (sgs W) e28' (own_frame HOW.out (T := fun _ => False) (.ofBelow hb1) fun _ _ z => z) ⟨wb.heap.size, 0, none⟩ 1 1 [.int .u64 ad, .int .i64 ln] e31' rfl ?_ (by intro v hv; simp at hv; rcases hv with rfl | rfl <;> rfl) (show W.length + 1 ≤ 9223372036854775807 by omega) (by omega) rfl ?_
                  · intro i v hv
                    rw [C.addr_add, Nat.zero_add, cell_of_row _ _ i _ _ _ (heap_alloc_new wb _)]
                    simpa using hv
                  intro v' w8 hown hgrow hblk
                  have ho : Only (Ug (vw)) w0 w8 := (Only.ofBelow hb1).trans (grown_ug hgrow)
                  have HFy : Hid (FrK _ ((fun x : Value × Value => fun dd => if dd = 54 then .pointer (some ⟨w.heap.size + 1, 2, none⟩) else if dd = 55 then vw else if dd = 56 then .agg #[.int .u64 ad, .int .u32 ln, .int .u16 fl, .int .u16 nx] else if dd = 57 then .agg #[.int .u64 ad, .int .i64 ln] else if dd = 58 then x.1 else if dd = 59 then x.2 else if dd = 60 then .pointer (some ⟨w.heap.size + 1, 2, none⟩) else undef) (x.1, v')) _ listed fr) := HF.out.swap (fun j o d g1 g2 g3 => by
                    by_cases e : d = 59
                    · subst e
                      have := ndB_spec (j := j) (k := 5) (d := 59) (by kernel_rfl) g1 rfl g2 rfl
                      subst this
                      rw [hl0] at g3; cases g3
                    · simp [e])
                  exact hK _ _ ⟨(x.1, v'), HFy.out.put (by kernel_rfl) rfl rfl rfl (of_decide_eq_true rfl), HW.out.go 2 hjl rfl hl0 (fun j hj => by obtain rfl : j = 1 := (by omega); exact ⟨4, rfl, hp⟩) (by intro a ha; match a, ha with | 0, ha => simp at ha | 1, ha => simp at ha | 2, _ => rfl | 3, ha => simp at ha) ⟨hown, ho, fun k hk => (hblk k hk).imp id fun z => Nat.le_trans hb1.size z⟩⟩
                | 6, ho =>
                  obtain rfl := Option.some.inj ho
                  have e8 : fr.tmps[8]?.getD undef = .pointer (some ⟨w.heap.size + 1, 0, none⟩) := HF.out.base 8 (by kernel_rfl) rfl
                  exact wp_q rfl rfl (by simp [execOp, go_sem, e8]; try rfl) ⟨x, HF.out.put (by kernel_rfl) rfl rfl rfl (of_decide_eq_true rfl), HW.out.q hjl (by decide)⟩
                | 7, ho =>
                  obtain rfl := Option.some.inj ho
                  have e60 : fr.tmps[60]?.getD undef = .pointer (some ⟨w.heap.size + 1, 2, none⟩) := HF.out.ev (i := 6) rfl rfl (HE.out ⟨6, .data⟩ (by simp) rfl)
                  have e59 : fr.tmps[59]?.getD undef = x.2 := HF.out.ev (i := 5) rfl rfl (HE.out ⟨5, .data⟩ (by simp) rfl)
                  have hp := HE.out ⟨5, .data⟩ (by simp) rfl
                  obtain ⟨m1, m2, m3⟩ := HW.out.at 3 rfl hl0 (fun j hj => by obtain rfl : j = 2 := (by omega); exact ⟨5, rfl, hp⟩)
                  obtain ⟨hc, hz⟩ := HCS.out _ m2
                  obtain ⟨ad2, c2, hx2⟩ := own_slice2 m1
                  refine wp_s (w' := wr.setCell ⟨w.heap.size + 1, 2, none⟩ x.2) rfl rfl (by simp [execOp, go_sem, e59, e60, hc, hz, hx2]; try rfl) ⟨x, HF.out.skip rfl rfl _, HW.out.go 3 hjl rfl hl0 (fun j hj => by obtain rfl : j = 2 := (by omega); exact ⟨5, rfl, hp⟩) (by intro a ha; match a, ha with | 0, ha => simp at ha | 1, ha => simp at ha | 2, ha => simp at ha | 3, _ => rfl) ⟨wr, ⟨m1, m2, m3⟩, rfl⟩⟩
              case fin =>
                rintro listed fr w2 x hF hW hr
                have all := allDone hr hF.q.ls (by kernel_rfl)
                obtain ⟨sS, hs1, hm⟩ := hW
                have hs : 4 ≤ sS := by
                  have := hs1 3 7 rfl
                  rw [all 7 (by decide)] at this
                  have : 3 < sS := by simpa using this.symm
                  omega
                obtain ⟨s4, rfl⟩ : ∃ s4, sS = s4 + 4 := ⟨sS - 4, by omega⟩
                obtain ⟨w8, ⟨m1, m2, m3⟩, rfl⟩ := hm
                rw [hF.full all]
                have HF6 := hid (HF0.out.addW (x := (ad, ln)) m1 m2 m3)
                have hd6 := HCX.out _ x.2 m2
                clear hF hr all m1 m2 m3 hs1 hs
                generalize x.2 = vx at *
                obtain ⟨w6, hw6⟩ : ∃ w6, w6 = w8.setCell ⟨w.heap.size + 1, 2, none⟩ vx := ⟨_, rfl⟩
                rw [← hw6] at HF6 hd6 ⊢
                have q0' : w6.cell? ⟨w2.heap.size, 0, none⟩ = some (.int .u64 ad) := cell_of_row w6 _ 0 _ _ _ hd6
                have q1' : w6.cell? ⟨w2.heap.size, 1, none⟩ = some (.int .u32 ln) := cell_of_row w6 _ 1 _ _ _ hd6
                have q2' : w6.cell? ⟨w2.heap.size, 2, none⟩ = some (.int .u16 fl) := cell_of_row w6 _ 2 _ _ _ hd6
                have q3' : w6.cell? ⟨w2.heap.size, 3, none⟩ = some (.int .u16 nx) := cell_of_row w6 _ 3 _ _ _ hd6
                have HLT6 : Hid (w2.heap.size < w6.heap.size) := lt_of_block hd6
                clear hw6 hd6 HCX HCS HOW HCD HCL HF0 HD0 HB0
                simp only [List.foldl_cons, List.foldl_nil, fillF]
                go_simp
                have HT3 := hid q3'
                rcases fm with _ | _
                · obtain rfl : FF = (0, R, (W ++ [(ad, ln)])) := HFE.out.symm
                  go_wp2_with (first
                    | (go_at_call 69; refine (HH1.out _).mono ?_; rintro e w9 ⟨rfl, hb⟩; have HF9 := hid (HF6.out.below hb); clear hb)
                    | ((with_reducible refine wpL_ldC (w.heap.size + 1) hd (vr) (vx) ?_ HF9.out.chn ?_); rfl)
                    | ((with_reducible refine wpL_stC w.heap.size hd (vr) (vx) HF9.out.rr.s HF9.out.ww.s ?_ ?_ HF9.out.res ?_); rfl; rfl))
                  try simp only [Exit.jump]
                  have FB := HF9.out
                  have hx1 : (w9.setRow w.heap.size (cc hd (vr) (vx))).heap[w.heap.size]? = some (.cells (cc hd (vr) (vx)) 42 (0, 0)) := setRow_heap w9 w.heap.size _ _ _ _ FB.res
                  have hx2 : Only (· = w.heap.size) w9 (w9.setRow w.heap.size (cc hd (vr) (vx))) := (Only.refl (S := (· = w.heap.size)) w9).setRow (.inl rfl) _
                  exact bodyPost_ret_by (results_pair (fn := Try.f62) rfl _ _ w.heap.size 42 (cc hd (vr) (vx)) (0, 0) _ rfl hx1 u_chn rfl s_chn _ rfl) rfl ⟨(vr), (vx), rfl, below_row FB.bel (Nat.le_refl _) _, FB.rr.only hx2 fun k hk e => FB.rr.nch FB.res (by decide) (e ▸ hk), FB.ww.only hx2 fun k hk e => FB.ww.nch FB.res (by decide) (e ▸ hk), FB.dis⟩
                · go_wp2_with (go_at_call 69; refine (HH1.out _).mono ?_; rintro e w9 ⟨rfl, hb⟩; have HF9 := hid (HF6.out.below hb); have t3 : w9.cell? ⟨w2.heap.size, 3, none⟩ = some (.int .u16 nx) := (hb.cell (p := ⟨w2.heap.size, 3, none⟩) HLT6.out).trans HT3.out; clear hb)
                  go_step3
                  refine ⟨rfl, ⟨nx, k + 1, vr, vx, R, (W ++ [(ad, ln)]), _, _, _, _, _, _, _, _, _, _, _, _, _, _, _, _, _, _, _, _, _, _, _, _, _, _, _, _, _, _, _, _, _, _, _, _, _, _, _, _, _, _, _, _, _, _, _, _, _, _, _, _, _, _, _, _, _, _, _, _, _, _, _, _, rfl, HF9.out, rn0, rn1, by omega, by simp; omega, ?_⟩, ?_⟩
                  · have := HFE.out
                    rw [show n - (k + 1) = m by have := HMm.out; omega]
                    exact this
                  · show n - (intOfV _).toNat < n - (intOfV _).toNat
                    simp [intOfV]
                    omega
end
end Go.Proofs.Ytgebjfkmiaobgaa
namespace Go.Proofs.Ytgebjfkmiaobgaa
open Go.RowKit
open C (Only hid Still ret_int ret_bool)
set_option linter.unusedVariables false
set_option maxRecDepth 100000

/-- what a take, a Next comes to -/
structure NX where
  e : Int
  good : Bool
  h : Int
  R : List (Int × Int)
  W : List (Int × Int)
  v : QV
def avA (v : QV) : Int := v.a + 4 + 2 * (v.tk % v.sz)
def tkF (G : MG) (s : G.σ) (v : QV) (n : Nat) : NX := bif !G.ok s (avA v) 2 then ⟨32, false, 0, [], [], v⟩ else
  ⟨(fol G s v.take n (G.rd s (avA v) 2) [] []).1, true, hdF (fol G s v.take n (G.rd s (avA v) 2) [] []).1 (G.rd s (avA v) 2), (fol G s v.take n (G.rd s (avA v) 2) [] []).2.1, (fol G s v.take n (G.rd s (avA v) 2) [] []).2.2, v.take⟩
def nxF (G : MG) (s : G.σ) (v : QV) (n : Nat) : NX :=
  if v.sz = 0 then ⟨30, false, 0, [], [], v⟩ else if v.dead then ⟨33, false, 0, [], [], v⟩ else
  bif ofE G s v != 0 then ⟨ofE G s v, false, 0, [], [], v.die⟩ else bif ofN G s v == 0 then ⟨0, false, 0, [], [], v⟩ else
  bif (tkF G s v n).e == 0 then ⟨0, true, (tkF G s v n).h, (tkF G s v n).R, (tkF G s v n).W, (tkF G s v n).v⟩ else ⟨(tkF G s v n).e, false, 0, [], [], (tkF G s v n).v.die⟩
section
variable {G : MG} {g : Value} {fH fR fW : FuncId} {rc : Value}
theorem tkF_ok {s : G.σ} {v : QV} (h : QOk v) (n : Nat) : QOk (tkF G s v n).v := by
  unfold tkF
  cases G.ok s (avA v) 2
  · exact h
  · exact h.take
theorem nxF_ok {s : G.σ} {v : QV} (h : QOk v) (n : Nat) : QOk (nxF G s v n).v := by
  have ht := tkF_ok (G := G) (s := s) h n
  unfold nxF
  split
  · exact h
  · split
    · exact h
    · cases (ofE G s v != 0)
      · cases (ofN G s v == 0)
        · cases ((tkF G s v n).e == 0)
          · exact ht.die
          · exact ht
        · exact h
      · exact h.die
set_option maxHeartbeats 2000000 in
theorem k_take (hG : MGC G g fH fR fW rc) (w : World) (F : Nat → Prop) (s : G.σ) (h : G.R w F s) (q : Nat) (v : QV) (hq : Qb w q v) (ho : QOk v) (n : Nat) (hn : v.sz = n) (n0 : 0 < n) : Calls Try.prog 42 #[.pointer (some ⟨q, 0, none⟩), g] w fun e w' => ∃ vr vw, e = .returned (.tuple #[.agg (cc (tkF G s v n).h vr vw), .int .i64 (tkF G s v n).e]) ∧ Qb w' q (tkF G s v n).v ∧ Only (· = q) w w' ∧ Sg w' w.heap.size vr (tkF G s v n).R ∧ Sg w' w.heap.size vw (tkF G s v n).W ∧ ∀ k, Ug vr k → ¬ Ug vw k := by
  have hz : isSz v.sz = true := ho.sz.resolve_left (by omega)
  have hb := isSz_b hz
  obtain ⟨a0, a1⟩ := ho.a
  obtain ⟨t0, t1⟩ := ho.tk
  obtain ⟨m, hm⟩ : ∃ m, v.tk % v.sz = m := ⟨_, rfl⟩
  have hm0 : 0 ≤ m := by rw [← hm]; exact Int.emod_nonneg _ (by omega)
  have hm1 : m < 64 := by rw [← hm]; have := Int.emod_lt_of_pos v.tk (show 0 < v.sz by omega); omega
  obtain ⟨A, hA⟩ : ∃ A, avA v = A := ⟨_, rfl⟩
  have hA' : v.a + 4 + 2 * m = A := by rw [← hA, ← hm]; rfl
  have e1 : IntKind.u64.wrap (v.a + 4) = v.a + 4 := by rw [IntKind.wrap_u64]; omega
  have e2 : IntKind.u64.wrap (2 * m) = 2 * m := by rw [IntKind.wrap_u64]; omega
  have e3 : IntKind.u64.wrap (v.a + 4 + 2 * m) = A := by rw [IntKind.wrap_u64]; omega
  have HT : Hid (tkF G s v n = bif !G.ok s A 2 then ⟨32, false, 0, [], [], v⟩ else
    ⟨(fol G s v.take n (G.rd s A 2) [] []).1, true, hdF (fol G s v.take n (G.rd s A 2) [] []).1 (G.rd s A 2), (fol G s v.take n (G.rd s A 2) [] []).2.1, (fol G s v.take n (G.rd s A 2) [] []).2.2, v.take⟩) := by
    show _ = _
    rw [← hA]; rfl
  obtain ⟨⟨r0, r1⟩, -⟩ := hG.rb w F s h A (by omega)
  obtain ⟨wa, hwa⟩ : ∃ wa, wa = w.alloc (.cells #[.int .i64 0, .slice none 0 0, .slice none 0 0] 42) := ⟨_, rfl⟩
  have HBa : Hid (Below w.heap.size w wa) := hwa ▸ (Below.refl _ _).alloc (Nat.le_refl _) _
  have HAa : Hid (wa.heap[w.heap.size]? = some (.cells nilc 42 (0, 0))) := hwa ▸ heap_alloc_new w _
  have HQ := hid hq
  have HPl : Hid (∀ x : C.WB wa, Calls Try.prog 47 #[.pointer (some ⟨q, 0, none⟩), .int .u16 v.tk] x.w fun e w' => e = .returned (.int .u64 m) ∧ Below x.w.heap.size x.w w') := fun x => by
    rw [← hm]
    exact (k_place x.w q v ((hq.below HBa.out).below x.h) hz v.tk t0 t1).mono fun e w' ⟨h1, h2⟩ => ⟨h1, by rw [h2]; exact .refl _ _⟩
  have HRd : Hid (∀ x : C.WB wa, Calls Try.prog 51 #[g, .int .u64 A] x.w fun e w' => e = .returned (.tuple #[.int .u16 (G.rd s A 2), .bool (G.ok s A 2)]) ∧ Below x.w.heap.size x.w w') := fun x => k_read2 hG x.w F s (hG.below (hG.below h HBa.out) x.h) A (by omega) (by omega)
  have f2 : ∀ x : C.WB wa, x.w.cell? ⟨q, 2, none⟩ = some (.int .u64 v.a) := fun x => ((hq.below HBa.out).below x.h).c2
  have f4 : ∀ x : C.WB wa, x.w.cell? ⟨q, 4, none⟩ = some (.int .u16 v.tk) := fun x => ((hq.below HBa.out).below x.h).c4
  have HFol : Hid (∀ w2, Qb w2 q v.take → G.R w2 F s → Calls Try.prog 62 #[.pointer (some ⟨q, 0, none⟩), g, .int .u16 (G.rd s A 2)] w2 fun e w' => ∃ vr vw, e = .returned (.tuple #[.agg (cc (hdF (fol G s v.take n (G.rd s A 2) [] []).1 (G.rd s A 2)) vr vw), .int .i64 (fol G s v.take n (G.rd s A 2) [] []).1]) ∧ Below w2.heap.size w2 w' ∧ Sg w' w2.heap.size vr (fol G s v.take n (G.rd s A 2) [] []).2.1 ∧ Sg w' w2.heap.size vw (fol G s v.take n (G.rd s A 2) [] []).2.2 ∧ ∀ k, Ug vr k → ¬ Ug vw k) := fun w2 h1 h2 => k_follow hG w2 F s h2 q v.take h1 ho.take n hn _ r0 r1
  have HRk : Hid (∀ w2, Below w.heap.size w w2 → G.R w2 F s) := fun w2 hb2 => hG.below h hb2
  have HOw : Hid (∀ w2 w3, Below w.heap.size w w2 → Only (· = q) w2 w3 → G.R w3 F s) := fun w2 w3 hb2 ho3 => hG.own (hG.below h hb2) (hq.below hb2) ho3
  generalize tkF G s v n = T at *
  generalize G.rd s A 2 = r at *
  generalize G.ok s A 2 = o at *
  generalize fol G s v.take n r [] [] = FF at *
  clear hG h hq ho hA' hA hz hm
  go_enter Try.func42, Try.ntmps42
  go_upto_region 1 with fail
  rw [← hwa]
  clear hwa
  refine C.wp_region_wb (by kernel_rfl) (by kernel_rfl) ?_
  repeat
    refine wpQuiet_step (fun K hK => ?_)
    go_simp
    first
      | (refine hK _ ?_; clear hK K)
      | (refine ⟨_, fun _ => rfl, hK _ ?_⟩; clear hK K)
      | (refine ⟨.int .u64 m, fun x => ?_, hK _ ?_⟩
         · (go_at_call 47; exact C.Calls.wb x (HPl.out x))
         clear hK K)
      | (refine ⟨.tuple #[.int .u16 r, .bool o], fun x => ?_, hK _ ?_⟩
         · (go_at_call 51; exact C.Calls.wb x (HRd.out x))
         clear hK K)
  refine wpQuiet_nil ?_
  intro w9 hw9
  obtain ⟨y9, rfl⟩ := hw9
  have HB9 : Hid (Below w.heap.size w y9.w) := HBa.out.trans (y9.h.mono HBa.out.size)
  have HA9 : Hid (y9.w.heap[w.heap.size]? = some (.cells nilc 42 (0, 0))) := (y9.h.block _ (lt_of_block HAa.out)).trans HAa.out
  obtain ⟨w9, hw9⟩ : ∃ w9, w9 = y9.w := ⟨_, rfl⟩
  rw [← hw9] at HB9 HA9 ⊢
  clear hw9 f2 f4 HPl HRd
  have Q9 := HQ.out.below HB9.out
  have k4 := Q9.c4
  have z4 := Q9.fz 4
  have HQ9 := hid Q9
  clear Q9
  rcases o with _ | _
  · obtain rfl : T = ⟨32, false, 0, [], [], v⟩ := HT.out
    go_wp2_with ((with_reducible refine wpL_stC w.heap.size 0 (.slice none 0 0) (.slice none 0 0) sli_nil sli_nil ?_ ?_ HA9.out ?_); rfl; rfl)
    exact bodyPost_ret_by (results_pair (fn := Try.f42) rfl _ _ w.heap.size 42 nilc (0, 0) _ rfl (setRow_heap w9 w.heap.size _ _ _ _ HA9.out) u_chn rfl s_chn _ rfl) rfl ⟨.slice none 0 0, .slice none 0 0, rfl, HQ9.out.only ((Only.refl (S := (· = w.heap.size)) w9).setRow (.inl rfl) _) (by have := HQ.out.lt; omega), Only.ofBelow (below_row HB9.out (Nat.le_refl _) _), .nil _ _, .nil _ _, fun k hk => by cases hk⟩
  · have hT := HT.out
    subst hT
    have e5 : IntKind.u16.wrap (v.tk + 1) = (v.tk + 1) % 65536 := by rw [IntKind.wrap_u16]
    go_upto_region 5 with fail
    obtain ⟨wb, hwb⟩ : ∃ wb, wb = w9.setCell ⟨q, 4, none⟩ (.int .u16 ((v.tk + 1) % 65536)) := ⟨_, rfl⟩
    have HOb : Hid (Only (· = q) w9 wb) := hwb ▸ only_c w9 q 4 _
    have HQb : Hid (Qb wb q v.take) := hwb ▸ setRowB w9 q 4 (qc v) (qc v.take) _ _ HQ9.out rfl
    have HAb : Hid (wb.heap[w.heap.size]? = some (.cells nilc 42 (0, 0))) := HOb.out.old HA9.out (by have := HQ.out.lt; omega)
    have hFo := HFol.out wb HQb.out (HOw.out _ _ HB9.out HOb.out)
    rw [← hwb]
    clear hwb
    have hsz : w.heap.size ≤ wb.heap.size := Nat.le_trans HB9.out.size HOb.out.size
    have HSZ := hid hsz
    clear hsz
    go_wp2_with (first
      | (go_at_call 62; refine hFo.mono ?_; rintro e w6 ⟨vr, vw, rfl, hb, h1, h2, h3⟩; have HA6 : Hid (w6.heap[w.heap.size]? = some (.cells nilc 42 (0, 0))) := (hb.block _ (lt_of_block HAb.out)).trans HAb.out; have HB6 := hid hb; have S1 := hid h1; have S2 := hid h2; have S3 := hid h3; clear hb h1 h2 h3 hFo)
      | ((with_reducible refine wpL_stC w.heap.size (hdF FF.1 r) vr vw S1.out.s S2.out.s ?_ ?_ HA6.out ?_); rfl; rfl))
    have hx2 : Only (· = w.heap.size) w6 (w6.setRow w.heap.size (cc (hdF FF.1 r) vr vw)) := (Only.refl (S := (· = w.heap.size)) w6).setRow (.inl rfl) _
    refine bodyPost_ret_by (results_pair (fn := Try.f42) rfl _ _ w.heap.size 42 (cc (hdF FF.1 r) vr vw) (0, 0) _ rfl (setRow_heap w6 w.heap.size _ _ _ _ HA6.out) u_chn rfl s_chn _ rfl) rfl ⟨vr, vw, rfl, ?_, ?_, ?_, ?_, S3.out⟩
    · exact (HQb.out.below HB6.out).only hx2 (by have := HQ.out.lt; omega)
    · have o1 : Only (· = q) w w6 := ((Only.ofBelow HB9.out).trans HOb.out).trans (Only.ofBelow HB6.out)
      exact o1.trans' (T := (· = w.heap.size)) hx2 fun i hi hq => by omega
    · exact (S1.out.only hx2 fun k hk e => S1.out.nch HA6.out (by decide) (e ▸ hk)).mono HSZ.out
    · exact (S2.out.only hx2 fun k hk e => S2.out.nch HA6.out (by decide) (e ▸ hk)).mono HSZ.out
end
end Go.Proofs.Ytgebjfkmiaobgaa
namespace Go.Proofs.Ytgebjfkmiaobgaa
open Go.RowKit
open C (Only hid Still ret_int ret_bool)
set_option linter.unusedVariables false
set_option maxRecDepth 100000

section
variable {G : MG} {g : Value} {fH fR fW : FuncId} {rc : Value}
set_option maxHeartbeats 2000000 in
theorem k_Next (hG : MGC G g fH fR fW rc) (w : World) (F : Nat → Prop) (s : G.σ) (h : G.R w F s) (q : Nat) (v : QV) (hq : Qb w q v) (ho : QOk v) (n : Nat) (hn : v.sz = n) : Calls Try.prog 14 #[.pointer (some ⟨q, 0, none⟩), g] w fun e w' => ∃ vr vw, e = .returned (.tuple #[.agg (cc (nxF G s v n).h vr vw), .bool (nxF G s v n).good, .int .i64 (nxF G s v n).e]) ∧ Qb w' q (nxF G s v n).v ∧ Only (· = q) w w' ∧ Sg w' w.heap.size vr (nxF G s v n).R ∧ Sg w' w.heap.size vw (nxF G s v n).W ∧ ∀ k, Ug vr k → ¬ Ug vw k := by
  have HX : Hid (nxF G s v n = if v.sz = 0 then ⟨30, false, 0, [], [], v⟩ else if v.dead then ⟨33, false, 0, [], [], v⟩ else
    bif ofE G s v != 0 then ⟨ofE G s v, false, 0, [], [], v.die⟩ else bif ofN G s v == 0 then ⟨0, false, 0, [], [], v⟩ else
    bif (tkF G s v n).e == 0 then ⟨0, true, (tkF G s v n).h, (tkF G s v n).R, (tkF G s v n).W, (tkF G s v n).v⟩ else ⟨(tkF G s v n).e, false, 0, [], [], (tkF G s v n).v.die⟩) := rfl
  obtain ⟨wa, hwa⟩ : ∃ wa, wa = w.alloc (.cells #[.int .i64 0, .slice none 0 0, .slice none 0 0] 42) := ⟨_, rfl⟩
  have HBa : Hid (Below w.heap.size w wa) := hwa ▸ (Below.refl _ _).alloc (Nat.le_refl _) _
  have HAa : Hid (wa.heap[w.heap.size]? = some (.cells nilc 42 (0, 0))) := hwa ▸ heap_alloc_new w _
  have hw := k_works wa q v (hq.below HBa.out)
  have HQa := hid (hq.below HBa.out)
  have HLQ := hid hq.lt
  have HST : Hid (∀ w2 c, Qb w2 q v → Qb (w2.setRow w.heap.size c) q v) := fun w2 c h2 => h2.only ((Only.refl (S := (· = w.heap.size)) w2).setRow (.inl rfl) _) (by have := HLQ.out; omega)
  generalize nxF G s v n = X at *
  by_cases z0 : v.sz = 0
  · rw [if_pos z0] at hw
    have hx := HX.out
    rw [if_pos z0] at hx
    subst hx
    clear hG h hq ho HX
    go_enter Try.func14, Try.ntmps14
    go_upto_region 1 with fail
    rw [← hwa]
    clear hwa
    go_wp2_with (first
      | (go_at_call 39; refine hw.mono ?_; rintro e w' ⟨rfl, hw⟩; obtain rfl := hw.symm)
      | ((with_reducible refine wpL_stC w.heap.size 0 (.slice none 0 0) (.slice none 0 0) sli_nil sli_nil ?_ ?_ HAa.out ?_); rfl; rfl))
    exact bodyPost_ret_by (results_trip (fn := Try.f14) rfl _ _ w.heap.size 42 nilc (0, 0) _ rfl (setRow_heap wa w.heap.size _ _ _ _ HAa.out) u_chn rfl s_chn _ _ rfl rfl) rfl ⟨.slice none 0 0, .slice none 0 0, rfl, HST.out _ _ HQa.out, Only.ofBelow (below_row HBa.out (Nat.le_refl _) _), .nil _ _, .nil _ _, fun k hk => by cases hk⟩
  · rw [if_neg z0] at hw
    have hx := HX.out
    rw [if_neg z0] at hx
    cases dd : v.dead
    rotate_left
    · rw [dd, if_pos rfl] at hx hw
      subst hx
      clear hG h hq ho HX
      go_enter Try.func14, Try.ntmps14
      go_upto_region 1 with fail
      rw [← hwa]
      clear hwa
      go_wp2_with (first
        | (go_at_call 39; refine hw.mono ?_; rintro e w' ⟨rfl, hw⟩; obtain rfl := hw.symm)
        | ((with_reducible refine wpL_stC w.heap.size 0 (.slice none 0 0) (.slice none 0 0) sli_nil sli_nil ?_ ?_ HAa.out ?_); rfl; rfl))
      exact bodyPost_ret_by (results_trip (fn := Try.f14) rfl _ _ w.heap.size 42 nilc (0, 0) _ rfl (setRow_heap wa w.heap.size _ _ _ _ HAa.out) u_chn rfl s_chn _ _ rfl rfl) rfl ⟨.slice none 0 0, .slice none 0 0, rfl, HST.out _ _ HQa.out, Only.ofBelow (below_row HBa.out (Nat.le_refl _) _), .nil _ _, .nil _ _, fun k hk => by cases hk⟩
    · rw [dd, if_neg (by decide)] at hx hw
      have hof := k_offered hG wa F s (hG.below h HBa.out) q v HQa.out ho
      have hR : ∀ w2, Below w.heap.size w w2 → G.R w2 F s := fun w2 hb => hG.below h hb
      have HTk : Hid (∀ w2, Below w.heap.size w w2 → Calls Try.prog 42 #[.pointer (some ⟨q, 0, none⟩), g] w2 fun e w' => ∃ vr vw, e = .returned (.tuple #[.agg (cc (tkF G s v n).h vr vw), .int .i64 (tkF G s v n).e]) ∧ Qb w' q (tkF G s v n).v ∧ Only (· = q) w2 w' ∧ Sg w' w2.heap.size vr (tkF G s v n).R ∧ Sg w' w2.heap.size vw (tkF G s v n).W ∧ ∀ k, Ug vr k → ¬ Ug vw k) := fun w2 hb => k_take hG w2 F s (hR w2 hb) q v (hq.below hb) ho n hn (by omega)
      have HEb : Hid (ofE G s v = 0 → True) := fun _ => trivial
      have HNX := hid hx
      generalize tkF G s v n = T at *
      generalize ofE G s v = E at *
      generalize ofN G s v = N at *
      clear hG h hR ho HX hx HEb
      by_cases hE : E = 0
      · subst hE
        by_cases hN : N = 0
        · subst hN
          obtain rfl : X = ⟨0, false, 0, [], [], v⟩ := HNX.out
          clear hq
          go_enter Try.func14, Try.ntmps14
          go_upto_region 1 with fail
          rw [← hwa]
          clear hwa
          go_wp2_with (first
            | (go_at_call 39; refine hw.mono ?_; rintro e w' ⟨rfl, hw⟩; obtain rfl := hw.symm)
            | (go_at_call 40; refine hof.mono ?_; rintro e w2 ⟨rfl, hb⟩; have HB2 := hid (HBa.out.trans (hb.mono HBa.out.size)); have HA2 : Hid (w2.heap[w.heap.size]? = some (.cells nilc 42 (0, 0))) := (hb.block _ (lt_of_block HAa.out)).trans HAa.out; have HQ2 := hid (HQa.out.below hb); clear hb)
            | ((with_reducible refine wpL_stC w.heap.size 0 (.slice none 0 0) (.slice none 0 0) sli_nil sli_nil ?_ ?_ HA2.out ?_); rfl; rfl))
          exact bodyPost_ret_by (results_trip (fn := Try.f14) rfl _ _ w.heap.size 42 nilc (0, 0) _ rfl (setRow_heap w2 w.heap.size _ _ _ _ HA2.out) u_chn rfl s_chn _ _ rfl rfl) rfl ⟨.slice none 0 0, .slice none 0 0, rfl, HST.out _ _ HQ2.out, Only.ofBelow (below_row HB2.out (Nat.le_refl _) _), .nil _ _, .nil _ _, fun k hk => by cases hk⟩
        · have hN' : (N == 0) = false := by simpa using hN
          have hx : X = bif T.e == 0 then ⟨0, true, T.h, T.R, T.W, T.v⟩ else ⟨T.e, false, 0, [], [], T.v.die⟩ := by rw [HNX.out, hN']; rfl
          have HX := hid hx
          clear hx HNX hq
          go_enter Try.func14, Try.ntmps14
          go_upto_region 1 with fail
          rw [← hwa]
          clear hwa
          go_upto_region 9 with (first
            | (go_at_call 39; refine hw.mono ?_; rintro e w' ⟨rfl, hw⟩; obtain rfl := hw.symm)
            | (go_at_call 40; refine hof.mono ?_; rintro e w2 ⟨rfl, hb⟩; have HB2 := hid (HBa.out.trans (hb.mono HBa.out.size)); have HA2 : Hid (w2.heap[w.heap.size]? = some (.cells nilc 42 (0, 0))) := (hb.block _ (lt_of_block HAa.out)).trans HAa.out; have HQ2 := hid (HQa.out.below hb); clear hb))
          have hTk := HTk.out w2 HB2.out
          have HDI : Hid (∀ w3, Qb w3 q T.v → Calls Try.prog 41 #[.pointer (some ⟨q, 0, none⟩), .int .i64 T.e] w3 fun r w' => r = .returned (.int .i64 T.e) ∧ Qb w' q T.v.die ∧ Only (· = q) w3 w') := fun w3 h3 => k_die w3 q T.v h3 T.e
          by_cases hTe : T.e = 0
          · have hTe' : (T.e == 0) = true := by simpa using hTe
            obtain rfl : X = ⟨0, true, T.h, T.R, T.W, T.v⟩ := by rw [HX.out, hTe']; rfl
            rw [hTe] at hTk
            clear HX HTk HDI hTe' hN' hTe
            go_upto_region 10 with (first
              | (go_at_call 42; refine hTk.mono ?_; rintro e w4 ⟨vr, vw, rfl, h1, h2, h3, h4, h5⟩; have Q4 := hid h1; have O4 := hid h2; have S1 := hid h3; have S2 := hid h4; have S3 := hid h5; have HN4 : Hid ((w4.alloc (.cells #[.int .i64 0, .slice none 0 0, .slice none 0 0] 42)).heap[w4.heap.size]? = some (.cells (cc 0 (.slice none 0 0) (.slice none 0 0)) 42 (0, 0))) := heap_alloc_new w4 _; clear h1 h2 h3 h4 h5)
              | ((with_reducible refine wpL_stC w4.heap.size T.h vr vw S1.out.s S2.out.s ?_ ?_ HN4.out ?_); rfl; rfl))
            obtain ⟨w5, hw5⟩ : ∃ w5, w5 = (w4.alloc (.cells #[.int .i64 0, .slice none 0 0, .slice none 0 0] 42)).setRow w4.heap.size (cc T.h vr vw) := ⟨_, rfl⟩
            have HB5 : Hid (Below w4.heap.size w4 w5) := hw5 ▸ below_row ((Below.refl _ _).alloc (Nat.le_refl _) _) (Nat.le_refl _) _
            have HC5 : Hid (w5.heap[w4.heap.size]? = some (.cells (cc T.h vr vw) 42 (0, 0))) := hw5 ▸ setRow_heap _ w4.heap.size _ _ _ _ HN4.out
            rw [← hw5]
            clear hw5
            have HA5 : Hid (w5.heap[w.heap.size]? = some (.cells nilc 42 (0, 0))) := (HB5.out.block _ (lt_of_block (O4.out.old HA2.out (by have := HLQ.out; omega)))).trans (O4.out.old HA2.out (by have := HLQ.out; omega))
            go_wp2_with (first
              | ((with_reducible refine wpL_ldC w4.heap.size T.h vr vw ?_ HC5.out ?_); rfl)
              | ((with_reducible refine wpL_stC w.heap.size T.h vr vw S1.out.s S2.out.s ?_ ?_ HA5.out ?_); rfl; rfl))
            have hx2 : Only (· = w.heap.size) w5 (w5.setRow w.heap.size (cc T.h vr vw)) := (Only.refl (S := (· = w.heap.size)) w5).setRow (.inl rfl) _
            have T1 := S1.out.below HB5.out
            have T2 := S2.out.below HB5.out
            refine bodyPost_ret_by (results_trip (fn := Try.f14) rfl _ _ w.heap.size 42 (cc T.h vr vw) (0, 0) _ rfl (setRow_heap w5 w.heap.size _ _ _ _ HA5.out) u_chn rfl s_chn _ _ rfl rfl) rfl ⟨vr, vw, rfl, ?_, ?_, ?_, ?_, S3.out⟩
            · exact (Q4.out.below HB5.out).only hx2 (by have := HLQ.out; omega)
            · have o1 : Only (· = q) w w5 := ((Only.ofBelow HB2.out).trans O4.out).trans (Only.ofBelow HB5.out)
              exact o1.trans' (T := (· = w.heap.size)) hx2 fun i hi hq => by omega
            · exact (T1.only hx2 fun k hk e => T1.nch HA5.out (by decide) (e ▸ hk)).mono HB2.out.size
            · exact (T2.only hx2 fun k hk e => T2.nch HA5.out (by decide) (e ▸ hk)).mono HB2.out.size
          · have hTe' : (T.e == 0) = false := by simpa using hTe
            obtain rfl : X = ⟨T.e, false, 0, [], [], T.v.die⟩ := by rw [HX.out, hTe']; rfl
            clear HX HTk hN'
            have hne : (T.e != 0) = true := by simpa [bne] using hTe'
            go_upto_region 11 with (first
              | (go_at_call 42; refine hTk.mono ?_; rintro e w4 ⟨vr, vw, rfl, h1, h2, h3, h4, h5⟩; have Q4 := hid h1; have O4 := hid h2; have S1 := hid h3; have S2 := hid h4; have HN4 : Hid ((w4.alloc (.cells #[.int .i64 0, .slice none 0 0, .slice none 0 0] 42)).heap[w4.heap.size]? = some (.cells (cc 0 (.slice none 0 0) (.slice none 0 0)) 42 (0, 0))) := heap_alloc_new w4 _; clear h1 h2 h3 h4 h5)
              | ((with_reducible refine wpL_stC w4.heap.size T.h vr vw S1.out.s S2.out.s ?_ ?_ HN4.out ?_); rfl; rfl))
            obtain ⟨w5, hw5⟩ : ∃ w5, w5 = (w4.alloc (.cells #[.int .i64 0, .slice none 0 0, .slice none 0 0] 42)).setRow w4.heap.size (cc T.h vr vw) := ⟨_, rfl⟩
            have HB5 : Hid (Below w4.heap.size w4 w5) := hw5 ▸ below_row ((Below.refl _ _).alloc (Nat.le_refl _) _) (Nat.le_refl _) _
            rw [← hw5]
            clear hw5
            have HA5 : Hid (w5.heap[w.heap.size]? = some (.cells nilc 42 (0, 0))) := (HB5.out.block _ (lt_of_block (O4.out.old HA2.out (by have := HLQ.out; omega)))).trans (O4.out.old HA2.out (by have := HLQ.out; omega))
            have hdi := HDI.out w5 (Q4.out.below HB5.out)
            go_wp2_with (first
              | (go_at_call 41; refine hdi.mono ?_; rintro e w6 ⟨rfl, hq6, ho6⟩; have Q6 := hid hq6; have O6 := hid ho6; have HA6 := hid (ho6.old HA5.out (by have := HLQ.out; omega)); clear hq6 ho6)
              | ((with_reducible refine wpL_stC w.heap.size 0 (.slice none 0 0) (.slice none 0 0) sli_nil sli_nil ?_ ?_ HA6.out ?_); rfl; rfl))
            have hx2 : Only (· = w.heap.size) w6 (w6.setRow w.heap.size nilc) := (Only.refl (S := (· = w.heap.size)) w6).setRow (.inl rfl) _
            refine bodyPost_ret_by (results_trip (fn := Try.f14) rfl _ _ w.heap.size 42 nilc (0, 0) _ rfl (setRow_heap w6 w.heap.size _ _ _ _ HA6.out) u_chn rfl s_chn _ _ rfl rfl) rfl ⟨.slice none 0 0, .slice none 0 0, rfl, ?_, ?_, .nil _ _, .nil _ _, fun k hk => by cases hk⟩
            · exact Q6.out.only hx2 (by have := HLQ.out; omega)
            · have o1 : Only (· = q) w w6 := (((Only.ofBelow HB2.out).trans O4.out).trans (Only.ofBelow HB5.out)).trans O6.out
              exact o1.trans' (T := (· = w.heap.size)) hx2 fun i hi hq => by omega
      · have hE' : (E != 0) = true := by simpa using hE
        obtain rfl : X = ⟨E, false, 0, [], [], v.die⟩ := by rw [HNX.out, hE']; rfl
        have HDI : Hid (∀ w3, Qb w3 q v → Calls Try.prog 41 #[.pointer (some ⟨q, 0, none⟩), .int .i64 E] w3 fun r w' => r = .returned (.int .i64 E) ∧ Qb w' q v.die ∧ Only (· = q) w3 w') := fun w3 h3 => k_die w3 q v h3 E
        clear hq HNX HTk hE
        go_enter Try.func14, Try.ntmps14
        go_upto_region 1 with fail
        rw [← hwa]
        clear hwa
        go_wp2_with (first
          | (go_at_call 39; refine hw.mono ?_; rintro e w' ⟨rfl, hw⟩; obtain rfl := hw.symm)
          | (go_at_call 40; refine hof.mono ?_; rintro e w2 ⟨rfl, hb⟩; have HB2 := hid (HBa.out.trans (hb.mono HBa.out.size)); have HA2 : Hid (w2.heap[w.heap.size]? = some (.cells nilc 42 (0, 0))) := (hb.block _ (lt_of_block HAa.out)).trans HAa.out; have hdi := HDI.out _ (HQa.out.below hb); clear hb)
          | (go_at_call 41; refine hdi.mono ?_; rintro e w6 ⟨rfl, hq6, ho6⟩; have Q6 := hid hq6; have O6 := hid ho6; have HA6 := hid (ho6.old HA2.out (by have := HLQ.out; omega)); clear hq6 ho6)
          | ((with_reducible refine wpL_stC w.heap.size 0 (.slice none 0 0) (.slice none 0 0) sli_nil sli_nil ?_ ?_ HA6.out ?_); rfl; rfl))
        have hx2 : Only (· = w.heap.size) w6 (w6.setRow w.heap.size nilc) := (Only.refl (S := (· = w.heap.size)) w6).setRow (.inl rfl) _
        refine bodyPost_ret_by (results_trip (fn := Try.f14) rfl _ _ w.heap.size 42 nilc (0, 0) _ rfl (setRow_heap w6 w.heap.size _ _ _ _ HA6.out) u_chn rfl s_chn _ _ rfl rfl) rfl ⟨.slice none 0 0, .slice none 0 0, rfl, ?_, ?_, .nil _ _, .nil _ _, fun k hk => by cases hk⟩
        · exact Q6.out.only hx2 (by have := HLQ.out; omega)
        · have o1 : Only (· = q) w w6 := (Only.ofBelow HB2.out).trans O6.out
          exact o1.trans' (T := (· = w.heap.size)) hx2 fun i hi hq => by omega
end
end Go.Proofs.Ytgebjfkmiaobgaa
namespace Go.Proofs.Ytgebjfkmiaobgaa
open Go.RowKit
open C (Only hid Still ret_int ret_bool)
set_option linter.unusedVariables false
set_option maxRecDepth 100000

section
variable {G : MG} {g : Value} {fH fR fW : FuncId} {rc : Value}
theorem dnV (w : World) (k : Nat) : Below w.heap.size w (w.drewN k) := below_dn (Below.refl _ _) k
/-- where a chain is given back -/
def puA (v : QV) : Int := v.u + 4 + 8 * (v.gv % v.sz)
def puS (G : MG) (s : G.σ) (v : QV) (H n : Int) : Nat → G.σ
  | 0 => s
  | 1 => G.wr s (puA v) 4 H
  | 2 => G.wr (G.wr s (puA v) 4 H) (puA v + 4) 4 n
  | _ => G.wr (G.wr (G.wr s (puA v) 4 H) (puA v + 4) 4 n) (v.u + 2) 2 ((v.gv + 1) % 65536)
def puK (G : MG) (s : G.σ) (v : QV) (H n : Int) : Nat → Bool
  | 0 => G.wk s (puA v) 4
  | 1 => G.wk (puS G s v H n 1) (puA v + 4) 4
  | _ => G.wk (puS G s v H n 2) (v.u + 2) 2
/-- error, queue, memory behind a Push -/
def puF (G : MG) (s : G.σ) (v : QV) (H n : Int) : Int × QV × G.σ :=
  if v.sz = 0 then (30, v, s) else if v.dead then (33, v, s) else
  bif !puK G s v H n 0 then (32, v.die, puS G s v H n 1) else bif !puK G s v H n 1 then (32, v.die, puS G s v H n 2) else bif !puK G s v H n 2 then (32, v.die, puS G s v H n 3) else (0, v.give, puS G s v H n 3)
theorem puF_ok {s : G.σ} {v : QV} (h : QOk v) (H n : Int) : QOk (puF G s v H n).2.1 := by
  unfold puF
  split
  · exact h
  · split
    · exact h
    · cases puK G s v H n 0 <;> cases puK G s v H n 1 <;> cases puK G s v H n 2 <;> first | exact h.die | exact h.give
set_option maxHeartbeats 4000000 in
theorem k_Push (hG : MGC G g fH fR fW rc) (w : World) (F : Nat → Prop) (s : G.σ) (h : G.R w F s) (q : Nat) (v : QV) (hq : Qb w q v) (ho : QOk v) (hd n H : Int) (hH : H = hd % 18446744073709551616) (n0 : 0 ≤ n) (n1 : n < 18446744073709551616) : Calls Try.prog 17 #[.pointer (some ⟨q, 0, none⟩), g, .int .i64 hd, .int .u64 n] w fun e w' => e = .returned (.int .i64 (puF G s v H n).1) ∧ Qb w' q (puF G s v H n).2.1 ∧ ∃ F', G.R w' F' (puF G s v H n).2.2 ∧ Tx w (fun k => F k ∨ k = q) w' (fun k => F' k ∨ k = q) := by
  have hw := k_works w q v hq
  have HP : Hid (puF G s v H n = if v.sz = 0 then (30, v, s) else if v.dead then (33, v, s) else
    bif !puK G s v H n 0 then (32, v.die, puS G s v H n 1) else bif !puK G s v H n 1 then (32, v.die, puS G s v H n 2) else bif !puK G s v H n 2 then (32, v.die, puS G s v H n 3) else (0, v.give, puS G s v H n 3)) := rfl
  by_cases z0 : v.sz = 0
  · rw [if_pos z0] at hw
    have hp := HP.out
    rw [if_pos z0] at hp
    rw [hp]
    have Q1 := hid hq
    have R1 := hid h
    clear hG h hq ho hp HP
    go_enter Try.func17, Try.ntmps17
    go_wp2_with (go_at_call 39; refine hw.mono ?_; rintro e w' ⟨rfl, hw⟩; obtain rfl := hw.symm)
    go_ret
    exact ⟨rfl, Q1.out, F, R1.out, Tx.refl _ _⟩
  · rw [if_neg z0] at hw
    have hp := HP.out
    rw [if_neg z0] at hp
    cases dd : v.dead
    rotate_left
    · rw [dd, if_pos rfl] at hp hw
      rw [hp]
      have Q1 := hid hq
      have R1 := hid h
      clear hG h hq ho hp HP
      go_enter Try.func17, Try.ntmps17
      go_wp2_with (go_at_call 39; refine hw.mono ?_; rintro e w' ⟨rfl, hw⟩; obtain rfl := hw.symm)
      go_ret
      exact ⟨rfl, Q1.out, F, R1.out, Tx.refl _ _⟩
    · rw [dd, if_neg (by decide)] at hp hw
      have hz : isSz v.sz = true := ho.sz.resolve_left z0
      have hpl := fun k => k_place (w.drewN k) q v (hq.below (dnV w k)) hz v.gv ho.gv.1 ho.gv.2
      obtain ⟨u0, u1⟩ := ho.u
      obtain ⟨gv0, gv1⟩ := ho.gv
      have hb := isSz_b hz
      have hm0 : 0 ≤ v.gv % v.sz := Int.emod_nonneg _ (by omega)
      have hm1 : v.gv % v.sz < v.sz := Int.emod_lt_of_pos _ (by omega)
      have c3 := hq.c3
      have c5 := hq.c5
      obtain ⟨A, hA⟩ : ∃ A, puA v = A := ⟨_, rfl⟩
      obtain ⟨m, hm⟩ : ∃ m, v.gv % v.sz = m := ⟨_, rfl⟩
      have hA' : v.u + 4 + 8 * m = A := by rw [← hA, ← hm]; rfl
      have HA := hid hA
      rw [hm] at hpl hm0 hm1
      have wu4 : IntKind.u64.wrap (v.u + 4) = v.u + 4 := by rw [IntKind.wrap_u64]; omega
      have w8 : IntKind.u64.wrap (8 * m) = 8 * m := by rw [IntKind.wrap_u64]; omega
      have wA : IntKind.u64.wrap (v.u + 4 + 8 * m) = A := by rw [IntKind.wrap_u64]; omega
      have A0 : 0 ≤ A ∧ A < 1152921504606850000 := by omega
      have wa4 : IntKind.u64.wrap (A + 4) = A + 4 := by rw [IntKind.wrap_u64]; omega
      have wu2 : IntKind.u64.wrap (v.u + 2) = v.u + 2 := by rw [IntKind.wrap_u64]; omega
      have wh : IntKind.u64.wrap hd = H := by rw [IntKind.wrap_u64, hH]
      obtain ⟨g1, hg1⟩ : ∃ g1, (v.gv + 1) % 65536 = g1 := ⟨_, rfl⟩
      have HG1 := hid hg1
      have wg1 : IntKind.u16.wrap (v.gv + 1) = g1 := by rw [IntKind.wrap_u16, hg1]
      have g10 : 0 ≤ g1 ∧ g1 < 65536 := by omega
      have wgg : IntKind.u64.wrap g1 = g1 := by rw [IntKind.wrap_u64]; omega
      have H0 : 0 ≤ H ∧ H < 18446744073709551616 := by omega
      obtain ⟨St, hSt⟩ : ∃ St, St = puS G s v H n := ⟨_, rfl⟩
      have s0 : St 0 = s := by rw [hSt]; rfl
      have s1 : St 1 = G.wr s A 4 H := by rw [hSt, ← hA]; rfl
      have s2 : St 2 = G.wr (St 1) (A + 4) 4 n := by rw [hSt, ← hA]; rfl
      have s3 : St 3 = G.wr (St 2) (v.u + 2) 2 g1 := by rw [hSt, ← hg1]; rfl
      have s4 : ∀ k, 3 ≤ k → St k = St 3 := fun k hk => by
        rw [hSt]
        match k, hk with
        | 3, _ => rfl
        | k + 4, _ => rfl
      have HK1 : Hid (puK G s v H n 0 = G.wk (St 0) A 4) := by rw [s0, ← hA]; exact hid rfl
      have HK2 : Hid (puK G s v H n 1 = G.wk (St 1) (A + 4) 4) := by rw [hSt, ← hA]; exact hid rfl
      have HK3 : Hid (puK G s v H n 2 = G.wk (St 2) (v.u + 2) 2) := by rw [hSt]; exact hid rfl
      rw [← hSt] at hp
      have H1 : Hid (∀ w1 F1, G.R w1 F1 (St 0) → Calls Try.prog fW #[rc, .int .u64 A, .int .i64 4, .int .u64 H] w1 fun e w' => e = .returned (.bool (G.wk (St 0) A 4)) ∧ ∃ F', G.R w' F' (St 1) ∧ Tx w1 F1 w' F') := fun w1 F1 hr => by rw [s1, ← s0]; exact hG.W w1 F1 _ hr A 4 H (by omega) (by omega) (.inr rfl) H0.1 H0.2
      have H2 : Hid (∀ w1 F1, G.R w1 F1 (St 1) → Calls Try.prog fW #[rc, .int .u64 (A + 4), .int .i64 4, .int .u64 n] w1 fun e w' => e = .returned (.bool (G.wk (St 1) (A + 4) 4)) ∧ ∃ F', G.R w' F' (St 2) ∧ Tx w1 F1 w' F') := fun w1 F1 hr => by rw [s2]; exact hG.W w1 F1 _ hr (A + 4) 4 n (by omega) (by omega) (.inr rfl) n0 n1
      have H3 : Hid (∀ w1 F1, G.R w1 F1 (St 2) → Calls Try.prog fW #[rc, .int .u64 (v.u + 2), .int .i64 2, .int .u64 g1] w1 fun e w' => e = .returned (.bool (G.wk (St 2) (v.u + 2) 2)) ∧ ∃ F', G.R w' F' (St 3) ∧ Tx w1 F1 w' F') := fun w1 F1 hr => by rw [s3]; exact hG.W w1 F1 _ hr (v.u + 2) 2 g1 (by omega) (by omega) (.inl rfl) (by omega) (by omega)
      have cW := hid hG.cW
      have HNK := hid hG.nk
      have HPL := hid hpl
      clear hpl
      have HSb : Hid (∀ k, 3 ≤ k → St k = St 3) := s4
      have HNE : Hid (∀ w0, Below w.heap.size w w0 → ∀ w1 F1, Tx w0 F w1 F1 → Qb w1 q v) := fun w0 hb w1 F1 ht => hG.qb (hG.below h hb) (hq.below hb) ht
      have HBL : Hid (∀ w0, Below w.heap.size w w0 → G.R w0 F (St 0)) := fun w0 hb => by rw [s0]; exact hG.below h hb
      have HOW : Hid (∀ w1 w2 F1 k, G.R w1 F1 (St k) → Qb w1 q v → Only (· = q) w1 w2 → G.R w2 F1 (St k)) := fun w1 w2 F1 k hr hq' ho' => hG.own hr hq' ho'
      have HDI : Hid (∀ w1, Qb w1 q v → Calls Try.prog 41 #[.pointer (some ⟨q, 0, none⟩), .int .i64 32] w1 fun r w' => r = .returned (.int .i64 32) ∧ Qb w' q v.die ∧ Only (· = q) w1 w') := fun w1 h1 => k_die w1 q v h1 32
      have HLT := hid hq.lt
      rw [HK1.out, HK2.out, HK3.out] at hp
      clear hG h hq ho HP s0 s1 s2 s3 s4 hSt HK1 HK2 HK3 hH hA' hA hm hz hg1 dd HA
      generalize puF G s v H n = pf at *
      generalize G.wk (St 0) A 4 = k1 at *
      generalize G.wk (St 1) (A + 4) 4 = k2 at *
      generalize G.wk (St 2) (v.u + 2) 2 = k3 at *
      have HPF := hid hp
      clear hp
      go_enter Try.func17, Try.ntmps17
      go_upto_region 4 with (go_at_call 39; refine hw.mono ?_; rintro e w' ⟨rfl, hw⟩; obtain rfl := hw.symm)
      go_quiet (first | (go_at_call 47; exact Calls.quiet_of_same (HPL.out _)))
      go_upto_region 5 with fail
      obtain ⟨w0, hw0⟩ : ∃ w0, w0 = (w.drewN nq).drew := ⟨_, rfl⟩
      have HB0 : Hid (Below w.heap.size w w0) := hw0 ▸ (dnV w nq).drew
      refine wp_region_any (by kernel_rfl) ?_
      rw [show ({ w.drewN nq with drawn := (w.drewN nq).drawn + 1 } : World) = w0 from hw0.symm]
      have HR0 := hid (HBL.out _ HB0.out)
      have HLD : Hid (∀ w1 F1, Tx w0 F w1 F1 → w1.cell? ⟨q, 3, none⟩ = some (.int .u64 v.u) ∧ w1.cell? ⟨q, 5, none⟩ = some (.int .u16 v.gv)) := fun w1 F1 ht => ⟨(HNE.out _ HB0.out _ _ ht).c3, (HNE.out _ HB0.out _ _ ht).c5⟩
      have HTX : Hid (∀ w1 w2 F1, Tx w0 F w1 F1 → Only (· = q) w1 w2 → Tx w (fun k => F k ∨ k = q) w2 (fun k => F1 k ∨ k = q)) := fun w1 w2 F1 ht0 ho' => by
        have ht := (Tx.ofBelow HB0.out).trans ht0
        exact ⟨(ht.1.mono fun k _ hk => .inl hk).trans (ho'.mono fun k _ hk => .inr hk), fun k hk => hk.elim (fun z => (ht.2 k z).imp .inl id) fun z => .inl (.inr z)⟩
      clear hw0 HBL HPL c3 c5 wu4 w8 wA
      cases k1
      · refine wpAny_fz (α := Unit) (fun _ => fun dd => if dd = 29 then g else if dd = 30 then .int .u64 A else if dd = 31 then .int .i64 hd else if dd = 32 then .int .u64 H else if dd = 33 then .bool false else if dd = 34 then .bool true else if dd = 35 then .bool true else if dd = 36 then undef else if dd = 37 then undef else if dd = 38 then undef else if dd = 39 then undef else if dd = 40 then undef else if dd = 41 then undef else if dd = 44 then undef else if dd = 45 then undef else if dd = 46 then undef else if dd = 47 then undef else if dd = 48 then undef else if dd = 49 then undef else if dd = 50 then undef else if dd = 51 then undef else if dd = 52 then undef else if dd = 53 then undef else if dd = 54 then undef else if dd = 55 then undef else if dd = 56 then undef else if dd = 57 then undef else if dd = 58 then undef else if dd = 59 then undef else if dd = 60 then undef else if dd = 42 then .bool true else if dd = 43 then .bool true else if dd = 61 then .bool true else undef) (fun x listed w => VS [4] (fun n (_ : Unit) w => ∃ F1, G.R w F1 (St (min n 1)) ∧ Tx w0 F w F1) x listed w) ?step ?fin () ?start
        case start => exact .start ⟨F, HR0.out, Tx.refl _ _⟩
        case step =>
          rintro listed fr wr x hF hW hC i hj
          obtain ⟨hl, o, ho, he⟩ := mem_ready.1 hj
          have hjl : i < listed.size := by rw [hF.q.ls]; exact (Array.getElem?_eq_some_iff.1 ho).1
          have hl0 := getD_tf hjl hl
          clear hj
          have HF := hid hF
          have HW := hid hW
          have HE := hid he
          have HC := hid hC
          clear hF hW he hl hC
          match i, ho with
          | 0, ho =>
            obtain rfl := Option.some.inj ho
            have e1 : fr.tmps[1]?.getD undef = g := HF.out.base 1 (by kernel_rfl) rfl
            exact wp_q rfl rfl (by simp [execOp, go_sem, e1]; try rfl) ⟨(), HF.out.put (by kernel_rfl) rfl rfl rfl (of_decide_eq_true rfl), HW.out.q hjl (by decide)⟩
          | 1, ho =>
            obtain rfl := Option.some.inj ho
            have e10 : fr.tmps[10]?.getD undef = .int .u64 A := HF.out.base 10 (by kernel_rfl) rfl
            exact wp_q rfl rfl (by simp [execOp, go_sem, e10]; try rfl) ⟨(), HF.out.put (by kernel_rfl) rfl rfl rfl (of_decide_eq_true rfl), HW.out.q hjl (by decide)⟩
          | 2, ho =>
            obtain rfl := Option.some.inj ho
            have e2 : fr.tmps[2]?.getD undef = .int .i64 hd := HF.out.base 2 (by kernel_rfl) rfl
            exact wp_q rfl rfl (by simp [execOp, go_sem, e2]; try rfl) ⟨(), HF.out.put (by kernel_rfl) rfl rfl rfl (of_decide_eq_true rfl), HW.out.q hjl (by decide)⟩
          | 3, ho =>
            obtain rfl := Option.some.inj ho
            have e31 : fr.tmps[31]?.getD undef = .int .i64 hd := HF.out.ev (i := 2) rfl rfl (HE.out ⟨2, .data⟩ (by simp) rfl)
            exact wp_q rfl rfl (by simp [execOp, go_sem, e31, wh]; try rfl) ⟨(), HF.out.put (by kernel_rfl) rfl rfl rfl (of_decide_eq_true rfl), HW.out.q hjl (by decide)⟩
          | 4, ho =>
            obtain rfl := Option.some.inj ho
            have e29 : fr.tmps[29]?.getD undef = g := HF.out.ev (i := 0) rfl rfl (HE.out ⟨0, .data⟩ (by simp) rfl)
            have e30 : fr.tmps[30]?.getD undef = .int .u64 A := HF.out.ev (i := 1) rfl rfl (HE.out ⟨1, .data⟩ (by simp) rfl)
            have e32 : fr.tmps[32]?.getD undef = .int .u64 H := HF.out.ev (i := 3) rfl rfl (HE.out ⟨3, .data⟩ (by simp) rfl)
            obtain ⟨F0, hm1, hm2⟩ := HW.out.at 0 rfl hl0 (fun j hj => by omega)
            refine wp_inv3w rfl (by simp [Region.wanted]) "Write" g _ _ _ _ _ rfl (.int .u64 A) (.int .i64 4) (.int .u64 H) (by simp [Act.eval, e29]) (by simp [Act.eval, e30]) (by simp [Act.eval]) (by simp [Act.eval, e32]) fW rc (cW.out _ _) (H1.out _ F0 hm1) ?_
            rintro e w7 ⟨rfl, F1, k1, k2⟩
            exact ⟨_, rfl, (), HF.out.put (by kernel_rfl) rfl rfl rfl (of_decide_eq_true rfl), HW.out.go 0 hjl rfl hl0 (fun j hj => by omega) (by intro a ha; match a, ha with | 0, _ => rfl) ⟨F1, k1, hm2.trans k2⟩⟩
          | 5, ho =>
            obtain rfl := Option.some.inj ho
            have e33 : fr.tmps[33]?.getD undef = .bool false := HF.out.ev (i := 4) rfl rfl (HE.out ⟨4, .data⟩ (by simp) rfl)
            exact wp_q rfl rfl (by simp [execOp, go_sem, e33]; try rfl) ⟨(), HF.out.put (by kernel_rfl) rfl rfl rfl (of_decide_eq_true rfl), HW.out.q hjl (by decide)⟩
          | 6, ho =>
            obtain rfl := Option.some.inj ho
            have e34 : fr.tmps[34]?.getD undef = .bool true := HF.out.ev (i := 5) rfl rfl (HE.out ⟨5, .data⟩ (by simp) rfl)
            exact wp_q rfl rfl (by simp [execOp, go_sem, e34]; try rfl) ⟨(), HF.out.put (by kernel_rfl) rfl rfl rfl (of_decide_eq_true rfl), HW.out.q hjl (by decide)⟩
          | 7, ho =>
            obtain rfl := Option.some.inj ho
            have hg : fr.tmps[35]? = some (.bool true) := HF.out.q.val 6 _ 35 rfl rfl (HE.out ⟨6, .guard⟩ (by simp) rfl)
            exact wp_sk rfl (wtn rfl rfl rfl hg (by decide)) ⟨(), HF.out.put (by kernel_rfl) rfl rfl rfl (of_decide_eq_true rfl), HW.out.q hjl (by decide)⟩
          | 8, ho =>
            obtain rfl := Option.some.inj ho
            have hg : fr.tmps[35]? = some (.bool true) := HF.out.q.val 6 _ 35 rfl rfl (HE.out ⟨6, .guard⟩ (by simp) rfl)
            exact wp_sk rfl (wtn rfl rfl rfl hg (by decide)) ⟨(), HF.out.put (by kernel_rfl) rfl rfl rfl (of_decide_eq_true rfl), HW.out.q hjl (by decide)⟩
          | 9, ho =>
            obtain rfl := Option.some.inj ho
            have hg : fr.tmps[35]? = some (.bool true) := HF.out.q.val 6 _ 35 rfl rfl (HE.out ⟨6, .guard⟩ (by simp) rfl)
            exact wp_sk rfl (wtn rfl rfl rfl hg (by decide)) ⟨(), HF.out.put (by kernel_rfl) rfl rfl rfl (of_decide_eq_true rfl), HW.out.q hjl (by decide)⟩
          | 10, ho =>
            obtain rfl := Option.some.inj ho
            have hg : fr.tmps[35]? = some (.bool true) := HF.out.q.val 6 _ 35 rfl rfl (HE.out ⟨6, .guard⟩ (by simp) rfl)
            exact wp_sk rfl (wtn rfl rfl rfl hg (by decide)) ⟨(), HF.out.put (by kernel_rfl) rfl rfl rfl (of_decide_eq_true rfl), HW.out.q hjl (by decide)⟩
          | 11, ho =>
            obtain rfl := Option.some.inj ho
            have hg : fr.tmps[35]? = some (.bool true) := HF.out.q.val 6 _ 35 rfl rfl (HE.out ⟨6, .guard⟩ (by simp) rfl)
            exact wp_sk rfl (wtn rfl rfl rfl hg (by decide)) ⟨(), HF.out.put (by kernel_rfl) rfl rfl rfl (of_decide_eq_true rfl), HW.out.q hjl (by decide)⟩
          | 12, ho =>
            obtain rfl := Option.some.inj ho
            have hg : fr.tmps[35]? = some (.bool true) := HF.out.q.val 6 _ 35 rfl rfl (HE.out ⟨6, .guard⟩ (by simp) rfl)
            exact wp_sk rfl (wtn rfl rfl rfl hg (by decide)) ⟨(), HF.out.put (by kernel_rfl) rfl rfl rfl (of_decide_eq_true rfl), HW.out.q hjl (by decide)⟩
          | 13, ho =>
            obtain rfl := Option.some.inj ho
            have e35 : fr.tmps[35]?.getD undef = .bool true := HF.out.ev (i := 6) rfl rfl (HE.out ⟨6, .data⟩ (by simp) rfl)
            have e41 : fr.tmps[41]?.getD undef = undef := HF.out.ev (i := 12) rfl rfl (HE.out ⟨12, .data⟩ (by simp) rfl)
            exact wp_q rfl rfl (by simp [execOp, go_sem, e35, e41]; try rfl) ⟨(), HF.out.put (by kernel_rfl) rfl rfl rfl (of_decide_eq_true rfl), HW.out.q hjl (by decide)⟩
          | 14, ho =>
            obtain rfl := Option.some.inj ho
            have e42 : fr.tmps[42]?.getD undef = .bool true := HF.out.ev (i := 13) rfl rfl (HE.out ⟨13, .data⟩ (by simp) rfl)
            exact wp_q rfl rfl (by simp [execOp, go_sem, e42]; try rfl) ⟨(), HF.out.put (by kernel_rfl) rfl rfl rfl (of_decide_eq_true rfl), HW.out.q hjl (by decide)⟩
          | 15, ho =>
            obtain rfl := Option.some.inj ho
            have hg : fr.tmps[43]? = some (.bool true) := HF.out.q.val 14 _ 43 rfl rfl (HE.out ⟨14, .guard⟩ (by simp) rfl)
            exact wp_sk rfl (wtn rfl rfl rfl hg (by decide)) ⟨(), HF.out.put (by kernel_rfl) rfl rfl rfl (of_decide_eq_true rfl), HW.out.q hjl (by decide)⟩
          | 16, ho =>
            obtain rfl := Option.some.inj ho
            have hg : fr.tmps[43]? = some (.bool true) := HF.out.q.val 14 _ 43 rfl rfl (HE.out ⟨14, .guard⟩ (by simp) rfl)
            exact wp_sk rfl (wtn rfl rfl rfl hg (by decide)) ⟨(), HF.out.put (by kernel_rfl) rfl rfl rfl (of_decide_eq_true rfl), HW.out.q hjl (by decide)⟩
          | 17, ho =>
            obtain rfl := Option.some.inj ho
            have hg : fr.tmps[43]? = some (.bool true) := HF.out.q.val 14 _ 43 rfl rfl (HE.out ⟨14, .guard⟩ (by simp) rfl)
            exact wp_sk rfl (wtn rfl rfl rfl hg (by decide)) ⟨(), HF.out.put (by kernel_rfl) rfl rfl rfl (of_decide_eq_true rfl), HW.out.q hjl (by decide)⟩
          | 18, ho =>
            obtain rfl := Option.some.inj ho
            have hg : fr.tmps[43]? = some (.bool true) := HF.out.q.val 14 _ 43 rfl rfl (HE.out ⟨14, .guard⟩ (by simp) rfl)
            exact wp_sk rfl (wtn rfl rfl rfl hg (by decide)) ⟨(), HF.out.put (by kernel_rfl) rfl rfl rfl (of_decide_eq_true rfl), HW.out.q hjl (by decide)⟩
          | 19, ho =>
            obtain rfl := Option.some.inj ho
            have hg : fr.tmps[43]? = some (.bool true) := HF.out.q.val 14 _ 43 rfl rfl (HE.out ⟨14, .guard⟩ (by simp) rfl)
            exact wp_sk rfl (wtn rfl rfl rfl hg (by decide)) ⟨(), HF.out.put (by kernel_rfl) rfl rfl rfl (of_decide_eq_true rfl), HW.out.q hjl (by decide)⟩
          | 20, ho =>
            obtain rfl := Option.some.inj ho
            have hg : fr.tmps[43]? = some (.bool true) := HF.out.q.val 14 _ 43 rfl rfl (HE.out ⟨14, .guard⟩ (by simp) rfl)
            exact wp_sk rfl (wtn rfl rfl rfl hg (by decide)) ⟨(), HF.out.put (by kernel_rfl) rfl rfl rfl (of_decide_eq_true rfl), HW.out.q hjl (by decide)⟩
          | 21, ho =>
            obtain rfl := Option.some.inj ho
            have hg : fr.tmps[43]? = some (.bool true) := HF.out.q.val 14 _ 43 rfl rfl (HE.out ⟨14, .guard⟩ (by simp) rfl)
            exact wp_sk rfl (wtn rfl rfl rfl hg (by decide)) ⟨(), HF.out.put (by kernel_rfl) rfl rfl rfl (of_decide_eq_true rfl), HW.out.q hjl (by decide)⟩
          | 22, ho =>
            obtain rfl := Option.some.inj ho
            have hg : fr.tmps[43]? = some (.bool true) := HF.out.q.val 14 _ 43 rfl rfl (HE.out ⟨14, .guard⟩ (by simp) rfl)
            exact wp_sk rfl (wtn rfl rfl rfl hg (by decide)) ⟨(), HF.out.put (by kernel_rfl) rfl rfl rfl (of_decide_eq_true rfl), HW.out.q hjl (by decide)⟩
          | 23, ho =>
            obtain rfl := Option.some.inj ho
            have hg : fr.tmps[43]? = some (.bool true) := HF.out.q.val 14 _ 43 rfl rfl (HE.out ⟨14, .guard⟩ (by simp) rfl)
            exact wp_sk rfl (wtn rfl rfl rfl hg (by decide)) ⟨(), HF.out.put (by kernel_rfl) rfl rfl rfl (of_decide_eq_true rfl), HW.out.q hjl (by decide)⟩
          | 24, ho =>
            obtain rfl := Option.some.inj ho
            have hg : fr.tmps[43]? = some (.bool true) := HF.out.q.val 14 _ 43 rfl rfl (HE.out ⟨14, .guard⟩ (by simp) rfl)
            exact wp_sk rfl (wtn rfl rfl rfl hg (by decide)) ⟨(), HF.out.put (by kernel_rfl) rfl rfl rfl (of_decide_eq_true rfl), HW.out.q hjl (by decide)⟩
          | 25, ho =>
            obtain rfl := Option.some.inj ho
            have hg : fr.tmps[43]? = some (.bool true) := HF.out.q.val 14 _ 43 rfl rfl (HE.out ⟨14, .guard⟩ (by simp) rfl)
            exact wp_sk rfl (wtn rfl rfl rfl hg (by decide)) ⟨(), HF.out.put (by kernel_rfl) rfl rfl rfl (of_decide_eq_true rfl), HW.out.q hjl (by decide)⟩
          | 26, ho =>
            obtain rfl := Option.some.inj ho
            have hg : fr.tmps[43]? = some (.bool true) := HF.out.q.val 14 _ 43 rfl rfl (HE.out ⟨14, .guard⟩ (by simp) rfl)
            exact wp_sk rfl (wtn rfl rfl rfl hg (by decide)) ⟨(), HF.out.put (by kernel_rfl) rfl rfl rfl (of_decide_eq_true rfl), HW.out.q hjl (by decide)⟩
          | 27, ho =>
            obtain rfl := Option.some.inj ho
            have hg : fr.tmps[43]? = some (.bool true) := HF.out.q.val 14 _ 43 rfl rfl (HE.out ⟨14, .guard⟩ (by simp) rfl)
            exact wp_sk rfl (wtn rfl rfl rfl hg (by decide)) ⟨(), HF.out.put (by kernel_rfl) rfl rfl rfl (of_decide_eq_true rfl), HW.out.q hjl (by decide)⟩
          | 28, ho =>
            obtain rfl := Option.some.inj ho
            have hg : fr.tmps[43]? = some (.bool true) := HF.out.q.val 14 _ 43 rfl rfl (HE.out ⟨14, .guard⟩ (by simp) rfl)
            exact wp_sk rfl (wtn rfl rfl rfl hg (by decide)) ⟨(), HF.out.put (by kernel_rfl) rfl rfl rfl (of_decide_eq_true rfl), HW.out.q hjl (by decide)⟩
          | 29, ho =>
            obtain rfl := Option.some.inj ho
            have hg : fr.tmps[43]? = some (.bool true) := HF.out.q.val 14 _ 43 rfl rfl (HE.out ⟨14, .guard⟩ (by simp) rfl)
            exact wp_sk rfl (wtn rfl rfl rfl hg (by decide)) ⟨(), HF.out.put (by kernel_rfl) rfl rfl rfl (of_decide_eq_true rfl), HW.out.q hjl (by decide)⟩
          | 30, ho =>
            obtain rfl := Option.some.inj ho
            have hg : fr.tmps[43]? = some (.bool true) := HF.out.q.val 14 _ 43 rfl rfl (HE.out ⟨14, .guard⟩ (by simp) rfl)
            exact wp_sk rfl (wtn rfl rfl rfl hg (by decide)) ⟨(), HF.out.put (by kernel_rfl) rfl rfl rfl (of_decide_eq_true rfl), HW.out.q hjl (by decide)⟩
          | 31, ho =>
            obtain rfl := Option.some.inj ho
            have hg : fr.tmps[43]? = some (.bool true) := HF.out.q.val 14 _ 43 rfl rfl (HE.out ⟨14, .guard⟩ (by simp) rfl)
            exact wp_sk rfl (wtn rfl rfl rfl hg (by decide)) ⟨(), HF.out.put (by kernel_rfl) rfl rfl rfl (of_decide_eq_true rfl), HW.out.q hjl (by decide)⟩
          | 32, ho =>
            obtain rfl := Option.some.inj ho
            have e43 : fr.tmps[43]?.getD undef = .bool true := HF.out.ev (i := 14) rfl rfl (HE.out ⟨14, .data⟩ (by simp) rfl)
            have e60 : fr.tmps[60]?.getD undef = undef := HF.out.ev (i := 31) rfl rfl (HE.out ⟨31, .data⟩ (by simp) rfl)
            exact wp_q rfl rfl (by simp [execOp, go_sem, e43, e60]; try rfl) ⟨(), HF.out.put (by kernel_rfl) rfl rfl rfl (of_decide_eq_true rfl), HW.out.q hjl (by decide)⟩
        case fin =>
          rintro listed fr w2 x hF hW hr
          have all := allDone hr hF.q.ls (by kernel_rfl)
          obtain ⟨s, hs1, F1, r1, r2⟩ := hW
          have hs : 1 ≤ s := by
            have := hs1 0 _ rfl
            rw [all _ (by decide)] at this
            have : 0 < s := by simpa using this.symm
            omega
          rw [Nat.min_eq_right hs] at r1
          rw [hF.full all]
          have R1 := hid r1
          have R2 := hid r2
          clear hF hr all r1 r2 hs1 hs
          simp only [List.foldl_cons, List.foldl_nil, fillF]
          go_simp
          obtain rfl : pf = (32, v.die, St 1) := HPF.out
          have Q1 := HNE.out _ HB0.out _ _ R2.out
          have hdi := HDI.out _ Q1
          have HQ1 := hid Q1
          clear Q1
          go_wp2_with (go_at_call 41; refine hdi.mono ?_; rintro e w5 ⟨rfl, hq5, ho5⟩; have Q5 := hid hq5; have O5 := hid ho5; clear hq5 ho5)
          go_ret
          exact ⟨rfl, Q5.out, F1, HOW.out _ _ _ _ R1.out HQ1.out O5.out, HTX.out _ _ _ R2.out O5.out⟩
      · cases k2
        · refine wpAny_fz (α := Unit) (fun _ => fun dd => if dd = 29 then g else if dd = 30 then .int .u64 A else if dd = 31 then .int .i64 hd else if dd = 32 then .int .u64 H else if dd = 33 then .bool true else if dd = 34 then .bool false else if dd = 35 then .bool false else if dd = 36 then g else if dd = 37 then .int .u64 A else if dd = 38 then .int .u64 (A + 4) else if dd = 39 then .int .u64 n else if dd = 40 then .bool false else if dd = 41 then .bool true else if dd = 42 then .bool true else if dd = 43 then .bool true else if dd = 44 then undef else if dd = 45 then undef else if dd = 46 then undef else if dd = 47 then undef else if dd = 48 then undef else if dd = 49 then undef else if dd = 50 then undef else if dd = 51 then undef else if dd = 52 then undef else if dd = 53 then undef else if dd = 54 then undef else if dd = 55 then undef else if dd = 56 then undef else if dd = 57 then undef else if dd = 58 then undef else if dd = 59 then undef else if dd = 60 then undef else if dd = 61 then .bool true else undef) (fun x listed w => VS [4, 11] (fun n (_ : Unit) w => ∃ F1, G.R w F1 (St (min n 2)) ∧ Tx w0 F w F1) x listed w) ?step ?fin () ?start
          case start => exact .start ⟨F, HR0.out, Tx.refl _ _⟩
          case step =>
            rintro listed fr wr x hF hW hC i hj
            obtain ⟨hl, o, ho, he⟩ := mem_ready.1 hj
            have hjl : i < listed.size := by rw [hF.q.ls]; exact (Array.getElem?_eq_some_iff.1 ho).1
            have hl0 := getD_tf hjl hl
            clear hj
            have HF := hid hF
            have HW := hid hW
            have HE := hid he
            have HC := hid hC
            clear hF hW he hl hC
            match i, ho with
            | 0, ho =>
              obtain rfl := Option.some.inj ho
              have e1 : fr.tmps[1]?.getD undef = g := HF.out.base 1 (by kernel_rfl) rfl
              exact wp_q rfl rfl (by simp [execOp, go_sem, e1]; try rfl) ⟨(), HF.out.put (by kernel_rfl) rfl rfl rfl (of_decide_eq_true rfl), HW.out.q hjl (by decide)⟩
            | 1, ho =>
              obtain rfl := Option.some.inj ho
              have e10 : fr.tmps[10]?.getD undef = .int .u64 A := HF.out.base 10 (by kernel_rfl) rfl
              exact wp_q rfl rfl (by simp [execOp, go_sem, e10]; try rfl) ⟨(), HF.out.put (by kernel_rfl) rfl rfl rfl (of_decide_eq_true rfl), HW.out.q hjl (by decide)⟩
            | 2, ho =>
              obtain rfl := Option.some.inj ho
              have e2 : fr.tmps[2]?.getD undef = .int .i64 hd := HF.out.base 2 (by kernel_rfl) rfl
              exact wp_q rfl rfl (by simp [execOp, go_sem, e2]; try rfl) ⟨(), HF.out.put (by kernel_rfl) rfl rfl rfl (of_decide_eq_true rfl), HW.out.q hjl (by decide)⟩
            | 3, ho =>
              obtain rfl := Option.some.inj ho
              have e31 : fr.tmps[31]?.getD undef = .int .i64 hd := HF.out.ev (i := 2) rfl rfl (HE.out ⟨2, .data⟩ (by simp) rfl)
              exact wp_q rfl rfl (by simp [execOp, go_sem, e31, wh]; try rfl) ⟨(), HF.out.put (by kernel_rfl) rfl rfl rfl (of_decide_eq_true rfl), HW.out.q hjl (by decide)⟩
            | 4, ho =>
              obtain rfl := Option.some.inj ho
              have e29 : fr.tmps[29]?.getD undef = g := HF.out.ev (i := 0) rfl rfl (HE.out ⟨0, .data⟩ (by simp) rfl)
              have e30 : fr.tmps[30]?.getD undef = .int .u64 A := HF.out.ev (i := 1) rfl rfl (HE.out ⟨1, .data⟩ (by simp) rfl)
              have e32 : fr.tmps[32]?.getD undef = .int .u64 H := HF.out.ev (i := 3) rfl rfl (HE.out ⟨3, .data⟩ (by simp) rfl)
              obtain ⟨F0, hm1, hm2⟩ := HW.out.at 0 rfl hl0 (fun j hj => by omega)
              refine wp_inv3w rfl (by simp [Region.wanted]) "Write" g _ _ _ _ _ rfl (.int .u64 A) (.int .i64 4) (.int .u64 H) (by simp [Act.eval, e29]) (by simp [Act.eval, e30]) (by simp [Act.eval]) (by simp [Act.eval, e32]) fW rc (cW.out _ _) (H1.out _ F0 hm1) ?_
              rintro e w7 ⟨rfl, F1, k1, k2⟩
              exact ⟨_, rfl, (), HF.out.put (by kernel_rfl) rfl rfl rfl (of_decide_eq_true rfl), HW.out.go 0 hjl rfl hl0 (fun j hj => by omega) (by intro a ha; match a, ha with | 0, _ => rfl | 1, ha => simp at ha) ⟨F1, k1, hm2.trans k2⟩⟩
            | 5, ho =>
              obtain rfl := Option.some.inj ho
              have e33 : fr.tmps[33]?.getD undef = .bool true := HF.out.ev (i := 4) rfl rfl (HE.out ⟨4, .data⟩ (by simp) rfl)
              exact wp_q rfl rfl (by simp [execOp, go_sem, e33]; try rfl) ⟨(), HF.out.put (by kernel_rfl) rfl rfl rfl (of_decide_eq_true rfl), HW.out.q hjl (by decide)⟩
            | 6, ho =>
              obtain rfl := Option.some.inj ho
              have e34 : fr.tmps[34]?.getD undef = .bool false := HF.out.ev (i := 5) rfl rfl (HE.out ⟨5, .data⟩ (by simp) rfl)
              exact wp_q rfl rfl (by simp [execOp, go_sem, e34]; try rfl) ⟨(), HF.out.put (by kernel_rfl) rfl rfl rfl (of_decide_eq_true rfl), HW.out.q hjl (by decide)⟩
            | 7, ho =>
              obtain rfl := Option.some.inj ho
              have e1 : fr.tmps[1]?.getD undef = g := HF.out.base 1 (by kernel_rfl) rfl
              have hg : fr.tmps[35]? = some (.bool false) := HF.out.q.val 6 _ 35 rfl rfl (HE.out ⟨6, .guard⟩ (by simp) rfl)
              exact wp_qw rfl (wtd rfl rfl rfl hg) (by simp [execOp, go_sem, e1]; try rfl) ⟨(), HF.out.put (by kernel_rfl) rfl rfl rfl (of_decide_eq_true rfl), HW.out.q hjl (by decide)⟩
            | 8, ho =>
              obtain rfl := Option.some.inj ho
              have e10 : fr.tmps[10]?.getD undef = .int .u64 A := HF.out.base 10 (by kernel_rfl) rfl
              have hg : fr.tmps[35]? = some (.bool false) := HF.out.q.val 6 _ 35 rfl rfl (HE.out ⟨6, .guard⟩ (by simp) rfl)
              exact wp_qw rfl (wtd rfl rfl rfl hg) (by simp [execOp, go_sem, e10]; try rfl) ⟨(), HF.out.put (by kernel_rfl) rfl rfl rfl (of_decide_eq_true rfl), HW.out.q hjl (by decide)⟩
            | 9, ho =>
              obtain rfl := Option.some.inj ho
              have e37 : fr.tmps[37]?.getD undef = .int .u64 A := HF.out.ev (i := 8) rfl rfl (HE.out ⟨8, .data⟩ (by simp) rfl)
              have hg : fr.tmps[35]? = some (.bool false) := HF.out.q.val 6 _ 35 rfl rfl (HE.out ⟨6, .guard⟩ (by simp) rfl)
              exact wp_qw rfl (wtd rfl rfl rfl hg) (by simp [execOp, go_sem, e37, wa4]; try rfl) ⟨(), HF.out.put (by kernel_rfl) rfl rfl rfl (of_decide_eq_true rfl), HW.out.q hjl (by decide)⟩
            | 10, ho =>
              obtain rfl := Option.some.inj ho
              have e3 : fr.tmps[3]?.getD undef = .int .u64 n := HF.out.base 3 (by kernel_rfl) rfl
              have hg : fr.tmps[35]? = some (.bool false) := HF.out.q.val 6 _ 35 rfl rfl (HE.out ⟨6, .guard⟩ (by simp) rfl)
              exact wp_qw rfl (wtd rfl rfl rfl hg) (by simp [execOp, go_sem, e3]; try rfl) ⟨(), HF.out.put (by kernel_rfl) rfl rfl rfl (of_decide_eq_true rfl), HW.out.q hjl (by decide)⟩
            | 11, ho =>
              obtain rfl := Option.some.inj ho
              have e36 : fr.tmps[36]?.getD undef = g := HF.out.ev (i := 7) rfl rfl (HE.out ⟨7, .data⟩ (by simp) rfl)
              have e38 : fr.tmps[38]?.getD undef = .int .u64 (A + 4) := HF.out.ev (i := 9) rfl rfl (HE.out ⟨9, .data⟩ (by simp) rfl)
              have e39 : fr.tmps[39]?.getD undef = .int .u64 n := HF.out.ev (i := 10) rfl rfl (HE.out ⟨10, .data⟩ (by simp) rfl)
              have hg : fr.tmps[35]? = some (.bool false) := HF.out.q.val 6 _ 35 rfl rfl (HE.out ⟨6, .guard⟩ (by simp) rfl)
              have hp := HC.out 6 _ rfl (HE.out ⟨6, .chain⟩ (by simp) rfl) ⟨4, .chain⟩ (by simp) rfl
              obtain ⟨F0, hm1, hm2⟩ := HW.out.at 1 rfl hl0 (fun j hj => by obtain rfl : j = 0 := (by omega); exact ⟨4, rfl, hp⟩)
              refine wp_inv3w rfl (wtd rfl rfl rfl hg) "Write" g _ _ _ _ _ rfl (.int .u64 (A + 4)) (.int .i64 4) (.int .u64 n) (by simp [Act.eval, e36]) (by simp [Act.eval, e38]) (by simp [Act.eval]) (by simp [Act.eval, e39]) fW rc (cW.out _ _) (H2.out _ F0 hm1) ?_
              rintro e w7 ⟨rfl, F1, k1, k2⟩
              exact ⟨_, rfl, (), HF.out.put (by kernel_rfl) rfl rfl rfl (of_decide_eq_true rfl), HW.out.go 1 hjl rfl hl0 (fun j hj => by obtain rfl : j = 0 := (by omega); exact ⟨4, rfl, hp⟩) (by intro a ha; match a, ha with | 0, ha => simp at ha | 1, _ => rfl) ⟨F1, k1, hm2.trans k2⟩⟩
            | 12, ho =>
              obtain rfl := Option.some.inj ho
              have e40 : fr.tmps[40]?.getD undef = .bool false := HF.out.ev (i := 11) rfl rfl (HE.out ⟨11, .data⟩ (by simp) rfl)
              have hg : fr.tmps[35]? = some (.bool false) := HF.out.q.val 6 _ 35 rfl rfl (HE.out ⟨6, .guard⟩ (by simp) rfl)
              exact wp_qw rfl (wtd rfl rfl rfl hg) (by simp [execOp, go_sem, e40]; try rfl) ⟨(), HF.out.put (by kernel_rfl) rfl rfl rfl (of_decide_eq_true rfl), HW.out.q hjl (by decide)⟩
            | 13, ho =>
              obtain rfl := Option.some.inj ho
              have e35 : fr.tmps[35]?.getD undef = .bool false := HF.out.ev (i := 6) rfl rfl (HE.out ⟨6, .data⟩ (by simp) rfl)
              have e41 : fr.tmps[41]?.getD undef = .bool true := HF.out.ev (i := 12) rfl rfl (HE.out ⟨12, .data⟩ (by simp) rfl)
              exact wp_q rfl rfl (by simp [execOp, go_sem, e35, e41]; try rfl) ⟨(), HF.out.put (by kernel_rfl) rfl rfl rfl (of_decide_eq_true rfl), HW.out.q hjl (by decide)⟩
            | 14, ho =>
              obtain rfl := Option.some.inj ho
              have e42 : fr.tmps[42]?.getD undef = .bool true := HF.out.ev (i := 13) rfl rfl (HE.out ⟨13, .data⟩ (by simp) rfl)
              exact wp_q rfl rfl (by simp [execOp, go_sem, e42]; try rfl) ⟨(), HF.out.put (by kernel_rfl) rfl rfl rfl (of_decide_eq_true rfl), HW.out.q hjl (by decide)⟩
            | 15, ho =>
              obtain rfl := Option.some.inj ho
              have hg : fr.tmps[43]? = some (.bool true) := HF.out.q.val 14 _ 43 rfl rfl (HE.out ⟨14, .guard⟩ (by simp) rfl)
              exact wp_sk rfl (wtn rfl rfl rfl hg (by decide)) ⟨(), HF.out.put (by kernel_rfl) rfl rfl rfl (of_decide_eq_true rfl), HW.out.q hjl (by decide)⟩
            | 16, ho =>
              obtain rfl := Option.some.inj ho
              have hg : fr.tmps[43]? = some (.bool true) := HF.out.q.val 14 _ 43 rfl rfl (HE.out ⟨14, .guard⟩ (by simp) rfl)
              exact wp_sk rfl (wtn rfl rfl rfl hg (by decide)) ⟨(), HF.out.put (by kernel_rfl) rfl rfl rfl (of_decide_eq_true rfl), HW.out.q hjl (by decide)⟩
            | 17, ho =>
              obtain rfl := Option.some.inj ho
              have hg : fr.tmps[43]? = some (.bool true) := HF.out.q.val 14 _ 43 rfl rfl (HE.out ⟨14, .guard⟩ (by simp) rfl)
              exact wp_sk rfl (wtn rfl rfl rfl hg (by decide)) ⟨(), HF.out.put (by kernel_rfl) rfl rfl rfl (of_decide_eq_true rfl), HW.out.q hjl (by decide)⟩
            | 18, ho =>
              obtain rfl := Option.some.inj ho
              have hg : fr.tmps[43]? = some (.bool true) := HF.out.q.val 14 _ 43 rfl rfl (HE.out ⟨14, .guard⟩ (by simp) rfl)
              exact wp_sk rfl (wtn rfl rfl rfl hg (by decide)) ⟨(), HF.out.put (by kernel_rfl) rfl rfl rfl (of_decide_eq_true rfl), HW.out.q hjl (by decide)⟩
            | 19, ho =>
              obtain rfl := Option.some.inj ho
              have hg : fr.tmps[43]? = some (.bool true) := HF.out.q.val 14 _ 43 rfl rfl (HE.out ⟨14, .guard⟩ (by simp) rfl)
              exact wp_sk rfl (wtn rfl rfl rfl hg (by decide)) ⟨(), HF.out.put (by kernel_rfl) rfl rfl rfl (of_decide_eq_true rfl), HW.out.q hjl (by decide)⟩
            | 20, ho =>
              obtain rfl := Option.some.inj ho
              have hg : fr.tmps[43]? = some (.bool true) := HF.out.q.val 14 _ 43 rfl rfl (HE.out ⟨14, .guard⟩ (by simp) rfl)
              exact wp_sk rfl (wtn rfl rfl rfl hg (by decide)) ⟨(), HF.out.put (by kernel_rfl) rfl rfl rfl (of_decide_eq_true rfl), HW.out.q hjl (by decide)⟩
            | 21, ho =>
              obtain rfl := Option.some.inj ho
              have hg : fr.tmps[43]? = some (.bool true) := HF.out.q.val 14 _ 43 rfl rfl (HE.out ⟨14, .guard⟩ (by simp) rfl)
              exact wp_sk rfl (wtn rfl rfl rfl hg (by decide)) ⟨(), HF.out.put (by kernel_rfl) rfl rfl rfl (of_decide_eq_true rfl), HW.out.q hjl (by decide)⟩
            | 22, ho =>
              obtain rfl := Option.some.inj ho
              have hg : fr.tmps[43]? = some (.bool true) := HF.out.q.val 14 _ 43 rfl rfl (HE.out ⟨14, .guard⟩ (by simp) rfl)
              exact wp_sk rfl (wtn rfl rfl rfl hg (by decide)) ⟨(), HF.out.put (by kernel_rfl) rfl rfl rfl (of_decide_eq_true rfl), HW.out.q hjl (by decide)⟩
            | 23, ho =>
              obtain rfl := Option.some.inj ho
              have hg : fr.tmps[43]? = some (.bool true) := HF.out.q.val 14 _ 43 rfl rfl (HE.out ⟨14, .guard⟩ (by simp) rfl)
              exact wp_sk rfl (wtn rfl rfl rfl hg (by decide)) ⟨(), HF.out.put (by kernel_rfl) rfl rfl rfl (of_decide_eq_true rfl), HW.out.q hjl (by decide)⟩
            | 24, ho =>
              obtain rfl := Option.some.inj ho
              have hg : fr.tmps[43]? = some (.bool true) := HF.out.q.val 14 _ 43 rfl rfl (HE.out ⟨14, .guard⟩ (by simp) rfl)
              exact wp_sk rfl (wtn rfl rfl rfl hg (by decide)) ⟨(), HF.out.put (by kernel_rfl) rfl rfl rfl (of_decide_eq_true rfl), HW.out.q hjl (by decide)⟩
            | 25, ho =>
              obtain rfl := Option.some.inj ho
              have hg : fr.tmps[43]? = some (.bool true) := HF.out.q.val 14 _ 43 rfl rfl (HE.out ⟨14, .guard⟩ (by simp) rfl)
              exact wp_sk rfl (wtn rfl rfl rfl hg (by decide)) ⟨(), HF.out.put (by kernel_rfl) rfl rfl rfl (of_decide_eq_true rfl), HW.out.q hjl (by decide)⟩
            | 26, ho =>
              obtain rfl := Option.some.inj ho
              have hg : fr.tmps[43]? = some (.bool true) := HF.out.q.val 14 _ 43 rfl rfl (HE.out ⟨14, .guard⟩ (by simp) rfl)
              exact wp_sk rfl (wtn rfl rfl rfl hg (by decide)) ⟨(), HF.out.put (by kernel_rfl) rfl rfl rfl (of_decide_eq_true rfl), HW.out.q hjl (by decide)⟩
            | 27, ho =>
              obtain rfl := Option.some.inj ho
              have hg : fr.tmps[43]? = some (.bool true) := HF.out.q.val 14 _ 43 rfl rfl (HE.out ⟨14, .guard⟩ (by simp) rfl)
              exact wp_sk rfl (wtn rfl rfl rfl hg (by decide)) ⟨(), HF.out.put (by kernel_rfl) rfl rfl rfl (of_decide_eq_true rfl), HW.out.q hjl (by decide)⟩
            | 28, ho =>
              obtain rfl := Option.some.inj ho
              have hg : fr.tmps[43]? = some (.bool true) := HF.out.q.val 14 _ 43 rfl rfl (HE.out ⟨14, .guard⟩ (by simp) rfl)
              exact wp_sk rfl (wtn rfl rfl rfl hg (by decide)) ⟨(), HF.out.put (by kernel_rfl) rfl rfl rfl (of_decide_eq_true rfl), HW.out.q hjl (by decide)⟩
            | 29, ho =>
              obtain rfl := Option.some.inj ho
              have hg : fr.tmps[43]? = some (.bool true) := HF.out.q.val 14 _ 43 rfl rfl (HE.out ⟨14, .guard⟩ (by simp) rfl)
              exact wp_sk rfl (wtn rfl rfl rfl hg (by decide)) ⟨(), HF.out.put (by kernel_rfl) rfl rfl rfl (of_decide_eq_true rfl), HW.out.q hjl (by decide)⟩
            | 30, ho =>
              obtain rfl := Option.some.inj ho
              have hg : fr.tmps[43]? = some (.bool true) := HF.out.q.val 14 _ 43 rfl rfl (HE.out ⟨14, .guard⟩ (by simp) rfl)
              exact wp_sk rfl (wtn rfl rfl rfl hg (by decide)) ⟨(), HF.out.put (by kernel_rfl) rfl rfl rfl (of_decide_eq_true rfl), HW.out.q hjl (by decide)⟩
            | 31, ho =>
              obtain rfl := Option.some.inj ho
              have hg : fr.tmps[43]? = some (.bool true) := HF.out.q.val 14 _ 43 rfl rfl (HE.out ⟨14, .guard⟩ (by simp) rfl)
              exact wp_sk rfl (wtn rfl rfl rfl hg (by decide)) ⟨(), HF.out.put (by kernel_rfl) rfl rfl rfl (of_decide_eq_true rfl), HW.out.q hjl (by decide)⟩
            | 32, ho =>
              obtain rfl := Option.some.inj ho
              have e43 : fr.tmps[43]?.getD undef = .bool true := HF.out.ev (i := 14) rfl rfl (HE.out ⟨14, .data⟩ (by simp) rfl)
              have e60 : fr.tmps[60]?.getD undef = undef := HF.out.ev (i := 31) rfl rfl (HE.out ⟨31, .data⟩ (by simp) rfl)
              exact wp_q rfl rfl (by simp [execOp, go_sem, e43, e60]; try rfl) ⟨(), HF.out.put (by kernel_rfl) rfl rfl rfl (of_decide_eq_true rfl), HW.out.q hjl (by decide)⟩
          case fin =>
            rintro listed fr w2 x hF hW hr
            have all := allDone hr hF.q.ls (by kernel_rfl)
            obtain ⟨s, hs1, F1, r1, r2⟩ := hW
            have hs : 2 ≤ s := by
              have := hs1 1 _ rfl
              rw [all _ (by decide)] at this
              have : 1 < s := by simpa using this.symm
              omega
            rw [Nat.min_eq_right hs] at r1
            rw [hF.full all]
            have R1 := hid r1
            have R2 := hid r2
            clear hF hr all r1 r2 hs1 hs
            simp only [List.foldl_cons, List.foldl_nil, fillF]
            go_simp
            obtain rfl : pf = (32, v.die, St 2) := HPF.out
            have Q1 := HNE.out _ HB0.out _ _ R2.out
            have hdi := HDI.out _ Q1
            have HQ1 := hid Q1
            clear Q1
            go_wp2_with (go_at_call 41; refine hdi.mono ?_; rintro e w5 ⟨rfl, hq5, ho5⟩; have Q5 := hid hq5; have O5 := hid ho5; clear hq5 ho5)
            go_ret
            exact ⟨rfl, Q5.out, F1, HOW.out _ _ _ _ R1.out HQ1.out O5.out, HTX.out _ _ _ R2.out O5.out⟩
        · refine wpAny_fz (α := Unit) (fun _ => fun dd => if dd = 29 then g else if dd = 30 then .int .u64 A else if dd = 31 then .int .i64 hd else if dd = 32 then .int .u64 H else if dd = 33 then .bool true else if dd = 34 then .bool false else if dd = 35 then .bool false else if dd = 36 then g else if dd = 37 then .int .u64 A else if dd = 38 then .int .u64 (A + 4) else if dd = 39 then .int .u64 n else if dd = 40 then .bool true else if dd = 41 then .bool false else if dd = 42 then .bool false else if dd = 43 then .bool false else if dd = 44 then g else if dd = 45 then .pointer (some ⟨q, 0, none⟩) else if dd = 46 then .pointer (some ⟨q, 0, none⟩) else if dd = 47 then .pointer (some ⟨q, 3, none⟩) else if dd = 48 then .int .u64 v.u else if dd = 49 then .int .u64 (v.u + 2) else if dd = 50 then .pointer (some ⟨q, 0, none⟩) else if dd = 51 then .pointer (some ⟨q, 0, none⟩) else if dd = 52 then .pointer (some ⟨q, 5, none⟩) else if dd = 53 then .int .u16 v.gv else if dd = 54 then .int .u16 g1 else if dd = 55 then .int .u64 g1 else if dd = 56 then .func (.method "Write") #[g] #[] else if dd = 57 then .func (.method "Write") #[g] #[] else if dd = 58 then g else if dd = 59 then .bool k3 else if dd = 60 then .bool !k3 else if dd = 61 then .bool !k3 else undef) (fun x listed w => VS [4, 11, 30] (fun n (_ : Unit) w => ∃ F1, G.R w F1 (St (min n 3)) ∧ Tx w0 F w F1) x listed w) ?step ?fin () ?start
          case start => exact .start ⟨F, HR0.out, Tx.refl _ _⟩
          case step =>
            rintro listed fr wr x hF hW hC i hj
            obtain ⟨hl, o, ho, he⟩ := mem_ready.1 hj
            have hjl : i < listed.size := by rw [hF.q.ls]; exact (Array.getElem?_eq_some_iff.1 ho).1
            have hl0 := getD_tf hjl hl
            clear hj
            have HF := hid hF
            have HW := hid hW
            have HE := hid he
            have HC := hid hC
            clear hF hW he hl hC
            match i, ho with
            | 0, ho =>
              obtain rfl := Option.some.inj ho
              have e1 : fr.tmps[1]?.getD undef = g := HF.out.base 1 (by kernel_rfl) rfl
              exact wp_q rfl rfl (by simp [execOp, go_sem, e1]; try rfl) ⟨(), HF.out.put (by kernel_rfl) rfl rfl rfl (of_decide_eq_true rfl), HW.out.q hjl (by decide)⟩
            | 1, ho =>
              obtain rfl := Option.some.inj ho
              have e10 : fr.tmps[10]?.getD undef = .int .u64 A := HF.out.base 10 (by kernel_rfl) rfl
              exact wp_q rfl rfl (by simp [execOp, go_sem, e10]; try rfl) ⟨(), HF.out.put (by kernel_rfl) rfl rfl rfl (of_decide_eq_true rfl), HW.out.q hjl (by decide)⟩
            | 2, ho =>
              obtain rfl := Option.some.inj ho
              have e2 : fr.tmps[2]?.getD undef = .int .i64 hd := HF.out.base 2 (by kernel_rfl) rfl
              exact wp_q rfl rfl (by simp [execOp, go_sem, e2]; try rfl) ⟨(), HF.out.put (by kernel_rfl) rfl rfl rfl (of_decide_eq_true rfl), HW.out.q hjl (by decide)⟩
            | 3, ho =>
              obtain rfl := Option.some.inj ho
              have e31 : fr.tmps[31]?.getD undef = .int .i64 hd := HF.out.ev (i := 2) rfl rfl (HE.out ⟨2, .data⟩ (by simp) rfl)
              exact wp_q rfl rfl (by simp [execOp, go_sem, e31, wh]; try rfl) ⟨(), HF.out.put (by kernel_rfl) rfl rfl rfl (of_decide_eq_true rfl), HW.out.q hjl (by decide)⟩
            | 4, ho =>
              obtain rfl := Option.some.inj ho
              have e29 : fr.tmps[29]?.getD undef = g := HF.out.ev (i := 0) rfl rfl (HE.out ⟨0, .data⟩ (by simp) rfl)
              have e30 : fr.tmps[30]?.getD undef = .int .u64 A := HF.out.ev (i := 1) rfl rfl (HE.out ⟨1, .data⟩ (by simp) rfl)
              have e32 : fr.tmps[32]?.getD undef = .int .u64 H := HF.out.ev (i := 3) rfl rfl (HE.out ⟨3, .data⟩ (by simp) rfl)
              obtain ⟨F0, hm1, hm2⟩ := HW.out.at 0 rfl hl0 (fun j hj => by omega)
              refine wp_inv3w rfl (by simp [Region.wanted]) "Write" g _ _ _ _ _ rfl (.int .u64 A) (.int .i64 4) (.int .u64 H) (by simp [Act.eval, e29]) (by simp [Act.eval, e30]) (by simp [Act.eval]) (by simp [Act.eval, e32]) fW rc (cW.out _ _) (H1.out _ F0 hm1) ?_
              rintro e w7 ⟨rfl, F1, k1, k2⟩
              exact ⟨_, rfl, (), HF.out.put (by kernel_rfl) rfl rfl rfl (of_decide_eq_true rfl), HW.out.go 0 hjl rfl hl0 (fun j hj => by omega) (by intro a ha; match a, ha with | 0, _ => rfl | 1, ha => simp at ha | 2, ha => simp at ha) ⟨F1, k1, hm2.trans k2⟩⟩
            | 5, ho =>
              obtain rfl := Option.some.inj ho
              have e33 : fr.tmps[33]?.getD undef = .bool true := HF.out.ev (i := 4) rfl rfl (HE.out ⟨4, .data⟩ (by simp) rfl)
              exact wp_q rfl rfl (by simp [execOp, go_sem, e33]; try rfl) ⟨(), HF.out.put (by kernel_rfl) rfl rfl rfl (of_decide_eq_true rfl), HW.out.q hjl (by decide)⟩
            | 6, ho =>
              obtain rfl := Option.some.inj ho
              have e34 : fr.tmps[34]?.getD undef = .bool false := HF.out.ev (i := 5) rfl rfl (HE.out ⟨5, .data⟩ (by simp) rfl)
              exact wp_q rfl rfl (by simp [execOp, go_sem, e34]; try rfl) ⟨(), HF.out.put (by kernel_rfl) rfl rfl rfl (of_decide_eq_true rfl), HW.out.q hjl (by decide)⟩
            | 7, ho =>
              obtain rfl := Option.some.inj ho
              have e1 : fr.tmps[1]?.getD undef = g := HF.out.base 1 (by kernel_rfl) rfl
              have hg : fr.tmps[35]? = some (.bool false) := HF.out.q.val 6 _ 35 rfl rfl (HE.out ⟨6, .guard⟩ (by simp) rfl)
              exact wp_qw rfl (wtd rfl rfl rfl hg) (by simp [execOp, go_sem, e1]; try rfl) ⟨(), HF.out.put (by kernel_rfl) rfl rfl rfl (of_decide_eq_true rfl), HW.out.q hjl (by decide)⟩
            | 8, ho =>
              obtain rfl := Option.some.inj ho
              have e10 : fr.tmps[10]?.getD undef = .int .u64 A := HF.out.base 10 (by kernel_rfl) rfl
              have hg : fr.tmps[35]? = some (.bool false) := HF.out.q.val 6 _ 35 rfl rfl (HE.out ⟨6, .guard⟩ (by simp) rfl)
              exact wp_qw rfl (wtd rfl rfl rfl hg) (by simp [execOp, go_sem, e10]; try rfl) ⟨(), HF.out.put (by kernel_rfl) rfl rfl rfl (of_decide_eq_true rfl), HW.out.q hjl (by decide)⟩
            | 9, ho =>
              obtain rfl := Option.some.inj ho
              have e37 : fr.tmps[37]?.getD undef = .int .u64 A := HF.out.ev (i := 8) rfl rfl (HE.out ⟨8, .data⟩ (by simp) rfl)
              have hg : fr.tmps[35]? = some (.bool false) := HF.out.q.val 6 _ 35 rfl rfl (HE.out ⟨6, .guard⟩ (by simp) rfl)
              exact wp_qw rfl (wtd rfl rfl rfl hg) (by simp [execOp, go_sem, e37, wa4]; try rfl) ⟨(), HF.out.put (by kernel_rfl) rfl rfl rfl (of_decide_eq_true rfl), HW.out.q hjl (by decide)⟩
            | 10, ho =>
              obtain rfl := Option.some.inj ho
              have e3 : fr.tmps[3]?.getD undef = .int .u64 n := HF.out.base 3 (by kernel_rfl) rfl
              have hg : fr.tmps[35]? = some (.bool false) := HF.out.q.val 6 _ 35 rfl rfl (HE.out ⟨6, .guard⟩ (by simp) rfl)
              exact wp_qw rfl (wtd rfl rfl rfl hg) (by simp [execOp, go_sem, e3]; try rfl) ⟨(), HF.out.put (by kernel_rfl) rfl rfl rfl (of_decide_eq_true rfl), HW.out.q hjl (by decide)⟩
            | 11, ho =>
              obtain rfl := Option.some.inj ho
              have e36 : fr.tmps[36]?.getD undef = g := HF.out.ev (i := 7) rfl rfl (HE.out ⟨7, .data⟩ (by simp) rfl)
              have e38 : fr.tmps[38]?.getD undef = .int .u64 (A + 4) := HF.out.ev (i := 9) rfl rfl (HE.out ⟨9, .data⟩ (by simp) rfl)
              have e39 : fr.tmps[39]?.getD undef = .int .u64 n := HF.out.ev (i := 10) rfl rfl (HE.out ⟨10, .data⟩ (by simp) rfl)
              have hg : fr.tmps[35]? = some (.bool false) := HF.out.q.val 6 _ 35 rfl rfl (HE.out ⟨6, .guard⟩ (by simp) rfl)
              have hp := HC.out 6 _ rfl (HE.out ⟨6, .chain⟩ (by simp) rfl) ⟨4, .chain⟩ (by simp) rfl
              obtain ⟨F0, hm1, hm2⟩ := HW.out.at 1 rfl hl0 (fun j hj => by obtain rfl : j = 0 := (by omega); exact ⟨4, rfl, hp⟩)
              refine wp_inv3w rfl (wtd rfl rfl rfl hg) "Write" g _ _ _ _ _ rfl (.int .u64 (A + 4)) (.int .i64 4) (.int .u64 n) (by simp [Act.eval, e36]) (by simp [Act.eval, e38]) (by simp [Act.eval]) (by simp [Act.eval, e39]) fW rc (cW.out _ _) (H2.out _ F0 hm1) ?_
              rintro e w7 ⟨rfl, F1, k1, k2⟩
              exact ⟨_, rfl, (), HF.out.put (by kernel_rfl) rfl rfl rfl (of_decide_eq_true rfl), HW.out.go 1 hjl rfl hl0 (fun j hj => by obtain rfl : j = 0 := (by omega); exact ⟨4, rfl, hp⟩) (by intro a ha; match a, ha with | 0, ha => simp at ha | 1, _ => rfl | 2, ha => simp at ha) ⟨F1, k1, hm2.trans k2⟩⟩
            | 12, ho =>
              obtain rfl := Option.some.inj ho
              have e40 : fr.tmps[40]?.getD undef = .bool true := HF.out.ev (i := 11) rfl rfl (HE.out ⟨11, .data⟩ (by simp) rfl)
              have hg : fr.tmps[35]? = some (.bool false) := HF.out.q.val 6 _ 35 rfl rfl (HE.out ⟨6, .guard⟩ (by simp) rfl)
              exact wp_qw rfl (wtd rfl rfl rfl hg) (by simp [execOp, go_sem, e40]; try rfl) ⟨(), HF.out.put (by kernel_rfl) rfl rfl rfl (of_decide_eq_true rfl), HW.out.q hjl (by decide)⟩
            | 13, ho =>
              obtain rfl := Option.some.inj ho
              have e35 : fr.tmps[35]?.getD undef = .bool false := HF.out.ev (i := 6) rfl rfl (HE.out ⟨6, .data⟩ (by simp) rfl)
              have e41 : fr.tmps[41]?.getD undef = .bool false := HF.out.ev (i := 12) rfl rfl (HE.out ⟨12, .data⟩ (by simp) rfl)
              exact wp_q rfl rfl (by simp [execOp, go_sem, e35, e41]; try rfl) ⟨(), HF.out.put (by kernel_rfl) rfl rfl rfl (of_decide_eq_true rfl), HW.out.q hjl (by decide)⟩
            | 14, ho =>
              obtain rfl := Option.some.inj ho
              have e42 : fr.tmps[42]?.getD undef = .bool false := HF.out.ev (i := 13) rfl rfl (HE.out ⟨13, .data⟩ (by simp) rfl)
              exact wp_q rfl rfl (by simp [execOp, go_sem, e42]; try rfl) ⟨(), HF.out.put (by kernel_rfl) rfl rfl rfl (of_decide_eq_true rfl), HW.out.q hjl (by decide)⟩
            | 15, ho =>
              obtain rfl := Option.some.inj ho
              have e1 : fr.tmps[1]?.getD undef = g := HF.out.base 1 (by kernel_rfl) rfl
              have hg : fr.tmps[43]? = some (.bool false) := HF.out.q.val 14 _ 43 rfl rfl (HE.out ⟨14, .guard⟩ (by simp) rfl)
              exact wp_qw rfl (wtd rfl rfl rfl hg) (by simp [execOp, go_sem, e1]; try rfl) ⟨(), HF.out.put (by kernel_rfl) rfl rfl rfl (of_decide_eq_true rfl), HW.out.q hjl (by decide)⟩
            | 16, ho =>
              obtain rfl := Option.some.inj ho
              have e0 : fr.tmps[0]?.getD undef = .pointer (some ⟨q, 0, none⟩) := HF.out.base 0 (by kernel_rfl) rfl
              have hg : fr.tmps[43]? = some (.bool false) := HF.out.q.val 14 _ 43 rfl rfl (HE.out ⟨14, .guard⟩ (by simp) rfl)
              exact wp_qw rfl (wtd rfl rfl rfl hg) (by simp [execOp, go_sem, e0]; try rfl) ⟨(), HF.out.put (by kernel_rfl) rfl rfl rfl (of_decide_eq_true rfl), HW.out.q hjl (by decide)⟩
            | 17, ho =>
              obtain rfl := Option.some.inj ho
              have e45 : fr.tmps[45]?.getD undef = .pointer (some ⟨q, 0, none⟩) := HF.out.ev (i := 16) rfl rfl (HE.out ⟨16, .data⟩ (by simp) rfl)
              have hg : fr.tmps[43]? = some (.bool false) := HF.out.q.val 14 _ 43 rfl rfl (HE.out ⟨14, .guard⟩ (by simp) rfl)
              exact wp_qw rfl (wtd rfl rfl rfl hg) (by simp [execOp, go_sem, e45]; try rfl) ⟨(), HF.out.put (by kernel_rfl) rfl rfl rfl (of_decide_eq_true rfl), HW.out.q hjl (by decide)⟩
            | 18, ho =>
              obtain rfl := Option.some.inj ho
              have e46 : fr.tmps[46]?.getD undef = .pointer (some ⟨q, 0, none⟩) := HF.out.ev (i := 17) rfl rfl (HE.out ⟨17, .data⟩ (by simp) rfl)
              have hg : fr.tmps[43]? = some (.bool false) := HF.out.q.val 14 _ 43 rfl rfl (HE.out ⟨14, .guard⟩ (by simp) rfl)
              exact wp_qw rfl (wtd rfl rfl rfl hg) (by simp [execOp, go_sem, e46]; try rfl) ⟨(), HF.out.put (by kernel_rfl) rfl rfl rfl (of_decide_eq_true rfl), HW.out.q hjl (by decide)⟩
            | 19, ho =>
              obtain rfl := Option.some.inj ho
              have e47 : fr.tmps[47]?.getD undef = .pointer (some ⟨q, 3, none⟩) := HF.out.ev (i := 18) rfl rfl (HE.out ⟨18, .data⟩ (by simp) rfl)
              have hg : fr.tmps[43]? = some (.bool false) := HF.out.q.val 14 _ 43 rfl rfl (HE.out ⟨14, .guard⟩ (by simp) rfl)
              have hc := (by obtain ⟨s5, -, F5, -, r5⟩ := HW.out; exact HLD.out _ _ r5 : _ ∧ _)
              exact wp_qw rfl (wtd rfl rfl rfl hg) (by simp [execOp, go_sem, e47, hc.1]; try rfl) ⟨(), HF.out.put (by kernel_rfl) rfl rfl rfl (of_decide_eq_true rfl), HW.out.q hjl (by decide)⟩
            | 20, ho =>
              obtain rfl := Option.some.inj ho
              have e48 : fr.tmps[48]?.getD undef = .int .u64 v.u := HF.out.ev (i := 19) rfl rfl (HE.out ⟨19, .data⟩ (by simp) rfl)
              have hg : fr.tmps[43]? = some (.bool false) := HF.out.q.val 14 _ 43 rfl rfl (HE.out ⟨14, .guard⟩ (by simp) rfl)
              exact wp_qw rfl (wtd rfl rfl rfl hg) (by simp [execOp, go_sem, e48, wu2]; try rfl) ⟨(), HF.out.put (by kernel_rfl) rfl rfl rfl (of_decide_eq_true rfl), HW.out.q hjl (by decide)⟩
            | 21, ho =>
              obtain rfl := Option.some.inj ho
              have e0 : fr.tmps[0]?.getD undef = .pointer (some ⟨q, 0, none⟩) := HF.out.base 0 (by kernel_rfl) rfl
              have hg : fr.tmps[43]? = some (.bool false) := HF.out.q.val 14 _ 43 rfl rfl (HE.out ⟨14, .guard⟩ (by simp) rfl)
              exact wp_qw rfl (wtd rfl rfl rfl hg) (by simp [execOp, go_sem, e0]; try rfl) ⟨(), HF.out.put (by kernel_rfl) rfl rfl rfl (of_decide_eq_true rfl), HW.out.q hjl (by decide)⟩
            | 22, ho =>
              obtain rfl := Option.some.inj ho
              have e50 : fr.tmps[50]?.getD undef = .pointer (some ⟨q, 0, none⟩) := HF.out.ev (i := 21) rfl rfl (HE.out ⟨21, .data⟩ (by simp) rfl)
              have hg : fr.tmps[43]? = some (.bool false) := HF.out.q.val 14 _ 43 rfl rfl (HE.out ⟨14, .guard⟩ (by simp) rfl)
              exact wp_qw rfl (wtd rfl rfl rfl hg) (by simp [execOp, go_sem, e50]; try rfl) ⟨(), HF.out.put (by kernel_rfl) rfl rfl rfl (of_decide_eq_true rfl), HW.out.q hjl (by decide)⟩
            | 23, ho =>
              obtain rfl := Option.some.inj ho
              have e51 : fr.tmps[51]?.getD undef = .pointer (some ⟨q, 0, none⟩) := HF.out.ev (i := 22) rfl rfl (HE.out ⟨22, .data⟩ (by simp) rfl)
              have hg : fr.tmps[43]? = some (.bool false) := HF.out.q.val 14 _ 43 rfl rfl (HE.out ⟨14, .guard⟩ (by simp) rfl)
              exact wp_qw rfl (wtd rfl rfl rfl hg) (by simp [execOp, go_sem, e51]; try rfl) ⟨(), HF.out.put (by kernel_rfl) rfl rfl rfl (of_decide_eq_true rfl), HW.out.q hjl (by decide)⟩
            | 24, ho =>
              obtain rfl := Option.some.inj ho
              have e52 : fr.tmps[52]?.getD undef = .pointer (some ⟨q, 5, none⟩) := HF.out.ev (i := 23) rfl rfl (HE.out ⟨23, .data⟩ (by simp) rfl)
              have hg : fr.tmps[43]? = some (.bool false) := HF.out.q.val 14 _ 43 rfl rfl (HE.out ⟨14, .guard⟩ (by simp) rfl)
              have hc := (by obtain ⟨s5, -, F5, -, r5⟩ := HW.out; exact HLD.out _ _ r5 : _ ∧ _)
              exact wp_qw rfl (wtd rfl rfl rfl hg) (by simp [execOp, go_sem, e52, hc.2]; try rfl) ⟨(), HF.out.put (by kernel_rfl) rfl rfl rfl (of_decide_eq_true rfl), HW.out.q hjl (by decide)⟩
            | 25, ho =>
              obtain rfl := Option.some.inj ho
              have e53 : fr.tmps[53]?.getD undef = .int .u16 v.gv := HF.out.ev (i := 24) rfl rfl (HE.out ⟨24, .data⟩ (by simp) rfl)
              have hg : fr.tmps[43]? = some (.bool false) := HF.out.q.val 14 _ 43 rfl rfl (HE.out ⟨14, .guard⟩ (by simp) rfl)
              exact wp_qw rfl (wtd rfl rfl rfl hg) (by simp [execOp, go_sem, e53, wg1]; try rfl) ⟨(), HF.out.put (by kernel_rfl) rfl rfl rfl (of_decide_eq_true rfl), HW.out.q hjl (by decide)⟩
            | 26, ho =>
              obtain rfl := Option.some.inj ho
              have e54 : fr.tmps[54]?.getD undef = .int .u16 g1 := HF.out.ev (i := 25) rfl rfl (HE.out ⟨25, .data⟩ (by simp) rfl)
              have hg : fr.tmps[43]? = some (.bool false) := HF.out.q.val 14 _ 43 rfl rfl (HE.out ⟨14, .guard⟩ (by simp) rfl)
              exact wp_qw rfl (wtd rfl rfl rfl hg) (by simp [execOp, go_sem, e54, wgg]; try rfl) ⟨(), HF.out.put (by kernel_rfl) rfl rfl rfl (of_decide_eq_true rfl), HW.out.q hjl (by decide)⟩
            | 27, ho =>
              obtain rfl := Option.some.inj ho
              have e44 : fr.tmps[44]?.getD undef = g := HF.out.ev (i := 15) rfl rfl (HE.out ⟨15, .data⟩ (by simp) rfl)
              have hg : fr.tmps[43]? = some (.bool false) := HF.out.q.val 14 _ 43 rfl rfl (HE.out ⟨14, .guard⟩ (by simp) rfl)
              exact wp_qw rfl (wtd rfl rfl rfl hg) (by simp [execOp, go_sem, e44]; try rfl) ⟨(), HF.out.put (by kernel_rfl) rfl rfl rfl (of_decide_eq_true rfl), HW.out.q hjl (by decide)⟩
            | 28, ho =>
              obtain rfl := Option.some.inj ho
              have e56 : fr.tmps[56]?.getD undef = .func (.method "Write") #[g] #[] := HF.out.ev (i := 27) rfl rfl (HE.out ⟨27, .data⟩ (by simp) rfl)
              have hg : fr.tmps[43]? = some (.bool false) := HF.out.q.val 14 _ 43 rfl rfl (HE.out ⟨14, .guard⟩ (by simp) rfl)
              exact wp_qw rfl (wtd rfl rfl rfl hg) (HNK.out _ _ _ _ rfl (by simp [Act.eval, e56])) ⟨(), HF.out.put (by kernel_rfl) rfl rfl rfl (of_decide_eq_true rfl), HW.out.q hjl (by decide)⟩
            | 29, ho =>
              obtain rfl := Option.some.inj ho
              have e44 : fr.tmps[44]?.getD undef = g := HF.out.ev (i := 15) rfl rfl (HE.out ⟨15, .data⟩ (by simp) rfl)
              have hg : fr.tmps[43]? = some (.bool false) := HF.out.q.val 14 _ 43 rfl rfl (HE.out ⟨14, .guard⟩ (by simp) rfl)
              exact wp_qw rfl (wtd rfl rfl rfl hg) (by simp [execOp, go_sem, e44]; try rfl) ⟨(), HF.out.put (by kernel_rfl) rfl rfl rfl (of_decide_eq_true rfl), HW.out.q hjl (by decide)⟩
            | 30, ho =>
              obtain rfl := Option.some.inj ho
              have e58 : fr.tmps[58]?.getD undef = g := HF.out.ev (i := 29) rfl rfl (HE.out ⟨29, .data⟩ (by simp) rfl)
              have e49 : fr.tmps[49]?.getD undef = .int .u64 (v.u + 2) := HF.out.ev (i := 20) rfl rfl (HE.out ⟨20, .data⟩ (by simp) rfl)
              have e55 : fr.tmps[55]?.getD undef = .int .u64 g1 := HF.out.ev (i := 26) rfl rfl (HE.out ⟨26, .data⟩ (by simp) rfl)
              have hg : fr.tmps[43]? = some (.bool false) := HF.out.q.val 14 _ 43 rfl rfl (HE.out ⟨14, .guard⟩ (by simp) rfl)
              have hp := HC.out 14 _ rfl (HE.out ⟨14, .chain⟩ (by simp) rfl) ⟨11, .chain⟩ (by simp) rfl
              obtain ⟨F0, hm1, hm2⟩ := HW.out.at 2 rfl hl0 (fun j hj => by obtain rfl : j = 1 := (by omega); exact ⟨11, rfl, hp⟩)
              refine wp_inv3w rfl (wtd rfl rfl rfl hg) "Write" g _ _ _ _ _ rfl (.int .u64 (v.u + 2)) (.int .i64 2) (.int .u64 g1) (by simp [Act.eval, e58]) (by simp [Act.eval, e49]) (by simp [Act.eval]) (by simp [Act.eval, e55]) fW rc (cW.out _ _) (H3.out _ F0 hm1) ?_
              rintro e w7 ⟨rfl, F1, k1, k2⟩
              exact ⟨_, rfl, (), HF.out.put (by kernel_rfl) rfl rfl rfl (of_decide_eq_true rfl), HW.out.go 2 hjl rfl hl0 (fun j hj => by obtain rfl : j = 1 := (by omega); exact ⟨11, rfl, hp⟩) (by intro a ha; match a, ha with | 0, ha => simp at ha | 1, ha => simp at ha | 2, _ => rfl) ⟨F1, k1, hm2.trans k2⟩⟩
            | 31, ho =>
              obtain rfl := Option.some.inj ho
              have e59 : fr.tmps[59]?.getD undef = .bool k3 := HF.out.ev (i := 30) rfl rfl (HE.out ⟨30, .data⟩ (by simp) rfl)
              have hg : fr.tmps[43]? = some (.bool false) := HF.out.q.val 14 _ 43 rfl rfl (HE.out ⟨14, .guard⟩ (by simp) rfl)
              exact wp_qw rfl (wtd rfl rfl rfl hg) (by simp [execOp, go_sem, e59]; try rfl) ⟨(), HF.out.put (by kernel_rfl) rfl rfl rfl (of_decide_eq_true rfl), HW.out.q hjl (by decide)⟩
            | 32, ho =>
              obtain rfl := Option.some.inj ho
              have e43 : fr.tmps[43]?.getD undef = .bool false := HF.out.ev (i := 14) rfl rfl (HE.out ⟨14, .data⟩ (by simp) rfl)
              have e60 : fr.tmps[60]?.getD undef = .bool !k3 := HF.out.ev (i := 31) rfl rfl (HE.out ⟨31, .data⟩ (by simp) rfl)
              exact wp_q rfl rfl (by simp [execOp, go_sem, e43, e60]; try rfl) ⟨(), HF.out.put (by kernel_rfl) rfl rfl rfl (of_decide_eq_true rfl), HW.out.q hjl (by decide)⟩
          case fin =>
            rintro listed fr w2 x hF hW hr
            have all := allDone hr hF.q.ls (by kernel_rfl)
            obtain ⟨s, hs1, F1, r1, r2⟩ := hW
            have hs : 3 ≤ s := by
              have := hs1 2 _ rfl
              rw [all _ (by decide)] at this
              have : 2 < s := by simpa using this.symm
              omega
            rw [Nat.min_eq_right hs] at r1
            rw [hF.full all]
            have R1 := hid r1
            have R2 := hid r2
            clear hF hr all r1 r2 hs1 hs
            simp only [List.foldl_cons, List.foldl_nil, fillF]
            go_simp
            have Q1 := HNE.out _ HB0.out _ _ R2.out
            have HQ1 := hid Q1
            cases k3
            · obtain rfl : pf = (32, v.die, St 3) := HPF.out
              have hdi := HDI.out _ Q1
              clear Q1
              go_wp2_with (go_at_call 41; refine hdi.mono ?_; rintro e w5 ⟨rfl, hq5, ho5⟩; have Q5 := hid hq5; have O5 := hid ho5; clear hq5 ho5)
              go_ret
              exact ⟨rfl, Q5.out, F1, HOW.out _ _ _ _ R1.out HQ1.out O5.out, HTX.out _ _ _ R2.out O5.out⟩
            · obtain rfl : pf = (0, v.give, St 3) := HPF.out
              have k5 := Q1.c5
              have z5 := Q1.fz 5
              clear Q1
              go_wp2_with fail
              go_ret
              have O5 := only_c w2 q 5 (.int .u16 g1)
              exact ⟨rfl, setRowB w2 q 5 (qc v) (qc v.give) _ _ HQ1.out (by rw [← HG1.out]; rfl), F1, HOW.out _ _ _ _ R1.out HQ1.out O5, HTX.out _ _ _ R2.out O5⟩
end
end Go.Proofs.Ytgebjfkmiaobgaa
namespace Go.Proofs.Ytgebjfkmiaobgaa
open Go.RowKit
open C (Only hid Still ret_int ret_bool Mem okN rdF wrF hasB nu)
set_option linter.unusedVariables false
set_option maxRecDepth 100000

theorem nu_lt (b : Nat → Int) (hb : ∀ j, 0 ≤ b j ∧ b j < 256) : ∀ k, 0 ≤ nu b k ∧ nu b k < 256 ^ k
  | 0 => by unfold nu; decide
  | k + 1 => by
    have ih := nu_lt b hb k
    have h := hb k
    have e : nu b (k + 1) = nu b k + b k * 256 ^ k := rfl
    rw [e, Int.pow_succ]
    have p : (0 : Int) < 256 ^ k := Int.pow_pos (by decide)
    generalize (256 : Int) ^ k = P at *
    have h1 : 0 ≤ b k * P := Int.mul_nonneg h.1 (by omega)
    have h2 : b k * P ≤ 255 * P := Int.mul_le_mul_of_nonneg_right (by omega) (by omega)
    omega
theorem rdF_b {w : World} {S : Nat → Prop} {m : Nat} {bs : Int} {n : Nat} {f : Nat → Int} (h : Mem w S m bs n f) (a : Int) (z : Nat) : 0 ≤ rdF bs n f a z ∧ rdF bs n f a z < 256 ^ z := by
  unfold rdF
  split
  · have := nu_lt (fun j => f ((a - bs).toNat + j)) (fun j => h.byt _) ((z : Int)).toNat
    simpa using this
  · exact ⟨Int.le_refl 0, Int.pow_pos (by decide)⟩
def gR (m : Nat) : Value := .iface 25 (.pointer (some ⟨m, 0, none⟩))
/-- the memory -/
def RmG (m : Nat) (bs : Int) (n : Nat) : MG := ⟨Nat → Int, fun w F f => Mem w F m bs n f, fun _ a z => hasB bs n a z, fun _ a z => okN bs n a z, fun f a z => rdF bs n f a z, fun _ a z => okN bs n a z, fun f a z x => wrF bs n f a z x⟩
theorem r_cH (m : Nat) (args : Array Value) (w : World) : (callMethod (gR m) "Has" args).run Try.prog w = .ok (.enter 56 (#[.pointer (some ⟨m, 0, none⟩)] ++ args)) w := by rfl
theorem r_cR (m : Nat) (args : Array Value) (w : World) : (callMethod (gR m) "Read" args).run Try.prog w = .ok (.enter 32 (#[.pointer (some ⟨m, 0, none⟩)] ++ args)) w := by rfl
theorem r_cW (m : Nat) (args : Array Value) (w : World) : (callMethod (gR m) "Write" args).run Try.prog w = .ok (.enter 33 (#[.pointer (some ⟨m, 0, none⟩)] ++ args)) w := by rfl
theorem r_nk (m : Nat) (ρ : Operand → Value) (o : Oper) (x : Operand) (w : World) (ho : o.op = .nilCheck x) (hx : ρ x = .func (.method "Write") #[gR m] #[]) : (execOp ρ o).run Try.prog w = .ok (.value (.func (.method "Write") #[gR m] #[])) w := by
  unfold execOp
  rw [ho]
  simp only [hx]
  rfl
theorem mem_sep {w : World} {S : Nat → Prop} {m : Nat} {bs : Int} {n : Nat} {f : Nat → Int} (h : Mem w S m bs n f) (k : Nat) (hk : S k) : ∃ c t fr, w.heap[k]? = some (.cells c t fr) ∧ (t = 112 ∨ t = 118 ∨ t = 129) := by
  obtain ⟨g, hs, hr, _, hS⟩ := h
  rcases (hS k).1 hk with rfl | rfl | ⟨i, hi⟩
  · exact ⟨_, _, _, hr.top, .inl rfl⟩
  · exact ⟨_, _, _, hr.tab, .inr (.inl rfl)⟩
  · exact ⟨_, _, _, hr.full i k hi, .inr (.inr rfl)⟩
theorem rmC (m : Nat) (bs : Int) (n : Nat) : MGC (RmG m bs n) (gR m) 56 32 33 (.pointer (some ⟨m, 0, none⟩)) where
  cH := r_cH m
  cR := r_cR m
  cW := r_cW m
  nk := r_nk m
  sep := fun w F s h k hk => by
    obtain ⟨c, t, fr, h1, h2⟩ := mem_sep h k hk
    exact ⟨c, t, fr, h1, by rcases h2 with rfl | rfl | rfl <;> decide⟩
  only := fun w F s h w' T ho hn => Mem.only h ho hn
  H := fun w F s h a z a0 a1 z0 z1 => (C.c_HasM w F m bs n s h a z a0 a1 (by omega) (by omega) _ rfl).mono fun e w' ⟨h1, h2⟩ => ⟨h1, h2.below _⟩
  Rd := fun w F s h a z a0 a1 hz => C.c_ReadA w F m bs n s h a z a0 a1 (by omega) (by omega)
  rb := fun w F s h a a0 => ⟨rdF_b h a 2, rdF_b h a 4, rdF_b h a 8⟩
  W := fun w F s h a z x a0 a1 hz x0 x1 => (C.c_WriteA w F m bs n s h a z x a0 a1 (by omega) (by omega) x0 x1).mono fun e w' ⟨S', h1, h2, h3, h4⟩ => ⟨h1, S', h2, h3, h4⟩
end Go.Proofs.Ytgebjfkmiaobgaa
