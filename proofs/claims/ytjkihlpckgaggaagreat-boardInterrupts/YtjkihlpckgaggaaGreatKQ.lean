/- A region that draws its order, over a frame that is told by its slots alone; two calls in it. -/
import Derived.Test.YtjkihlpckgaggaaGreatKA
import Derived.Deep.Cut
import Derived.Great.BuildSlice
namespace Go.Proofs.YtjkihlpckgaggaaGreat.P
open Go.RowKit
open C (Only hid)
set_option linter.unusedVariables false
set_option maxRecDepth 100000

theorem wpAny_inv {P : Program} {md : Region.Mode} {ops : Array Oper} {Q : Exit → Act → World → Prop} (J : Array Bool → Act → World → Prop)
    (step : ∀ listed a w, J listed a w → ∀ i ∈ Region.ready md ops listed, wpOp P ops Q i (J (listed.setIfInBounds i true)) a w)
    (fin : ∀ listed a w, J listed a w → Region.ready md ops listed = [] → Q .normal a w) :
    ∀ (fuel : Nat) (listed : Array Bool) (a : Act) (w : World), listed.toList.count false ≤ fuel → J listed a w → wpAny P md ops Q fuel listed a w := by
  intro fuel
  have key : ∀ (listed : Array Bool) (i : Nat), i ∈ Region.ready md ops listed → (listed.setIfInBounds i true).toList.count false + 1 = listed.toList.count false := by
    intro listed i hi
    have h0 := (mem_ready.1 hi).1
    have hlt : i < listed.size := by
      rcases Nat.lt_or_ge i listed.size with h | h
      · exact h
      · simp [Array.getElem?_eq_none h] at h0
    have hv : listed.toList[i]'(by simpa using hlt) = false := by simpa [hlt] using h0
    have hpos : 0 < listed.toList.count false := List.count_pos_iff.2 (by rw [← hv]; exact List.getElem_mem _)
    rw [Array.toList_setIfInBounds, List.count_set (by simpa using hlt), hv]
    have : ∀ c : Nat, 0 < c → c - (if (false == false) = true then 1 else 0) + (if (true == false) = true then 1 else 0) + 1 = c := by intro c hc; simp; omega
    exact this _ hpos
  induction fuel with
  | zero =>
    intro listed a w hc hJ
    have hr : Region.ready md ops listed = [] := by
      cases h : Region.ready md ops listed with
      | nil => rfl
      | cons i r => have := key listed i (by rw [h]; simp); omega
    exact ⟨hr, fin _ _ _ hJ hr⟩
  | succ fuel ih =>
    intro listed a w hc hJ
    refine ⟨fun h => fin _ _ _ hJ h, fun i hi => ?_⟩
    have := key listed i hi
    exact wpOp_mono (fun a' w' h' => ih _ a' w' (by omega) h') (step _ _ _ hJ i hi)
/-- no two operations have one slot -/
def ndB (ops : Array Oper) : Bool := (List.range ops.size).all fun j => (List.range ops.size).all fun k => j == k || (match ops[j]?, ops[k]? with | some o, some p => o.dst.isNone || o.dst != p.dst | _, _ => true)
theorem ndB_spec {ops : Array Oper} (h : ndB ops = true) {j k : Nat} {o p : Oper} {d : Nat} (hj : ops[j]? = some o) (hk : ops[k]? = some p) (ho : o.dst = some d) (hp : p.dst = some d) : j = k := by
  unfold ndB at h
  have hjl : j < ops.size := (Array.getElem?_eq_some_iff.1 hj).1
  have hkl : k < ops.size := (Array.getElem?_eq_some_iff.1 hk).1
  have := List.all_eq_true.1 (List.all_eq_true.1 h j (by simpa using hjl)) k (by simpa using hkl)
  simp only [hj, hk, ho, hp] at this
  simpa using this
structure FrQ (ops : Array Oper) (vt : Nat → Value) (t0 : Array Value) (listed : Array Bool) (a : Act) : Prop where
  df : a.defers = []
  sz : a.tmps.size = t0.size
  ls : listed.size = ops.size
  keep : ∀ d, (ops.toList.all fun o => o.dst != some d) = true → a.tmps[d]? = t0[d]?
  val : ∀ j o d, ops[j]? = some o → o.dst = some d → listed.getD j false = true → a.tmps[d]? = some (vt d)
section
variable {ops : Array Oper} {vt : Nat → Value} {t0 : Array Value} {listed : Array Bool} {a : Act}
theorem FrQ.start (hs : listed = Array.replicate ops.size false) : FrQ ops vt t0 listed ⟨t0, []⟩ := by
  subst hs
  refine ⟨rfl, rfl, by simp, fun _ _ => rfl, fun j o d hj _ hl => ?_⟩
  have hjl : j < ops.size := (Array.getElem?_eq_some_iff.1 hj).1
  simp [hjl] at hl
theorem getD_set (l : Array Bool) (j k : Nat) (hj : j < l.size) : (l.setIfInBounds j true).getD k false = if k = j then true else l.getD k false := by
  by_cases e : k = j
  · subst e; simp [hj]
  · rw [if_neg e]
    simp only [Array.getD_eq_getD_getElem?, Array.getElem?_setIfInBounds]
    rw [if_neg (fun q => e q.symm)]
theorem FrQ.put (h : FrQ ops vt t0 listed a) (hn : ndB ops = true) {j : Nat} {o : Oper} {d : Nat} {v : Value} (ho : ops[j]? = some o) (hd : o.dst = some d) (hv : v = vt d) (hdl : d < t0.size) : FrQ ops vt t0 (listed.setIfInBounds j true) (a.put o.dst v) := by
  have hjl : j < listed.size := by rw [h.ls]; exact (Array.getElem?_eq_some_iff.1 ho).1
  subst hv
  rw [hd]
  refine ⟨h.df, by simp [Act.put, h.sz], by simp [h.ls], fun k hk => ?_, fun i p k hi hp hl => ?_⟩
  · have : k ≠ d := fun q => by
      subst q
      have := List.all_eq_true.1 hk o (by have := Array.mem_of_getElem? ho; exact Array.mem_toList_iff.2 this)
      simp [hd] at this
    simp only [Act.put, Array.getElem?_setIfInBounds]
    rw [if_neg (fun q => this q.symm)]
    exact h.keep k hk
  · rw [getD_set _ _ _ hjl] at hl
    simp only [Act.put, Array.getElem?_setIfInBounds]
    by_cases e : d = k
    · subst e
      rw [if_pos rfl, if_pos (by rw [h.sz]; exact hdl)]
    · rw [if_neg e]
      have : i ≠ j := fun q => by subst q; rw [ho] at hi; cases hi; rw [hd] at hp; exact e (Option.some.inj hp)
      rw [if_neg this] at hl
      exact h.val i p k hi hp hl
theorem FrQ.skip (h : FrQ ops vt t0 listed a) {j : Nat} {o : Oper} (ho : ops[j]? = some o) (hd : o.dst = none) (v : Value) : FrQ ops vt t0 (listed.setIfInBounds j true) (a.put o.dst v) := by
  have hjl : j < listed.size := by rw [h.ls]; exact (Array.getElem?_eq_some_iff.1 ho).1
  rw [hd]
  refine ⟨h.df, h.sz, by simp [h.ls], h.keep, fun i p k hi hp hl => ?_⟩
  rw [getD_set _ _ _ hjl] at hl
  have : i ≠ j := fun q => by subst q; rw [ho] at hi; cases hi; rw [hd] at hp; cases hp
  rw [if_neg this] at hl
  exact h.val i p k hi hp hl
theorem FrQ.ev (h : FrQ ops vt t0 listed a) {i : Nat} {o : Oper} {d : Nat} (hi : ops[i]? = some o) (hd : o.dst = some d) (hl : listed.getD i false = true) : a.tmps[d]?.getD undef = vt d := by
  simp only [h.val i o d hi hd hl, Option.getD_some]
theorem FrQ.base (h : FrQ ops vt t0 listed a) (d : Nat) (hd : (ops.toList.all fun o => o.dst != some d) = true) {v : Value} (hv : t0[d]? = some v) : a.tmps[d]?.getD undef = v := by
  simp only [h.keep d hd, hv, Option.getD_some]
end
/-- what an operation waits for has been done -/
theorem he_all {listed : Array Bool} {after : Array Edge} (he : ∀ e ∈ after, Region.binds .any e = true → listed.getD e.on false = true) (n : Nat) (hc : ((List.range n).all fun i => after.any fun e => e.on == i && Region.binds .any e) = true) (i : Nat) (hi : i < n) : listed.getD i false = true := by
  have := List.all_eq_true.1 hc i (by simpa using hi)
  obtain ⟨e, h1, h2⟩ := Array.any_eq_true'.1 this
  simp only [Bool.and_eq_true, beq_iff_eq] at h2
  rw [← h2.1]
  exact he e h1 h2.2
theorem wp_q {P : Program} {ops : Array Oper} {Q : Exit → Act → World → Prop} {i : Nat} {o : Oper} {K : Act → World → Prop} {a : Act} {w w' : World} {v : Value} (ho : ops[i]? = some o) (hg : o.guard = none) (hr : (execOp a.eval o).run P w = .ok (.value v) w') (h : K (a.put o.dst v) w') : wpOp P ops Q i K a w := by
  refine wpOp_step ho fun K' hK => ?_
  rw [if_pos (by simp [Region.wanted, hg])]
  unfold Oper.wp
  rw [hr]
  exact hK _ _ h
theorem wp_s {P : Program} {ops : Array Oper} {Q : Exit → Act → World → Prop} {i : Nat} {o : Oper} {K : Act → World → Prop} {a : Act} {w w' : World} (ho : ops[i]? = some o) (hg : o.guard = none) (hr : (execOp a.eval o).run P w = .ok .skip w') (h : K (a.put o.dst undef) w') : wpOp P ops Q i K a w := by
  refine wpOp_step ho fun K' hK => ?_
  rw [if_pos (by simp [Region.wanted, hg])]
  unfold Oper.wp
  rw [hr]
  exact hK _ _ h
theorem wpAny_fq {P : Program} {ops : Array Oper} {Q : Exit → Act → World → Prop} {t0 : Array Value} {w : World} (vt : Nat → Value) (V : Array Bool → World → Prop)
    (step : ∀ listed a w, FrQ ops vt t0 listed a ∧ V listed w → ∀ i ∈ Region.ready .any ops listed, wpOp P ops Q i (fun a' w' => FrQ ops vt t0 (listed.setIfInBounds i true) a' ∧ V (listed.setIfInBounds i true) w') a w)
    (fin : ∀ listed a w, FrQ ops vt t0 listed a ∧ V listed w → Region.ready .any ops listed = [] → Q .normal a w) (start : V (Array.replicate ops.size false) w) :
    wpAny P .any ops Q ops.size (Array.replicate ops.size false) ⟨t0, []⟩ w :=
  wpAny_inv (fun listed fr wr => FrQ ops vt t0 listed fr ∧ V listed wr) step fin _ _ _ _ (by simp) ⟨FrQ.start rfl, start⟩
theorem getD_tf {l : Array Bool} {j : Nat} (hj : j < l.size) (h : l.getD j true = false) : l.getD j false = false := by simp [hj] at h ⊢; exact h
theorem allDone {ops : Array Oper} {listed : Array Bool} (hr : Region.ready .any ops listed = []) (hs : listed.size = ops.size) (hc : ((List.range ops.size).all fun j => (match ops[j]? with | some o => o.after.all fun e => decide (e.on < j) | none => true)) = true) : ∀ j, j < ops.size → listed.getD j false = true := by
  intro j
  induction j using Nat.strongRecOn with
  | _ j ih =>
    intro hj
    have h1 := List.all_eq_true.1 hc j (by simpa using hj)
    cases z : listed.getD j false with
    | true => rfl
    | false =>
      exfalso
      have hjo : ops[j]? = some ops[j] := by simp [hj]
      rw [hjo] at h1
      have : j ∈ Region.ready .any ops listed := by
        refine mem_ready.2 ⟨?_, ops[j], hjo, fun e he _ => ?_⟩
        · have hjl : j < listed.size := by rw [hs]; exact hj
          simp [hjl] at z ⊢
          exact z
        · have := Array.all_eq_true_iff_forall_mem.1 h1 e he
          have hlt : e.on < j := by simpa using this
          exact ih e.on hlt (Nat.lt_trans hlt hj)
      rw [hr] at this
      cases this
def fillF (vt : Nat → Value) (t : Array Value) (o : Oper) : Array Value := match o.dst with | some d => t.setIfInBounds d (vt d) | none => t
theorem fillF_size (vt : Nat → Value) (t : Array Value) (o : Oper) : (fillF vt t o).size = t.size := by unfold fillF; split <;> simp
theorem fill_get (vt : Nat → Value) (d : Nat) : ∀ (l : List Oper) (t : Array Value), d < t.size → (l.foldl (fillF vt) t)[d]? = if (l.any fun o => o.dst == some d) = true then some (vt d) else t[d]?
  | [], t, hd => by simp
  | o :: l, t, hd => by
    rw [List.foldl_cons, fill_get vt d l _ (by rw [fillF_size]; exact hd), List.any_cons]
    by_cases h1 : (l.any fun o => o.dst == some d) = true
    · rw [if_pos h1, if_pos (by rw [h1, Bool.or_true])]
    · rw [if_neg h1]
      unfold fillF
      cases ho : o.dst with
      | none => rw [if_neg (by simpa using h1)]
      | some e =>
        by_cases e1 : e = d
        · subst e1
          rw [if_pos (by simp)]
          simp [hd]
        · rw [if_neg (by simp [e1]; simpa using h1)]
          simp only [Array.getElem?_setIfInBounds, if_neg e1]
theorem fill_size (vt : Nat → Value) : ∀ (l : List Oper) (t : Array Value), (l.foldl (fillF vt) t).size = t.size
  | [], t => rfl
  | o :: l, t => by rw [List.foldl_cons, fill_size vt l, fillF_size]
theorem FrQ.full {ops : Array Oper} {vt : Nat → Value} {t0 : Array Value} {listed : Array Bool} {a : Act} (h : FrQ ops vt t0 listed a) (hl : ∀ j, j < ops.size → listed.getD j false = true) : a = ⟨ops.toList.foldl (fillF vt) t0, []⟩ := by
  obtain ⟨t, df⟩ := a
  obtain rfl : df = [] := h.df
  have hs : t.size = t0.size := h.sz
  congr 1
  apply Array.ext_getElem?
  intro d
  by_cases hd : d < t0.size
  · rw [fill_get vt d _ _ hd]
    by_cases h1 : (ops.toList.any fun o => o.dst == some d) = true
    · rw [if_pos h1]
      obtain ⟨o, ho, hod⟩ := List.any_eq_true.1 h1
      obtain ⟨j, hj, hjo⟩ := List.getElem_of_mem ho
      have hjl : j < ops.size := by simpa using hj
      exact h.val j o d (by rw [← hjo]; simp [hjl]) (by simpa using hod) (hl j hjl)
    · rw [if_neg h1]
      refine h.keep d (List.all_eq_true.2 fun o ho => ?_)
      have : ¬ (o.dst == some d) = true := fun z => h1 (List.any_eq_true.2 ⟨o, ho, z⟩)
      simpa [bne] using this
  · rw [Array.getElem?_eq_none (by show t.size ≤ d; omega), Array.getElem?_eq_none (by rw [fill_size]; omega)]
/-- a call, then another one: as far as both are done -/
structure VP (w0 : World) (Md Fn : World → Prop) (z y : Nat) (listed : Array Bool) (w : World) : Prop where
  c0 : listed.getD z false = false → w = w0
  c1 : listed.getD z false = true → listed.getD y false = false → Md w
  c2 : listed.getD y false = true → Fn w ∧ listed.getD z false = true
section
variable {w0 w w' : World} {Md Fn : World → Prop} {z y : Nat} {listed : Array Bool}
theorem VP.q (h : VP w0 Md Fn z y listed w) {j : Nat} (hj : j < listed.size) (n1 : z ≠ j) (n2 : y ≠ j) : VP w0 Md Fn z y (listed.setIfInBounds j true) w :=
  ⟨fun a => h.c0 (by rwa [getD_set _ _ _ hj, if_neg n1] at a), fun a b => h.c1 (by rwa [getD_set _ _ _ hj, if_neg n1] at a) (by rwa [getD_set _ _ _ hj, if_neg n2] at b), fun a => by
    rw [getD_set _ _ _ hj, if_neg n2] at a
    rw [getD_set _ _ _ hj, if_neg n1]
    exact h.c2 a⟩
theorem VP.atz (h : VP w0 Md Fn z y listed w) (hl : listed.getD z false = false) : w = w0 ∧ listed.getD y false = false :=
  ⟨h.c0 hl, by cases e : listed.getD y false; rfl; have := (h.c2 e).2; rw [hl] at this; cases this⟩
theorem VP.doz (hj : z < listed.size) (hzy : y ≠ z) (hy : listed.getD y false = false) (hm : Md w') : VP w0 Md Fn z y (listed.setIfInBounds z true) w' :=
  ⟨fun a => (by rw [getD_set _ _ _ hj, if_pos rfl] at a; cases a), fun _ _ => hm, fun a => (by rw [getD_set _ _ _ hj, if_neg hzy, hy] at a; cases a)⟩
theorem VP.doy (hj : y < listed.size) (hzy : z ≠ y) (hz : listed.getD z false = true) (hm : Fn w') : VP w0 Md Fn z y (listed.setIfInBounds y true) w' :=
  ⟨fun a => (by rw [getD_set _ _ _ hj, if_neg hzy, hz] at a; cases a), fun _ a => (by rw [getD_set _ _ _ hj, if_pos rfl] at a; cases a), fun _ => ⟨hm, by rw [getD_set _ _ _ hj, if_neg hzy]; exact hz⟩⟩
end
/-- a call of 2 arguments as a step -/
theorem wp_c2 {P : Program} {ops : Array Oper} {Q : Exit → Act → World → Prop} {i : Nat} {o : Oper} {K : Act → World → Prop} {a : Act} {w : World} (ho : ops[i]? = some o) (hg : o.guard = none) (f : FuncId) (x y : Operand) (ts : Array TypeId) (hop : o.op = .call { callee := .value (.func f), args := #[x, y], argTypes := ts }) (vx vy : Value) (hx : a.eval x = vx) (hy : a.eval y = vy) (hnf : (callFunc f #[vx, vy]).run P w = .ok (.enter f #[vx, vy]) w) {R : Ending → World → Prop} (hc : Calls P f #[vx, vy] w R)
    (h : ∀ e w', R e w' → ∃ v, e = .returned v ∧ K (a.put o.dst v) w') : wpOp P ops Q i K a w := by
  refine wpOp_step ho fun K' hK => ?_
  rw [if_pos (by simp [Region.wanted, hg])]
  have he : (execOp a.eval o).run P w = .ok (.enter f #[vx, vy]) w := by
    have hf : a.eval (.func f) = .func (.func f) #[] #[] := rfl
    simp [execOp, hop, resolve, invoke, Deferred.ofValue, hf, hx, hy, hnf]
  unfold Oper.wp
  rw [he, Oper.upon_enter]
  refine hc.mono fun e w' hR => ?_
  obtain ⟨v, rfl, hk⟩ := h e w' hR
  exact hK _ _ hk
/-- a call of 4 arguments as a step -/
theorem wp_c4 {P : Program} {ops : Array Oper} {Q : Exit → Act → World → Prop} {i : Nat} {o : Oper} {K : Act → World → Prop} {a : Act} {w : World} (ho : ops[i]? = some o) (hg : o.guard = none) (f : FuncId) (x y z t : Operand) (ts : Array TypeId) (hop : o.op = .call { callee := .value (.func f), args := #[x, y, z, t], argTypes := ts }) (vx vy vz vt : Value) (hx : a.eval x = vx) (hy : a.eval y = vy) (hz : a.eval z = vz) (ht : a.eval t = vt) (hnf : (callFunc f #[vx, vy, vz, vt]).run P w = .ok (.enter f #[vx, vy, vz, vt]) w) {R : Ending → World → Prop} (hc : Calls P f #[vx, vy, vz, vt] w R)
    (h : ∀ e w', R e w' → ∃ v, e = .returned v ∧ K (a.put o.dst v) w') : wpOp P ops Q i K a w := by
  refine wpOp_step ho fun K' hK => ?_
  rw [if_pos (by simp [Region.wanted, hg])]
  have he : (execOp a.eval o).run P w = .ok (.enter f #[vx, vy, vz, vt]) w := by
    have hf : a.eval (.func f) = .func (.func f) #[] #[] := rfl
    simp [execOp, hop, resolve, invoke, Deferred.ofValue, hf, hx, hy, hz, ht, hnf]
  unfold Oper.wp
  rw [he, Oper.upon_enter]
  refine hc.mono fun e w' hR => ?_
  obtain ⟨v, rfl, hk⟩ := h e w' hR
  exact hK _ _ hk
/-- what holds in the three worlds holds at each step -/
theorem VP.all {w0 w : World} {Md Fn : World → Prop} {z y : Nat} {listed : Array Bool} (h : VP w0 Md Fn z y listed w) {K : World → Prop} (k0 : K w0) (k1 : ∀ w, Md w → K w) (k2 : ∀ w, Fn w → K w) : K w := by
  cases ey : listed.getD y false
  · cases ez : listed.getD z false
    · rw [h.c0 ez]; exact k0
    · exact k1 _ (h.c1 ez ey)
  · exact k2 _ (h.c2 ey).1
theorem FrQ.swap {ops : Array Oper} {vt vt' : Nat → Value} {t0 : Array Value} {listed : Array Bool} {a : Act} (h : FrQ ops vt t0 listed a) (hv : ∀ j o d, ops[j]? = some o → o.dst = some d → listed.getD j false = true → vt d = vt' d) : FrQ ops vt' t0 listed a :=
  ⟨h.df, h.sz, h.ls, h.keep, fun j o d h1 h2 h3 => by rw [← hv j o d h1 h2 h3]; exact h.val j o d h1 h2 h3⟩
/-- a value that is told only when it is made -/
theorem wpAny_fx {α : Type} {P : Program} {ops : Array Oper} {Q : Exit → Act → World → Prop} {t0 : Array Value} {w : World} (vt : α → Nat → Value) (V : α → Array Bool → World → Prop)
    (step : ∀ listed a w x, FrQ ops (vt x) t0 listed a → V x listed w → ∀ i ∈ Region.ready .any ops listed, wpOp P ops Q i (fun a' w' => ∃ y, FrQ ops (vt y) t0 (listed.setIfInBounds i true) a' ∧ V y (listed.setIfInBounds i true) w') a w)
    (fin : ∀ listed a w x, FrQ ops (vt x) t0 listed a → V x listed w → Region.ready .any ops listed = [] → Q .normal a w) (x0 : α) (start : V x0 (Array.replicate ops.size false) w) :
    wpAny P .any ops Q ops.size (Array.replicate ops.size false) ⟨t0, []⟩ w :=
  wpAny_inv (fun listed fr wr => ∃ x, FrQ ops (vt x) t0 listed fr ∧ V x listed wr) (fun l a w ⟨x, h1, h2⟩ i hi => step l a w x h1 h2 i hi) (fun l a w ⟨x, h1, h2⟩ hr => fin l a w x h1 h2 hr) _ _ _ _ (by simp) ⟨x0, FrQ.start rfl, start⟩
/-- one call that turns something; what holds behind it stays -/
structure VX (w0 : World) (M : World → Prop) (z : Nat) (listed : Array Bool) (w : World) : Prop where
  c0 : listed.getD z false = false → w = w0
  c1 : listed.getD z false = true → M w
theorem VX.q {w0 w w' : World} {M : World → Prop} {z : Nat} {listed : Array Bool} (h : VX w0 M z listed w) {j : Nat} (hj : j < listed.size) (n1 : z ≠ j) (hw : w' = w ∨ (listed.getD z false = true ∧ M w')) : VX w0 M z (listed.setIfInBounds j true) w' := by
  refine ⟨fun a => ?_, fun a => ?_⟩
  · rw [getD_set _ _ _ hj, if_neg n1] at a
    rcases hw with e | ⟨e, _⟩
    · rw [e]; exact h.c0 a
    · rw [a] at e; cases e
  · rw [getD_set _ _ _ hj, if_neg n1] at a
    rcases hw with e | ⟨_, e⟩
    · rw [e]; exact h.c1 a
    · exact e
theorem VX.doz {w0 w' : World} {M : World → Prop} {z : Nat} {listed : Array Bool} (hj : z < listed.size) (hm : M w') : VX w0 M z (listed.setIfInBounds z true) w' :=
  ⟨fun a => (by rw [getD_set _ _ _ hj, if_pos rfl] at a; cases a), fun _ => hm⟩
structure VY (w0 : World) (M : World → Prop) (z : Nat) (B : List Nat) (listed : Array Bool) (w : World) : Prop where
  c0 : listed.getD z false = false → w = w0
  c1 : listed.getD z false = true → M w
  cb : ∀ k ∈ B, listed.getD k false = true → listed.getD z false = true
theorem VY.q {w0 w w' : World} {M : World → Prop} {z : Nat} {B : List Nat} {listed : Array Bool} (h : VY w0 M z B listed w) {j : Nat} (hj : j < listed.size) (n1 : z ≠ j) (hB : j ∈ B → listed.getD z false = true) (hw : w' = w ∨ (listed.getD z false = true ∧ M w')) : VY w0 M z B (listed.setIfInBounds j true) w' := by
  refine ⟨fun a => ?_, fun a => ?_, fun k hk a => ?_⟩
  · rw [getD_set _ _ _ hj, if_neg n1] at a
    rcases hw with e | ⟨e, _⟩
    · rw [e]; exact h.c0 a
    · rw [a] at e; cases e
  · rw [getD_set _ _ _ hj, if_neg n1] at a
    rcases hw with e | ⟨_, e⟩
    · rw [e]; exact h.c1 a
    · exact e
  · rw [getD_set _ _ _ hj, if_neg n1]
    by_cases e : k = j
    · subst e; exact hB hk
    · rw [getD_set _ _ _ hj, if_neg e] at a
      exact h.cb k hk a
theorem VY.doz {w0 w' : World} {M : World → Prop} {z : Nat} {B : List Nat} {listed : Array Bool} (hj : z < listed.size) (hm : M w') : VY w0 M z B (listed.setIfInBounds z true) w' :=
  ⟨fun a => (by rw [getD_set _ _ _ hj, if_pos rfl] at a; cases a), fun _ => hm, fun _ _ _ => by rw [getD_set _ _ _ hj, if_pos rfl]⟩
theorem wp_c1 {P : Program} {ops : Array Oper} {Q : Exit → Act → World → Prop} {i : Nat} {o : Oper} {K : Act → World → Prop} {a : Act} {w : World} (ho : ops[i]? = some o) (hg : o.guard = none) (f : FuncId) (x : Operand) (ts : Array TypeId) (hop : o.op = .call { callee := .value (.func f), args := #[x], argTypes := ts }) (vx : Value) (hx : a.eval x = vx) (hnf : (callFunc f #[vx]).run P w = .ok (.enter f #[vx]) w) {R : Ending → World → Prop} (hc : Calls P f #[vx] w R)
    (h : ∀ e w', R e w' → ∃ v, e = .returned v ∧ K (a.put o.dst v) w') : wpOp P ops Q i K a w := by
  refine wpOp_step ho fun K' hK => ?_
  rw [if_pos (by simp [Region.wanted, hg])]
  have he : (execOp a.eval o).run P w = .ok (.enter f #[vx]) w := by
    have hf : a.eval (.func f) = .func (.func f) #[] #[] := rfl
    simp [execOp, hop, resolve, invoke, Deferred.ofValue, hf, hx, hnf]
  unfold Oper.wp
  rw [he, Oper.upon_enter]
  refine hc.mono fun e w' hR => ?_
  obtain ⟨v, rfl, hk⟩ := h e w' hR
  exact hK _ _ hk
/-- a call of no argument under a guard that holds -/
theorem wp_c0w {P : Program} {ops : Array Oper} {Q : Exit → Act → World → Prop} {i : Nat} {o : Oper} {K : Act → World → Prop} {a : Act} {w : World} (ho : ops[i]? = some o) (hw : Region.wanted o (yielded ops a.tmps) = true) (f : FuncId) (ts : Array TypeId) (hop : o.op = .call { callee := .value (.func f), args := #[], argTypes := ts }) (hnf : (callFunc f #[]).run P w = .ok (.enter f #[]) w) {R : Ending → World → Prop} (hc : Calls P f #[] w R)
    (h : ∀ e w', R e w' → ∃ v, e = .returned v ∧ K (a.put o.dst v) w') : wpOp P ops Q i K a w := by
  refine wpOp_step ho fun K' hK => ?_
  rw [if_pos hw]
  have he : (execOp a.eval o).run P w = .ok (.enter f #[]) w := by
    have hf : a.eval (.func f) = .func (.func f) #[] #[] := rfl
    simp [execOp, hop, resolve, invoke, Deferred.ofValue, hf, hnf]
  unfold Oper.wp
  rw [he, Oper.upon_enter]
  refine hc.mono fun e w' hR => ?_
  obtain ⟨v, rfl, hk⟩ := h e w' hR
  exact hK _ _ hk
/-- operations that turn something, one behind the other: as far as they are done -/
def VS {α : Type} (z : List Nat) (M : Nat → α → World → Prop) (x : α) (listed : Array Bool) (w : World) : Prop := ∃ s : Nat, (∀ i k, z[i]? = some k → listed.getD k false = decide (i < s)) ∧ M s x w
section
variable {α : Type} {z : List Nat} {M : Nat → α → World → Prop} {x y : α} {listed : Array Bool} {w w' : World}
theorem VS.start {n : Nat} (h : M 0 x w) : VS z M x (Array.replicate n false) w := ⟨0, fun i k hk => by
  have : (Array.replicate n false).getD k false = false := by
    simp only [Array.getD_eq_getD_getElem?, Array.getElem?_replicate]
    split <;> rfl
  rw [this]; simp, h⟩
theorem VS.q (h : VS z M x listed w) {j : Nat} (hj : j < listed.size) (n1 : z.contains j = false) : VS z M x (listed.setIfInBounds j true) w := by
  obtain ⟨s, h1, h2⟩ := h
  refine ⟨s, fun i k hk => ?_, h2⟩
  rw [getD_set _ _ _ hj, if_neg ?_]
  · exact h1 i k hk
  · rintro rfl
    have : z.contains k = true := List.contains_iff_mem.2 (List.mem_of_getElem? hk)
    rw [n1] at this; cases this
theorem VS.mono (h : VS z M x listed w) (hm : ∀ s, M s x w → M s y w') : VS z M y listed w' := by
  obtain ⟨s, h1, h2⟩ := h
  exact ⟨s, h1, hm s h2⟩
/-- the one that comes now: just what is ahead of it is done -/
theorem VS.at (h : VS z M x listed w) (i : Nat) {k : Nat} (hk : z[i]? = some k) (hl : listed.getD k false = false) (hp : ∀ j, i = j + 1 → ∃ m, z[j]? = some m ∧ listed.getD m false = true) : M i x w := by
  obtain ⟨s, h1, h2⟩ := h
  have a := h1 i k hk
  rw [hl] at a
  have a' : ¬ i < s := by simpa using a.symm
  have : s = i := by
    cases i with
    | zero => omega
    | succ j =>
      obtain ⟨m, b1, b2⟩ := hp j rfl
      have b := h1 j m b1
      rw [b2] at b
      have : j < s := by simpa using b.symm
      omega
  rw [← this]; exact h2
theorem VS.go (h : VS z M x listed w) (i : Nat) {k : Nat} (hj : k < listed.size) (hk : z[i]? = some k) (hl : listed.getD k false = false) (hp : ∀ j, i = j + 1 → ∃ m, z[j]? = some m ∧ listed.getD m false = true) (hn : ∀ a, z[a]? = some k → a = i) (hm : M (i + 1) y w') : VS z M y (listed.setIfInBounds k true) w' := by
  obtain ⟨s, h1, h2⟩ := h
  have a := h1 i k hk
  rw [hl] at a
  have a' : ¬ i < s := by simpa using a.symm
  have hs : s = i := by
    cases i with
    | zero => omega
    | succ j =>
      obtain ⟨m, b1, b2⟩ := hp j rfl
      have b := h1 j m b1
      rw [b2] at b
      have : j < s := by simpa using b.symm
      omega
  subst hs
  refine ⟨s + 1, fun a b hb => ?_, hm⟩
  rw [getD_set _ _ _ hj]
  by_cases e : b = k
  · subst e
    rw [if_pos rfl, hn a hb]; simp
  · rw [if_neg e, h1 a b hb]
    have : a ≠ s := fun q => by subst q; rw [hk] at hb; exact e (Option.some.inj hb).symm
    by_cases q : a < s
    · have : a < s + 1 := by omega
      simp [q, this]
    · have : ¬ a < s + 1 := by omega
      simp [q, this]
theorem VS.end (h : VS z M x listed w) (i : Nat) {k : Nat} (hk : z[i]? = some k) (hl : listed.getD k false = true) (hz : ∀ s, i < s → M s x w → M (i + 1) x w) : M (i + 1) x w := by
  obtain ⟨s, h1, h2⟩ := h
  have a := h1 i k hk
  rw [hl] at a
  have a' : i < s := by simpa using a.symm
  exact hz s a' h2
end
/-- the same, with an operation L that waits for those below B -/
def VL {α : Type} (z : List Nat) (L B : Nat) (M : Nat → α → World → Prop) (x : α) (listed : Array Bool) (w : World) : Prop := VS z M x listed w ∧ (listed.getD L false = true → ∀ j, j < B → listed.getD j false = true)
section
variable {α : Type} {z : List Nat} {L B : Nat} {M : Nat → α → World → Prop} {x y : α} {listed : Array Bool} {w w' : World}
theorem VL.start {n : Nat} (h : M 0 x w) : VL z L B M x (Array.replicate n false) w := ⟨.start h, fun a => by
  have : (Array.replicate n false).getD L false = false := by
    simp only [Array.getD_eq_getD_getElem?, Array.getElem?_replicate]
    split <;> rfl
  rw [this] at a; cases a⟩
theorem VL.not (h : VL z L B M x listed w) {j : Nat} (hl : listed.getD j false = false) (hj : j < B) : listed.getD L false = false := by
  cases e : listed.getD L false
  · rfl
  · have := h.2 e j hj; rw [hl] at this; cases this
theorem VL.keep (h : VL z L B M x listed w) {j : Nat} (hs : j < listed.size) (hj : j ≠ L) : (listed.setIfInBounds j true).getD L false = true → ∀ i, i < B → (listed.setIfInBounds j true).getD i false = true := fun a i hi => by
  rw [getD_set _ _ _ hs, if_neg (fun q => hj q.symm)] at a
  rw [getD_set _ _ _ hs]
  split
  · rfl
  · exact h.2 a i hi
theorem VL.q (h : VL z L B M x listed w) {j : Nat} (hs : j < listed.size) (n1 : z.contains j = false) (hj : j ≠ L) : VL z L B M x (listed.setIfInBounds j true) w := ⟨h.1.q hs n1, h.keep hs hj⟩
theorem VL.go (h : VL z L B M x listed w) (i : Nat) {k : Nat} (hj : k < listed.size) (hk : z[i]? = some k) (hl : listed.getD k false = false) (hp : ∀ j, i = j + 1 → ∃ m, z[j]? = some m ∧ listed.getD m false = true) (hn : ∀ a, z[a]? = some k → a = i) (hm : M (i + 1) y w') (hL : k ≠ L) : VL z L B M y (listed.setIfInBounds k true) w' := ⟨h.1.go i hj hk hl hp hn hm, h.keep hj hL⟩
theorem VL.last (h : VL z L B M x listed w) (i : Nat) (hj : L < listed.size) (hk : z[i]? = some L) (hl : listed.getD L false = false) (hp : ∀ j, i = j + 1 → ∃ m, z[j]? = some m ∧ listed.getD m false = true) (hn : ∀ a, z[a]? = some L → a = i) (hm : M (i + 1) y w') (ha : ∀ j, j < B → listed.getD j false = true) : VL z L B M y (listed.setIfInBounds L true) w' := ⟨h.1.go i hj hk hl hp hn hm, fun _ j hj' => by
  rw [getD_set _ _ _ hj]
  split
  · rfl
  · exact ha j hj'⟩
/-- ahead of the last: which stages there may be -/
theorem VL.upto (h : VL z L B M x listed w) (i : Nat) (hk : z[i]? = some L) {j : Nat} (hl : listed.getD j false = false) (hj : j < B) {C : Prop} (hc : ∀ s, s ≤ i → M s x w → C) : C := by
  have := h.not hl hj
  obtain ⟨⟨s, h1, h2⟩, -⟩ := h
  have a := h1 i L hk
  rw [this] at a
  exact hc s (Nat.le_of_not_lt (by simpa using a.symm)) h2
end
/-- buildSlice as a step -/
theorem wp_bs {P : Program} {ops : Array Oper} {Q : Exit → Act → World → Prop} {i : Nat} {o : Oper} {K : Act → World → Prop} {a : Act} {w : World} (ho : ops[i]? = some o) (hg : o.guard = none) (t e : TypeId) (len : Nat) (parts : Array (Nat × Operand)) (hop : o.op = .buildSlice t len parts)
    (cells : Array Value) (ie : TypeInfo) (z : Value)
    (hu : P.underlying t = some (.slice e)) (hie : P.info? e = some ie) (hz : ie.zero = some z) (hsmall : ¬ len * ie.size > 2 ^ 24) (hpos : ¬ len * ie.size = 0)
    (hf : Instr.fill (fun i => some (i * ie.size, ie.size)) ((Array.range (len * ie.size)).map (z.cells[· % z.cells.size]!)) (parts.map fun (i, x) => (i, a.eval x)).toList = some cells)
    (h : K (a.put o.dst (.slice (some ⟨w.heap.size, 0, none⟩) len len)) (w.alloc (.cells cells e))) : wpOp P ops Q i K a w := by
  refine wpOp_step ho fun K' hK => ?_
  rw [if_pos (by simp [Region.wanted, hg])]
  exact wp_buildSlice t e len parts hop cells ie z hu hie hz hsmall hpos hf (hK _ _ h)
end Go.Proofs.YtjkihlpckgaggaaGreat.P
