/- A region that draws its order, over a frame that is told by its slots alone. -/
import Derived.Test.YtajnjmjogaacpaaGreatXA
import Derived.Test.YtajnjmjogaacpaaGreatMC4
import Derived.Deep.Cut
namespace Go.Proofs.YtajnjmjogaacpaaGreat
open Go.RowKit
open C (Only hid)
set_option linter.unusedVariables false
set_option maxRecDepth 100000

/-- no two operations have one slot -/
def ndB (ops : Array Oper) : Bool := (List.range ops.size).all fun j => (List.range ops.size).all fun k => j == k || (match ops[j]?, ops[k]? with | some o, some p => o.dst.isNone || o.dst != p.dst | _, _ => true)
theorem ndB_spec {ops : Array Oper} (h : ndB ops = true) {j k : Nat} {o p : Oper} {d : Nat} (hj : ops[j]? = some o) (hk : ops[k]? = some p) (ho : o.dst = some d) (hp : p.dst = some d) : j = k := by
  unfold ndB at h
  have hjl : j < ops.size := (Array.getElem?_eq_some_iff.1 hj).1
  have hkl : k < ops.size := (Array.getElem?_eq_some_iff.1 hk).1
  have := List.all_eq_true.1 (List.all_eq_true.1 h j (by simpa using hjl)) k (by simpa using hkl)
  simp only [hj, hk, ho, hp] at this
  simpa using this
structure FrQ (ops : Array Oper) (vt : Nat → Value) (t0 : Array Value) (listed : Array Bool) (a : Act) : Prop where
  df : a.defers = []
  sz : a.tmps.size = t0.size
  ls : listed.size = ops.size
  keep : ∀ d, (ops.toList.all fun o => o.dst != some d) = true → a.tmps[d]? = t0[d]?
  val : ∀ j o d, ops[j]? = some o → o.dst = some d → listed.getD j false = true → a.tmps[d]? = some (vt d)
section
variable {ops : Array Oper} {vt : Nat → Value} {t0 : Array Value} {listed : Array Bool} {a : Act}
theorem FrQ.start (hs : listed = Array.replicate ops.size false) : FrQ ops vt t0 listed ⟨t0, []⟩ := by
  subst hs
  refine ⟨rfl, rfl, by simp, fun _ _ => rfl, fun j o d hj _ hl => ?_⟩
  have hjl : j < ops.size := (Array.getElem?_eq_some_iff.1 hj).1
  simp [hjl] at hl
theorem getD_set (l : Array Bool) (j k : Nat) (hj : j < l.size) : (l.setIfInBounds j true).getD k false = if k = j then true else l.getD k false := by
  by_cases e : k = j
  · subst e; simp [hj]
  · rw [if_neg e]
    simp only [Array.getD_eq_getD_getElem?, Array.getElem?_setIfInBounds]
    rw [if_neg (fun q => e q.symm)]
theorem FrQ.put (h : FrQ ops vt t0 listed a) (hn : ndB ops = true) {j : Nat} {o : Oper} {d : Nat} {v : Value} (ho : ops[j]? = some o) (hd : o.dst = some d) (hv : v = vt d) (hdl : d < t0.size) : FrQ ops vt t0 (listed.setIfInBounds j true) (a.put o.dst v) := by
  have hjl : j < listed.size := by rw [h.ls]; exact (Array.getElem?_eq_some_iff.1 ho).1
  subst hv
  rw [hd]
  refine ⟨h.df, by simp [Act.put, h.sz], by simp [h.ls], fun k hk => ?_, fun i p k hi hp hl => ?_⟩
  · have : k ≠ d := fun q => by
      subst q
      have := List.all_eq_true.1 hk o (by have := Array.mem_of_getElem? ho; exact Array.mem_toList_iff.2 this)
      simp [hd] at this
    simp only [Act.put, Array.getElem?_setIfInBounds]
    rw [if_neg (fun q => this q.symm)]
    exact h.keep k hk
  · rw [getD_set _ _ _ hjl] at hl
    simp only [Act.put, Array.getElem?_setIfInBounds]
    by_cases e : d = k
    · subst e
      rw [if_pos rfl, if_pos (by rw [h.sz]; exact hdl)]
    · rw [if_neg e]
      have : i ≠ j := fun q => by subst q; rw [ho] at hi; cases hi; rw [hd] at hp; exact e (Option.some.inj hp)
      rw [if_neg this] at hl
      exact h.val i p k hi hp hl
theorem FrQ.skip (h : FrQ ops vt t0 listed a) {j : Nat} {o : Oper} (ho : ops[j]? = some o) (hd : o.dst = none) (v : Value) : FrQ ops vt t0 (listed.setIfInBounds j true) (a.put o.dst v) := by
  have hjl : j < listed.size := by rw [h.ls]; exact (Array.getElem?_eq_some_iff.1 ho).1
  rw [hd]
  refine ⟨h.df, h.sz, by simp [h.ls], h.keep, fun i p k hi hp hl => ?_⟩
  rw [getD_set _ _ _ hjl] at hl
  have : i ≠ j := fun q => by subst q; rw [ho] at hi; cases hi; rw [hd] at hp; cases hp
  rw [if_neg this] at hl
  exact h.val i p k hi hp hl
theorem FrQ.ev (h : FrQ ops vt t0 listed a) {i : Nat} {o : Oper} {d : Nat} (hi : ops[i]? = some o) (hd : o.dst = some d) (hl : listed.getD i false = true) : a.tmps[d]?.getD undef = vt d := by
  simp only [h.val i o d hi hd hl, Option.getD_some]
theorem FrQ.base (h : FrQ ops vt t0 listed a) (d : Nat) (hd : (ops.toList.all fun o => o.dst != some d) = true) {v : Value} (hv : t0[d]? = some v) : a.tmps[d]?.getD undef = v := by
  simp only [h.keep d hd, hv, Option.getD_some]
end
/-- what an operation waits for has been done -/
theorem he_all {listed : Array Bool} {after : Array Edge} (he : ∀ e ∈ after, Region.binds .any e = true → listed.getD e.on false = true) (n : Nat) (hc : ((List.range n).all fun i => after.any fun e => e.on == i && Region.binds .any e) = true) (i : Nat) (hi : i < n) : listed.getD i false = true := by
  have := List.all_eq_true.1 hc i (by simpa using hi)
  obtain ⟨e, h1, h2⟩ := Array.any_eq_true'.1 this
  simp only [Bool.and_eq_true, beq_iff_eq] at h2
  rw [← h2.1]
  exact he e h1 h2.2
theorem wp_q {P : Program} {ops : Array Oper} {Q : Exit → Act → World → Prop} {i : Nat} {o : Oper} {K : Act → World → Prop} {a : Act} {w w' : World} {v : Value} (ho : ops[i]? = some o) (hg : o.guard = none) (hr : (execOp a.eval o).run P w = .ok (.value v) w') (h : K (a.put o.dst v) w') : wpOp P ops Q i K a w := by
  refine wpOp_step ho fun K' hK => ?_
  rw [if_pos (by simp [Region.wanted, hg])]
  unfold Oper.wp
  rw [hr]
  exact hK _ _ h
theorem wp_s {P : Program} {ops : Array Oper} {Q : Exit → Act → World → Prop} {i : Nat} {o : Oper} {K : Act → World → Prop} {a : Act} {w w' : World} (ho : ops[i]? = some o) (hg : o.guard = none) (hr : (execOp a.eval o).run P w = .ok .skip w') (h : K (a.put o.dst undef) w') : wpOp P ops Q i K a w := by
  refine wpOp_step ho fun K' hK => ?_
  rw [if_pos (by simp [Region.wanted, hg])]
  unfold Oper.wp
  rw [hr]
  exact hK _ _ h
theorem wpAny_fq {P : Program} {ops : Array Oper} {Q : Exit → Act → World → Prop} {t0 : Array Value} {w : World} (vt : Nat → Value) (V : Array Bool → World → Prop)
    (step : ∀ listed a w, FrQ ops vt t0 listed a ∧ V listed w → ∀ i ∈ Region.ready .any ops listed, wpOp P ops Q i (fun a' w' => FrQ ops vt t0 (listed.setIfInBounds i true) a' ∧ V (listed.setIfInBounds i true) w') a w)
    (fin : ∀ listed a w, FrQ ops vt t0 listed a ∧ V listed w → Region.ready .any ops listed = [] → Q .normal a w) (start : V (Array.replicate ops.size false) w) :
    wpAny P .any ops Q ops.size (Array.replicate ops.size false) ⟨t0, []⟩ w :=
  C.wpAny_inv (fun listed fr wr => FrQ ops vt t0 listed fr ∧ V listed wr) step fin _ _ _ _ (by simp) ⟨FrQ.start rfl, start⟩
end Go.Proofs.YtajnjmjogaacpaaGreat
