/- RamPlays: bytes that are copied, a pair that is put aside, calls in a region that draws. -/
import Derived.Test.YtioodijiejipiaaRPK
namespace Go.Proofs.Ytioodijiejipiaa
open Go.RowKit
set_option linter.unusedVariables false

theorem RMem.typ {w : World} {S : Nat → Prop} {p : Nat} {base : Int} {n : Nat} {f : Nat → Int} (h : RMem w S p base n f) {b : Nat} {c : Array Value} {t : TypeId} {fr : Nat × Nat} (hb : w.heap[b]? = some (.cells c t fr)) (h1 : t ≠ 70) (h2 : t ≠ 35) (h3 : t ≠ 5) : ¬ S b := by
  obtain ⟨g, hs, hr, _, hS⟩ := h
  intro hk
  rcases (hS b).1 hk with rfl | rfl | ⟨i, cc, hi⟩
  · rw [hr.top] at hb; simp at hb; exact h1 hb.2.1.symm
  · rw [hr.tab] at hb; simp at hb; exact h2 hb.2.1.symm
  · obtain ⟨_, cur, hg, _⟩ := hr.full i b cc hi
    rw [hg] at hb; simp at hb; exact h3 hb.2.1.symm
theorem own_typ {w : World} {base : Nat} {e : TypeId} {size : Nat} {v : Value} {n : Nat} {xs : List Value} (h : w.ownsRow base e size v n xs) {k : Nat} (hk : v.ownBlock = some k) : ∃ cur, w.heap[k]? = some (.cells cur e (0, 0)) := by
  rcases h.2 with ⟨rfl, _⟩ | ⟨g, cap, cur, rfl, _, hg, _⟩
  · cases hk
  · obtain rfl : g = k := by simpa [Value.ownBlock] using hk
    exact ⟨cur, hg⟩
section
variable {w wr w' : World} {base : Int} {n p q : Nat} {f g f' g' : Nat → Int} {vo : Value} {m : Nat} {Y : List (Nat × Obj)} {S T O S' T' : Nat → Prop}
theorem k_CopyBytes (h : Rp w wr base n p q f g vo m Y) (ad : Option Addr) (len cap : Nat) (s : Nat → Int) (hn : len ≤ 140737488355328) (hnone : ad = none → len = 0 ∧ cap = 0) (hs : Src w wr (.slice ad len cap) len s Y) :
    Calls Try.prog 18 #[.slice ad len cap] wr fun e w' => ∃ v Z, e = .returned v ∧ Rp w w' base n p q f g vo m (Z ++ Y) ∧ Src w w' v len s (Z ++ Y) ∧ Below wr.heap.size wr w' := by
  have h0 := h
  obtain ⟨S, T, O, h⟩ := h
  obtain ⟨ad', cap', e0, hc, sb, so, hk⟩ := hs.use h
  obtain ⟨rfl, -, rfl⟩ : ad = ad' ∧ len = len ∧ cap = cap' := by simpa using e0
  refine (c_CopyBytes wr ad len cap s ⟨sb, so, none⟩ hn hnone (fun z => ⟨(hk z).1, (hk z).2.1, fun j hj => by rw [addr_add]; exact (hk z).2.2.2.2 j hj⟩)).mono fun e w' => ?_
  rintro ⟨v, he, hrow, hb⟩
  rcases hrow.2 with ⟨rfl, h2⟩ | ⟨gg, cp, cur, rfl, hgb, hg, hcp, _, _, _⟩
  · exact ⟨_, [], he, h0.below hb, ⟨none, 0, by rw [h2], by omega, 0, 0, fun z => by omega⟩, hb⟩
  · refine ⟨_, [(gg, .cells cur 5 (0, 0))], he, h0.more hb hgb hg, ⟨_, cp, rfl, hcp, gg, 0, fun z => ⟨rfl, .inr ⟨_, List.mem_cons_self ..⟩, fun j hj => ?_⟩⟩, hb⟩
    have := World.ownsRow.cells hrow (g := gg) rfl j _ (row_get s 0 len j hj)
    rw [addr_add] at this
    simpa using this
theorem Src.only {v : Value} {len : Nat} {s : Nat → Int} (hs : Src w wr v len s Y) (hk : ∀ e ∈ Y, w'.heap[e.1]? = wr.heap[e.1]?) (hb : Below w.heap.size w wr) (hb' : Below w.heap.size w w') : Src w w' v len s Y := by
  obtain ⟨ad, cap, h1, h2, sb, so, h3⟩ := hs
  refine ⟨ad, cap, h1, h2, sb, so, fun z => ?_⟩
  obtain ⟨a, b, c⟩ := h3 z
  refine ⟨a, b, fun j hj => ?_⟩
  rw [← c j hj]
  rcases b with b | ⟨o, b⟩
  · exact World.cell?_of_block (w := wr) (a := ⟨sb, so + j, none⟩) ((hb'.block sb b).trans (hb.block sb b).symm)
  · exact World.cell?_of_block (w := wr) (a := ⟨sb, so + j, none⟩) (hk _ b)
theorem Rp.src {f2 g2 : Nat → Int} {v : Value} {len : Nat} {s : Nat → Int} (hs : Src w wr v len s Y) (h : Rp w wr base n p q f g vo m Y) (h' : Rp w w' base n p q f2 g2 vo m Y) : Src w w' v len s Y :=
  hs.only (fun e he => by rw [h.at (b := e.1) (o := e.2) he, h'.at (b := e.1) (o := e.2) he]) h.bw h'.bw
theorem aside {w w2 w3 : World} {base : Int} {n p q a b : Nat} {f fa : Nat → Int} {v v' : Value} {m : Nat} {S T O Sa Ta : Nat → Prop} {L : List (Nat × Nat)}
    (hbw : Below w.heap.size w w2) (hm : Mem w2 S p base n f) (hq : RMem w2 T q base n f) (hst : ∀ k, S k → ¬ T k) (hS : ∀ k, S k → w.heap.size ≤ k ∧ ¬ O k) (hT : ∀ k, T k → w.heap.size ≤ k ∧ ¬ O k)
    (ha : Mem w2 Sa a base n fa) (hb : RMem w2 Ta b base n fa) (hSa : ∀ k, Sa k → ¬ S k ∧ ¬ T k) (hTa : ∀ k, Ta k → ¬ S k ∧ ¬ T k) (hL : L.length ≤ m) (hv : ∀ k, v.ownBlock = some k → O k) (hol : ∀ k, O k → k < w2.heap.size)
    (he : ∀ e ∈ L, ∃ S T f, Mem w2 S e.1 base n f ∧ RMem w2 T e.2 base n f ∧ (∀ k, S k → O k) ∧ ∀ k, T k → O k)
    (hr0 : w2.ownsRow w.heap.size 52 2 v L.length (L.flatMap fun e => [.pointer (some ⟨e.1, 0, none⟩), .pointer (some ⟨e.2, 0, none⟩)]))
    (hr : w3.ownsRow w.heap.size 52 2 v' (L.length + 1) ((L.flatMap fun e => [.pointer (some ⟨e.1, 0, none⟩), .pointer (some ⟨e.2, 0, none⟩)]) ++ [.pointer (some ⟨a, 0, none⟩), .pointer (some ⟨b, 0, none⟩)])) (hg : w2.grownBy w3 v.ownBlock) :
    Rp w w3 base n p q f f v' (m + 1) [] := by
  have ho : Only (fun k => v.ownBlock = some k) w2 w3 := ⟨hg.os, hg.tape, hg.output, hg.size, fun k hk hn => hg.block k hk (fun e => hn e.symm)⟩
  have nM : ∀ {S' p' f'}, Mem w2 S' p' base n f' → ∀ k, S' k → ¬ v.ownBlock = some k := fun h k s e => by
    obtain ⟨cur, hc⟩ := own_typ hr0 e
    exact h.typ hc (by decide) (by decide) (by decide) s
  have nR : ∀ {S' p' f'}, RMem w2 S' p' base n f' → ∀ k, S' k → ¬ v.ownBlock = some k := fun h k s e => by
    obtain ⟨cur, hc⟩ := own_typ hr0 e
    exact h.typ hc (by decide) (by decide) (by decide) s
  have m3 := hm.only ho (nM hm)
  have q3 := hq.only ho (nR hq)
  have a3 := ha.only ho (nM ha)
  have b3 := hb.only ho (nR hb)
  have nM3 : ∀ k, S k → ¬ v'.ownBlock = some k := fun k s e => by
    obtain ⟨cur, hc⟩ := own_typ hr e
    exact m3.typ hc (by decide) (by decide) (by decide) s
  have nR3 : ∀ k, T k → ¬ v'.ownBlock = some k := fun k s e => by
    obtain ⟨cur, hc⟩ := own_typ hr e
    exact q3.typ hc (by decide) (by decide) (by decide) s
  refine ⟨S, T, fun k => O k ∨ Sa k ∨ Ta k ∨ v'.ownBlock = some k, ⟨m3, q3, ⟨L ++ [(a, b)], by simp; omega, ?_, fun k hk => .inr (.inr (.inr hk)), ?_⟩, hbw.trans (ho.below _ hbw.size fun k hk => (World.ownsRow.lt hr0 k hk).1), hst, ?_, ?_, ?_, fun e he => by cases he⟩⟩
  · simpa using hr
  · intro e hm'
    rcases List.mem_append.1 hm' with hm' | hm'
    · obtain ⟨S1, T1, f1, h1, h2, h3, h4⟩ := he e hm'
      exact ⟨S1, T1, f1, h1.only ho (nM h1), h2.only ho (nR h2), fun k s => .inl (h3 k s), fun k s => .inl (h4 k s)⟩
    · obtain rfl : e = (a, b) := by simpa using hm'
      exact ⟨Sa, Ta, fa, a3, b3, fun k s => .inr (.inl s), fun k s => .inr (.inr (.inl s))⟩
  · intro k s
    exact ⟨(hS k s).1, fun o => by rcases o with o | o | o | o; exact (hS k s).2 o; exact (hSa k o).1 s; exact (hTa k o).1 s; exact nM3 k s o⟩
  · intro k s
    exact ⟨(hT k s).1, fun o => by rcases o with o | o | o | o; exact (hT k s).2 o; exact (hSa k o).2 s; exact (hTa k o).2 s; exact nR3 k s o⟩
  · intro k o
    rcases o with o | o | o | o
    · exact Nat.lt_of_lt_of_le (hol k o) hg.size
    · exact a3.lt o
    · exact b3.lt o
    · exact (World.ownsRow.lt hr k o).2
end
section
variable {P : Program} {ops : Array Oper} {o : Oper} {a : Act} {w : World} {K : Act → World → Prop} {Q : Exit → Act → World → Prop} {E : Prop}
theorem step_call4w (hw : Region.wanted o (yielded ops a.tmps) = true) (f : FuncId) (x y z u : Operand) (ts : Array TypeId)
    (ho : o.op = .call { callee := .value (.func f), args := #[x, y, z, u], argTypes := ts }) (vx vy vz vu : Value) (hx : a.eval x = vx) (hy : a.eval y = vy) (hz : a.eval z = vz) (hu : a.eval u = vu) (hnf : (callFunc f #[vx, vy, vz, vu]).run P w = .ok (.enter f #[vx, vy, vz, vu]) w) {R : Ending → World → Prop} (hc : Calls P f #[vx, vy, vz, vu] w R)
    (h : ∀ e w', R e w' → ∃ v, e = .returned v ∧ K (a.put o.dst v) w') :
    if Region.wanted o (yielded ops a.tmps) = true then Oper.wp P o a w K Q else E := by
  rw [if_pos hw]
  have he : (execOp a.eval o).run P w = .ok (.enter f #[vx, vy, vz, vu]) w := by
    have hf : a.eval (.func f) = .func (.func f) #[] #[] := rfl
    simp [execOp, ho, resolve, invoke, Deferred.ofValue, hf, hx, hy, hz, hu, hnf]
  unfold Oper.wp
  rw [he, Oper.upon_enter]
  refine hc.mono fun e w' hR => ?_
  obtain ⟨v, rfl, hk⟩ := h e w' hR
  exact hk
theorem step_call2w (hw : Region.wanted o (yielded ops a.tmps) = true) (f : FuncId) (x y : Operand) (ts : Array TypeId)
    (ho : o.op = .call { callee := .value (.func f), args := #[x, y], argTypes := ts }) (vx vy : Value) (hx : a.eval x = vx) (hy : a.eval y = vy) (hnf : (callFunc f #[vx, vy]).run P w = .ok (.enter f #[vx, vy]) w) {R : Ending → World → Prop} (hc : Calls P f #[vx, vy] w R)
    (h : ∀ e w', R e w' → ∃ v, e = .returned v ∧ K (a.put o.dst v) w') :
    if Region.wanted o (yielded ops a.tmps) = true then Oper.wp P o a w K Q else E := by
  rw [if_pos hw]
  have he : (execOp a.eval o).run P w = .ok (.enter f #[vx, vy]) w := by
    have hf : a.eval (.func f) = .func (.func f) #[] #[] := rfl
    simp [execOp, ho, resolve, invoke, Deferred.ofValue, hf, hx, hy, hnf]
  unfold Oper.wp
  rw [he, Oper.upon_enter]
  refine hc.mono fun e w' hR => ?_
  obtain ⟨v, rfl, hk⟩ := h e w' hR
  exact hk
theorem step_call1w (hw : Region.wanted o (yielded ops a.tmps) = true) (f : FuncId) (x : Operand) (ts : Array TypeId)
    (ho : o.op = .call { callee := .value (.func f), args := #[x], argTypes := ts }) (vx : Value) (hx : a.eval x = vx) (hnf : (callFunc f #[vx]).run P w = .ok (.enter f #[vx]) w) {R : Ending → World → Prop} (hc : Calls P f #[vx] w R)
    (h : ∀ e w', R e w' → ∃ v, e = .returned v ∧ K (a.put o.dst v) w') :
    if Region.wanted o (yielded ops a.tmps) = true then Oper.wp P o a w K Q else E := by
  rw [if_pos hw]
  have he : (execOp a.eval o).run P w = .ok (.enter f #[vx]) w := by
    have hf : a.eval (.func f) = .func (.func f) #[] #[] := rfl
    simp [execOp, ho, resolve, invoke, Deferred.ofValue, hf, hx, hnf]
  unfold Oper.wp
  rw [he, Oper.upon_enter]
  refine hc.mono fun e w' hR => ?_
  obtain ⟨v, rfl, hk⟩ := h e w' hR
  exact hk
end
end Go.Proofs.Ytioodijiejipiaa
