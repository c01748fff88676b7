/- Copy: another memory with the same bytes. -/
import Derived.Test.YtekkjalfiogenaaMC1
namespace Go.Proofs.Ytekkjalfiogenaa.C
open Go.RowKit
set_option linter.unusedVariables false
set_option maxRecDepth 100000

theorem s_cells : (Try.prog.info? 184).map (·.size) = some 4096 := by kernel_rfl
theorem wpL_load {ops : Array Oper} {rest : List Oper} {d : Option Nat} {ty : TypeId} {x : Operand} {pos : String} {after : Array Edge} {Q : Exit → Act → World → Prop} {a : Act} {w : World} (h : Nat) (hx : a.eval x = .pointer (some ⟨h, 0, none⟩)) (f : Nat → Int) (s : Nat)
    (hg : w.heap[h]? = some (.cells (row f s 4096).toArray 184 (0, 0))) (hK : wpList Try.prog ops Q rest (a.put d (.agg (row f s 4096).toArray)) w) :
    wpList Try.prog ops Q ({ dst := d, op := Op.load 184 x, type := ty, pos := pos, after := after, guard := none } :: rest) a w :=
  wpList_load_row rfl 184 x rfl h hx 184 _ (0, 0) (.array 4096 5) hg u_cells rfl (by rw [s_cells]; simp [row_length]) hK
theorem setRow_alloc (w : World) (a b : Array Value) (t : TypeId) : (w.alloc (.cells a t)).setRow w.heap.size b = w.alloc (.cells b t) := by
  unfold World.setRow World.alloc
  congr 1
  apply Array.ext_getElem?
  intro k
  simp only [Array.getElem?_modify, Array.getElem?_push]
  by_cases hk : k = w.heap.size
  · subst hk; simp
  · simp [hk]
    intro e; exact absurd e.symm hk
theorem wpL_store {ops : Array Oper} {rest : List Oper} {d : Option Nat} {ty : TypeId} {x y : Operand} {pos : String} {after : Array Edge} {Q : Exit → Act → World → Prop} {a : Act} {w : World} (f : Nat → Int) (s : Nat) (z : List Value) (hz : z.length = 4096) (hx : a.eval x = .pointer (some ⟨w.heap.size, 0, none⟩)) (hy : a.eval y = .agg (row f s 4096).toArray)
    (hK : wpList Try.prog ops Q rest (a.put d undef) (w.alloc (.cells (row f s 4096).toArray 184))) :
    wpList Try.prog ops Q ({ dst := d, op := Op.store 184 x y, type := ty, pos := pos, after := after, guard := none } :: rest) a (w.alloc (.cells z.toArray 184)) := by
  refine wpList_store_row rfl 184 x y rfl w.heap.size _ hx hy 184 z.toArray (heap_alloc_new w _) (by rw [s_cells]; simp [row_length]) (by simp [row_length, hz]) ?_ (by rw [setRow_alloc]; exact hK)
  rw [Array.all_eq_true_iff_forall_mem]
  intro v hv
  exact row_one f s 4096 v (by simpa using hv)
/-- how far a copy has come: k frames -/
structure PC (w wr : World) (hs : List (Option Nat)) (f : Nat → Int) (k : Nat) (hs' : List (Option Nat)) : Prop where
  tab : wr.heap[w.heap.size]? = some (.cells (hs'.map ptr).toArray 176 (0, 0))
  len : hs'.length = hs.length
  bare : ∀ i : Nat, i < k → hs'[i]? = some none → hs[i]? = some none
  full : ∀ (i h : Nat), hs'[i]? = some (some h) → i < k ∧ w.heap.size < h ∧ wr.heap[h]? = some (.cells (row f (4096 * i) 4096).toArray 184 (0, 0))
  inj : ∀ (i j h : Nat), hs'[i]? = some (some h) → hs'[j]? = some (some h) → i = j
  below : Below w.heap.size w wr
theorem PC.bareStep {w wr : World} {hs : List (Option Nat)} {f : Nat → Int} {k : Nat} {hs' : List (Option Nat)} (h : PC w wr hs f k hs') (hk : hs[k]? = some none) : PC w wr hs f (k + 1) hs' :=
  ⟨h.tab, h.len, fun i hi q => by
    by_cases e : i = k
    · subst e; exact hk
    · exact h.bare i (by omega) q, fun i hh q => ⟨by have := (h.full i hh q).1; omega, (h.full i hh q).2⟩, h.inj, h.below⟩
theorem PC.fullStep {w wr : World} {hs : List (Option Nat)} {f : Nat → Int} {k : Nat} {hs' : List (Option Nat)} (h : PC w wr hs f k hs') (hk : k < hs.length) :
    PC w ((wr.setCell ⟨w.heap.size, k, none⟩ (.pointer (some ⟨wr.heap.size, 0, none⟩))).alloc (.cells (row f (4096 * k) 4096).toArray 184)) hs f (k + 1) (hs'.set k (some wr.heap.size)) := by
  have hk' : k < hs'.length := by rw [h.len]; exact hk
  have hgl := lt_of_block h.tab
  have hsz : (wr.setCell ⟨w.heap.size, k, none⟩ (.pointer (some ⟨wr.heap.size, 0, none⟩))).heap.size = wr.heap.size := by simp [World.setCell]
  have hnew : ((wr.setCell ⟨w.heap.size, k, none⟩ (.pointer (some ⟨wr.heap.size, 0, none⟩))).alloc (.cells (row f (4096 * k) 4096).toArray 184)).heap[wr.heap.size]? = some (.cells (row f (4096 * k) 4096).toArray 184 (0, 0)) := by
    have := heap_alloc_new (wr.setCell ⟨w.heap.size, k, none⟩ (.pointer (some ⟨wr.heap.size, 0, none⟩))) (.cells (row f (4096 * k) 4096).toArray 184)
    rwa [hsz] at this
  have hold : ∀ j, j < wr.heap.size → j ≠ w.heap.size → ((wr.setCell ⟨w.heap.size, k, none⟩ (.pointer (some ⟨wr.heap.size, 0, none⟩))).alloc (.cells (row f (4096 * k) 4096).toArray 184)).heap[j]? = wr.heap[j]? := fun j hj hne =>
    (Below.heap_alloc _ _ j (by rw [hsz]; exact hj)).trans (Below.heap_setCell _ _ _ j hne)
  refine ⟨?_, by simpa using h.len, ?_, ?_, ?_, ?_⟩
  · rw [Below.heap_alloc _ _ _ (by rw [hsz]; exact hgl), heap_setCell_same _ _ k _ _ _ h.tab]
    congr 2
    simp [List.map_set, ptr]
  · intro i hi q
    by_cases e : i = k
    · subst e; rw [List.getElem?_set_self hk'] at q; cases q
    · rw [List.getElem?_set_ne (by omega)] at q; exact h.bare i (by omega) q
  · intro i hh q
    by_cases e : i = k
    · subst e
      rw [List.getElem?_set_self hk'] at q
      obtain rfl : wr.heap.size = hh := by simpa using q
      exact ⟨by omega, hgl, hnew⟩
    · rw [List.getElem?_set_ne (by omega)] at q
      obtain ⟨a, b, c⟩ := h.full i hh q
      exact ⟨by omega, b, (hold hh (lt_of_block c) (by omega)).trans c⟩
  · intro i j hh hi hj
    by_cases e : i = k <;> by_cases e' : j = k
    · omega
    · subst e
      rw [List.getElem?_set_self hk'] at hi
      rw [List.getElem?_set_ne (by omega)] at hj
      have := lt_of_block (h.full j hh hj).2.2
      simp at hi; omega
    · subst e'
      rw [List.getElem?_set_self hk'] at hj
      rw [List.getElem?_set_ne (by omega)] at hi
      have := lt_of_block (h.full i hh hi).2.2
      simp at hj; omega
    · rw [List.getElem?_set_ne (by omega)] at hi hj
      exact h.inj i j hh hi hj
  · exact (h.below.setCell (Nat.le_refl _) _).alloc (by rw [hsz]; omega) _
end Go.Proofs.Ytekkjalfiogenaa.C
