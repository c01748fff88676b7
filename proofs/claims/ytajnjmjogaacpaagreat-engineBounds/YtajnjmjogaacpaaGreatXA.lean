/- An engine as it stands in memory. -/
import Derived.Test.YtajnjmjogaacpaaGreatMC2
import Derived.BigQuiet
import Derived.Handy
import Derived.Maps.OwnOps
import Derived.Deep.RegionWith
import Derived.Defers
import Derived.Laws.Pointers
import Derived.Laws.LoneSync
import Derived.RegionTactic
import Derived.RegionCalls
import Derived.Laws.NewBlocks
namespace Go.Proofs.YtajnjmjogaacpaaGreat
open Go.RowKit Go.ChangeMaps Go.MapKept
open C (Only hid Mem Still ret_bool)
set_option linter.unusedVariables false
set_option maxRecDepth 100000

/-- an engine: its device, memory, gate; src, dst, len, status, msi, data, and what was copied -/
structure EV where
  dev : Int
  m : Nat
  g : Value
  r : Nat → Int
def EV.cells (v : EV) (d s : Int) (k : Value) : Array Value := #[.int .i64 v.dev, .pointer (some ⟨v.m, 0, none⟩), v.g, .int .u64 (v.r 0), .int .u64 (v.r 1), .int .u64 (v.r 2), .int .u64 (v.r 3), .int .u64 (v.r 4), .int .u64 (v.r 5), .int .u64 (v.r 6), .int .u32 d, .int .i32 s, .int .u32 0, k]
/-- its table -/
def eR (e : Nat) : Nat → Value
  | 0 => .agg #[.func (.func 53) #[.pointer (some ⟨e, 3, none⟩)] #[], .func (.func 54) #[.pointer (some ⟨e, 3, none⟩)] #[]]
  | 1 => .agg #[.func (.func 53) #[.pointer (some ⟨e, 4, none⟩)] #[], .func (.func 54) #[.pointer (some ⟨e, 4, none⟩)] #[]]
  | 2 => .agg #[.func (.func 53) #[.pointer (some ⟨e, 5, none⟩)] #[], .func (.func 54) #[.pointer (some ⟨e, 5, none⟩)] #[]]
  | 3 => .agg #[.func (.func 55) #[.pointer (some ⟨e, 0, none⟩)] #[], .func (.func 56) #[.pointer (some ⟨e, 0, none⟩)] #[]]
  | 4 => .agg #[.func (.func 53) #[.pointer (some ⟨e, 6, none⟩)] #[], .func (.func 57) #[.pointer (some ⟨e, 0, none⟩)] #[]]
  | 5 => .agg #[.func (.func 53) #[.pointer (some ⟨e, 7, none⟩)] #[], .func (.func 54) #[.pointer (some ⟨e, 7, none⟩)] #[]]
  | _ => .agg #[.func (.func 53) #[.pointer (some ⟨e, 8, none⟩)] #[], .func (.func 54) #[.pointer (some ⟨e, 8, none⟩)] #[]]
/-- the table: the entries that were laid (b), and no others, in whatever order -/
def TabP (e : Nat) (es : Array MapEntry) (b : Nat → Bool) : Prop := (∀ x, x ∈ es.toList → ∃ i, i < 7 ∧ b i = true ∧ x.key = .int .u64 (8 * (i : Int)) ∧ x.val = eR e i) ∧ ∀ i, i < 7 → b i = true → ∃ x, x ∈ es.toList ∧ x.key = .int .u64 (8 * (i : Int))
def Tab (w : World) (M e : Nat) : Prop := ∃ es c, w.heap[M]? = some (.map es c) ∧ TabP e es (fun _ => true)
theorem TabP.keys {e : Nat} {es : Array MapEntry} {b : Nat → Bool} (h : TabP e es b) : ∀ x ∈ es.toList, IsKey (.int .u64) x.key := fun x hx => by
  obtain ⟨i, -, -, h, -⟩ := h.1 x hx
  rw [h]; simp [IsKey]
theorem TabP.find {e : Nat} {es : Array MapEntry} {b : Nat → Bool} (h : TabP e es b) (i : Nat) (hi : i < 7) (hb : b i = true) : ∃ j, Instr.findNow (.int .u64) (.int .u64 (8 * (i : Int))) es.toList 0 = some (some (j, eR e i)) := by
  rcases findNow_spec (d := .int .u64) (k := .int .u64 (8 * (i : Int))) (by simp [IsKey]) es.toList 0 h.keys with ⟨-, h2⟩ | ⟨j, x, h1, h2, h3⟩
  · obtain ⟨x, hx, hk⟩ := h.2 i hi hb
    exact absurd hk (h2 x hx)
  · obtain ⟨i', -, -, hk, hv⟩ := h.1 x (List.mem_of_getElem? h2)
    rw [h3] at hk
    injection hk with _ hk
    obtain rfl : i = i' := by omega
    exact ⟨_, by rw [h1, hv]⟩
theorem TabP.miss {e : Nat} {es : Array MapEntry} {b : Nat → Bool} (h : TabP e es b) (k : Int) (hk : ∀ i : Nat, i < 7 → b i = true → k ≠ 8 * (i : Int)) : Instr.findNow (.int .u64) (.int .u64 k) es.toList 0 = some none := by
  rcases findNow_spec (d := .int .u64) (k := .int .u64 k) (by simp [IsKey]) es.toList 0 h.keys with ⟨h1, -⟩ | ⟨j, x, h1, h2, h3⟩
  · exact h1
  · obtain ⟨i', p, q, hh, hv⟩ := h.1 x (List.mem_of_getElem? h2)
    rw [h3] at hh
    injection hh with _ hh
    exact absurd hh (hk i' p q)
theorem TabP.push {e : Nat} {es : Array MapEntry} {b b' : Nat → Bool} (h : TabP e es b) (i : Nat) (hi : i < 7) (k : Int) (hk : k = 8 * (i : Int)) (v : Value) (hv : v = eR e i) (c : Nat) (hb : ∀ j, b' j = if j = i then true else b j) : TabP e (es.push ⟨.int .u64 k, v, c⟩) b' := by
  subst hk; subst hv
  refine ⟨fun x hx => ?_, fun j hj q => ?_⟩
  · rw [Array.toList_push, List.mem_append] at hx
    rcases hx with hx | hx
    · obtain ⟨j, h1, h2, h3, h4⟩ := h.1 x hx
      exact ⟨j, h1, by rw [hb]; split; rfl; exact h2, h3, h4⟩
    · obtain rfl : x = ⟨.int .u64 (8 * (i : Int)), eR e i, c⟩ := by simpa using hx
      exact ⟨i, hi, by rw [hb, if_pos rfl], rfl, rfl⟩
  · by_cases e1 : j = i
    · subst e1; exact ⟨⟨.int .u64 (8 * (j : Int)), eR e j, c⟩, by simp, rfl⟩
    · rw [hb, if_neg e1] at q
      obtain ⟨x, h1, h2⟩ := h.2 j hj q
      exact ⟨x, by rw [Array.toList_push]; exact List.mem_append_left _ h1, h2⟩
theorem TabP.nil (e : Nat) (b : Nat → Bool) (hb : ∀ j, b j = false) : TabP e #[] b := ⟨fun x hx => by simp at hx, fun i _ q => by rw [hb] at q; cases q⟩
def Eg (w : World) (e : Nat) (v : EV) : Prop := w.heap[e]? = some (.cells (v.cells 0 0 (.map none)) 102 (0, 0)) ∨ ∃ M, w.heap[e]? = some (.cells (v.cells 1 0 (.map (some M))) 102 (0, 0)) ∧ Tab w M e
theorem Eg.blk {w : World} {e : Nat} {v : EV} (h : Eg w e v) : ∃ d k, w.heap[e]? = some (.cells (v.cells d 0 k) 102 (0, 0)) := by
  rcases h with h | ⟨M, h, _⟩
  · exact ⟨_, _, h⟩
  · exact ⟨_, _, h⟩
theorem Eg.lt {w : World} {e : Nat} {v : EV} (h : Eg w e v) : e < w.heap.size := by obtain ⟨d, k, h⟩ := h.blk; exact lt_of_block h
theorem Eg.z {w : World} {e : Nat} {v : EV} (h : Eg w e v) (k : Nat) : w.frozen? ⟨e, k, none⟩ = false := by obtain ⟨d, x, h⟩ := h.blk; exact frozen_of_row _ _ k _ _ h
theorem Eg.c0 {w : World} {e : Nat} {v : EV} (h : Eg w e v) : w.cell? ⟨e, 0, none⟩ = some (.int .i64 v.dev) := by obtain ⟨d, x, h⟩ := h.blk; exact cell_of_row w e 0 _ _ _ h
theorem Eg.c1 {w : World} {e : Nat} {v : EV} (h : Eg w e v) : w.cell? ⟨e, 1, none⟩ = some (.pointer (some ⟨v.m, 0, none⟩)) := by obtain ⟨d, x, h⟩ := h.blk; exact cell_of_row w e 1 _ _ _ h
theorem Eg.c2 {w : World} {e : Nat} {v : EV} (h : Eg w e v) : w.cell? ⟨e, 2, none⟩ = some v.g := by obtain ⟨d, x, h⟩ := h.blk; exact cell_of_row w e 2 _ _ _ h
theorem Eg.c3 {w : World} {e : Nat} {v : EV} (h : Eg w e v) : w.cell? ⟨e, 3, none⟩ = some (.int .u64 (v.r 0)) := by obtain ⟨d, x, h⟩ := h.blk; exact cell_of_row w e 3 _ _ _ h
theorem Eg.c4 {w : World} {e : Nat} {v : EV} (h : Eg w e v) : w.cell? ⟨e, 4, none⟩ = some (.int .u64 (v.r 1)) := by obtain ⟨d, x, h⟩ := h.blk; exact cell_of_row w e 4 _ _ _ h
theorem Eg.c5 {w : World} {e : Nat} {v : EV} (h : Eg w e v) : w.cell? ⟨e, 5, none⟩ = some (.int .u64 (v.r 2)) := by obtain ⟨d, x, h⟩ := h.blk; exact cell_of_row w e 5 _ _ _ h
theorem Eg.c6 {w : World} {e : Nat} {v : EV} (h : Eg w e v) : w.cell? ⟨e, 6, none⟩ = some (.int .u64 (v.r 3)) := by obtain ⟨d, x, h⟩ := h.blk; exact cell_of_row w e 6 _ _ _ h
theorem Eg.c7 {w : World} {e : Nat} {v : EV} (h : Eg w e v) : w.cell? ⟨e, 7, none⟩ = some (.int .u64 (v.r 4)) := by obtain ⟨d, x, h⟩ := h.blk; exact cell_of_row w e 7 _ _ _ h
theorem Eg.c8 {w : World} {e : Nat} {v : EV} (h : Eg w e v) : w.cell? ⟨e, 8, none⟩ = some (.int .u64 (v.r 5)) := by obtain ⟨d, x, h⟩ := h.blk; exact cell_of_row w e 8 _ _ _ h
theorem Eg.c9 {w : World} {e : Nat} {v : EV} (h : Eg w e v) : w.cell? ⟨e, 9, none⟩ = some (.int .u64 (v.r 6)) := by obtain ⟨d, x, h⟩ := h.blk; exact cell_of_row w e 9 _ _ _ h
/-- no table is among what turns: cells alone -/
def CellsOnly (w : World) (T : Nat → Prop) : Prop := ∀ k, T k → ∃ c t f, w.heap[k]? = some (.cells c t f)
theorem Eg.only {w w' : World} {e : Nat} {v : EV} (h : Eg w e v) {T : Nat → Prop} (ho : Only T w w') (hc : ¬ T e) (hT : CellsOnly w T) : Eg w' e v := by
  rcases h with h | ⟨M, h, k⟩
  · exact .inl (ho.old h hc)
  · obtain ⟨es, n, k, kk⟩ := k
    refine .inr ⟨M, ho.old h hc, es, n, ho.old k fun q => ?_, kk⟩
    obtain ⟨a, b, d, e⟩ := hT M q
    rw [k] at e
    cases e
theorem Eg.below {w w' : World} {e : Nat} {v : EV} (h : Eg w e v) (hb : Below w.heap.size w w') : Eg w' e v :=
  h.only (T := fun _ => False) (.ofBelow hb) (fun q => q) (fun _ q => q.elim)
/-- another number in a place -/
def eu (r : Nat → Int) (k : Nat) (x : Int) : Nat → Int := fun j => if j = k then x else r j
def EV.set (v : EV) (k : Nat) (x : Int) : EV := ⟨v.dev, v.m, v.g, eu v.r k x⟩
theorem setCell_row (w : World) (g k : Nat) (cs cs' : Array Value) (t : TypeId) (v : Value) (hg : w.heap[g]? = some (.cells cs t (0, 0))) (he : cs.setIfInBounds k v = cs') : (w.setCell ⟨g, k, none⟩ v).heap[g]? = some (.cells cs' t (0, 0)) := by
  rw [setCell_eq_setRow w g k cs t (0, 0) v hg, he]
  exact setRow_heap w g cs _ t _ hg
theorem setCell_other_block (w : World) (e k : Nat) (x : Value) (M : Nat) (h : M ≠ e) : (w.setCell ⟨e, k, none⟩ x).heap[M]? = w.heap[M]? := by
  unfold World.setCell
  simp only [Array.getElem?_modify]
  rw [if_neg (fun q => h q.symm)]
theorem Eg.s0 {w : World} {e : Nat} {v : EV} (h : Eg w e v) (x : Int) : Eg (w.setCell ⟨e, 3, none⟩ (.int .u64 x)) e (v.set 0 x) := by
  rcases h with h | ⟨M, h, k⟩
  · exact .inl (setCell_row w e 3 _ ((v.set 0 x).cells 0 0 (.map none)) 102 _ h rfl)
  · obtain ⟨es, n, k, kk⟩ := k
    have hm : M ≠ e := fun q => by subst q; rw [h] at k; cases k
    exact .inr ⟨M, setCell_row w e 3 _ ((v.set 0 x).cells 1 0 (.map (some M))) 102 _ h rfl, es, n, (setCell_other_block w e _ _ M hm).trans k, kk⟩
theorem Eg.s1 {w : World} {e : Nat} {v : EV} (h : Eg w e v) (x : Int) : Eg (w.setCell ⟨e, 4, none⟩ (.int .u64 x)) e (v.set 1 x) := by
  rcases h with h | ⟨M, h, k⟩
  · exact .inl (setCell_row w e 4 _ ((v.set 1 x).cells 0 0 (.map none)) 102 _ h rfl)
  · obtain ⟨es, n, k, kk⟩ := k
    have hm : M ≠ e := fun q => by subst q; rw [h] at k; cases k
    exact .inr ⟨M, setCell_row w e 4 _ ((v.set 1 x).cells 1 0 (.map (some M))) 102 _ h rfl, es, n, (setCell_other_block w e _ _ M hm).trans k, kk⟩
theorem Eg.s2 {w : World} {e : Nat} {v : EV} (h : Eg w e v) (x : Int) : Eg (w.setCell ⟨e, 5, none⟩ (.int .u64 x)) e (v.set 2 x) := by
  rcases h with h | ⟨M, h, k⟩
  · exact .inl (setCell_row w e 5 _ ((v.set 2 x).cells 0 0 (.map none)) 102 _ h rfl)
  · obtain ⟨es, n, k, kk⟩ := k
    have hm : M ≠ e := fun q => by subst q; rw [h] at k; cases k
    exact .inr ⟨M, setCell_row w e 5 _ ((v.set 2 x).cells 1 0 (.map (some M))) 102 _ h rfl, es, n, (setCell_other_block w e _ _ M hm).trans k, kk⟩
theorem Eg.s3 {w : World} {e : Nat} {v : EV} (h : Eg w e v) (x : Int) : Eg (w.setCell ⟨e, 6, none⟩ (.int .u64 x)) e (v.set 3 x) := by
  rcases h with h | ⟨M, h, k⟩
  · exact .inl (setCell_row w e 6 _ ((v.set 3 x).cells 0 0 (.map none)) 102 _ h rfl)
  · obtain ⟨es, n, k, kk⟩ := k
    have hm : M ≠ e := fun q => by subst q; rw [h] at k; cases k
    exact .inr ⟨M, setCell_row w e 6 _ ((v.set 3 x).cells 1 0 (.map (some M))) 102 _ h rfl, es, n, (setCell_other_block w e _ _ M hm).trans k, kk⟩
theorem Eg.s4 {w : World} {e : Nat} {v : EV} (h : Eg w e v) (x : Int) : Eg (w.setCell ⟨e, 7, none⟩ (.int .u64 x)) e (v.set 4 x) := by
  rcases h with h | ⟨M, h, k⟩
  · exact .inl (setCell_row w e 7 _ ((v.set 4 x).cells 0 0 (.map none)) 102 _ h rfl)
  · obtain ⟨es, n, k, kk⟩ := k
    have hm : M ≠ e := fun q => by subst q; rw [h] at k; cases k
    exact .inr ⟨M, setCell_row w e 7 _ ((v.set 4 x).cells 1 0 (.map (some M))) 102 _ h rfl, es, n, (setCell_other_block w e _ _ M hm).trans k, kk⟩
theorem Eg.s5 {w : World} {e : Nat} {v : EV} (h : Eg w e v) (x : Int) : Eg (w.setCell ⟨e, 8, none⟩ (.int .u64 x)) e (v.set 5 x) := by
  rcases h with h | ⟨M, h, k⟩
  · exact .inl (setCell_row w e 8 _ ((v.set 5 x).cells 0 0 (.map none)) 102 _ h rfl)
  · obtain ⟨es, n, k, kk⟩ := k
    have hm : M ≠ e := fun q => by subst q; rw [h] at k; cases k
    exact .inr ⟨M, setCell_row w e 8 _ ((v.set 5 x).cells 1 0 (.map (some M))) 102 _ h rfl, es, n, (setCell_other_block w e _ _ M hm).trans k, kk⟩
theorem Eg.s6 {w : World} {e : Nat} {v : EV} (h : Eg w e v) (x : Int) : Eg (w.setCell ⟨e, 9, none⟩ (.int .u64 x)) e (v.set 6 x) := by
  rcases h with h | ⟨M, h, k⟩
  · exact .inl (setCell_row w e 9 _ ((v.set 6 x).cells 0 0 (.map none)) 102 _ h rfl)
  · obtain ⟨es, n, k, kk⟩ := k
    have hm : M ≠ e := fun q => by subst q; rw [h] at k; cases k
    exact .inr ⟨M, setCell_row w e 9 _ ((v.set 6 x).cells 1 0 (.map (some M))) 102 _ h rfl, es, n, (setCell_other_block w e _ _ M hm).trans k, kk⟩
theorem only_e (w : World) (e k : Nat) (x : Value) : Only (· = e) w (w.setCell ⟨e, k, none⟩ x) := C.Only.setCell (S := (· = e)) (Only.refl w) (p := ⟨e, k, none⟩) (.inl rfl) x
theorem cells_e {w : World} {e : Nat} {v : EV} (h : Eg w e v) : CellsOnly w (· = e) := fun k q => by subst q; obtain ⟨d, x, h⟩ := h.blk; exact ⟨_, _, _, h⟩
theorem x_Busy (w : World) (e : Nat) (v : EV) (h : Eg w e v) : Calls Tryz.prog 11 #[.pointer (some ⟨e, 0, none⟩)] w fun x w' => x = .returned (.bool (v.r 3 == 1)) ∧ w' = w := by
  have k6 := h.c6
  clear h
  go_enter Tryz.func11, Tryz.ntmps11
  go_wp2
  go_ret
  exact ⟨rfl, rfl⟩
end Go.Proofs.YtajnjmjogaacpaaGreat
