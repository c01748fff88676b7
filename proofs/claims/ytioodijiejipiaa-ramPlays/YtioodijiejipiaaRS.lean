/- store: bytes into the memory; frames are made when they are written. -/
import Derived.Test.YtioodijiejipiaaRL
namespace Go.Proofs.Ytioodijiejipiaa
open Go.RowKit
set_option linter.unusedVariables false

set_option maxRecDepth 1000000 in
theorem z_cells : (Try.prog.info? 79).map (fun i => i.zero) = some (some (.agg (List.replicate 4096 (Value.int .u8 0)).toArray)) := by kernel_rfl
theorem c_cells : (Value.agg (List.replicate 4096 (Value.int .u8 0)).toArray).cells = (row (fun _ => 0) 0 4096).toArray := by rw [← replicate_row]; rfl
theorem wpList_new {P : Program} {ops : Array Oper} {rest : List Oper} {d : Option Nat} {ty e : TypeId} {pos : String} {after : Array Edge} {Q : Exit → Act → World → Prop} {a : Act} {w : World} {z : Value} (c : Array Value) (hc : z.cells = c)
    (hz : (P.info? e).map (fun i => i.zero) = some (some z)) (h : wpList P ops Q rest (a.put d (.pointer (some ⟨w.heap.size, 0, none⟩))) (w.alloc (.cells c e))) :
    wpList P ops Q ({ dst := d, op := Op.alloc e, type := ty, pos := pos, after := after, guard := none } :: rest) a w := by
  subst hc
  refine wpList_plain rfl fun K' hK' => ?_
  have hr : (Instr.alloc e true (.tuple #[])).run P w = .ok (.pointer (some ⟨w.heap.size, 0, none⟩)) (w.alloc (.cells z.cells e)) := by
    cases hq : P.info? e with
    | none => rw [hq] at hz; cases hz
    | some i =>
      have hi : i.zero = some z := by rw [hq] at hz; simpa using hz
      simp [Instr.alloc, zeroValue, typeInfo, hq, hi, newVar, newRow]
  unfold Oper.wp
  simp [execOp, hr, Result.andThen]
  exact hK' _ _ h
/-- a frame that is not there is made -/
theorem RM.make {w : World} {p g : Nat} {base : Int} {hs : List (Option Nat)} {f : Nat → Int} (h : RM w p g base hs f) (i : Nat) (hi : hs[i]? = some none) :
    RM ((w.alloc (.cells (row (fun _ => 0) 0 4096).toArray 79)).setCell ⟨g, i, none⟩ (.pointer (some ⟨w.heap.size, 0, none⟩))) p g base (hs.set i (some w.heap.size)) f := by
  have hgl := lt_of_block h.tab
  have hpl := lt_of_block h.top
  have hil : i < hs.length := by
    rcases Nat.lt_or_ge i hs.length with q | q
    · exact q
    · rw [List.getElem?_eq_none q] at hi; cases hi
  have hpg : p ≠ g := by rintro rfl; have := h.top; rw [h.tab] at this; simp at this
  have hold : ∀ k, k < w.heap.size → k ≠ g → ((w.alloc (.cells (row (fun _ => 0) 0 4096).toArray 79)).setCell ⟨g, i, none⟩ (.pointer (some ⟨w.heap.size, 0, none⟩))).heap[k]? = w.heap[k]? := fun k hk hkg =>
    (Below.heap_setCell _ _ _ k hkg).trans (Below.heap_alloc w _ k hk)
  have hnew : ((w.alloc (.cells (row (fun _ => 0) 0 4096).toArray 79)).setCell ⟨g, i, none⟩ (.pointer (some ⟨w.heap.size, 0, none⟩))).heap[w.heap.size]? = some (.cells (row (fun _ => 0) 0 4096).toArray 79) :=
    (Below.heap_setCell _ _ _ _ (by show w.heap.size ≠ g; omega)).trans (heap_alloc_new w _)
  have hg' : (w.alloc (.cells (row (fun _ => 0) 0 4096).toArray 79)).heap[g]? = some (.cells (hs.map ptr).toArray 77 (0, 0)) := (Below.heap_alloc w _ g hgl).trans h.tab
  refine ⟨?_, ?_, ?_, ?_, ?_, h.byt, h.base0, h.base1, by simpa using h.len0, by simpa using h.len1⟩
  · rw [hold p hpl hpg, List.length_set]; exact h.top
  · rw [heap_setCell_same _ g i _ _ _ hg']
    congr 2
    simp [List.map_set, ptr]
  · intro j hj k hk
    by_cases e : j = i
    · subst e; rw [List.getElem?_set_self hil] at hj; cases hj
    · rw [List.getElem?_set_ne (by omega)] at hj; exact h.bare j hj k hk
  · intro j hh hj
    by_cases e : j = i
    · subst e
      rw [List.getElem?_set_self hil] at hj
      obtain rfl : w.heap.size = hh := by simpa using hj
      have e : row (fun _ => 0) 0 4096 = row f (4096 * j) 4096 := row_congr fun k hk => (h.bare j hi k hk).symm
      rw [hnew, e]
    · rw [List.getElem?_set_ne (by omega)] at hj
      have := h.full j hh hj
      rw [hold hh (lt_of_block this) (by rintro rfl; rw [h.tab] at this; simp at this)]
      exact this
  · intro j k hh hj hk
    by_cases e : j = i <;> by_cases e' : k = i
    · omega
    · subst e
      rw [List.getElem?_set_self hil] at hj
      rw [List.getElem?_set_ne (by omega)] at hk
      have := lt_of_block (h.full k hh hk)
      simp at hj; omega
    · subst e'
      rw [List.getElem?_set_self hil] at hk
      rw [List.getElem?_set_ne (by omega)] at hj
      have := lt_of_block (h.full j hh hj)
      simp at hk; omega
    · rw [List.getElem?_set_ne (by omega)] at hj hk
      exact h.inj j k hh hj hk
set_option maxRecDepth 100000 in
theorem c_made (w : World) (p g : Nat) (base : Int) (hs : List (Option Nat)) (f : Nat → Int) (h : RM w p g base hs f) (i : Nat) (hi : i < hs.length) :
    Calls Try.prog 45 #[.pointer (some ⟨p, 0, none⟩), .int .i64 (i : Int)] w fun e w' => ∃ hh hs', e = .returned (.pointer (some ⟨hh, 0, none⟩)) ∧ RM w' p g base hs' f ∧ hs'[i]? = some (some hh) ∧ hs'.length = hs.length ∧ Only (· = g) w w' ∧
      ∀ (j h' : Nat), hs'[j]? = some (some h') → hs[j]? = some (some h') ∨ w.heap.size ≤ h' := by
  obtain ⟨x, hx⟩ : ∃ x, hs[i]? = some x := ⟨_, List.getElem?_eq_getElem hi⟩
  have c1 := h.cell1
  have cT := h.cellT _ x hx
  have l1 := h.len1
  go_enter Try.func45, Try.ntmps45
  cases x with
  | some hh =>
    simp only [ptr] at cT
    go_wp2
    go_ret
    exact ⟨hh, hs, rfl, h, hx, rfl, .refl w, fun j h' q => .inl q⟩
  | none =>
    simp only [ptr] at cT
    have hf : w.frozen? ⟨g, i, none⟩ = false := frozen_of_row w g i _ _ h.tab
    have hpl := lt_of_block h.top
    have hgl := lt_of_block h.tab
    have hpg : p ≠ g := by rintro rfl; have := h.top; rw [h.tab] at this; simp at this
    have k1 : (w.setCell ⟨g, i, none⟩ (.pointer (some ⟨w.heap.size, 0, none⟩))).cell? ⟨p, 1, none⟩ = some (.slice (some ⟨g, 0, none⟩) hs.length hs.length) := by
      rw [World.cell?_setCell_other _ _ _ _ (by intro e; cases e; exact hpg rfl)]; exact c1
    have k2 : (w.setCell ⟨g, i, none⟩ (.pointer (some ⟨w.heap.size, 0, none⟩))).cell? ⟨g, i, none⟩ = some (.pointer (some ⟨w.heap.size, 0, none⟩)) := World.cell?_setCell_same _ _ _ cT
    have HM := hid (h.make i hx)
    go_wp2_with (refine wpList_new _ c_cells z_cells ?_)
    go_ret
    rw [World.setCell_alloc_past _ _ _ _ hgl] at HM
    refine ⟨w.heap.size, hs.set i (some w.heap.size), rfl, HM.out, List.getElem?_set_self hi, List.length_set, ((Only.refl (S := (· = g)) w).setCell (p := ⟨g, i, none⟩) (.inl rfl) _).alloc _, fun j h' q => ?_⟩
    by_cases e : j = i
    · subst e; rw [List.getElem?_set_self hi] at q; simp at q; exact .inr (by omega)
    · rw [List.getElem?_set_ne (by omega)] at q; exact .inl q
end Go.Proofs.Ytioodijiejipiaa
