/- Copy: another memory with the same bytes. -/
import Derived.Test.YthfpoefpnoodiaaMC1
namespace Go.Proofs.Ythfpoefpnoodiaa.C
open Go.RowKit
set_option linter.unusedVariables false
set_option maxRecDepth 100000

theorem s_cells : (Try.prog.info? 211).map (·.size) = some 4096 := by kernel_rfl
theorem wpL_load {ops : Array Oper} {rest : List Oper} {d : Option Nat} {ty : TypeId} {x : Operand} {pos : String} {after : Array Edge} {Q : Exit → Act → World → Prop} {a : Act} {w : World} (h : Nat) (hx : a.eval x = .pointer (some ⟨h, 0, none⟩)) (f : Nat → Int) (s : Nat)
    (hg : w.heap[h]? = some (.cells (row f s 4096).toArray 211 (0, 0))) (hK : wpList Try.prog ops Q rest (a.put d (.agg (row f s 4096).toArray)) w) :
    wpList Try.prog ops Q ({ dst := d, op := Op.load 211 x, type := ty, pos := pos, after := after, guard := none } :: rest) a w :=
  wpList_load_row rfl 211 x rfl h hx 211 _ (0, 0) (.array 4096 5) hg u_cells rfl (by rw [s_cells]; simp [row_length]) hK
theorem setRow_alloc (w : World) (a b : Array Value) (t : TypeId) : (w.alloc (.cells a t)).setRow w.heap.size b = w.alloc (.cells b t) := by
  unfold World.setRow World.alloc
  congr 1
  apply Array.ext_getElem?
  intro k
  simp only [Array.getElem?_modify, Array.getElem?_push]
  by_cases hk : k = w.heap.size
  · subst hk; simp
  · simp [hk]
    intro e; exact absurd e.symm hk
theorem wpL_store {ops : Array Oper} {rest : List Oper} {d : Option Nat} {ty : TypeId} {x y : Operand} {pos : String} {after : Array Edge} {Q : Exit → Act → World → Prop} {a : Act} {w : World} (f : Nat → Int) (s : Nat) (z : List Value) (hz : z.length = 4096) (hx : a.eval x = .pointer (some ⟨w.heap.size, 0, none⟩)) (hy : a.eval y = .agg (row f s 4096).toArray)
    (hK : wpList Try.prog ops Q rest (a.put d undef) (w.alloc (.cells (row f s 4096).toArray 211))) :
    wpList Try.prog ops Q ({ dst := d, op := Op.store 211 x y, type := ty, pos := pos, after := after, guard := none } :: rest) a (w.alloc (.cells z.toArray 211)) := by
  refine wpList_store_row rfl 211 x y rfl w.heap.size _ hx hy 211 z.toArray (heap_alloc_new w _) (by rw [s_cells]; simp [row_length]) (by simp [row_length, hz]) ?_ (by rw [setRow_alloc]; exact hK)
  rw [Array.all_eq_true_iff_forall_mem]
  intro v hv
  exact row_one f s 4096 v (by simpa using hv)
/-- how far a copy has come: k frames -/
structure PC (w wr : World) (hs : List (Option Nat)) (f : Nat → Int) (k : Nat) (hs' : List (Option Nat)) : Prop where
  tab : wr.heap[w.heap.size]? = some (.cells (hs'.map ptr).toArray 209 (0, 0))
  len : hs'.length = hs.length
  bare : ∀ i : Nat, i < k → hs'[i]? = some none → hs[i]? = some none
  full : ∀ (i h : Nat), hs'[i]? = some (some h) → i < k ∧ w.heap.size < h ∧ wr.heap[h]? = some (.cells (row f (4096 * i) 4096).toArray 211 (0, 0))
  inj : ∀ (i j h : Nat), hs'[i]? = some (some h) → hs'[j]? = some (some h) → i = j
  below : Below w.heap.size w wr
theorem PC.bareStep {w wr : World} {hs : List (Option Nat)} {f : Nat → Int} {k : Nat} {hs' : List (Option Nat)} (h : PC w wr hs f k hs') (hk : hs[k]? = some none) : PC w wr hs f (k + 1) hs' :=
  ⟨h.tab, h.len, fun i hi q => by
    by_cases e : i = k
    · subst e; exact hk
    · exact h.bare i (by omega) q, fun i hh q => ⟨by have := (h.full i hh q).1; omega, (h.full i hh q).2⟩, h.inj, h.below⟩
theorem PC.fullStep {w wr : World} {hs : List (Option Nat)} {f : Nat → Int} {k : Nat} {hs' : List (Option Nat)} (h : PC w wr hs f k hs') (hk : k < hs.length) :
    PC w ((wr.setCell ⟨w.heap.size, k, none⟩ (.pointer (some ⟨wr.heap.size, 0, none⟩))).alloc (.cells (row f (4096 * k) 4096).toArray 211)) hs f (k + 1) (hs'.set k (some wr.heap.size)) := by
  have hk' : k < hs'.length := by rw [h.len]; exact hk
  have hgl := lt_of_block h.tab
  have hsz : (wr.setCell ⟨w.heap.size, k, none⟩ (.pointer (some ⟨wr.heap.size, 0, none⟩))).heap.size = wr.heap.size := by simp [World.setCell]
  have hnew : ((wr.setCell ⟨w.heap.size, k, none⟩ (.pointer (some ⟨wr.heap.size, 0, none⟩))).alloc (.cells (row f (4096 * k) 4096).toArray 211)).heap[wr.heap.size]? = some (.cells (row f (4096 * k) 4096).toArray 211 (0, 0)) := by
    have := heap_alloc_new (wr.setCell ⟨w.heap.size, k, none⟩ (.pointer (some ⟨wr.heap.size, 0, none⟩))) (.cells (row f (4096 * k) 4096).toArray 211)
    rwa [hsz] at this
  have hold : ∀ j, j < wr.heap.size → j ≠ w.heap.size → ((wr.setCell ⟨w.heap.size, k, none⟩ (.pointer (some ⟨wr.heap.size, 0, none⟩))).alloc (.cells (row f (4096 * k) 4096).toArray 211)).heap[j]? = wr.heap[j]? := fun j hj hne =>
    (Below.heap_alloc _ _ j (by rw [hsz]; exact hj)).trans (Below.heap_setCell _ _ _ j hne)
  refine ⟨?_, by simpa using h.len, ?_, ?_, ?_, ?_⟩
  · rw [Below.heap_alloc _ _ _ (by rw [hsz]; exact hgl), heap_setCell_same _ _ k _ _ _ h.tab]
    congr 2
    simp [List.map_set, ptr]
  · intro i hi q
    by_cases e : i = k
    · subst e; rw [List.getElem?_set_self hk'] at q; cases q
    · rw [List.getElem?_set_ne (by omega)] at q; exact h.bare i (by omega) q
  · intro i hh q
    by_cases e : i = k
    · subst e
      rw [List.getElem?_set_self hk'] at q
      obtain rfl : wr.heap.size = hh := by simpa using q
      exact ⟨by omega, hgl, hnew⟩
    · rw [List.getElem?_set_ne (by omega)] at q
      obtain ⟨a, b, c⟩ := h.full i hh q
      exact ⟨by omega, b, (hold hh (lt_of_block c) (by omega)).trans c⟩
  · intro i j hh hi hj
    by_cases e : i = k <;> by_cases e' : j = k
    · omega
    · subst e
      rw [List.getElem?_set_self hk'] at hi
      rw [List.getElem?_set_ne (by omega)] at hj
      have := lt_of_block (h.full j hh hj).2.2
      simp at hi; omega
    · subst e'
      rw [List.getElem?_set_self hk'] at hj
      rw [List.getElem?_set_ne (by omega)] at hi
      have := lt_of_block (h.full i hh hi).2.2
      simp at hj; omega
    · rw [List.getElem?_set_ne (by omega)] at hi hj
      exact h.inj i j hh hi hj
  · exact (h.below.setCell (Nat.le_refl _) _).alloc (by rw [hsz]; omega) _
set_option maxHeartbeats 1000000 in
theorem c_Copy (w : World) (S : Nat → Prop) (p : Nat) (base : Int) (n : Nat) (f : Nat → Int) (h : Mem w S p base n f) :
    Calls Try.prog 50 #[.pointer (some ⟨p, 0, none⟩)] w fun e w' => ∃ p' S', e = .returned (.pointer (some ⟨p', 0, none⟩)) ∧ Mem w' S' p' base n f ∧ Below w.heap.size w w' ∧ ∀ k, S' k → w.heap.size ≤ k := by
  obtain ⟨g, hs, hr, rfl, hS⟩ := h
  have l1 := hr.len1
  have c1 := hr.cell1
  have hpl := lt_of_block hr.top
  go_enter Try.func50, Try.ntmps50
  go_wp2_with (at_make; refine wpList_makes _ rfl _ _ 206 rfl 209 _ 8 u_spc info_pc rfl hs.length rfl rfl (by omega) (by omega) _ rfl ?_)
  go_loopw [18] (fun i wr => ∃ (k : Nat) (hs' : List (Option Nat)), k ≤ hs.length ∧ i = .int .i64 k ∧ PC w wr hs f k hs') (fun i _ => hs.length - (intOf i).toNat)
  case atStart => exact ⟨0, List.replicate hs.length none, by omega, rfl, ⟨by rw [heap_alloc_new]; simp [ptr], by simp, fun i hi => by omega, fun i hh q => by rw [List.getElem?_replicate] at q; split at q <;> simp at q, fun i j hh q => by rw [List.getElem?_replicate] at q; split at q <;> simp at q, (Below.refl _ _).alloc (Nat.le_refl _) _⟩⟩
  case round =>
    obtain ⟨k, hs', hk, rfl, hpc⟩ := hrel
    have hR := hr.below hpc.below
    have c2 := hR.cell1
    have c3 := hR.cell0
    by_cases hlt : k < hs.length
    · obtain ⟨x, hx⟩ : ∃ x, hs[k]? = some x := ⟨_, List.getElem?_eq_getElem hlt⟩
      have cT := hR.cellT _ x hx
      cases x with
      | none =>
        simp only [ptr] at cT
        have HP := hid (hpc.bareStep hx)
        clear hpc hR
        go_wp2
        go_roundw
        case rel => exact ⟨k + 1, hs', by omega, by go_num, HP.out⟩
        case measure => simp [intOf]; omega
      | some hh =>
        simp only [ptr] at cT
        have HF := hid (hR.full _ _ hx)
        have HP := hid (hpc.fullStep hlt)
        have hgl := lt_of_block hpc.tab
        have f1 : wr.frozen? ⟨w.heap.size, k, none⟩ = false := frozen_of_row wr _ _ _ _ hpc.tab
        obtain ⟨y, c4⟩ : ∃ y, wr.cell? ⟨w.heap.size, k, none⟩ = some y := by
          have hk' : k < hs'.length := by rw [hpc.len]; exact hlt
          exact ⟨ptr hs'[k], by rw [cell_of_row wr _ k _ _ _ hpc.tab]; simp [hk']⟩
        clear hpc hR
        go_wp2_with (first
          | ((with_reducible refine wpL_load (x := .tmp 26) hh ?_ f (4096 * k) ?_ ?_); rfl; exact HF.out)
          | ((with_reducible refine wpList_new (z := .agg (List.replicate 4096 (Value.int .u8 0)).toArray) (row (fun _ => 0) 0 4096).toArray ?_ ?_ ?_); exact c_cells; exact z_cells)
          | ((with_reducible refine wpL_store (x := .tmp 6) (y := .tmp 27) f (4096 * k) (row (fun _ => 0) 0 4096) (row_length _ _ _) ?_ ?_ ?_); rfl; rfl))
        go_roundw
        case rel => exact ⟨k + 1, _, by omega, by go_num, HP.out⟩
        case measure => simp [intOf]; omega
    · obtain rfl : k = hs.length := by omega
      go_wp2
      go_ret
      have hgl := lt_of_block hpc.tab
      have htop := heap_alloc_new wr (.cells #[.int .u64 base, .slice (some ⟨w.heap.size, 0, none⟩) hs.length hs.length] 208)
      have hold : ∀ j o, wr.heap[j]? = some o → (wr.alloc (.cells #[.int .u64 base, .slice (some ⟨w.heap.size, 0, none⟩) hs.length hs.length] 208)).heap[j]? = some o := fun j o ho => (Below.heap_alloc _ _ j (lt_of_block ho)).trans ho
      refine ⟨wr.heap.size, Foot wr.heap.size w.heap.size hs', rfl, ⟨w.heap.size, hs', ⟨by rw [hpc.len]; exact htop, hold _ _ hpc.tab, fun i q => hr.bare i (hpc.bare i ?_ q), fun i h' q => hold _ _ (hpc.full i h' q).2.2, hpc.inj, hr.byt, hr.base0, hr.base1, by rw [hpc.len]; exact hr.len0, by rw [hpc.len]; exact hr.len1⟩, hpc.len, fun k => Iff.rfl⟩, hpc.below.alloc hpc.below.size _, ?_⟩
      · rcases Nat.lt_or_ge i hs'.length with e | e
        · rw [← hpc.len]; exact e
        · rw [List.getElem?_eq_none e] at q; cases q
      · rintro k (rfl | rfl | ⟨i, hi⟩)
        · exact hpc.below.size
        · exact Nat.le_refl _
        · exact Nat.le_of_lt (hpc.full i k hi).2.1
end Go.Proofs.Ythfpoefpnoodiaa.C
