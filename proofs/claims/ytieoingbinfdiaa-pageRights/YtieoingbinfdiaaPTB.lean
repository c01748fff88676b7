/- A pair of memories in a block of its own. -/
import Derived.Test.YtieoingbinfdiaaPGC
namespace Go.Proofs.Ytieoingbinfdiaa
open Go.RowKit
set_option linter.unusedVariables false

/-- a pair of memories that lies in a block of its own -/
def TB (w : World) (b p q : Nat) : Prop := w.heap[b]? = some (.cells #[.pointer (some ⟨p, 0, none⟩), .pointer (some ⟨q, 0, none⟩)] 52 (0, 0))
theorem TB.c0 {w : World} {b p q : Nat} (h : TB w b p q) : w.cell? ⟨b, 0, none⟩ = some (.pointer (some ⟨p, 0, none⟩)) := by rw [cell_of_row w b 0 _ _ _ h]; rfl
theorem TB.c1 {w : World} {b p q : Nat} (h : TB w b p q) : w.cell? ⟨b, 1, none⟩ = some (.pointer (some ⟨q, 0, none⟩)) := by rw [cell_of_row w b 1 _ _ _ h]; rfl
theorem TB.below {w w' : World} {b p q : Nat} (h : TB w b p q) (hb : Below w.heap.size w w') : TB w' b p q := (hb.block b (lt_of_block h)).trans h
theorem TB.new (w : World) (p q : Nat) : TB (w.alloc (.cells #[.pointer (some ⟨p, 0, none⟩), .pointer (some ⟨q, 0, none⟩)] 52)) w.heap.size p q := heap_alloc_new w _
theorem put_byt {f : Nat → Int} (hf : ∀ j, 0 ≤ f j ∧ f j < 256) (off n : Nat) {g : Nat → Int} (hg : ∀ j, 0 ≤ g j ∧ g j < 256) (j : Nat) : 0 ≤ put f off n g j ∧ put f off n g j < 256 := by
  unfold put; split
  · exact hg _
  · exact hf j
theorem fcl_byt (n : Nat) (X : Nat → Int × Int) : ∀ k j, 0 ≤ fcl n X k j ∧ fcl n X k j < 256
  | 0, j => ⟨Int.le_refl 0, show (0 : Int) < 256 by decide⟩
  | k + 1, j => put_byt (fcl_byt n X k) _ _ (byt_b _) j
end Go.Proofs.Ytieoingbinfdiaa
