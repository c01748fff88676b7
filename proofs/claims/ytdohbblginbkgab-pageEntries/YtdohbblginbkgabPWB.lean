/- Regions that draw their order, whose callees lay blocks of their own: walked once. -/
import Derived.Test.YtdohbblginbkgabPTB
namespace Go.Proofs.Ytdohbblginbkgab
open Go.RowKit
set_option linter.unusedVariables false

/-- a world in which all that was there is as it was -/
structure WB (w0 : World) where
  w : World
  h : Below w0.heap.size w0 w
theorem WB.cell {w0 : World} (x : WB w0) {b o : Nat} {v : Value} (hb : b < w0.heap.size) (h : w0.cell? ⟨b, o, none⟩ = some v) : x.w.cell? ⟨b, o, none⟩ = some v := by
  rw [← h]; exact Below.cell x.h (p := ⟨b, o, none⟩) hb
/-- a callee's contract, met in a world of the class -/
theorem Calls.wb {P : Program} {f : FuncId} {args : Array Value} {w0 : World} {v : Value} (x : WB w0) (h : Calls P f args x.w fun e w' => e = .returned v ∧ Below x.w.heap.size x.w w') : Calls P f args x.w fun e w'' => e = .returned v ∧ ∃ y : WB w0, w'' = y.w :=
  h.mono fun _ w' hh => ⟨hh.1, ⟨w', x.h.trans (hh.2.mono x.h.size)⟩, rfl⟩
theorem wp_region_wb {P : Program} {id : Nat} {Q : Exit → Act → World → Prop} {a : Act} {w : World} {l : List Oper} (hm : P.follows .mixedOrders = true) (hB : Region.lexB .any l.toArray = true)
    (h : wpQuiet P l.toArray (fun w' => ∃ x : WB w, w' = x.w) (fun a' => ∀ w', (∃ x : WB w, w' = x.w) → Q .normal a' w') l a) : (Code.region id l.toArray true).wp P Q a w :=
  wp_region_quiet (C := fun w' => ∃ x : WB w, w' = x.w) hm hB ⟨⟨w.drew, (Below.refl _ _).drew⟩, rfl⟩ (by simpa using h)
end Go.Proofs.Ytdohbblginbkgab
