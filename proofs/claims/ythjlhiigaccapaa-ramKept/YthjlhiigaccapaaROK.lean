/- A list that has no address is empty. -/
import Derived.Test.YthjlhiigaccapaaRO
namespace Go.Proofs.Ythjlhiigaccapaa
open Go.ChangeShapes Go.WideShapes Go.ChangeAt Go.RowKit
theorem open_none {H : Type} {enc : TypeId × Value → H} {W : World} {base : Nat} {ad : Option Addr} {la cap : Nat} {d : DataW H} {p : List MemPlace} (h : DataW.Trod enc Try.prog W base (fun _ => true) true 35 (.slice ad la cap) d p) : ad = none → la = 0 ∧ cap = 0 := by
  obtain ⟨fuel, hf⟩ := h
  intro q
  rcases open_ints u_su8 u_u8 cells_u8 hf with ⟨hcs, hx⟩ | ⟨a, len', cap', zs, hcs, _⟩
  · simp [Value.cells] at hcs
    exact ⟨hcs.2.1, hcs.2.2⟩
  · simp [Value.cells] at hcs
    rw [q] at hcs
    simp at hcs
end Go.Proofs.Ythjlhiigaccapaa
