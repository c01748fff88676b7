/- From what the row says of an argument to what the walks read. -/
import Derived.Test.YtioodijiejipiaaRows
import Derived.Test.YtioodijiejipiaaRY
import Derived.OpenShut
import Derived.SizedLaws
namespace Go.Proofs.Ytioodijiejipiaa
open Go.ChangeShapes Go.WideShapes Go.ChangeAt Go.RowKit
set_option linter.unusedVariables false

set_option maxRecDepth 100000 in
theorem own : ownKnob Try.prog.godebug = none := by kernel_rfl
set_option maxRecDepth 100000 in
theorem laidOut_prog : laidOutB Try.prog = true := by kernel_rfl
theorem cells_u8 : Try.prog.cellsOf 5 = 1 := by kernel_rfl
theorem u_u8 : Try.prog.underlying 5 = some (.int .u8) := by kernel_rfl
set_option maxRecDepth 100000 in
/-- a list of numbers, as it stands -/
theorem open_nums {H : Type} {enc : TypeId × Value → H} {W : World} {k : IntKind} {t e : TypeId} {base : Nat} {r : Reach} {b : Nat} {v : Value} {d : DataW H} {p : List MemPlace} (ht : Try.prog.underlying t = some (.slice e)) (he : Try.prog.underlying e = some (.int k)) (hc : Try.prog.cellsOf e = 1)
    (hv : Value.okWide Try.prog W r b t v) (h : DataW.Trod enc Try.prog W base (fun _ => true) true t v d p) (hlt : ∀ x ∈ p, x.block < W.heap.size) :
    ∃ (ad : Option Addr) (la cap : Nat) (ar : Nat → Int) (aa : Addr), v = .slice ad la cap ∧ la ≤ cap ∧ cap ≤ 9223372036854775807 ∧ (∀ j, ar j = 0 ∨ (Lit.int k (ar j)).wf = true) ∧ (0 < la → ad = some aa ∧ aa.block < W.heap.size ∧ ∀ j, j < la → W.cell? (aa.add j) = some (.int k (ar j))) := by
  obtain ⟨a0, len, cap, rfl⟩ := okWide_slice ht hv
  obtain ⟨fuel, hf⟩ := h
  rcases open_ints ht he hc hf with ⟨hcs, hx⟩ | ⟨a, len', cap', zs, hcs, _, hl, hm, hz, hx, hcell, hwz⟩
  · simp [Value.cells] at hcs
    obtain ⟨rfl, rfl, rfl⟩ := hcs
    exact ⟨none, 0, 0, fun _ => 0, ⟨0, 0, none⟩, rfl, Nat.le_refl _, by decide, fun _ => .inl rfl, fun q => absurd q (by decide)⟩
  · simp [Value.cells] at hcs
    obtain ⟨rfl, rfl, rfl⟩ := hcs
    simp only [Prod.mk.injEq] at hx
    obtain ⟨rfl, rfl⟩ := hx
    simp only [if_true] at hz
    refine ⟨some a, len, cap, fun j => zs.getD j 0, a, rfl, hl, by simpa [maxLen] using hm, fun j => ?_, fun q => ⟨rfl, ?_, fun j hj => hcell j (by omega)⟩⟩
    · rcases Nat.lt_or_ge j zs.length with q | q
      · right; simp only [List.getD, List.getElem?_eq_getElem q, Option.getD_some]; exact hwz _ (List.getElem_mem _)
      · left; simp [List.getD, List.getElem?_eq_none q]
    · obtain ⟨b, off, spot⟩ := a
      have hspot : spot = none := by simpa [Addr.add] using World.cell?_spot (hcell 0 (by omega))
      subst hspot
      exact hlt (.cell b off) (MemPlace.mem_row.2 ⟨0, by omega, by simp⟩)
end Go.Proofs.Ytioodijiejipiaa
