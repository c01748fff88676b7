/- RamPlays: the switch, taken out of the body. -/
import Derived.Test.YtioodijiejipiaaRPL
namespace Go.Proofs.Ytioodijiejipiaa
open Go.RowKit
set_option linter.unusedVariables false

/-- a block of a code, by its number -/
def blkOf (n : Nat) : Code → Option Code
  | .block m c => match m == n with
    | true => some (.block m c)
    | false => blkOf n c
  | .seq a b => match blkOf n a with
    | some c => some c
    | none => blkOf n b
  | .loop c => blkOf n c
  | .scope c => blkOf n c
  | .cond _ a b => match blkOf n a with
    | some c => some c
    | none => blkOf n b
  | _ => none
noncomputable def swR : Code := ((Try.f3.body.bind (blkOf 2)).getD .skip)
def S6 (w wx : World) (base : Int) (n p q : Nat) (vo : Value) (m : Nat) : Prop := ∃ f, Rp w wx base n p q f f vo m []
theorem Oth.succ {w0 : Nat} {wr : World} {base : Int} {n : Nat} {v : Value} {m : Nat} {O : Nat → Prop} (h : Oth w0 wr base n v m O) : Oth w0 wr base n v (m + 1) O := by
  obtain ⟨L, h1, h2⟩ := h; exact ⟨L, by omega, h2⟩
theorem Rp.fin {w wr : World} {base : Int} {n p q : Nat} {f g : Nat → Int} {vo : Value} {m : Nat} {Y : List (Nat × Obj)} (h : Rp w wr base n p q f g vo m Y) : Rp w wr base n p q f g vo (m + 1) [] := by
  obtain ⟨S, T, O, h⟩ := h
  exact ⟨S, T, O, ⟨h.mem, h.rm, h.oth.succ, h.bw, h.st, h.so, h.to, h.ol, fun e he => by cases he⟩⟩
theorem ob_cells {wr : World} {bx : Nat} {c0 c1 c2 c3 c4 c5 : Value} {t : TypeId} {fr : Nat × Nat} (h : wr.heap[bx]? = some (.cells #[c0, c1, c2, c3, c4, c5] t fr)) : wr.cell? ⟨bx, 1, none⟩ = some c1 ∧ wr.cell? ⟨bx, 3, none⟩ = some c3 ∧ wr.cell? ⟨bx, 5, none⟩ = some c5 := by
  refine ⟨?_, ?_, ?_⟩ <;> simp [World.cell?, h]
end Go.Proofs.Ytioodijiejipiaa
