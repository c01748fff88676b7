/- RamPlays: the script's bytes; a pair appended. -/
import Derived.Test.YtioodijiejipiaaRPM
import Derived.Laws.AppendOwn
namespace Go.Proofs.Ytioodijiejipiaa
open Go.RowKit
set_option linter.unusedVariables false

theorem src_of {w : World} {Kd Sz Ad V : Int} {Nr : Bool} {bad : Option Addr} {bl bc : Nat} {ba : Addr} {br : Nat → Int} (h : OpOk w ⟨Kd, Sz, Ad, V, Nr, bad, bl, bc, ba, br⟩) : ∀ wr, Below w.heap.size w wr → ∀ Y, Src w wr (.slice bad bl bc) bl br Y := by
  intro wr hb Y
  refine ⟨bad, bc, rfl, h.len.1, ba.block, ba.off, fun z => ?_⟩
  obtain ⟨h1, h2, h3⟩ := h.src z
  have hsp : ba.spot = none := by
    have := World.cell?_spot (h3 0 z)
    simpa [Addr.add] using this
  obtain ⟨b, o, sp⟩ := ba
  obtain rfl : sp = none := hsp
  refine ⟨h1, .inl h2, fun j hj => ?_⟩
  have := h3 j hj
  rw [addr_add] at this
  rw [← this]
  exact Below.cell hb (p := ⟨b, o + j, none⟩) h2
theorem u_sTwo : Try.prog.underlying 34 = some (.slice 52) := by kernel_rfl
theorem info_two : (Try.prog.info? 52).map (fun i => (i.zero, i.size, i.bytes)) = some (some (.agg #[.pointer none, .pointer none]), 2, 16) := by kernel_rfl
theorem wpL_two {ops : Array Oper} {rest : List Oper} {o : Oper} {a : Act} {w : World} {Q : Exit → Act → World → Prop} (hgd : o.guard = none) (s x : Operand)
    (ho : o.op = .call { callee := .builtin .append, args := #[s, x], argTypes := #[34, 34] })
    (base : Nat) (v : Value) (L : List (Nat × Nat)) (hs : a.eval s = v) (hown : w.ownsRow base 52 2 v L.length (L.flatMap fun e => [.pointer (some ⟨e.1, 0, none⟩), .pointer (some ⟨e.2, 0, none⟩)])) (hl : L.length * 16 + 16 ≤ 140737488355328) (b m c d : Nat) (hx : a.eval x = .slice (some ⟨b, 0, none⟩) 1 m)
    (h0 : w.cell? ⟨b, 0, none⟩ = some (.pointer (some ⟨c, 0, none⟩))) (h1 : w.cell? ⟨b, 1, none⟩ = some (.pointer (some ⟨d, 0, none⟩))) (hb : base ≤ w.heap.size)
    (h : ∀ v' w', w'.ownsRow base 52 2 v' (L.length + 1) ((L.flatMap fun e => [.pointer (some ⟨e.1, 0, none⟩), .pointer (some ⟨e.2, 0, none⟩)]) ++ [.pointer (some ⟨c, 0, none⟩), .pointer (some ⟨d, 0, none⟩)]) → w.grownBy w' v.ownBlock → wpList Try.prog ops Q rest (a.put o.dst v') w') : wpList Try.prog ops Q (o :: rest) a w := by
  obtain ⟨i0, hi, hz0, hz1, hz2⟩ := info_parts info_two
  refine wpList_append_own _ hgd s x 34 ho base 52 i0 (.agg #[.pointer none, .pointer none]) 2 16 u_sTwo hi hz0 hz1 hz2 rfl (by decide) v L.length _ hs hown ⟨b, 0, none⟩ 1 m [.pointer (some ⟨c, 0, none⟩), .pointer (some ⟨d, 0, none⟩)] hx rfl (fun j u hj => ?_) (fun u hu => ?_) (by unfold maxLen; omega) (by omega) hb ?_
  · rw [addr_add, Nat.zero_add]
    match j, hj with
    | 0, hj => obtain rfl := Option.some.inj hj; exact h0
    | 1, hj => obtain rfl := Option.some.inj hj; exact h1
  · simp at hu; rcases hu with rfl | rfl <;> rfl
  · intro v' w' h2 h3 _
    exact h v' w' h2 h3
end Go.Proofs.Ytioodijiejipiaa
