/- Places that are the same; what an environment's block holds. -/
import Derived.Test.YtfoafgbhelgjcaaCPL
import Derived.Test.YtfoafgbhelgjcaaMC4
namespace Go.Proofs.Ytfoafgbhelgjcaa.C
open Go.RowKit
set_option linter.unusedVariables false
set_option maxRecDepth 100000

theorem under_place : Try.prog.underlying 93 = some (.struct (Try.prog.fieldsOf 93)) := by kernel_rfl
theorem stood_place : Try.prog.stoodInHeld 93 = false := by kernel_rfl
set_option maxRecDepth 100000 in
theorem run_eqP (a b c : Int) (d : Bool) (w : World) : (Op.equalIn 10000 93 (.agg #[.int .u64 a, .int .u64 b, .int .i64 c, .bool d]) (.agg #[.int .u64 a, .int .u64 b, .int .i64 c, .bool d])).run Try.prog w = .ok true w := by
  rw [run_equalIn_struct w 9999 93 _ _ under_place stood_place]
  go_simp
theorem heap_setCell_other' (w : World) (a : Addr) (v : Value) (b : Nat) {o : Obj} (h : w.heap[b]? = some o) (hne : b ≠ a.block) : (w.setCell a v).heap[b]? = some o := (Below.heap_setCell w a v b hne).trans h
/-- an environment's block -/
def EB (w : World) (b : Nat) (a r : Int) (c d e : Bool) : Prop := w.heap[b]? = some (.cells #[.int .u64 a, .int .u64 r, .bool c, .bool d, .bool e] 83 (0, 0))
section
variable {w : World} {b : Nat} {a r : Int} {c d e : Bool}
theorem EB.below {w' : World} (h : EB w b a r c d e) (hb : Below w.heap.size w w') : EB w' b a r c d e := (hb.block b (lt_of_block h)).trans h
theorem EB.cs (h : EB w b a r c d e) : w.cell? ⟨b, 0, none⟩ = some (.int .u64 a) ∧ w.cell? ⟨b, 1, none⟩ = some (.int .u64 r) ∧ w.cell? ⟨b, 2, none⟩ = some (.bool c) ∧ w.cell? ⟨b, 3, none⟩ = some (.bool d) ∧ w.cell? ⟨b, 4, none⟩ = some (.bool e) :=
  ⟨by rw [cell_of_row w b 0 _ _ _ h]; rfl, by rw [cell_of_row w b 1 _ _ _ h]; rfl, by rw [cell_of_row w b 2 _ _ _ h]; rfl, by rw [cell_of_row w b 3 _ _ _ h]; rfl, by rw [cell_of_row w b 4 _ _ _ h]; rfl⟩
theorem EB.z (h : EB w b a r c d e) (j : Nat) : w.frozen? ⟨b, j, none⟩ = false := frozen_of_row w b j _ _ h
theorem EB.s0 (h : EB w b a r c d e) (x : Int) : EB (w.setCell ⟨b, 0, none⟩ (.int .u64 x)) b x r c d e := by
  unfold EB; rw [heap_setCell_same _ _ 0 _ _ _ h]; simp
end
theorem eb_new (w : World) (o : Obj) (a r : Int) (c d e : Bool) : EB ((w.alloc o).alloc (.cells #[.int .u64 a, .int .u64 r, .bool c, .bool d, .bool e] 83)) (w.heap.size + 1) a r c d e := by
  have := heap_alloc_new (w.alloc o) (.cells #[.int .u64 a, .int .u64 r, .bool c, .bool d, .bool e] 83)
  have e1 : (w.alloc o).heap.size = w.heap.size + 1 := by simp
  rw [e1] at this
  exact this
/-- a case's block -/
def CB (w : World) (b : Nat) (ad : Option Addr) (la cap : Nat) (a r : Int) (c d e : Bool) : Prop := w.heap[b]? = some (.cells #[.slice ad la cap, .int .u64 a, .int .u64 r, .bool c, .bool d, .bool e] 85 (0, 0))
section
variable {w : World} {b : Nat} {ad : Option Addr} {la cap : Nat} {a r : Int} {c d e : Bool}
theorem CB.below {w' : World} (h : CB w b ad la cap a r c d e) (hb : Below w.heap.size w w') : CB w' b ad la cap a r c d e := (hb.block b (lt_of_block h)).trans h
theorem CB.cs (h : CB w b ad la cap a r c d e) : w.cell? ⟨b, 1, none⟩ = some (.int .u64 a) ∧ w.cell? ⟨b, 2, none⟩ = some (.int .u64 r) ∧ w.cell? ⟨b, 3, none⟩ = some (.bool c) ∧ w.cell? ⟨b, 4, none⟩ = some (.bool d) ∧ w.cell? ⟨b, 5, none⟩ = some (.bool e) :=
  ⟨by rw [cell_of_row w b 1 _ _ _ h]; rfl, by rw [cell_of_row w b 2 _ _ _ h]; rfl, by rw [cell_of_row w b 3 _ _ _ h]; rfl, by rw [cell_of_row w b 4 _ _ _ h]; rfl, by rw [cell_of_row w b 5 _ _ _ h]; rfl⟩
end
end Go.Proofs.Ytfoafgbhelgjcaa.C
