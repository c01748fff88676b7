/- Which row an opcode has, and what a word reads as: what Decode answers, for every word. New blocks alone. -/
import Derived.Test.YtlfdokkopgmfjaaGreatDoorBIA
namespace Go.Proofs.YtlfdokkopgmfjaaGreatDoor.B
open Go.RowKit
set_option linter.unusedVariables false
set_option maxRecDepth 100000
abbrev vf (n : Nat) : Value := .func (.func n) #[] #[]
abbrev nf : Value := .nilFunc
theorem zero_row (w : World) : (zeroValue 146).run Tryz.prog w = .ok (.agg #[.nilFunc, .nilFunc, .nilFunc, .nilFunc, .nilFunc]) w := by kernel_rfl
theorem under_map : Tryz.prog.underlying 177 = some (.map 3 146) := by kernel_rfl
theorem cell2 {w w1 w2 : World} {o o' : Obj} (hb : Below (w.alloc o).heap.size (w.alloc o) w1) (hb2 : Below (w1.alloc o').heap.size (w1.alloc o') w2) (i : Nat) :
    w2.cell? ⟨w.heap.size, i, none⟩ = (w.alloc o).cell? ⟨w.heap.size, i, none⟩ := by
  have hz := belowS hb
  rw [(bcell hb2).1 _ _ (by simp; omega), World.cell?_alloc_past _ _ _ hz, (bcell hb).1 _ _ (by simp)]
theorem under_int : Tryz.prog.underlying 3 = some (.int .i64) := by kernel_rfl
theorem ca_make (w : World) :
    (Instr.mapUpdate 177 (.map (some (w.heap.size + 1))) (.int .i64 55) (.agg #[vf 152, vf 153, vf 154, vf 154, vf 155])).run Tryz.prog ((w.alloc (Obj.cells #[nf, nf, nf, nf, nf] 146)).alloc (Obj.map #[] 0)) = .ok () ((w.alloc (Obj.cells #[nf, nf, nf, nf, nf] 146)).alloc (Obj.map #[⟨.int .i64 55, .agg #[vf 152, vf 153, vf 154, vf 154, vf 155], 0⟩] 1)) ∧
    (Instr.mapUpdate 177 (.map (some (w.heap.size + 1))) (.int .i64 23) (.agg #[vf 156, vf 153, vf 154, vf 154, vf 155])).run Tryz.prog ((w.alloc (Obj.cells #[nf, nf, nf, nf, nf] 146)).alloc (Obj.map #[⟨.int .i64 55, .agg #[vf 152, vf 153, vf 154, vf 154, vf 155], 0⟩] 1)) = .ok () ((w.alloc (Obj.cells #[nf, nf, nf, nf, nf] 146)).alloc (Obj.map #[⟨.int .i64 55, .agg #[vf 152, vf 153, vf 154, vf 154, vf 155], 0⟩, ⟨.int .i64 23, .agg #[vf 156, vf 153, vf 154, vf 154, vf 155], 1⟩] 2)) ∧
    (Instr.mapUpdate 177 (.map (some (w.heap.size + 1))) (.int .i64 19) (.agg #[vf 157, vf 153, vf 158, vf 154, vf 159])).run Tryz.prog ((w.alloc (Obj.cells #[nf, nf, nf, nf, nf] 146)).alloc (Obj.map #[⟨.int .i64 55, .agg #[vf 152, vf 153, vf 154, vf 154, vf 155], 0⟩, ⟨.int .i64 23, .agg #[vf 156, vf 153, vf 154, vf 154, vf 155], 1⟩] 2)) = .ok () ((w.alloc (Obj.cells #[nf, nf, nf, nf, nf] 146)).alloc (Obj.map #[⟨.int .i64 55, .agg #[vf 152, vf 153, vf 154, vf 154, vf 155], 0⟩, ⟨.int .i64 23, .agg #[vf 156, vf 153, vf 154, vf 154, vf 155], 1⟩, ⟨.int .i64 19, .agg #[vf 157, vf 153, vf 158, vf 154, vf 159], 2⟩] 3)) ∧
    (Instr.mapUpdate 177 (.map (some (w.heap.size + 1))) (.int .i64 27) (.agg #[vf 160, vf 153, vf 158, vf 154, vf 161])).run Tryz.prog ((w.alloc (Obj.cells #[nf, nf, nf, nf, nf] 146)).alloc (Obj.map #[⟨.int .i64 55, .agg #[vf 152, vf 153, vf 154, vf 154, vf 155], 0⟩, ⟨.int .i64 23, .agg #[vf 156, vf 153, vf 154, vf 154, vf 155], 1⟩, ⟨.int .i64 19, .agg #[vf 157, vf 153, vf 158, vf 154, vf 159], 2⟩] 3)) = .ok () ((w.alloc (Obj.cells #[nf, nf, nf, nf, nf] 146)).alloc (Obj.map #[⟨.int .i64 55, .agg #[vf 152, vf 153, vf 154, vf 154, vf 155], 0⟩, ⟨.int .i64 23, .agg #[vf 156, vf 153, vf 154, vf 154, vf 155], 1⟩, ⟨.int .i64 19, .agg #[vf 157, vf 153, vf 158, vf 154, vf 159], 2⟩, ⟨.int .i64 27, .agg #[vf 160, vf 153, vf 158, vf 154, vf 161], 3⟩] 4)) ∧
    (Instr.mapUpdate 177 (.map (some (w.heap.size + 1))) (.int .i64 51) (.agg #[vf 162, vf 153, vf 158, vf 163, vf 154])).run Tryz.prog ((w.alloc (Obj.cells #[nf, nf, nf, nf, nf] 146)).alloc (Obj.map #[⟨.int .i64 55, .agg #[vf 152, vf 153, vf 154, vf 154, vf 155], 0⟩, ⟨.int .i64 23, .agg #[vf 156, vf 153, vf 154, vf 154, vf 155], 1⟩, ⟨.int .i64 19, .agg #[vf 157, vf 153, vf 158, vf 154, vf 159], 2⟩, ⟨.int .i64 27, .agg #[vf 160, vf 153, vf 158, vf 154, vf 161], 3⟩] 4)) = .ok () ((w.alloc (Obj.cells #[nf, nf, nf, nf, nf] 146)).alloc (Obj.map #[⟨.int .i64 55, .agg #[vf 152, vf 153, vf 154, vf 154, vf 155], 0⟩, ⟨.int .i64 23, .agg #[vf 156, vf 153, vf 154, vf 154, vf 155], 1⟩, ⟨.int .i64 19, .agg #[vf 157, vf 153, vf 158, vf 154, vf 159], 2⟩, ⟨.int .i64 27, .agg #[vf 160, vf 153, vf 158, vf 154, vf 161], 3⟩, ⟨.int .i64 51, .agg #[vf 162, vf 153, vf 158, vf 163, vf 154], 4⟩] 5)) ∧
    (Instr.mapUpdate 177 (.map (some (w.heap.size + 1))) (.int .i64 59) (.agg #[vf 164, vf 153, vf 158, vf 163, vf 154])).run Tryz.prog ((w.alloc (Obj.cells #[nf, nf, nf, nf, nf] 146)).alloc (Obj.map #[⟨.int .i64 55, .agg #[vf 152, vf 153, vf 154, vf 154, vf 155], 0⟩, ⟨.int .i64 23, .agg #[vf 156, vf 153, vf 154, vf 154, vf 155], 1⟩, ⟨.int .i64 19, .agg #[vf 157, vf 153, vf 158, vf 154, vf 159], 2⟩, ⟨.int .i64 27, .agg #[vf 160, vf 153, vf 158, vf 154, vf 161], 3⟩, ⟨.int .i64 51, .agg #[vf 162, vf 153, vf 158, vf 163, vf 154], 4⟩] 5)) = .ok () ((w.alloc (Obj.cells #[nf, nf, nf, nf, nf] 146)).alloc (Obj.map #[⟨.int .i64 55, .agg #[vf 152, vf 153, vf 154, vf 154, vf 155], 0⟩, ⟨.int .i64 23, .agg #[vf 156, vf 153, vf 154, vf 154, vf 155], 1⟩, ⟨.int .i64 19, .agg #[vf 157, vf 153, vf 158, vf 154, vf 159], 2⟩, ⟨.int .i64 27, .agg #[vf 160, vf 153, vf 158, vf 154, vf 161], 3⟩, ⟨.int .i64 51, .agg #[vf 162, vf 153, vf 158, vf 163, vf 154], 4⟩, ⟨.int .i64 59, .agg #[vf 164, vf 153, vf 158, vf 163, vf 154], 5⟩] 6)) ∧
    (Instr.mapUpdate 177 (.map (some (w.heap.size + 1))) (.int .i64 115) (.agg #[vf 165, vf 153, vf 158, vf 166, vf 167])).run Tryz.prog ((w.alloc (Obj.cells #[nf, nf, nf, nf, nf] 146)).alloc (Obj.map #[⟨.int .i64 55, .agg #[vf 152, vf 153, vf 154, vf 154, vf 155], 0⟩, ⟨.int .i64 23, .agg #[vf 156, vf 153, vf 154, vf 154, vf 155], 1⟩, ⟨.int .i64 19, .agg #[vf 157, vf 153, vf 158, vf 154, vf 159], 2⟩, ⟨.int .i64 27, .agg #[vf 160, vf 153, vf 158, vf 154, vf 161], 3⟩, ⟨.int .i64 51, .agg #[vf 162, vf 153, vf 158, vf 163, vf 154], 4⟩, ⟨.int .i64 59, .agg #[vf 164, vf 153, vf 158, vf 163, vf 154], 5⟩] 6)) = .ok () ((w.alloc (Obj.cells #[nf, nf, nf, nf, nf] 146)).alloc (Obj.map #[⟨.int .i64 55, .agg #[vf 152, vf 153, vf 154, vf 154, vf 155], 0⟩, ⟨.int .i64 23, .agg #[vf 156, vf 153, vf 154, vf 154, vf 155], 1⟩, ⟨.int .i64 19, .agg #[vf 157, vf 153, vf 158, vf 154, vf 159], 2⟩, ⟨.int .i64 27, .agg #[vf 160, vf 153, vf 158, vf 154, vf 161], 3⟩, ⟨.int .i64 51, .agg #[vf 162, vf 153, vf 158, vf 163, vf 154], 4⟩, ⟨.int .i64 59, .agg #[vf 164, vf 153, vf 158, vf 163, vf 154], 5⟩, ⟨.int .i64 115, .agg #[vf 165, vf 153, vf 158, vf 166, vf 167], 6⟩] 7)) :=
  ⟨ins_at under_map under_int (w.alloc (Obj.cells #[nf, nf, nf, nf, nf] 146)) #[] #[⟨.int .i64 55, .agg #[vf 152, vf 153, vf 154, vf 154, vf 155], 0⟩] 0 (w.heap.size + 1) 55 (.agg #[vf 152, vf 153, vf 154, vf 154, vf 155]) (by simp) rfl rfl, ins_at under_map under_int (w.alloc (Obj.cells #[nf, nf, nf, nf, nf] 146)) #[⟨.int .i64 55, .agg #[vf 152, vf 153, vf 154, vf 154, vf 155], 0⟩] #[⟨.int .i64 55, .agg #[vf 152, vf 153, vf 154, vf 154, vf 155], 0⟩, ⟨.int .i64 23, .agg #[vf 156, vf 153, vf 154, vf 154, vf 155], 1⟩] 1 (w.heap.size + 1) 23 (.agg #[vf 156, vf 153, vf 154, vf 154, vf 155]) (by simp) rfl rfl, ins_at under_map under_int (w.alloc (Obj.cells #[nf, nf, nf, nf, nf] 146)) #[⟨.int .i64 55, .agg #[vf 152, vf 153, vf 154, vf 154, vf 155], 0⟩, ⟨.int .i64 23, .agg #[vf 156, vf 153, vf 154, vf 154, vf 155], 1⟩] #[⟨.int .i64 55, .agg #[vf 152, vf 153, vf 154, vf 154, vf 155], 0⟩, ⟨.int .i64 23, .agg #[vf 156, vf 153, vf 154, vf 154, vf 155], 1⟩, ⟨.int .i64 19, .agg #[vf 157, vf 153, vf 158, vf 154, vf 159], 2⟩] 2 (w.heap.size + 1) 19 (.agg #[vf 157, vf 153, vf 158, vf 154, vf 159]) (by simp) rfl rfl, ins_at under_map under_int (w.alloc (Obj.cells #[nf, nf, nf, nf, nf] 146)) #[⟨.int .i64 55, .agg #[vf 152, vf 153, vf 154, vf 154, vf 155], 0⟩, ⟨.int .i64 23, .agg #[vf 156, vf 153, vf 154, vf 154, vf 155], 1⟩, ⟨.int .i64 19, .agg #[vf 157, vf 153, vf 158, vf 154, vf 159], 2⟩] #[⟨.int .i64 55, .agg #[vf 152, vf 153, vf 154, vf 154, vf 155], 0⟩, ⟨.int .i64 23, .agg #[vf 156, vf 153, vf 154, vf 154, vf 155], 1⟩, ⟨.int .i64 19, .agg #[vf 157, vf 153, vf 158, vf 154, vf 159], 2⟩, ⟨.int .i64 27, .agg #[vf 160, vf 153, vf 158, vf 154, vf 161], 3⟩] 3 (w.heap.size + 1) 27 (.agg #[vf 160, vf 153, vf 158, vf 154, vf 161]) (by simp) rfl rfl, ins_at under_map under_int (w.alloc (Obj.cells #[nf, nf, nf, nf, nf] 146)) #[⟨.int .i64 55, .agg #[vf 152, vf 153, vf 154, vf 154, vf 155], 0⟩, ⟨.int .i64 23, .agg #[vf 156, vf 153, vf 154, vf 154, vf 155], 1⟩, ⟨.int .i64 19, .agg #[vf 157, vf 153, vf 158, vf 154, vf 159], 2⟩, ⟨.int .i64 27, .agg #[vf 160, vf 153, vf 158, vf 154, vf 161], 3⟩] #[⟨.int .i64 55, .agg #[vf 152, vf 153, vf 154, vf 154, vf 155], 0⟩, ⟨.int .i64 23, .agg #[vf 156, vf 153, vf 154, vf 154, vf 155], 1⟩, ⟨.int .i64 19, .agg #[vf 157, vf 153, vf 158, vf 154, vf 159], 2⟩, ⟨.int .i64 27, .agg #[vf 160, vf 153, vf 158, vf 154, vf 161], 3⟩, ⟨.int .i64 51, .agg #[vf 162, vf 153, vf 158, vf 163, vf 154], 4⟩] 4 (w.heap.size + 1) 51 (.agg #[vf 162, vf 153, vf 158, vf 163, vf 154]) (by simp) rfl rfl, ins_at under_map under_int (w.alloc (Obj.cells #[nf, nf, nf, nf, nf] 146)) #[⟨.int .i64 55, .agg #[vf 152, vf 153, vf 154, vf 154, vf 155], 0⟩, ⟨.int .i64 23, .agg #[vf 156, vf 153, vf 154, vf 154, vf 155], 1⟩, ⟨.int .i64 19, .agg #[vf 157, vf 153, vf 158, vf 154, vf 159], 2⟩, ⟨.int .i64 27, .agg #[vf 160, vf 153, vf 158, vf 154, vf 161], 3⟩, ⟨.int .i64 51, .agg #[vf 162, vf 153, vf 158, vf 163, vf 154], 4⟩] #[⟨.int .i64 55, .agg #[vf 152, vf 153, vf 154, vf 154, vf 155], 0⟩, ⟨.int .i64 23, .agg #[vf 156, vf 153, vf 154, vf 154, vf 155], 1⟩, ⟨.int .i64 19, .agg #[vf 157, vf 153, vf 158, vf 154, vf 159], 2⟩, ⟨.int .i64 27, .agg #[vf 160, vf 153, vf 158, vf 154, vf 161], 3⟩, ⟨.int .i64 51, .agg #[vf 162, vf 153, vf 158, vf 163, vf 154], 4⟩, ⟨.int .i64 59, .agg #[vf 164, vf 153, vf 158, vf 163, vf 154], 5⟩] 5 (w.heap.size + 1) 59 (.agg #[vf 164, vf 153, vf 158, vf 163, vf 154]) (by simp) rfl rfl, ins_at under_map under_int (w.alloc (Obj.cells #[nf, nf, nf, nf, nf] 146)) #[⟨.int .i64 55, .agg #[vf 152, vf 153, vf 154, vf 154, vf 155], 0⟩, ⟨.int .i64 23, .agg #[vf 156, vf 153, vf 154, vf 154, vf 155], 1⟩, ⟨.int .i64 19, .agg #[vf 157, vf 153, vf 158, vf 154, vf 159], 2⟩, ⟨.int .i64 27, .agg #[vf 160, vf 153, vf 158, vf 154, vf 161], 3⟩, ⟨.int .i64 51, .agg #[vf 162, vf 153, vf 158, vf 163, vf 154], 4⟩, ⟨.int .i64 59, .agg #[vf 164, vf 153, vf 158, vf 163, vf 154], 5⟩] #[⟨.int .i64 55, .agg #[vf 152, vf 153, vf 154, vf 154, vf 155], 0⟩, ⟨.int .i64 23, .agg #[vf 156, vf 153, vf 154, vf 154, vf 155], 1⟩, ⟨.int .i64 19, .agg #[vf 157, vf 153, vf 158, vf 154, vf 159], 2⟩, ⟨.int .i64 27, .agg #[vf 160, vf 153, vf 158, vf 154, vf 161], 3⟩, ⟨.int .i64 51, .agg #[vf 162, vf 153, vf 158, vf 163, vf 154], 4⟩, ⟨.int .i64 59, .agg #[vf 164, vf 153, vf 158, vf 163, vf 154], 5⟩, ⟨.int .i64 115, .agg #[vf 165, vf 153, vf 158, vf 166, vf 167], 6⟩] 6 (w.heap.size + 1) 115 (.agg #[vf 165, vf 153, vf 158, vf 166, vf 167]) (by simp) rfl rfl⟩
theorem ca_55 (w : World) :
    Calls Tryz.prog 108 #[.int .i64 55] w fun e w' => e = .returned (.tuple #[.agg #[vf 152, vf 153, vf 154, vf 154, vf 155], .bool true]) ∧ Below w.heap.size w w' := by
  have hmm := @run_makeMap Tryz.prog
  have hsf := st_func Tryz.prog
  have hsn := st_nilFunc Tryz.prog
  obtain ⟨u0, u1, u2, u3, u4, u5, u6⟩ := ca_make w
  have l : (Instr.lookup 177 (.map (some (w.heap.size + 1))) (.int .i64 55) true).run Tryz.prog ((w.alloc (Obj.cells #[nf, nf, nf, nf, nf] 146)).alloc (Obj.map #[⟨.int .i64 55, .agg #[vf 152, vf 153, vf 154, vf 154, vf 155], 0⟩, ⟨.int .i64 23, .agg #[vf 156, vf 153, vf 154, vf 154, vf 155], 1⟩, ⟨.int .i64 19, .agg #[vf 157, vf 153, vf 158, vf 154, vf 159], 2⟩, ⟨.int .i64 27, .agg #[vf 160, vf 153, vf 158, vf 154, vf 161], 3⟩, ⟨.int .i64 51, .agg #[vf 162, vf 153, vf 158, vf 163, vf 154], 4⟩, ⟨.int .i64 59, .agg #[vf 164, vf 153, vf 158, vf 163, vf 154], 5⟩, ⟨.int .i64 115, .agg #[vf 165, vf 153, vf 158, vf 166, vf 167], 6⟩] 7)) = .ok (.tuple #[.agg #[vf 152, vf 153, vf 154, vf 154, vf 155], .bool true]) ((w.alloc (Obj.cells #[nf, nf, nf, nf, nf] 146)).alloc (Obj.map #[⟨.int .i64 55, .agg #[vf 152, vf 153, vf 154, vf 154, vf 155], 0⟩, ⟨.int .i64 23, .agg #[vf 156, vf 153, vf 154, vf 154, vf 155], 1⟩, ⟨.int .i64 19, .agg #[vf 157, vf 153, vf 158, vf 154, vf 159], 2⟩, ⟨.int .i64 27, .agg #[vf 160, vf 153, vf 158, vf 154, vf 161], 3⟩, ⟨.int .i64 51, .agg #[vf 162, vf 153, vf 158, vf 163, vf 154], 4⟩, ⟨.int .i64 59, .agg #[vf 164, vf 153, vf 158, vf 163, vf 154], 5⟩, ⟨.int .i64 115, .agg #[vf 165, vf 153, vf 158, vf 166, vf 167], 6⟩] 7)) := look_at under_map under_int (w.alloc (Obj.cells #[nf, nf, nf, nf, nf] 146)) #[⟨.int .i64 55, .agg #[vf 152, vf 153, vf 154, vf 154, vf 155], 0⟩, ⟨.int .i64 23, .agg #[vf 156, vf 153, vf 154, vf 154, vf 155], 1⟩, ⟨.int .i64 19, .agg #[vf 157, vf 153, vf 158, vf 154, vf 159], 2⟩, ⟨.int .i64 27, .agg #[vf 160, vf 153, vf 158, vf 154, vf 161], 3⟩, ⟨.int .i64 51, .agg #[vf 162, vf 153, vf 158, vf 163, vf 154], 4⟩, ⟨.int .i64 59, .agg #[vf 164, vf 153, vf 158, vf 163, vf 154], 5⟩, ⟨.int .i64 115, .agg #[vf 165, vf 153, vf 158, vf 166, vf 167], 6⟩] 7 (w.heap.size + 1) 55 0 (.agg #[vf 152, vf 153, vf 154, vf 154, vf 155]) (by simp) rfl
  go_enter Tryz.func108, Tryz.ntmps108
  go_wp2
  exact bodyPost_ret (v := .tuple #[.agg #[vf 152, vf 153, vf 154, vf 154, vf 155], .bool true]) (by simp [results, Tryz.results108, go_sem]) rfl ⟨rfl, ((below1 _).alloc (by simp) _).alloc (by simp <;> omega) _⟩
theorem ca_23 (w : World) :
    Calls Tryz.prog 108 #[.int .i64 23] w fun e w' => e = .returned (.tuple #[.agg #[vf 156, vf 153, vf 154, vf 154, vf 155], .bool true]) ∧ Below w.heap.size w w' := by
  have hmm := @run_makeMap Tryz.prog
  have hsf := st_func Tryz.prog
  have hsn := st_nilFunc Tryz.prog
  obtain ⟨u0, u1, u2, u3, u4, u5, u6⟩ := ca_make w
  have l : (Instr.lookup 177 (.map (some (w.heap.size + 1))) (.int .i64 23) true).run Tryz.prog ((w.alloc (Obj.cells #[nf, nf, nf, nf, nf] 146)).alloc (Obj.map #[⟨.int .i64 55, .agg #[vf 152, vf 153, vf 154, vf 154, vf 155], 0⟩, ⟨.int .i64 23, .agg #[vf 156, vf 153, vf 154, vf 154, vf 155], 1⟩, ⟨.int .i64 19, .agg #[vf 157, vf 153, vf 158, vf 154, vf 159], 2⟩, ⟨.int .i64 27, .agg #[vf 160, vf 153, vf 158, vf 154, vf 161], 3⟩, ⟨.int .i64 51, .agg #[vf 162, vf 153, vf 158, vf 163, vf 154], 4⟩, ⟨.int .i64 59, .agg #[vf 164, vf 153, vf 158, vf 163, vf 154], 5⟩, ⟨.int .i64 115, .agg #[vf 165, vf 153, vf 158, vf 166, vf 167], 6⟩] 7)) = .ok (.tuple #[.agg #[vf 156, vf 153, vf 154, vf 154, vf 155], .bool true]) ((w.alloc (Obj.cells #[nf, nf, nf, nf, nf] 146)).alloc (Obj.map #[⟨.int .i64 55, .agg #[vf 152, vf 153, vf 154, vf 154, vf 155], 0⟩, ⟨.int .i64 23, .agg #[vf 156, vf 153, vf 154, vf 154, vf 155], 1⟩, ⟨.int .i64 19, .agg #[vf 157, vf 153, vf 158, vf 154, vf 159], 2⟩, ⟨.int .i64 27, .agg #[vf 160, vf 153, vf 158, vf 154, vf 161], 3⟩, ⟨.int .i64 51, .agg #[vf 162, vf 153, vf 158, vf 163, vf 154], 4⟩, ⟨.int .i64 59, .agg #[vf 164, vf 153, vf 158, vf 163, vf 154], 5⟩, ⟨.int .i64 115, .agg #[vf 165, vf 153, vf 158, vf 166, vf 167], 6⟩] 7)) := look_at under_map under_int (w.alloc (Obj.cells #[nf, nf, nf, nf, nf] 146)) #[⟨.int .i64 55, .agg #[vf 152, vf 153, vf 154, vf 154, vf 155], 0⟩, ⟨.int .i64 23, .agg #[vf 156, vf 153, vf 154, vf 154, vf 155], 1⟩, ⟨.int .i64 19, .agg #[vf 157, vf 153, vf 158, vf 154, vf 159], 2⟩, ⟨.int .i64 27, .agg #[vf 160, vf 153, vf 158, vf 154, vf 161], 3⟩, ⟨.int .i64 51, .agg #[vf 162, vf 153, vf 158, vf 163, vf 154], 4⟩, ⟨.int .i64 59, .agg #[vf 164, vf 153, vf 158, vf 163, vf 154], 5⟩, ⟨.int .i64 115, .agg #[vf 165, vf 153, vf 158, vf 166, vf 167], 6⟩] 7 (w.heap.size + 1) 23 1 (.agg #[vf 156, vf 153, vf 154, vf 154, vf 155]) (by simp) rfl
  go_enter Tryz.func108, Tryz.ntmps108
  go_wp2
  exact bodyPost_ret (v := .tuple #[.agg #[vf 156, vf 153, vf 154, vf 154, vf 155], .bool true]) (by simp [results, Tryz.results108, go_sem]) rfl ⟨rfl, ((below1 _).alloc (by simp) _).alloc (by simp <;> omega) _⟩
theorem ca_19 (w : World) :
    Calls Tryz.prog 108 #[.int .i64 19] w fun e w' => e = .returned (.tuple #[.agg #[vf 157, vf 153, vf 158, vf 154, vf 159], .bool true]) ∧ Below w.heap.size w w' := by
  have hmm := @run_makeMap Tryz.prog
  have hsf := st_func Tryz.prog
  have hsn := st_nilFunc Tryz.prog
  obtain ⟨u0, u1, u2, u3, u4, u5, u6⟩ := ca_make w
  have l : (Instr.lookup 177 (.map (some (w.heap.size + 1))) (.int .i64 19) true).run Tryz.prog ((w.alloc (Obj.cells #[nf, nf, nf, nf, nf] 146)).alloc (Obj.map #[⟨.int .i64 55, .agg #[vf 152, vf 153, vf 154, vf 154, vf 155], 0⟩, ⟨.int .i64 23, .agg #[vf 156, vf 153, vf 154, vf 154, vf 155], 1⟩, ⟨.int .i64 19, .agg #[vf 157, vf 153, vf 158, vf 154, vf 159], 2⟩, ⟨.int .i64 27, .agg #[vf 160, vf 153, vf 158, vf 154, vf 161], 3⟩, ⟨.int .i64 51, .agg #[vf 162, vf 153, vf 158, vf 163, vf 154], 4⟩, ⟨.int .i64 59, .agg #[vf 164, vf 153, vf 158, vf 163, vf 154], 5⟩, ⟨.int .i64 115, .agg #[vf 165, vf 153, vf 158, vf 166, vf 167], 6⟩] 7)) = .ok (.tuple #[.agg #[vf 157, vf 153, vf 158, vf 154, vf 159], .bool true]) ((w.alloc (Obj.cells #[nf, nf, nf, nf, nf] 146)).alloc (Obj.map #[⟨.int .i64 55, .agg #[vf 152, vf 153, vf 154, vf 154, vf 155], 0⟩, ⟨.int .i64 23, .agg #[vf 156, vf 153, vf 154, vf 154, vf 155], 1⟩, ⟨.int .i64 19, .agg #[vf 157, vf 153, vf 158, vf 154, vf 159], 2⟩, ⟨.int .i64 27, .agg #[vf 160, vf 153, vf 158, vf 154, vf 161], 3⟩, ⟨.int .i64 51, .agg #[vf 162, vf 153, vf 158, vf 163, vf 154], 4⟩, ⟨.int .i64 59, .agg #[vf 164, vf 153, vf 158, vf 163, vf 154], 5⟩, ⟨.int .i64 115, .agg #[vf 165, vf 153, vf 158, vf 166, vf 167], 6⟩] 7)) := look_at under_map under_int (w.alloc (Obj.cells #[nf, nf, nf, nf, nf] 146)) #[⟨.int .i64 55, .agg #[vf 152, vf 153, vf 154, vf 154, vf 155], 0⟩, ⟨.int .i64 23, .agg #[vf 156, vf 153, vf 154, vf 154, vf 155], 1⟩, ⟨.int .i64 19, .agg #[vf 157, vf 153, vf 158, vf 154, vf 159], 2⟩, ⟨.int .i64 27, .agg #[vf 160, vf 153, vf 158, vf 154, vf 161], 3⟩, ⟨.int .i64 51, .agg #[vf 162, vf 153, vf 158, vf 163, vf 154], 4⟩, ⟨.int .i64 59, .agg #[vf 164, vf 153, vf 158, vf 163, vf 154], 5⟩, ⟨.int .i64 115, .agg #[vf 165, vf 153, vf 158, vf 166, vf 167], 6⟩] 7 (w.heap.size + 1) 19 2 (.agg #[vf 157, vf 153, vf 158, vf 154, vf 159]) (by simp) rfl
  go_enter Tryz.func108, Tryz.ntmps108
  go_wp2
  exact bodyPost_ret (v := .tuple #[.agg #[vf 157, vf 153, vf 158, vf 154, vf 159], .bool true]) (by simp [results, Tryz.results108, go_sem]) rfl ⟨rfl, ((below1 _).alloc (by simp) _).alloc (by simp <;> omega) _⟩
theorem ca_27 (w : World) :
    Calls Tryz.prog 108 #[.int .i64 27] w fun e w' => e = .returned (.tuple #[.agg #[vf 160, vf 153, vf 158, vf 154, vf 161], .bool true]) ∧ Below w.heap.size w w' := by
  have hmm := @run_makeMap Tryz.prog
  have hsf := st_func Tryz.prog
  have hsn := st_nilFunc Tryz.prog
  obtain ⟨u0, u1, u2, u3, u4, u5, u6⟩ := ca_make w
  have l : (Instr.lookup 177 (.map (some (w.heap.size + 1))) (.int .i64 27) true).run Tryz.prog ((w.alloc (Obj.cells #[nf, nf, nf, nf, nf] 146)).alloc (Obj.map #[⟨.int .i64 55, .agg #[vf 152, vf 153, vf 154, vf 154, vf 155], 0⟩, ⟨.int .i64 23, .agg #[vf 156, vf 153, vf 154, vf 154, vf 155], 1⟩, ⟨.int .i64 19, .agg #[vf 157, vf 153, vf 158, vf 154, vf 159], 2⟩, ⟨.int .i64 27, .agg #[vf 160, vf 153, vf 158, vf 154, vf 161], 3⟩, ⟨.int .i64 51, .agg #[vf 162, vf 153, vf 158, vf 163, vf 154], 4⟩, ⟨.int .i64 59, .agg #[vf 164, vf 153, vf 158, vf 163, vf 154], 5⟩, ⟨.int .i64 115, .agg #[vf 165, vf 153, vf 158, vf 166, vf 167], 6⟩] 7)) = .ok (.tuple #[.agg #[vf 160, vf 153, vf 158, vf 154, vf 161], .bool true]) ((w.alloc (Obj.cells #[nf, nf, nf, nf, nf] 146)).alloc (Obj.map #[⟨.int .i64 55, .agg #[vf 152, vf 153, vf 154, vf 154, vf 155], 0⟩, ⟨.int .i64 23, .agg #[vf 156, vf 153, vf 154, vf 154, vf 155], 1⟩, ⟨.int .i64 19, .agg #[vf 157, vf 153, vf 158, vf 154, vf 159], 2⟩, ⟨.int .i64 27, .agg #[vf 160, vf 153, vf 158, vf 154, vf 161], 3⟩, ⟨.int .i64 51, .agg #[vf 162, vf 153, vf 158, vf 163, vf 154], 4⟩, ⟨.int .i64 59, .agg #[vf 164, vf 153, vf 158, vf 163, vf 154], 5⟩, ⟨.int .i64 115, .agg #[vf 165, vf 153, vf 158, vf 166, vf 167], 6⟩] 7)) := look_at under_map under_int (w.alloc (Obj.cells #[nf, nf, nf, nf, nf] 146)) #[⟨.int .i64 55, .agg #[vf 152, vf 153, vf 154, vf 154, vf 155], 0⟩, ⟨.int .i64 23, .agg #[vf 156, vf 153, vf 154, vf 154, vf 155], 1⟩, ⟨.int .i64 19, .agg #[vf 157, vf 153, vf 158, vf 154, vf 159], 2⟩, ⟨.int .i64 27, .agg #[vf 160, vf 153, vf 158, vf 154, vf 161], 3⟩, ⟨.int .i64 51, .agg #[vf 162, vf 153, vf 158, vf 163, vf 154], 4⟩, ⟨.int .i64 59, .agg #[vf 164, vf 153, vf 158, vf 163, vf 154], 5⟩, ⟨.int .i64 115, .agg #[vf 165, vf 153, vf 158, vf 166, vf 167], 6⟩] 7 (w.heap.size + 1) 27 3 (.agg #[vf 160, vf 153, vf 158, vf 154, vf 161]) (by simp) rfl
  go_enter Tryz.func108, Tryz.ntmps108
  go_wp2
  exact bodyPost_ret (v := .tuple #[.agg #[vf 160, vf 153, vf 158, vf 154, vf 161], .bool true]) (by simp [results, Tryz.results108, go_sem]) rfl ⟨rfl, ((below1 _).alloc (by simp) _).alloc (by simp <;> omega) _⟩
theorem ca_51 (w : World) :
    Calls Tryz.prog 108 #[.int .i64 51] w fun e w' => e = .returned (.tuple #[.agg #[vf 162, vf 153, vf 158, vf 163, vf 154], .bool true]) ∧ Below w.heap.size w w' := by
  have hmm := @run_makeMap Tryz.prog
  have hsf := st_func Tryz.prog
  have hsn := st_nilFunc Tryz.prog
  obtain ⟨u0, u1, u2, u3, u4, u5, u6⟩ := ca_make w
  have l : (Instr.lookup 177 (.map (some (w.heap.size + 1))) (.int .i64 51) true).run Tryz.prog ((w.alloc (Obj.cells #[nf, nf, nf, nf, nf] 146)).alloc (Obj.map #[⟨.int .i64 55, .agg #[vf 152, vf 153, vf 154, vf 154, vf 155], 0⟩, ⟨.int .i64 23, .agg #[vf 156, vf 153, vf 154, vf 154, vf 155], 1⟩, ⟨.int .i64 19, .agg #[vf 157, vf 153, vf 158, vf 154, vf 159], 2⟩, ⟨.int .i64 27, .agg #[vf 160, vf 153, vf 158, vf 154, vf 161], 3⟩, ⟨.int .i64 51, .agg #[vf 162, vf 153, vf 158, vf 163, vf 154], 4⟩, ⟨.int .i64 59, .agg #[vf 164, vf 153, vf 158, vf 163, vf 154], 5⟩, ⟨.int .i64 115, .agg #[vf 165, vf 153, vf 158, vf 166, vf 167], 6⟩] 7)) = .ok (.tuple #[.agg #[vf 162, vf 153, vf 158, vf 163, vf 154], .bool true]) ((w.alloc (Obj.cells #[nf, nf, nf, nf, nf] 146)).alloc (Obj.map #[⟨.int .i64 55, .agg #[vf 152, vf 153, vf 154, vf 154, vf 155], 0⟩, ⟨.int .i64 23, .agg #[vf 156, vf 153, vf 154, vf 154, vf 155], 1⟩, ⟨.int .i64 19, .agg #[vf 157, vf 153, vf 158, vf 154, vf 159], 2⟩, ⟨.int .i64 27, .agg #[vf 160, vf 153, vf 158, vf 154, vf 161], 3⟩, ⟨.int .i64 51, .agg #[vf 162, vf 153, vf 158, vf 163, vf 154], 4⟩, ⟨.int .i64 59, .agg #[vf 164, vf 153, vf 158, vf 163, vf 154], 5⟩, ⟨.int .i64 115, .agg #[vf 165, vf 153, vf 158, vf 166, vf 167], 6⟩] 7)) := look_at under_map under_int (w.alloc (Obj.cells #[nf, nf, nf, nf, nf] 146)) #[⟨.int .i64 55, .agg #[vf 152, vf 153, vf 154, vf 154, vf 155], 0⟩, ⟨.int .i64 23, .agg #[vf 156, vf 153, vf 154, vf 154, vf 155], 1⟩, ⟨.int .i64 19, .agg #[vf 157, vf 153, vf 158, vf 154, vf 159], 2⟩, ⟨.int .i64 27, .agg #[vf 160, vf 153, vf 158, vf 154, vf 161], 3⟩, ⟨.int .i64 51, .agg #[vf 162, vf 153, vf 158, vf 163, vf 154], 4⟩, ⟨.int .i64 59, .agg #[vf 164, vf 153, vf 158, vf 163, vf 154], 5⟩, ⟨.int .i64 115, .agg #[vf 165, vf 153, vf 158, vf 166, vf 167], 6⟩] 7 (w.heap.size + 1) 51 4 (.agg #[vf 162, vf 153, vf 158, vf 163, vf 154]) (by simp) rfl
  go_enter Tryz.func108, Tryz.ntmps108
  go_wp2
  exact bodyPost_ret (v := .tuple #[.agg #[vf 162, vf 153, vf 158, vf 163, vf 154], .bool true]) (by simp [results, Tryz.results108, go_sem]) rfl ⟨rfl, ((below1 _).alloc (by simp) _).alloc (by simp <;> omega) _⟩
theorem ca_59 (w : World) :
    Calls Tryz.prog 108 #[.int .i64 59] w fun e w' => e = .returned (.tuple #[.agg #[vf 164, vf 153, vf 158, vf 163, vf 154], .bool true]) ∧ Below w.heap.size w w' := by
  have hmm := @run_makeMap Tryz.prog
  have hsf := st_func Tryz.prog
  have hsn := st_nilFunc Tryz.prog
  obtain ⟨u0, u1, u2, u3, u4, u5, u6⟩ := ca_make w
  have l : (Instr.lookup 177 (.map (some (w.heap.size + 1))) (.int .i64 59) true).run Tryz.prog ((w.alloc (Obj.cells #[nf, nf, nf, nf, nf] 146)).alloc (Obj.map #[⟨.int .i64 55, .agg #[vf 152, vf 153, vf 154, vf 154, vf 155], 0⟩, ⟨.int .i64 23, .agg #[vf 156, vf 153, vf 154, vf 154, vf 155], 1⟩, ⟨.int .i64 19, .agg #[vf 157, vf 153, vf 158, vf 154, vf 159], 2⟩, ⟨.int .i64 27, .agg #[vf 160, vf 153, vf 158, vf 154, vf 161], 3⟩, ⟨.int .i64 51, .agg #[vf 162, vf 153, vf 158, vf 163, vf 154], 4⟩, ⟨.int .i64 59, .agg #[vf 164, vf 153, vf 158, vf 163, vf 154], 5⟩, ⟨.int .i64 115, .agg #[vf 165, vf 153, vf 158, vf 166, vf 167], 6⟩] 7)) = .ok (.tuple #[.agg #[vf 164, vf 153, vf 158, vf 163, vf 154], .bool true]) ((w.alloc (Obj.cells #[nf, nf, nf, nf, nf] 146)).alloc (Obj.map #[⟨.int .i64 55, .agg #[vf 152, vf 153, vf 154, vf 154, vf 155], 0⟩, ⟨.int .i64 23, .agg #[vf 156, vf 153, vf 154, vf 154, vf 155], 1⟩, ⟨.int .i64 19, .agg #[vf 157, vf 153, vf 158, vf 154, vf 159], 2⟩, ⟨.int .i64 27, .agg #[vf 160, vf 153, vf 158, vf 154, vf 161], 3⟩, ⟨.int .i64 51, .agg #[vf 162, vf 153, vf 158, vf 163, vf 154], 4⟩, ⟨.int .i64 59, .agg #[vf 164, vf 153, vf 158, vf 163, vf 154], 5⟩, ⟨.int .i64 115, .agg #[vf 165, vf 153, vf 158, vf 166, vf 167], 6⟩] 7)) := look_at under_map under_int (w.alloc (Obj.cells #[nf, nf, nf, nf, nf] 146)) #[⟨.int .i64 55, .agg #[vf 152, vf 153, vf 154, vf 154, vf 155], 0⟩, ⟨.int .i64 23, .agg #[vf 156, vf 153, vf 154, vf 154, vf 155], 1⟩, ⟨.int .i64 19, .agg #[vf 157, vf 153, vf 158, vf 154, vf 159], 2⟩, ⟨.int .i64 27, .agg #[vf 160, vf 153, vf 158, vf 154, vf 161], 3⟩, ⟨.int .i64 51, .agg #[vf 162, vf 153, vf 158, vf 163, vf 154], 4⟩, ⟨.int .i64 59, .agg #[vf 164, vf 153, vf 158, vf 163, vf 154], 5⟩, ⟨.int .i64 115, .agg #[vf 165, vf 153, vf 158, vf 166, vf 167], 6⟩] 7 (w.heap.size + 1) 59 5 (.agg #[vf 164, vf 153, vf 158, vf 163, vf 154]) (by simp) rfl
  go_enter Tryz.func108, Tryz.ntmps108
  go_wp2
  exact bodyPost_ret (v := .tuple #[.agg #[vf 164, vf 153, vf 158, vf 163, vf 154], .bool true]) (by simp [results, Tryz.results108, go_sem]) rfl ⟨rfl, ((below1 _).alloc (by simp) _).alloc (by simp <;> omega) _⟩
theorem ca_115 (w : World) :
    Calls Tryz.prog 108 #[.int .i64 115] w fun e w' => e = .returned (.tuple #[.agg #[vf 165, vf 153, vf 158, vf 166, vf 167], .bool true]) ∧ Below w.heap.size w w' := by
  have hmm := @run_makeMap Tryz.prog
  have hsf := st_func Tryz.prog
  have hsn := st_nilFunc Tryz.prog
  obtain ⟨u0, u1, u2, u3, u4, u5, u6⟩ := ca_make w
  have l : (Instr.lookup 177 (.map (some (w.heap.size + 1))) (.int .i64 115) true).run Tryz.prog ((w.alloc (Obj.cells #[nf, nf, nf, nf, nf] 146)).alloc (Obj.map #[⟨.int .i64 55, .agg #[vf 152, vf 153, vf 154, vf 154, vf 155], 0⟩, ⟨.int .i64 23, .agg #[vf 156, vf 153, vf 154, vf 154, vf 155], 1⟩, ⟨.int .i64 19, .agg #[vf 157, vf 153, vf 158, vf 154, vf 159], 2⟩, ⟨.int .i64 27, .agg #[vf 160, vf 153, vf 158, vf 154, vf 161], 3⟩, ⟨.int .i64 51, .agg #[vf 162, vf 153, vf 158, vf 163, vf 154], 4⟩, ⟨.int .i64 59, .agg #[vf 164, vf 153, vf 158, vf 163, vf 154], 5⟩, ⟨.int .i64 115, .agg #[vf 165, vf 153, vf 158, vf 166, vf 167], 6⟩] 7)) = .ok (.tuple #[.agg #[vf 165, vf 153, vf 158, vf 166, vf 167], .bool true]) ((w.alloc (Obj.cells #[nf, nf, nf, nf, nf] 146)).alloc (Obj.map #[⟨.int .i64 55, .agg #[vf 152, vf 153, vf 154, vf 154, vf 155], 0⟩, ⟨.int .i64 23, .agg #[vf 156, vf 153, vf 154, vf 154, vf 155], 1⟩, ⟨.int .i64 19, .agg #[vf 157, vf 153, vf 158, vf 154, vf 159], 2⟩, ⟨.int .i64 27, .agg #[vf 160, vf 153, vf 158, vf 154, vf 161], 3⟩, ⟨.int .i64 51, .agg #[vf 162, vf 153, vf 158, vf 163, vf 154], 4⟩, ⟨.int .i64 59, .agg #[vf 164, vf 153, vf 158, vf 163, vf 154], 5⟩, ⟨.int .i64 115, .agg #[vf 165, vf 153, vf 158, vf 166, vf 167], 6⟩] 7)) := look_at under_map under_int (w.alloc (Obj.cells #[nf, nf, nf, nf, nf] 146)) #[⟨.int .i64 55, .agg #[vf 152, vf 153, vf 154, vf 154, vf 155], 0⟩, ⟨.int .i64 23, .agg #[vf 156, vf 153, vf 154, vf 154, vf 155], 1⟩, ⟨.int .i64 19, .agg #[vf 157, vf 153, vf 158, vf 154, vf 159], 2⟩, ⟨.int .i64 27, .agg #[vf 160, vf 153, vf 158, vf 154, vf 161], 3⟩, ⟨.int .i64 51, .agg #[vf 162, vf 153, vf 158, vf 163, vf 154], 4⟩, ⟨.int .i64 59, .agg #[vf 164, vf 153, vf 158, vf 163, vf 154], 5⟩, ⟨.int .i64 115, .agg #[vf 165, vf 153, vf 158, vf 166, vf 167], 6⟩] 7 (w.heap.size + 1) 115 6 (.agg #[vf 165, vf 153, vf 158, vf 166, vf 167]) (by simp) rfl
  go_enter Tryz.func108, Tryz.ntmps108
  go_wp2
  exact bodyPost_ret (v := .tuple #[.agg #[vf 165, vf 153, vf 158, vf 166, vf 167], .bool true]) (by simp [results, Tryz.results108, go_sem]) rfl ⟨rfl, ((below1 _).alloc (by simp) _).alloc (by simp <;> omega) _⟩
theorem ca_none (a : Int) (h55 : a ≠ 55) (h23 : a ≠ 23) (h19 : a ≠ 19) (h27 : a ≠ 27) (h51 : a ≠ 51) (h59 : a ≠ 59) (h115 : a ≠ 115) (w : World) :
    Calls Tryz.prog 108 #[.int .i64 a] w fun e w' => e = .returned (.tuple #[.agg #[.nilFunc, .nilFunc, .nilFunc, .nilFunc, .nilFunc], .bool false]) ∧ Below w.heap.size w w' := by
  have hmm := @run_makeMap Tryz.prog
  have hsf := st_func Tryz.prog
  have hsn := st_nilFunc Tryz.prog
  obtain ⟨u0, u1, u2, u3, u4, u5, u6⟩ := ca_make w
  have l : (Instr.lookup 177 (.map (some (w.heap.size + 1))) (.int .i64 a) true).run Tryz.prog ((w.alloc (Obj.cells #[nf, nf, nf, nf, nf] 146)).alloc (Obj.map #[⟨.int .i64 55, .agg #[vf 152, vf 153, vf 154, vf 154, vf 155], 0⟩, ⟨.int .i64 23, .agg #[vf 156, vf 153, vf 154, vf 154, vf 155], 1⟩, ⟨.int .i64 19, .agg #[vf 157, vf 153, vf 158, vf 154, vf 159], 2⟩, ⟨.int .i64 27, .agg #[vf 160, vf 153, vf 158, vf 154, vf 161], 3⟩, ⟨.int .i64 51, .agg #[vf 162, vf 153, vf 158, vf 163, vf 154], 4⟩, ⟨.int .i64 59, .agg #[vf 164, vf 153, vf 158, vf 163, vf 154], 5⟩, ⟨.int .i64 115, .agg #[vf 165, vf 153, vf 158, vf 166, vf 167], 6⟩] 7)) = .ok (.tuple #[.agg #[.nilFunc, .nilFunc, .nilFunc, .nilFunc, .nilFunc], .bool false]) ((w.alloc (Obj.cells #[nf, nf, nf, nf, nf] 146)).alloc (Obj.map #[⟨.int .i64 55, .agg #[vf 152, vf 153, vf 154, vf 154, vf 155], 0⟩, ⟨.int .i64 23, .agg #[vf 156, vf 153, vf 154, vf 154, vf 155], 1⟩, ⟨.int .i64 19, .agg #[vf 157, vf 153, vf 158, vf 154, vf 159], 2⟩, ⟨.int .i64 27, .agg #[vf 160, vf 153, vf 158, vf 154, vf 161], 3⟩, ⟨.int .i64 51, .agg #[vf 162, vf 153, vf 158, vf 163, vf 154], 4⟩, ⟨.int .i64 59, .agg #[vf 164, vf 153, vf 158, vf 163, vf 154], 5⟩, ⟨.int .i64 115, .agg #[vf 165, vf 153, vf 158, vf 166, vf 167], 6⟩] 7)) := none_at under_map under_int (w.alloc (Obj.cells #[nf, nf, nf, nf, nf] 146)) #[⟨.int .i64 55, .agg #[vf 152, vf 153, vf 154, vf 154, vf 155], 0⟩, ⟨.int .i64 23, .agg #[vf 156, vf 153, vf 154, vf 154, vf 155], 1⟩, ⟨.int .i64 19, .agg #[vf 157, vf 153, vf 158, vf 154, vf 159], 2⟩, ⟨.int .i64 27, .agg #[vf 160, vf 153, vf 158, vf 154, vf 161], 3⟩, ⟨.int .i64 51, .agg #[vf 162, vf 153, vf 158, vf 163, vf 154], 4⟩, ⟨.int .i64 59, .agg #[vf 164, vf 153, vf 158, vf 163, vf 154], 5⟩, ⟨.int .i64 115, .agg #[vf 165, vf 153, vf 158, vf 166, vf 167], 6⟩] 7 (w.heap.size + 1) a _ zero_row (by simp) (by
    have q55 : (a == 55) = false := by simpa using h55
    have q23 : (a == 23) = false := by simpa using h23
    have q19 : (a == 19) = false := by simpa using h19
    have q27 : (a == 27) = false := by simpa using h27
    have q51 : (a == 51) = false := by simpa using h51
    have q59 : (a == 59) = false := by simpa using h59
    have q115 : (a == 115) = false := by simpa using h115
    simp [Instr.findNow, Instr.sameNow, q55, q23, q19, q27, q51, q59, q115])
  clear h55 h23 h19 h27 h51 h59 h115
  go_enter Tryz.func108, Tryz.ntmps108
  go_wp2
  exact bodyPost_ret (v := .tuple #[.agg #[.nilFunc, .nilFunc, .nilFunc, .nilFunc, .nilFunc], .bool false]) (by simp [results, Tryz.results108, go_sem]) rfl ⟨rfl, ((below1 _).alloc (by simp) _).alloc (by simp <;> omega) _⟩
theorem mo_make (w : World) :
    (Instr.mapUpdate 177 (.map (some (w.heap.size + 1))) (.int .i64 111) (.agg #[vf 168, vf 153, vf 154, vf 154, vf 169])).run Tryz.prog ((w.alloc (Obj.cells #[nf, nf, nf, nf, nf] 146)).alloc (Obj.map #[] 0)) = .ok () ((w.alloc (Obj.cells #[nf, nf, nf, nf, nf] 146)).alloc (Obj.map #[⟨.int .i64 111, .agg #[vf 168, vf 153, vf 154, vf 154, vf 169], 0⟩] 1)) ∧
    (Instr.mapUpdate 177 (.map (some (w.heap.size + 1))) (.int .i64 103) (.agg #[vf 170, vf 153, vf 158, vf 154, vf 171])).run Tryz.prog ((w.alloc (Obj.cells #[nf, nf, nf, nf, nf] 146)).alloc (Obj.map #[⟨.int .i64 111, .agg #[vf 168, vf 153, vf 154, vf 154, vf 169], 0⟩] 1)) = .ok () ((w.alloc (Obj.cells #[nf, nf, nf, nf, nf] 146)).alloc (Obj.map #[⟨.int .i64 111, .agg #[vf 168, vf 153, vf 154, vf 154, vf 169], 0⟩, ⟨.int .i64 103, .agg #[vf 170, vf 153, vf 158, vf 154, vf 171], 1⟩] 2)) ∧
    (Instr.mapUpdate 177 (.map (some (w.heap.size + 1))) (.int .i64 99) (.agg #[vf 143, vf 154, vf 158, vf 163, vf 172])).run Tryz.prog ((w.alloc (Obj.cells #[nf, nf, nf, nf, nf] 146)).alloc (Obj.map #[⟨.int .i64 111, .agg #[vf 168, vf 153, vf 154, vf 154, vf 169], 0⟩, ⟨.int .i64 103, .agg #[vf 170, vf 153, vf 158, vf 154, vf 171], 1⟩] 2)) = .ok () ((w.alloc (Obj.cells #[nf, nf, nf, nf, nf] 146)).alloc (Obj.map #[⟨.int .i64 111, .agg #[vf 168, vf 153, vf 154, vf 154, vf 169], 0⟩, ⟨.int .i64 103, .agg #[vf 170, vf 153, vf 158, vf 154, vf 171], 1⟩, ⟨.int .i64 99, .agg #[vf 143, vf 154, vf 158, vf 163, vf 172], 2⟩] 3)) ∧
    (Instr.mapUpdate 177 (.map (some (w.heap.size + 1))) (.int .i64 3) (.agg #[vf 144, vf 153, vf 158, vf 154, vf 171])).run Tryz.prog ((w.alloc (Obj.cells #[nf, nf, nf, nf, nf] 146)).alloc (Obj.map #[⟨.int .i64 111, .agg #[vf 168, vf 153, vf 154, vf 154, vf 169], 0⟩, ⟨.int .i64 103, .agg #[vf 170, vf 153, vf 158, vf 154, vf 171], 1⟩, ⟨.int .i64 99, .agg #[vf 143, vf 154, vf 158, vf 163, vf 172], 2⟩] 3)) = .ok () ((w.alloc (Obj.cells #[nf, nf, nf, nf, nf] 146)).alloc (Obj.map #[⟨.int .i64 111, .agg #[vf 168, vf 153, vf 154, vf 154, vf 169], 0⟩, ⟨.int .i64 103, .agg #[vf 170, vf 153, vf 158, vf 154, vf 171], 1⟩, ⟨.int .i64 99, .agg #[vf 143, vf 154, vf 158, vf 163, vf 172], 2⟩, ⟨.int .i64 3, .agg #[vf 144, vf 153, vf 158, vf 154, vf 171], 3⟩] 4)) ∧
    (Instr.mapUpdate 177 (.map (some (w.heap.size + 1))) (.int .i64 35) (.agg #[vf 145, vf 154, vf 158, vf 163, vf 173])).run Tryz.prog ((w.alloc (Obj.cells #[nf, nf, nf, nf, nf] 146)).alloc (Obj.map #[⟨.int .i64 111, .agg #[vf 168, vf 153, vf 154, vf 154, vf 169], 0⟩, ⟨.int .i64 103, .agg #[vf 170, vf 153, vf 158, vf 154, vf 171], 1⟩, ⟨.int .i64 99, .agg #[vf 143, vf 154, vf 158, vf 163, vf 172], 2⟩, ⟨.int .i64 3, .agg #[vf 144, vf 153, vf 158, vf 154, vf 171], 3⟩] 4)) = .ok () ((w.alloc (Obj.cells #[nf, nf, nf, nf, nf] 146)).alloc (Obj.map #[⟨.int .i64 111, .agg #[vf 168, vf 153, vf 154, vf 154, vf 169], 0⟩, ⟨.int .i64 103, .agg #[vf 170, vf 153, vf 158, vf 154, vf 171], 1⟩, ⟨.int .i64 99, .agg #[vf 143, vf 154, vf 158, vf 163, vf 172], 2⟩, ⟨.int .i64 3, .agg #[vf 144, vf 153, vf 158, vf 154, vf 171], 3⟩, ⟨.int .i64 35, .agg #[vf 145, vf 154, vf 158, vf 163, vf 173], 4⟩] 5)) ∧
    (Instr.mapUpdate 177 (.map (some (w.heap.size + 1))) (.int .i64 15) (.agg #[vf 174, vf 154, vf 154, vf 154, vf 154])).run Tryz.prog ((w.alloc (Obj.cells #[nf, nf, nf, nf, nf] 146)).alloc (Obj.map #[⟨.int .i64 111, .agg #[vf 168, vf 153, vf 154, vf 154, vf 169], 0⟩, ⟨.int .i64 103, .agg #[vf 170, vf 153, vf 158, vf 154, vf 171], 1⟩, ⟨.int .i64 99, .agg #[vf 143, vf 154, vf 158, vf 163, vf 172], 2⟩, ⟨.int .i64 3, .agg #[vf 144, vf 153, vf 158, vf 154, vf 171], 3⟩, ⟨.int .i64 35, .agg #[vf 145, vf 154, vf 158, vf 163, vf 173], 4⟩] 5)) = .ok () ((w.alloc (Obj.cells #[nf, nf, nf, nf, nf] 146)).alloc (Obj.map #[⟨.int .i64 111, .agg #[vf 168, vf 153, vf 154, vf 154, vf 169], 0⟩, ⟨.int .i64 103, .agg #[vf 170, vf 153, vf 158, vf 154, vf 171], 1⟩, ⟨.int .i64 99, .agg #[vf 143, vf 154, vf 158, vf 163, vf 172], 2⟩, ⟨.int .i64 3, .agg #[vf 144, vf 153, vf 158, vf 154, vf 171], 3⟩, ⟨.int .i64 35, .agg #[vf 145, vf 154, vf 158, vf 163, vf 173], 4⟩, ⟨.int .i64 15, .agg #[vf 174, vf 154, vf 154, vf 154, vf 154], 5⟩] 6)) ∧
    (Instr.mapUpdate 177 (.map (some (w.heap.size + 1))) (.int .i64 47) (.agg #[vf 148, vf 153, vf 158, vf 163, vf 154])).run Tryz.prog ((w.alloc (Obj.cells #[nf, nf, nf, nf, nf] 146)).alloc (Obj.map #[⟨.int .i64 111, .agg #[vf 168, vf 153, vf 154, vf 154, vf 169], 0⟩, ⟨.int .i64 103, .agg #[vf 170, vf 153, vf 158, vf 154, vf 171], 1⟩, ⟨.int .i64 99, .agg #[vf 143, vf 154, vf 158, vf 163, vf 172], 2⟩, ⟨.int .i64 3, .agg #[vf 144, vf 153, vf 158, vf 154, vf 171], 3⟩, ⟨.int .i64 35, .agg #[vf 145, vf 154, vf 158, vf 163, vf 173], 4⟩, ⟨.int .i64 15, .agg #[vf 174, vf 154, vf 154, vf 154, vf 154], 5⟩] 6)) = .ok () ((w.alloc (Obj.cells #[nf, nf, nf, nf, nf] 146)).alloc (Obj.map #[⟨.int .i64 111, .agg #[vf 168, vf 153, vf 154, vf 154, vf 169], 0⟩, ⟨.int .i64 103, .agg #[vf 170, vf 153, vf 158, vf 154, vf 171], 1⟩, ⟨.int .i64 99, .agg #[vf 143, vf 154, vf 158, vf 163, vf 172], 2⟩, ⟨.int .i64 3, .agg #[vf 144, vf 153, vf 158, vf 154, vf 171], 3⟩, ⟨.int .i64 35, .agg #[vf 145, vf 154, vf 158, vf 163, vf 173], 4⟩, ⟨.int .i64 15, .agg #[vf 174, vf 154, vf 154, vf 154, vf 154], 5⟩, ⟨.int .i64 47, .agg #[vf 148, vf 153, vf 158, vf 163, vf 154], 6⟩] 7)) :=
  ⟨ins_at under_map under_int (w.alloc (Obj.cells #[nf, nf, nf, nf, nf] 146)) #[] #[⟨.int .i64 111, .agg #[vf 168, vf 153, vf 154, vf 154, vf 169], 0⟩] 0 (w.heap.size + 1) 111 (.agg #[vf 168, vf 153, vf 154, vf 154, vf 169]) (by simp) rfl rfl, ins_at under_map under_int (w.alloc (Obj.cells #[nf, nf, nf, nf, nf] 146)) #[⟨.int .i64 111, .agg #[vf 168, vf 153, vf 154, vf 154, vf 169], 0⟩] #[⟨.int .i64 111, .agg #[vf 168, vf 153, vf 154, vf 154, vf 169], 0⟩, ⟨.int .i64 103, .agg #[vf 170, vf 153, vf 158, vf 154, vf 171], 1⟩] 1 (w.heap.size + 1) 103 (.agg #[vf 170, vf 153, vf 158, vf 154, vf 171]) (by simp) rfl rfl, ins_at under_map under_int (w.alloc (Obj.cells #[nf, nf, nf, nf, nf] 146)) #[⟨.int .i64 111, .agg #[vf 168, vf 153, vf 154, vf 154, vf 169], 0⟩, ⟨.int .i64 103, .agg #[vf 170, vf 153, vf 158, vf 154, vf 171], 1⟩] #[⟨.int .i64 111, .agg #[vf 168, vf 153, vf 154, vf 154, vf 169], 0⟩, ⟨.int .i64 103, .agg #[vf 170, vf 153, vf 158, vf 154, vf 171], 1⟩, ⟨.int .i64 99, .agg #[vf 143, vf 154, vf 158, vf 163, vf 172], 2⟩] 2 (w.heap.size + 1) 99 (.agg #[vf 143, vf 154, vf 158, vf 163, vf 172]) (by simp) rfl rfl, ins_at under_map under_int (w.alloc (Obj.cells #[nf, nf, nf, nf, nf] 146)) #[⟨.int .i64 111, .agg #[vf 168, vf 153, vf 154, vf 154, vf 169], 0⟩, ⟨.int .i64 103, .agg #[vf 170, vf 153, vf 158, vf 154, vf 171], 1⟩, ⟨.int .i64 99, .agg #[vf 143, vf 154, vf 158, vf 163, vf 172], 2⟩] #[⟨.int .i64 111, .agg #[vf 168, vf 153, vf 154, vf 154, vf 169], 0⟩, ⟨.int .i64 103, .agg #[vf 170, vf 153, vf 158, vf 154, vf 171], 1⟩, ⟨.int .i64 99, .agg #[vf 143, vf 154, vf 158, vf 163, vf 172], 2⟩, ⟨.int .i64 3, .agg #[vf 144, vf 153, vf 158, vf 154, vf 171], 3⟩] 3 (w.heap.size + 1) 3 (.agg #[vf 144, vf 153, vf 158, vf 154, vf 171]) (by simp) rfl rfl, ins_at under_map under_int (w.alloc (Obj.cells #[nf, nf, nf, nf, nf] 146)) #[⟨.int .i64 111, .agg #[vf 168, vf 153, vf 154, vf 154, vf 169], 0⟩, ⟨.int .i64 103, .agg #[vf 170, vf 153, vf 158, vf 154, vf 171], 1⟩, ⟨.int .i64 99, .agg #[vf 143, vf 154, vf 158, vf 163, vf 172], 2⟩, ⟨.int .i64 3, .agg #[vf 144, vf 153, vf 158, vf 154, vf 171], 3⟩] #[⟨.int .i64 111, .agg #[vf 168, vf 153, vf 154, vf 154, vf 169], 0⟩, ⟨.int .i64 103, .agg #[vf 170, vf 153, vf 158, vf 154, vf 171], 1⟩, ⟨.int .i64 99, .agg #[vf 143, vf 154, vf 158, vf 163, vf 172], 2⟩, ⟨.int .i64 3, .agg #[vf 144, vf 153, vf 158, vf 154, vf 171], 3⟩, ⟨.int .i64 35, .agg #[vf 145, vf 154, vf 158, vf 163, vf 173], 4⟩] 4 (w.heap.size + 1) 35 (.agg #[vf 145, vf 154, vf 158, vf 163, vf 173]) (by simp) rfl rfl, ins_at under_map under_int (w.alloc (Obj.cells #[nf, nf, nf, nf, nf] 146)) #[⟨.int .i64 111, .agg #[vf 168, vf 153, vf 154, vf 154, vf 169], 0⟩, ⟨.int .i64 103, .agg #[vf 170, vf 153, vf 158, vf 154, vf 171], 1⟩, ⟨.int .i64 99, .agg #[vf 143, vf 154, vf 158, vf 163, vf 172], 2⟩, ⟨.int .i64 3, .agg #[vf 144, vf 153, vf 158, vf 154, vf 171], 3⟩, ⟨.int .i64 35, .agg #[vf 145, vf 154, vf 158, vf 163, vf 173], 4⟩] #[⟨.int .i64 111, .agg #[vf 168, vf 153, vf 154, vf 154, vf 169], 0⟩, ⟨.int .i64 103, .agg #[vf 170, vf 153, vf 158, vf 154, vf 171], 1⟩, ⟨.int .i64 99, .agg #[vf 143, vf 154, vf 158, vf 163, vf 172], 2⟩, ⟨.int .i64 3, .agg #[vf 144, vf 153, vf 158, vf 154, vf 171], 3⟩, ⟨.int .i64 35, .agg #[vf 145, vf 154, vf 158, vf 163, vf 173], 4⟩, ⟨.int .i64 15, .agg #[vf 174, vf 154, vf 154, vf 154, vf 154], 5⟩] 5 (w.heap.size + 1) 15 (.agg #[vf 174, vf 154, vf 154, vf 154, vf 154]) (by simp) rfl rfl, ins_at under_map under_int (w.alloc (Obj.cells #[nf, nf, nf, nf, nf] 146)) #[⟨.int .i64 111, .agg #[vf 168, vf 153, vf 154, vf 154, vf 169], 0⟩, ⟨.int .i64 103, .agg #[vf 170, vf 153, vf 158, vf 154, vf 171], 1⟩, ⟨.int .i64 99, .agg #[vf 143, vf 154, vf 158, vf 163, vf 172], 2⟩, ⟨.int .i64 3, .agg #[vf 144, vf 153, vf 158, vf 154, vf 171], 3⟩, ⟨.int .i64 35, .agg #[vf 145, vf 154, vf 158, vf 163, vf 173], 4⟩, ⟨.int .i64 15, .agg #[vf 174, vf 154, vf 154, vf 154, vf 154], 5⟩] #[⟨.int .i64 111, .agg #[vf 168, vf 153, vf 154, vf 154, vf 169], 0⟩, ⟨.int .i64 103, .agg #[vf 170, vf 153, vf 158, vf 154, vf 171], 1⟩, ⟨.int .i64 99, .agg #[vf 143, vf 154, vf 158, vf 163, vf 172], 2⟩, ⟨.int .i64 3, .agg #[vf 144, vf 153, vf 158, vf 154, vf 171], 3⟩, ⟨.int .i64 35, .agg #[vf 145, vf 154, vf 158, vf 163, vf 173], 4⟩, ⟨.int .i64 15, .agg #[vf 174, vf 154, vf 154, vf 154, vf 154], 5⟩, ⟨.int .i64 47, .agg #[vf 148, vf 153, vf 158, vf 163, vf 154], 6⟩] 6 (w.heap.size + 1) 47 (.agg #[vf 148, vf 153, vf 158, vf 163, vf 154]) (by simp) rfl rfl⟩
theorem mo_111 (w : World) :
    Calls Tryz.prog 109 #[.int .i64 111] w fun e w' => e = .returned (.tuple #[.agg #[vf 168, vf 153, vf 154, vf 154, vf 169], .bool true]) ∧ Below w.heap.size w w' := by
  have hmm := @run_makeMap Tryz.prog
  have hsf := st_func Tryz.prog
  have hsn := st_nilFunc Tryz.prog
  obtain ⟨u0, u1, u2, u3, u4, u5, u6⟩ := mo_make w
  have l : (Instr.lookup 177 (.map (some (w.heap.size + 1))) (.int .i64 111) true).run Tryz.prog ((w.alloc (Obj.cells #[nf, nf, nf, nf, nf] 146)).alloc (Obj.map #[⟨.int .i64 111, .agg #[vf 168, vf 153, vf 154, vf 154, vf 169], 0⟩, ⟨.int .i64 103, .agg #[vf 170, vf 153, vf 158, vf 154, vf 171], 1⟩, ⟨.int .i64 99, .agg #[vf 143, vf 154, vf 158, vf 163, vf 172], 2⟩, ⟨.int .i64 3, .agg #[vf 144, vf 153, vf 158, vf 154, vf 171], 3⟩, ⟨.int .i64 35, .agg #[vf 145, vf 154, vf 158, vf 163, vf 173], 4⟩, ⟨.int .i64 15, .agg #[vf 174, vf 154, vf 154, vf 154, vf 154], 5⟩, ⟨.int .i64 47, .agg #[vf 148, vf 153, vf 158, vf 163, vf 154], 6⟩] 7)) = .ok (.tuple #[.agg #[vf 168, vf 153, vf 154, vf 154, vf 169], .bool true]) ((w.alloc (Obj.cells #[nf, nf, nf, nf, nf] 146)).alloc (Obj.map #[⟨.int .i64 111, .agg #[vf 168, vf 153, vf 154, vf 154, vf 169], 0⟩, ⟨.int .i64 103, .agg #[vf 170, vf 153, vf 158, vf 154, vf 171], 1⟩, ⟨.int .i64 99, .agg #[vf 143, vf 154, vf 158, vf 163, vf 172], 2⟩, ⟨.int .i64 3, .agg #[vf 144, vf 153, vf 158, vf 154, vf 171], 3⟩, ⟨.int .i64 35, .agg #[vf 145, vf 154, vf 158, vf 163, vf 173], 4⟩, ⟨.int .i64 15, .agg #[vf 174, vf 154, vf 154, vf 154, vf 154], 5⟩, ⟨.int .i64 47, .agg #[vf 148, vf 153, vf 158, vf 163, vf 154], 6⟩] 7)) := look_at under_map under_int (w.alloc (Obj.cells #[nf, nf, nf, nf, nf] 146)) #[⟨.int .i64 111, .agg #[vf 168, vf 153, vf 154, vf 154, vf 169], 0⟩, ⟨.int .i64 103, .agg #[vf 170, vf 153, vf 158, vf 154, vf 171], 1⟩, ⟨.int .i64 99, .agg #[vf 143, vf 154, vf 158, vf 163, vf 172], 2⟩, ⟨.int .i64 3, .agg #[vf 144, vf 153, vf 158, vf 154, vf 171], 3⟩, ⟨.int .i64 35, .agg #[vf 145, vf 154, vf 158, vf 163, vf 173], 4⟩, ⟨.int .i64 15, .agg #[vf 174, vf 154, vf 154, vf 154, vf 154], 5⟩, ⟨.int .i64 47, .agg #[vf 148, vf 153, vf 158, vf 163, vf 154], 6⟩] 7 (w.heap.size + 1) 111 0 (.agg #[vf 168, vf 153, vf 154, vf 154, vf 169]) (by simp) rfl
  go_enter Tryz.func109, Tryz.ntmps109
  go_wp2
  exact bodyPost_ret (v := .tuple #[.agg #[vf 168, vf 153, vf 154, vf 154, vf 169], .bool true]) (by simp [results, Tryz.results109, go_sem]) rfl ⟨rfl, ((below1 _).alloc (by simp) _).alloc (by simp <;> omega) _⟩
theorem mo_103 (w : World) :
    Calls Tryz.prog 109 #[.int .i64 103] w fun e w' => e = .returned (.tuple #[.agg #[vf 170, vf 153, vf 158, vf 154, vf 171], .bool true]) ∧ Below w.heap.size w w' := by
  have hmm := @run_makeMap Tryz.prog
  have hsf := st_func Tryz.prog
  have hsn := st_nilFunc Tryz.prog
  obtain ⟨u0, u1, u2, u3, u4, u5, u6⟩ := mo_make w
  have l : (Instr.lookup 177 (.map (some (w.heap.size + 1))) (.int .i64 103) true).run Tryz.prog ((w.alloc (Obj.cells #[nf, nf, nf, nf, nf] 146)).alloc (Obj.map #[⟨.int .i64 111, .agg #[vf 168, vf 153, vf 154, vf 154, vf 169], 0⟩, ⟨.int .i64 103, .agg #[vf 170, vf 153, vf 158, vf 154, vf 171], 1⟩, ⟨.int .i64 99, .agg #[vf 143, vf 154, vf 158, vf 163, vf 172], 2⟩, ⟨.int .i64 3, .agg #[vf 144, vf 153, vf 158, vf 154, vf 171], 3⟩, ⟨.int .i64 35, .agg #[vf 145, vf 154, vf 158, vf 163, vf 173], 4⟩, ⟨.int .i64 15, .agg #[vf 174, vf 154, vf 154, vf 154, vf 154], 5⟩, ⟨.int .i64 47, .agg #[vf 148, vf 153, vf 158, vf 163, vf 154], 6⟩] 7)) = .ok (.tuple #[.agg #[vf 170, vf 153, vf 158, vf 154, vf 171], .bool true]) ((w.alloc (Obj.cells #[nf, nf, nf, nf, nf] 146)).alloc (Obj.map #[⟨.int .i64 111, .agg #[vf 168, vf 153, vf 154, vf 154, vf 169], 0⟩, ⟨.int .i64 103, .agg #[vf 170, vf 153, vf 158, vf 154, vf 171], 1⟩, ⟨.int .i64 99, .agg #[vf 143, vf 154, vf 158, vf 163, vf 172], 2⟩, ⟨.int .i64 3, .agg #[vf 144, vf 153, vf 158, vf 154, vf 171], 3⟩, ⟨.int .i64 35, .agg #[vf 145, vf 154, vf 158, vf 163, vf 173], 4⟩, ⟨.int .i64 15, .agg #[vf 174, vf 154, vf 154, vf 154, vf 154], 5⟩, ⟨.int .i64 47, .agg #[vf 148, vf 153, vf 158, vf 163, vf 154], 6⟩] 7)) := look_at under_map under_int (w.alloc (Obj.cells #[nf, nf, nf, nf, nf] 146)) #[⟨.int .i64 111, .agg #[vf 168, vf 153, vf 154, vf 154, vf 169], 0⟩, ⟨.int .i64 103, .agg #[vf 170, vf 153, vf 158, vf 154, vf 171], 1⟩, ⟨.int .i64 99, .agg #[vf 143, vf 154, vf 158, vf 163, vf 172], 2⟩, ⟨.int .i64 3, .agg #[vf 144, vf 153, vf 158, vf 154, vf 171], 3⟩, ⟨.int .i64 35, .agg #[vf 145, vf 154, vf 158, vf 163, vf 173], 4⟩, ⟨.int .i64 15, .agg #[vf 174, vf 154, vf 154, vf 154, vf 154], 5⟩, ⟨.int .i64 47, .agg #[vf 148, vf 153, vf 158, vf 163, vf 154], 6⟩] 7 (w.heap.size + 1) 103 1 (.agg #[vf 170, vf 153, vf 158, vf 154, vf 171]) (by simp) rfl
  go_enter Tryz.func109, Tryz.ntmps109
  go_wp2
  exact bodyPost_ret (v := .tuple #[.agg #[vf 170, vf 153, vf 158, vf 154, vf 171], .bool true]) (by simp [results, Tryz.results109, go_sem]) rfl ⟨rfl, ((below1 _).alloc (by simp) _).alloc (by simp <;> omega) _⟩
theorem mo_99 (w : World) :
    Calls Tryz.prog 109 #[.int .i64 99] w fun e w' => e = .returned (.tuple #[.agg #[vf 143, vf 154, vf 158, vf 163, vf 172], .bool true]) ∧ Below w.heap.size w w' := by
  have hmm := @run_makeMap Tryz.prog
  have hsf := st_func Tryz.prog
  have hsn := st_nilFunc Tryz.prog
  obtain ⟨u0, u1, u2, u3, u4, u5, u6⟩ := mo_make w
  have l : (Instr.lookup 177 (.map (some (w.heap.size + 1))) (.int .i64 99) true).run Tryz.prog ((w.alloc (Obj.cells #[nf, nf, nf, nf, nf] 146)).alloc (Obj.map #[⟨.int .i64 111, .agg #[vf 168, vf 153, vf 154, vf 154, vf 169], 0⟩, ⟨.int .i64 103, .agg #[vf 170, vf 153, vf 158, vf 154, vf 171], 1⟩, ⟨.int .i64 99, .agg #[vf 143, vf 154, vf 158, vf 163, vf 172], 2⟩, ⟨.int .i64 3, .agg #[vf 144, vf 153, vf 158, vf 154, vf 171], 3⟩, ⟨.int .i64 35, .agg #[vf 145, vf 154, vf 158, vf 163, vf 173], 4⟩, ⟨.int .i64 15, .agg #[vf 174, vf 154, vf 154, vf 154, vf 154], 5⟩, ⟨.int .i64 47, .agg #[vf 148, vf 153, vf 158, vf 163, vf 154], 6⟩] 7)) = .ok (.tuple #[.agg #[vf 143, vf 154, vf 158, vf 163, vf 172], .bool true]) ((w.alloc (Obj.cells #[nf, nf, nf, nf, nf] 146)).alloc (Obj.map #[⟨.int .i64 111, .agg #[vf 168, vf 153, vf 154, vf 154, vf 169], 0⟩, ⟨.int .i64 103, .agg #[vf 170, vf 153, vf 158, vf 154, vf 171], 1⟩, ⟨.int .i64 99, .agg #[vf 143, vf 154, vf 158, vf 163, vf 172], 2⟩, ⟨.int .i64 3, .agg #[vf 144, vf 153, vf 158, vf 154, vf 171], 3⟩, ⟨.int .i64 35, .agg #[vf 145, vf 154, vf 158, vf 163, vf 173], 4⟩, ⟨.int .i64 15, .agg #[vf 174, vf 154, vf 154, vf 154, vf 154], 5⟩, ⟨.int .i64 47, .agg #[vf 148, vf 153, vf 158, vf 163, vf 154], 6⟩] 7)) := look_at under_map under_int (w.alloc (Obj.cells #[nf, nf, nf, nf, nf] 146)) #[⟨.int .i64 111, .agg #[vf 168, vf 153, vf 154, vf 154, vf 169], 0⟩, ⟨.int .i64 103, .agg #[vf 170, vf 153, vf 158, vf 154, vf 171], 1⟩, ⟨.int .i64 99, .agg #[vf 143, vf 154, vf 158, vf 163, vf 172], 2⟩, ⟨.int .i64 3, .agg #[vf 144, vf 153, vf 158, vf 154, vf 171], 3⟩, ⟨.int .i64 35, .agg #[vf 145, vf 154, vf 158, vf 163, vf 173], 4⟩, ⟨.int .i64 15, .agg #[vf 174, vf 154, vf 154, vf 154, vf 154], 5⟩, ⟨.int .i64 47, .agg #[vf 148, vf 153, vf 158, vf 163, vf 154], 6⟩] 7 (w.heap.size + 1) 99 2 (.agg #[vf 143, vf 154, vf 158, vf 163, vf 172]) (by simp) rfl
  go_enter Tryz.func109, Tryz.ntmps109
  go_wp2
  exact bodyPost_ret (v := .tuple #[.agg #[vf 143, vf 154, vf 158, vf 163, vf 172], .bool true]) (by simp [results, Tryz.results109, go_sem]) rfl ⟨rfl, ((below1 _).alloc (by simp) _).alloc (by simp <;> omega) _⟩
theorem mo_3 (w : World) :
    Calls Tryz.prog 109 #[.int .i64 3] w fun e w' => e = .returned (.tuple #[.agg #[vf 144, vf 153, vf 158, vf 154, vf 171], .bool true]) ∧ Below w.heap.size w w' := by
  have hmm := @run_makeMap Tryz.prog
  have hsf := st_func Tryz.prog
  have hsn := st_nilFunc Tryz.prog
  obtain ⟨u0, u1, u2, u3, u4, u5, u6⟩ := mo_make w
  have l : (Instr.lookup 177 (.map (some (w.heap.size + 1))) (.int .i64 3) true).run Tryz.prog ((w.alloc (Obj.cells #[nf, nf, nf, nf, nf] 146)).alloc (Obj.map #[⟨.int .i64 111, .agg #[vf 168, vf 153, vf 154, vf 154, vf 169], 0⟩, ⟨.int .i64 103, .agg #[vf 170, vf 153, vf 158, vf 154, vf 171], 1⟩, ⟨.int .i64 99, .agg #[vf 143, vf 154, vf 158, vf 163, vf 172], 2⟩, ⟨.int .i64 3, .agg #[vf 144, vf 153, vf 158, vf 154, vf 171], 3⟩, ⟨.int .i64 35, .agg #[vf 145, vf 154, vf 158, vf 163, vf 173], 4⟩, ⟨.int .i64 15, .agg #[vf 174, vf 154, vf 154, vf 154, vf 154], 5⟩, ⟨.int .i64 47, .agg #[vf 148, vf 153, vf 158, vf 163, vf 154], 6⟩] 7)) = .ok (.tuple #[.agg #[vf 144, vf 153, vf 158, vf 154, vf 171], .bool true]) ((w.alloc (Obj.cells #[nf, nf, nf, nf, nf] 146)).alloc (Obj.map #[⟨.int .i64 111, .agg #[vf 168, vf 153, vf 154, vf 154, vf 169], 0⟩, ⟨.int .i64 103, .agg #[vf 170, vf 153, vf 158, vf 154, vf 171], 1⟩, ⟨.int .i64 99, .agg #[vf 143, vf 154, vf 158, vf 163, vf 172], 2⟩, ⟨.int .i64 3, .agg #[vf 144, vf 153, vf 158, vf 154, vf 171], 3⟩, ⟨.int .i64 35, .agg #[vf 145, vf 154, vf 158, vf 163, vf 173], 4⟩, ⟨.int .i64 15, .agg #[vf 174, vf 154, vf 154, vf 154, vf 154], 5⟩, ⟨.int .i64 47, .agg #[vf 148, vf 153, vf 158, vf 163, vf 154], 6⟩] 7)) := look_at under_map under_int (w.alloc (Obj.cells #[nf, nf, nf, nf, nf] 146)) #[⟨.int .i64 111, .agg #[vf 168, vf 153, vf 154, vf 154, vf 169], 0⟩, ⟨.int .i64 103, .agg #[vf 170, vf 153, vf 158, vf 154, vf 171], 1⟩, ⟨.int .i64 99, .agg #[vf 143, vf 154, vf 158, vf 163, vf 172], 2⟩, ⟨.int .i64 3, .agg #[vf 144, vf 153, vf 158, vf 154, vf 171], 3⟩, ⟨.int .i64 35, .agg #[vf 145, vf 154, vf 158, vf 163, vf 173], 4⟩, ⟨.int .i64 15, .agg #[vf 174, vf 154, vf 154, vf 154, vf 154], 5⟩, ⟨.int .i64 47, .agg #[vf 148, vf 153, vf 158, vf 163, vf 154], 6⟩] 7 (w.heap.size + 1) 3 3 (.agg #[vf 144, vf 153, vf 158, vf 154, vf 171]) (by simp) rfl
  go_enter Tryz.func109, Tryz.ntmps109
  go_wp2
  exact bodyPost_ret (v := .tuple #[.agg #[vf 144, vf 153, vf 158, vf 154, vf 171], .bool true]) (by simp [results, Tryz.results109, go_sem]) rfl ⟨rfl, ((below1 _).alloc (by simp) _).alloc (by simp <;> omega) _⟩
theorem mo_35 (w : World) :
    Calls Tryz.prog 109 #[.int .i64 35] w fun e w' => e = .returned (.tuple #[.agg #[vf 145, vf 154, vf 158, vf 163, vf 173], .bool true]) ∧ Below w.heap.size w w' := by
  have hmm := @run_makeMap Tryz.prog
  have hsf := st_func Tryz.prog
  have hsn := st_nilFunc Tryz.prog
  obtain ⟨u0, u1, u2, u3, u4, u5, u6⟩ := mo_make w
  have l : (Instr.lookup 177 (.map (some (w.heap.size + 1))) (.int .i64 35) true).run Tryz.prog ((w.alloc (Obj.cells #[nf, nf, nf, nf, nf] 146)).alloc (Obj.map #[⟨.int .i64 111, .agg #[vf 168, vf 153, vf 154, vf 154, vf 169], 0⟩, ⟨.int .i64 103, .agg #[vf 170, vf 153, vf 158, vf 154, vf 171], 1⟩, ⟨.int .i64 99, .agg #[vf 143, vf 154, vf 158, vf 163, vf 172], 2⟩, ⟨.int .i64 3, .agg #[vf 144, vf 153, vf 158, vf 154, vf 171], 3⟩, ⟨.int .i64 35, .agg #[vf 145, vf 154, vf 158, vf 163, vf 173], 4⟩, ⟨.int .i64 15, .agg #[vf 174, vf 154, vf 154, vf 154, vf 154], 5⟩, ⟨.int .i64 47, .agg #[vf 148, vf 153, vf 158, vf 163, vf 154], 6⟩] 7)) = .ok (.tuple #[.agg #[vf 145, vf 154, vf 158, vf 163, vf 173], .bool true]) ((w.alloc (Obj.cells #[nf, nf, nf, nf, nf] 146)).alloc (Obj.map #[⟨.int .i64 111, .agg #[vf 168, vf 153, vf 154, vf 154, vf 169], 0⟩, ⟨.int .i64 103, .agg #[vf 170, vf 153, vf 158, vf 154, vf 171], 1⟩, ⟨.int .i64 99, .agg #[vf 143, vf 154, vf 158, vf 163, vf 172], 2⟩, ⟨.int .i64 3, .agg #[vf 144, vf 153, vf 158, vf 154, vf 171], 3⟩, ⟨.int .i64 35, .agg #[vf 145, vf 154, vf 158, vf 163, vf 173], 4⟩, ⟨.int .i64 15, .agg #[vf 174, vf 154, vf 154, vf 154, vf 154], 5⟩, ⟨.int .i64 47, .agg #[vf 148, vf 153, vf 158, vf 163, vf 154], 6⟩] 7)) := look_at under_map under_int (w.alloc (Obj.cells #[nf, nf, nf, nf, nf] 146)) #[⟨.int .i64 111, .agg #[vf 168, vf 153, vf 154, vf 154, vf 169], 0⟩, ⟨.int .i64 103, .agg #[vf 170, vf 153, vf 158, vf 154, vf 171], 1⟩, ⟨.int .i64 99, .agg #[vf 143, vf 154, vf 158, vf 163, vf 172], 2⟩, ⟨.int .i64 3, .agg #[vf 144, vf 153, vf 158, vf 154, vf 171], 3⟩, ⟨.int .i64 35, .agg #[vf 145, vf 154, vf 158, vf 163, vf 173], 4⟩, ⟨.int .i64 15, .agg #[vf 174, vf 154, vf 154, vf 154, vf 154], 5⟩, ⟨.int .i64 47, .agg #[vf 148, vf 153, vf 158, vf 163, vf 154], 6⟩] 7 (w.heap.size + 1) 35 4 (.agg #[vf 145, vf 154, vf 158, vf 163, vf 173]) (by simp) rfl
  go_enter Tryz.func109, Tryz.ntmps109
  go_wp2
  exact bodyPost_ret (v := .tuple #[.agg #[vf 145, vf 154, vf 158, vf 163, vf 173], .bool true]) (by simp [results, Tryz.results109, go_sem]) rfl ⟨rfl, ((below1 _).alloc (by simp) _).alloc (by simp <;> omega) _⟩
theorem mo_15 (w : World) :
    Calls Tryz.prog 109 #[.int .i64 15] w fun e w' => e = .returned (.tuple #[.agg #[vf 174, vf 154, vf 154, vf 154, vf 154], .bool true]) ∧ Below w.heap.size w w' := by
  have hmm := @run_makeMap Tryz.prog
  have hsf := st_func Tryz.prog
  have hsn := st_nilFunc Tryz.prog
  obtain ⟨u0, u1, u2, u3, u4, u5, u6⟩ := mo_make w
  have l : (Instr.lookup 177 (.map (some (w.heap.size + 1))) (.int .i64 15) true).run Tryz.prog ((w.alloc (Obj.cells #[nf, nf, nf, nf, nf] 146)).alloc (Obj.map #[⟨.int .i64 111, .agg #[vf 168, vf 153, vf 154, vf 154, vf 169], 0⟩, ⟨.int .i64 103, .agg #[vf 170, vf 153, vf 158, vf 154, vf 171], 1⟩, ⟨.int .i64 99, .agg #[vf 143, vf 154, vf 158, vf 163, vf 172], 2⟩, ⟨.int .i64 3, .agg #[vf 144, vf 153, vf 158, vf 154, vf 171], 3⟩, ⟨.int .i64 35, .agg #[vf 145, vf 154, vf 158, vf 163, vf 173], 4⟩, ⟨.int .i64 15, .agg #[vf 174, vf 154, vf 154, vf 154, vf 154], 5⟩, ⟨.int .i64 47, .agg #[vf 148, vf 153, vf 158, vf 163, vf 154], 6⟩] 7)) = .ok (.tuple #[.agg #[vf 174, vf 154, vf 154, vf 154, vf 154], .bool true]) ((w.alloc (Obj.cells #[nf, nf, nf, nf, nf] 146)).alloc (Obj.map #[⟨.int .i64 111, .agg #[vf 168, vf 153, vf 154, vf 154, vf 169], 0⟩, ⟨.int .i64 103, .agg #[vf 170, vf 153, vf 158, vf 154, vf 171], 1⟩, ⟨.int .i64 99, .agg #[vf 143, vf 154, vf 158, vf 163, vf 172], 2⟩, ⟨.int .i64 3, .agg #[vf 144, vf 153, vf 158, vf 154, vf 171], 3⟩, ⟨.int .i64 35, .agg #[vf 145, vf 154, vf 158, vf 163, vf 173], 4⟩, ⟨.int .i64 15, .agg #[vf 174, vf 154, vf 154, vf 154, vf 154], 5⟩, ⟨.int .i64 47, .agg #[vf 148, vf 153, vf 158, vf 163, vf 154], 6⟩] 7)) := look_at under_map under_int (w.alloc (Obj.cells #[nf, nf, nf, nf, nf] 146)) #[⟨.int .i64 111, .agg #[vf 168, vf 153, vf 154, vf 154, vf 169], 0⟩, ⟨.int .i64 103, .agg #[vf 170, vf 153, vf 158, vf 154, vf 171], 1⟩, ⟨.int .i64 99, .agg #[vf 143, vf 154, vf 158, vf 163, vf 172], 2⟩, ⟨.int .i64 3, .agg #[vf 144, vf 153, vf 158, vf 154, vf 171], 3⟩, ⟨.int .i64 35, .agg #[vf 145, vf 154, vf 158, vf 163, vf 173], 4⟩, ⟨.int .i64 15, .agg #[vf 174, vf 154, vf 154, vf 154, vf 154], 5⟩, ⟨.int .i64 47, .agg #[vf 148, vf 153, vf 158, vf 163, vf 154], 6⟩] 7 (w.heap.size + 1) 15 5 (.agg #[vf 174, vf 154, vf 154, vf 154, vf 154]) (by simp) rfl
  go_enter Tryz.func109, Tryz.ntmps109
  go_wp2
  exact bodyPost_ret (v := .tuple #[.agg #[vf 174, vf 154, vf 154, vf 154, vf 154], .bool true]) (by simp [results, Tryz.results109, go_sem]) rfl ⟨rfl, ((below1 _).alloc (by simp) _).alloc (by simp <;> omega) _⟩
theorem mo_47 (w : World) :
    Calls Tryz.prog 109 #[.int .i64 47] w fun e w' => e = .returned (.tuple #[.agg #[vf 148, vf 153, vf 158, vf 163, vf 154], .bool true]) ∧ Below w.heap.size w w' := by
  have hmm := @run_makeMap Tryz.prog
  have hsf := st_func Tryz.prog
  have hsn := st_nilFunc Tryz.prog
  obtain ⟨u0, u1, u2, u3, u4, u5, u6⟩ := mo_make w
  have l : (Instr.lookup 177 (.map (some (w.heap.size + 1))) (.int .i64 47) true).run Tryz.prog ((w.alloc (Obj.cells #[nf, nf, nf, nf, nf] 146)).alloc (Obj.map #[⟨.int .i64 111, .agg #[vf 168, vf 153, vf 154, vf 154, vf 169], 0⟩, ⟨.int .i64 103, .agg #[vf 170, vf 153, vf 158, vf 154, vf 171], 1⟩, ⟨.int .i64 99, .agg #[vf 143, vf 154, vf 158, vf 163, vf 172], 2⟩, ⟨.int .i64 3, .agg #[vf 144, vf 153, vf 158, vf 154, vf 171], 3⟩, ⟨.int .i64 35, .agg #[vf 145, vf 154, vf 158, vf 163, vf 173], 4⟩, ⟨.int .i64 15, .agg #[vf 174, vf 154, vf 154, vf 154, vf 154], 5⟩, ⟨.int .i64 47, .agg #[vf 148, vf 153, vf 158, vf 163, vf 154], 6⟩] 7)) = .ok (.tuple #[.agg #[vf 148, vf 153, vf 158, vf 163, vf 154], .bool true]) ((w.alloc (Obj.cells #[nf, nf, nf, nf, nf] 146)).alloc (Obj.map #[⟨.int .i64 111, .agg #[vf 168, vf 153, vf 154, vf 154, vf 169], 0⟩, ⟨.int .i64 103, .agg #[vf 170, vf 153, vf 158, vf 154, vf 171], 1⟩, ⟨.int .i64 99, .agg #[vf 143, vf 154, vf 158, vf 163, vf 172], 2⟩, ⟨.int .i64 3, .agg #[vf 144, vf 153, vf 158, vf 154, vf 171], 3⟩, ⟨.int .i64 35, .agg #[vf 145, vf 154, vf 158, vf 163, vf 173], 4⟩, ⟨.int .i64 15, .agg #[vf 174, vf 154, vf 154, vf 154, vf 154], 5⟩, ⟨.int .i64 47, .agg #[vf 148, vf 153, vf 158, vf 163, vf 154], 6⟩] 7)) := look_at under_map under_int (w.alloc (Obj.cells #[nf, nf, nf, nf, nf] 146)) #[⟨.int .i64 111, .agg #[vf 168, vf 153, vf 154, vf 154, vf 169], 0⟩, ⟨.int .i64 103, .agg #[vf 170, vf 153, vf 158, vf 154, vf 171], 1⟩, ⟨.int .i64 99, .agg #[vf 143, vf 154, vf 158, vf 163, vf 172], 2⟩, ⟨.int .i64 3, .agg #[vf 144, vf 153, vf 158, vf 154, vf 171], 3⟩, ⟨.int .i64 35, .agg #[vf 145, vf 154, vf 158, vf 163, vf 173], 4⟩, ⟨.int .i64 15, .agg #[vf 174, vf 154, vf 154, vf 154, vf 154], 5⟩, ⟨.int .i64 47, .agg #[vf 148, vf 153, vf 158, vf 163, vf 154], 6⟩] 7 (w.heap.size + 1) 47 6 (.agg #[vf 148, vf 153, vf 158, vf 163, vf 154]) (by simp) rfl
  go_enter Tryz.func109, Tryz.ntmps109
  go_wp2
  exact bodyPost_ret (v := .tuple #[.agg #[vf 148, vf 153, vf 158, vf 163, vf 154], .bool true]) (by simp [results, Tryz.results109, go_sem]) rfl ⟨rfl, ((below1 _).alloc (by simp) _).alloc (by simp <;> omega) _⟩
theorem mo_none (a : Int) (h111 : a ≠ 111) (h103 : a ≠ 103) (h99 : a ≠ 99) (h3 : a ≠ 3) (h35 : a ≠ 35) (h15 : a ≠ 15) (h47 : a ≠ 47) (w : World) :
    Calls Tryz.prog 109 #[.int .i64 a] w fun e w' => e = .returned (.tuple #[.agg #[.nilFunc, .nilFunc, .nilFunc, .nilFunc, .nilFunc], .bool false]) ∧ Below w.heap.size w w' := by
  have hmm := @run_makeMap Tryz.prog
  have hsf := st_func Tryz.prog
  have hsn := st_nilFunc Tryz.prog
  obtain ⟨u0, u1, u2, u3, u4, u5, u6⟩ := mo_make w
  have l : (Instr.lookup 177 (.map (some (w.heap.size + 1))) (.int .i64 a) true).run Tryz.prog ((w.alloc (Obj.cells #[nf, nf, nf, nf, nf] 146)).alloc (Obj.map #[⟨.int .i64 111, .agg #[vf 168, vf 153, vf 154, vf 154, vf 169], 0⟩, ⟨.int .i64 103, .agg #[vf 170, vf 153, vf 158, vf 154, vf 171], 1⟩, ⟨.int .i64 99, .agg #[vf 143, vf 154, vf 158, vf 163, vf 172], 2⟩, ⟨.int .i64 3, .agg #[vf 144, vf 153, vf 158, vf 154, vf 171], 3⟩, ⟨.int .i64 35, .agg #[vf 145, vf 154, vf 158, vf 163, vf 173], 4⟩, ⟨.int .i64 15, .agg #[vf 174, vf 154, vf 154, vf 154, vf 154], 5⟩, ⟨.int .i64 47, .agg #[vf 148, vf 153, vf 158, vf 163, vf 154], 6⟩] 7)) = .ok (.tuple #[.agg #[.nilFunc, .nilFunc, .nilFunc, .nilFunc, .nilFunc], .bool false]) ((w.alloc (Obj.cells #[nf, nf, nf, nf, nf] 146)).alloc (Obj.map #[⟨.int .i64 111, .agg #[vf 168, vf 153, vf 154, vf 154, vf 169], 0⟩, ⟨.int .i64 103, .agg #[vf 170, vf 153, vf 158, vf 154, vf 171], 1⟩, ⟨.int .i64 99, .agg #[vf 143, vf 154, vf 158, vf 163, vf 172], 2⟩, ⟨.int .i64 3, .agg #[vf 144, vf 153, vf 158, vf 154, vf 171], 3⟩, ⟨.int .i64 35, .agg #[vf 145, vf 154, vf 158, vf 163, vf 173], 4⟩, ⟨.int .i64 15, .agg #[vf 174, vf 154, vf 154, vf 154, vf 154], 5⟩, ⟨.int .i64 47, .agg #[vf 148, vf 153, vf 158, vf 163, vf 154], 6⟩] 7)) := none_at under_map under_int (w.alloc (Obj.cells #[nf, nf, nf, nf, nf] 146)) #[⟨.int .i64 111, .agg #[vf 168, vf 153, vf 154, vf 154, vf 169], 0⟩, ⟨.int .i64 103, .agg #[vf 170, vf 153, vf 158, vf 154, vf 171], 1⟩, ⟨.int .i64 99, .agg #[vf 143, vf 154, vf 158, vf 163, vf 172], 2⟩, ⟨.int .i64 3, .agg #[vf 144, vf 153, vf 158, vf 154, vf 171], 3⟩, ⟨.int .i64 35, .agg #[vf 145, vf 154, vf 158, vf 163, vf 173], 4⟩, ⟨.int .i64 15, .agg #[vf 174, vf 154, vf 154, vf 154, vf 154], 5⟩, ⟨.int .i64 47, .agg #[vf 148, vf 153, vf 158, vf 163, vf 154], 6⟩] 7 (w.heap.size + 1) a _ zero_row (by simp) (by
    have q111 : (a == 111) = false := by simpa using h111
    have q103 : (a == 103) = false := by simpa using h103
    have q99 : (a == 99) = false := by simpa using h99
    have q3 : (a == 3) = false := by simpa using h3
    have q35 : (a == 35) = false := by simpa using h35
    have q15 : (a == 15) = false := by simpa using h15
    have q47 : (a == 47) = false := by simpa using h47
    simp [Instr.findNow, Instr.sameNow, q111, q103, q99, q3, q35, q15, q47])
  clear h111 h103 h99 h3 h35 h15 h47
  go_enter Tryz.func109, Tryz.ntmps109
  go_wp2
  exact bodyPost_ret (v := .tuple #[.agg #[.nilFunc, .nilFunc, .nilFunc, .nilFunc, .nilFunc], .bool false]) (by simp [results, Tryz.results109, go_sem]) rfl ⟨rfl, ((below1 _).alloc (by simp) _).alloc (by simp <;> omega) _⟩
theorem ro_55 (w : World) : Calls Tryz.prog 87 #[.int .i64 55] w fun e w' => e = .returned (.tuple #[.agg #[vf 152, vf 153, vf 154, vf 154, vf 155], .bool true]) ∧ Below w.heap.size w w' := by
  have hsf := st_func Tryz.prog
  have hb16 : bits .and .i64 55 16 = 16 := by decide
  go_enter Tryz.func87, Tryz.ntmps87
  go_wp2_with (first | (go_at_call 108; refine (ca_55 _).mono ?_; rintro e w1 ⟨rfl, hb⟩; obtain ⟨hc1, hf1⟩ := bcell hb))
  exact bodyPost_ret (v := .tuple #[.agg #[vf 152, vf 153, vf 154, vf 154, vf 155], .bool true]) (by simp [results, Tryz.results87, go_sem, hc1]) rfl ⟨rfl, below5 (belowA hb) (Nat.le_refl _) _ _ _ _ _⟩
theorem ro_23 (w : World) : Calls Tryz.prog 87 #[.int .i64 23] w fun e w' => e = .returned (.tuple #[.agg #[vf 156, vf 153, vf 154, vf 154, vf 155], .bool true]) ∧ Below w.heap.size w w' := by
  have hsf := st_func Tryz.prog
  have hb16 : bits .and .i64 23 16 = 16 := by decide
  go_enter Tryz.func87, Tryz.ntmps87
  go_wp2_with (first | (go_at_call 108; refine (ca_23 _).mono ?_; rintro e w1 ⟨rfl, hb⟩; obtain ⟨hc1, hf1⟩ := bcell hb))
  exact bodyPost_ret (v := .tuple #[.agg #[vf 156, vf 153, vf 154, vf 154, vf 155], .bool true]) (by simp [results, Tryz.results87, go_sem, hc1]) rfl ⟨rfl, below5 (belowA hb) (Nat.le_refl _) _ _ _ _ _⟩
theorem ro_19 (w : World) : Calls Tryz.prog 87 #[.int .i64 19] w fun e w' => e = .returned (.tuple #[.agg #[vf 157, vf 153, vf 158, vf 154, vf 159], .bool true]) ∧ Below w.heap.size w w' := by
  have hsf := st_func Tryz.prog
  have hb16 : bits .and .i64 19 16 = 16 := by decide
  go_enter Tryz.func87, Tryz.ntmps87
  go_wp2_with (first | (go_at_call 108; refine (ca_19 _).mono ?_; rintro e w1 ⟨rfl, hb⟩; obtain ⟨hc1, hf1⟩ := bcell hb))
  exact bodyPost_ret (v := .tuple #[.agg #[vf 157, vf 153, vf 158, vf 154, vf 159], .bool true]) (by simp [results, Tryz.results87, go_sem, hc1]) rfl ⟨rfl, below5 (belowA hb) (Nat.le_refl _) _ _ _ _ _⟩
theorem ro_27 (w : World) : Calls Tryz.prog 87 #[.int .i64 27] w fun e w' => e = .returned (.tuple #[.agg #[vf 160, vf 153, vf 158, vf 154, vf 161], .bool true]) ∧ Below w.heap.size w w' := by
  have hsf := st_func Tryz.prog
  have hb16 : bits .and .i64 27 16 = 16 := by decide
  go_enter Tryz.func87, Tryz.ntmps87
  go_wp2_with (first | (go_at_call 108; refine (ca_27 _).mono ?_; rintro e w1 ⟨rfl, hb⟩; obtain ⟨hc1, hf1⟩ := bcell hb))
  exact bodyPost_ret (v := .tuple #[.agg #[vf 160, vf 153, vf 158, vf 154, vf 161], .bool true]) (by simp [results, Tryz.results87, go_sem, hc1]) rfl ⟨rfl, below5 (belowA hb) (Nat.le_refl _) _ _ _ _ _⟩
theorem ro_51 (w : World) : Calls Tryz.prog 87 #[.int .i64 51] w fun e w' => e = .returned (.tuple #[.agg #[vf 162, vf 153, vf 158, vf 163, vf 154], .bool true]) ∧ Below w.heap.size w w' := by
  have hsf := st_func Tryz.prog
  have hb16 : bits .and .i64 51 16 = 16 := by decide
  go_enter Tryz.func87, Tryz.ntmps87
  go_wp2_with (first | (go_at_call 108; refine (ca_51 _).mono ?_; rintro e w1 ⟨rfl, hb⟩; obtain ⟨hc1, hf1⟩ := bcell hb))
  exact bodyPost_ret (v := .tuple #[.agg #[vf 162, vf 153, vf 158, vf 163, vf 154], .bool true]) (by simp [results, Tryz.results87, go_sem, hc1]) rfl ⟨rfl, below5 (belowA hb) (Nat.le_refl _) _ _ _ _ _⟩
theorem ro_59 (w : World) : Calls Tryz.prog 87 #[.int .i64 59] w fun e w' => e = .returned (.tuple #[.agg #[vf 164, vf 153, vf 158, vf 163, vf 154], .bool true]) ∧ Below w.heap.size w w' := by
  have hsf := st_func Tryz.prog
  have hb16 : bits .and .i64 59 16 = 16 := by decide
  go_enter Tryz.func87, Tryz.ntmps87
  go_wp2_with (first | (go_at_call 108; refine (ca_59 _).mono ?_; rintro e w1 ⟨rfl, hb⟩; obtain ⟨hc1, hf1⟩ := bcell hb))
  exact bodyPost_ret (v := .tuple #[.agg #[vf 164, vf 153, vf 158, vf 163, vf 154], .bool true]) (by simp [results, Tryz.results87, go_sem, hc1]) rfl ⟨rfl, below5 (belowA hb) (Nat.le_refl _) _ _ _ _ _⟩
theorem ro_115 (w : World) : Calls Tryz.prog 87 #[.int .i64 115] w fun e w' => e = .returned (.tuple #[.agg #[vf 165, vf 153, vf 158, vf 166, vf 167], .bool true]) ∧ Below w.heap.size w w' := by
  have hsf := st_func Tryz.prog
  have hb16 : bits .and .i64 115 16 = 16 := by decide
  go_enter Tryz.func87, Tryz.ntmps87
  go_wp2_with (first | (go_at_call 108; refine (ca_115 _).mono ?_; rintro e w1 ⟨rfl, hb⟩; obtain ⟨hc1, hf1⟩ := bcell hb))
  exact bodyPost_ret (v := .tuple #[.agg #[vf 165, vf 153, vf 158, vf 166, vf 167], .bool true]) (by simp [results, Tryz.results87, go_sem, hc1]) rfl ⟨rfl, below5 (belowA hb) (Nat.le_refl _) _ _ _ _ _⟩
theorem ro_111 (w : World) : Calls Tryz.prog 87 #[.int .i64 111] w fun e w' => e = .returned (.tuple #[.agg #[vf 168, vf 153, vf 154, vf 154, vf 169], .bool true]) ∧ Below w.heap.size w w' := by
  have hsf := st_func Tryz.prog
  have hb16 : bits .and .i64 111 16 = 0 := by decide
  go_enter Tryz.func87, Tryz.ntmps87
  go_wp2_with (first | (go_at_call 109; refine (mo_111 _).mono ?_; rintro e w1 ⟨rfl, hb⟩; obtain ⟨hc1, hf1⟩ := bcell hb))
  exact bodyPost_ret (v := .tuple #[.agg #[vf 168, vf 153, vf 154, vf 154, vf 169], .bool true]) (by simp [results, Tryz.results87, go_sem, hc1]) rfl ⟨rfl, below5 (belowA hb) (Nat.le_refl _) _ _ _ _ _⟩
theorem ro_103 (w : World) : Calls Tryz.prog 87 #[.int .i64 103] w fun e w' => e = .returned (.tuple #[.agg #[vf 170, vf 153, vf 158, vf 154, vf 171], .bool true]) ∧ Below w.heap.size w w' := by
  have hsf := st_func Tryz.prog
  have hb16 : bits .and .i64 103 16 = 0 := by decide
  go_enter Tryz.func87, Tryz.ntmps87
  go_wp2_with (first | (go_at_call 109; refine (mo_103 _).mono ?_; rintro e w1 ⟨rfl, hb⟩; obtain ⟨hc1, hf1⟩ := bcell hb))
  exact bodyPost_ret (v := .tuple #[.agg #[vf 170, vf 153, vf 158, vf 154, vf 171], .bool true]) (by simp [results, Tryz.results87, go_sem, hc1]) rfl ⟨rfl, below5 (belowA hb) (Nat.le_refl _) _ _ _ _ _⟩
theorem ro_99 (w : World) : Calls Tryz.prog 87 #[.int .i64 99] w fun e w' => e = .returned (.tuple #[.agg #[vf 143, vf 154, vf 158, vf 163, vf 172], .bool true]) ∧ Below w.heap.size w w' := by
  have hsf := st_func Tryz.prog
  have hb16 : bits .and .i64 99 16 = 0 := by decide
  go_enter Tryz.func87, Tryz.ntmps87
  go_wp2_with (first | (go_at_call 109; refine (mo_99 _).mono ?_; rintro e w1 ⟨rfl, hb⟩; obtain ⟨hc1, hf1⟩ := bcell hb))
  exact bodyPost_ret (v := .tuple #[.agg #[vf 143, vf 154, vf 158, vf 163, vf 172], .bool true]) (by simp [results, Tryz.results87, go_sem, hc1]) rfl ⟨rfl, below5 (belowA hb) (Nat.le_refl _) _ _ _ _ _⟩
theorem ro_3 (w : World) : Calls Tryz.prog 87 #[.int .i64 3] w fun e w' => e = .returned (.tuple #[.agg #[vf 144, vf 153, vf 158, vf 154, vf 171], .bool true]) ∧ Below w.heap.size w w' := by
  have hsf := st_func Tryz.prog
  have hb16 : bits .and .i64 3 16 = 0 := by decide
  go_enter Tryz.func87, Tryz.ntmps87
  go_wp2_with (first | (go_at_call 109; refine (mo_3 _).mono ?_; rintro e w1 ⟨rfl, hb⟩; obtain ⟨hc1, hf1⟩ := bcell hb))
  exact bodyPost_ret (v := .tuple #[.agg #[vf 144, vf 153, vf 158, vf 154, vf 171], .bool true]) (by simp [results, Tryz.results87, go_sem, hc1]) rfl ⟨rfl, below5 (belowA hb) (Nat.le_refl _) _ _ _ _ _⟩
theorem ro_35 (w : World) : Calls Tryz.prog 87 #[.int .i64 35] w fun e w' => e = .returned (.tuple #[.agg #[vf 145, vf 154, vf 158, vf 163, vf 173], .bool true]) ∧ Below w.heap.size w w' := by
  have hsf := st_func Tryz.prog
  have hb16 : bits .and .i64 35 16 = 0 := by decide
  go_enter Tryz.func87, Tryz.ntmps87
  go_wp2_with (first | (go_at_call 109; refine (mo_35 _).mono ?_; rintro e w1 ⟨rfl, hb⟩; obtain ⟨hc1, hf1⟩ := bcell hb))
  exact bodyPost_ret (v := .tuple #[.agg #[vf 145, vf 154, vf 158, vf 163, vf 173], .bool true]) (by simp [results, Tryz.results87, go_sem, hc1]) rfl ⟨rfl, below5 (belowA hb) (Nat.le_refl _) _ _ _ _ _⟩
theorem ro_15 (w : World) : Calls Tryz.prog 87 #[.int .i64 15] w fun e w' => e = .returned (.tuple #[.agg #[vf 174, vf 154, vf 154, vf 154, vf 154], .bool true]) ∧ Below w.heap.size w w' := by
  have hsf := st_func Tryz.prog
  have hb16 : bits .and .i64 15 16 = 0 := by decide
  go_enter Tryz.func87, Tryz.ntmps87
  go_wp2_with (first | (go_at_call 109; refine (mo_15 _).mono ?_; rintro e w1 ⟨rfl, hb⟩; obtain ⟨hc1, hf1⟩ := bcell hb))
  exact bodyPost_ret (v := .tuple #[.agg #[vf 174, vf 154, vf 154, vf 154, vf 154], .bool true]) (by simp [results, Tryz.results87, go_sem, hc1]) rfl ⟨rfl, below5 (belowA hb) (Nat.le_refl _) _ _ _ _ _⟩
theorem ro_47 (w : World) : Calls Tryz.prog 87 #[.int .i64 47] w fun e w' => e = .returned (.tuple #[.agg #[vf 148, vf 153, vf 158, vf 163, vf 154], .bool true]) ∧ Below w.heap.size w w' := by
  have hsf := st_func Tryz.prog
  have hb16 : bits .and .i64 47 16 = 0 := by decide
  go_enter Tryz.func87, Tryz.ntmps87
  go_wp2_with (first | (go_at_call 109; refine (mo_47 _).mono ?_; rintro e w1 ⟨rfl, hb⟩; obtain ⟨hc1, hf1⟩ := bcell hb))
  exact bodyPost_ret (v := .tuple #[.agg #[vf 148, vf 153, vf 158, vf 163, vf 154], .bool true]) (by simp [results, Tryz.results87, go_sem, hc1]) rfl ⟨rfl, below5 (belowA hb) (Nat.le_refl _) _ _ _ _ _⟩
theorem ro_none (a : Int) (h55 : a ≠ 55) (h23 : a ≠ 23) (h19 : a ≠ 19) (h27 : a ≠ 27) (h51 : a ≠ 51) (h59 : a ≠ 59) (h115 : a ≠ 115) (h111 : a ≠ 111) (h103 : a ≠ 103) (h99 : a ≠ 99) (h3 : a ≠ 3) (h35 : a ≠ 35) (h15 : a ≠ 15) (h47 : a ≠ 47) (w : World) : Calls Tryz.prog 87 #[.int .i64 a] w fun e w' => e = .returned (.tuple #[.agg #[.nilFunc, .nilFunc, .nilFunc, .nilFunc, .nilFunc], .bool false]) ∧ Below w.heap.size w w' := by
  have hsf := st_func Tryz.prog
  have hsn := st_nilFunc Tryz.prog
  have cc := ca_none a h55 h23 h19 h27 h51 h59 h115
  have cm := mo_none a h111 h103 h99 h3 h35 h15 h47
  clear h55 h23 h19 h27 h51 h59 h115 h111 h103 h99 h3 h35 h15 h47
  go_enter Tryz.func87, Tryz.ntmps87
  go_wp2_with (first | (go_at_call 108; refine (cc _).mono ?_; rintro e w1 ⟨rfl, hb⟩; obtain ⟨hc1, hf1⟩ := bcell hb) | (go_at_call 109; refine (cm _).mono ?_; rintro e w1 ⟨rfl, hb⟩; obtain ⟨hc1, hf1⟩ := bcell hb))
  all_goals exact bodyPost_ret (v := .tuple #[.agg #[.nilFunc, .nilFunc, .nilFunc, .nilFunc, .nilFunc], .bool false]) (by simp [results, Tryz.results87, go_sem, hc1]) rfl ⟨rfl, below5 (belowA hb) (Nat.le_refl _) _ _ _ _ _⟩
set_option maxHeartbeats 2000000 in
theorem read_ok (a op : Int) (n0 n1 n2 n3 n4 : Nat) (i : I) (rd r1 r2 im : Int) (w : World) (hG : G w)
    (e0 : ∀ args w, (callFunc n0 args).run Tryz.prog w = .ok (.enter n0 args) w)
    (e1 : ∀ args w, (callFunc n1 args).run Tryz.prog w = .ok (.enter n1 args) w)
    (e2 : ∀ args w, (callFunc n2 args).run Tryz.prog w = .ok (.enter n2 args) w)
    (e3 : ∀ args w, (callFunc n3 args).run Tryz.prog w = .ok (.enter n3 args) w)
    (e4 : ∀ args w, (callFunc n4 args).run Tryz.prog w = .ok (.enter n4 args) w)
    (hop : ∀ w, Calls Tryz.prog 88 #[.int .u32 a] w fun e w' => e = .returned (.int .i64 op) ∧ w' = w)
    (hrow : ∀ w, Calls Tryz.prog 87 #[.int .i64 op] w fun e w' => e = .returned (.tuple #[.agg #[Value.func (Fn.func n0) #[] #[], Value.func (Fn.func n1) #[] #[], Value.func (Fn.func n2) #[] #[], Value.func (Fn.func n3) #[] #[], Value.func (Fn.func n4) #[] #[]], .bool true]) ∧ Below w.heap.size w w')
    (hname : ∀ w, G w → Calls Tryz.prog n0 #[.int .u32 a] w fun e w' => e = .returned (.tuple #[i.v, .bool true]) ∧ Below w.heap.size w w')
    (hrd : ∀ w, Calls Tryz.prog n1 #[.int .u32 a] w fun e w' => e = .returned (.int .i64 rd) ∧ w' = w)
    (hr1 : ∀ w, Calls Tryz.prog n2 #[.int .u32 a] w fun e w' => e = .returned (.int .i64 r1) ∧ w' = w)
    (hr2 : ∀ w, Calls Tryz.prog n3 #[.int .u32 a] w fun e w' => e = .returned (.int .i64 r2) ∧ w' = w)
    (him : ∀ w, Calls Tryz.prog n4 #[.int .u32 a] w fun e w' => e = .returned (.int .i64 im) ∧ w' = w) :
    Calls Tryz.prog 65 #[.int .u32 a] w fun e w' => e = .returned (.tuple #[I.v ⟨i.kind, i.fn, rd, r1, r2, im, i.size, i.sg⟩, .bool true]) ∧ Below w.heap.size w w' := by
  have hsf := st_func Tryz.prog
  have hg2 : ∀ {w1 : World} {o o' : Obj}, Below (w.alloc o).heap.size (w.alloc o) w1 → G (w1.alloc o') := fun hb => (hG.below (belowA hb)).alloc _
  go_enter Tryz.func65, Tryz.ntmps65
  go_wp2_with (first | (go_at_call 88; refine (hop _).mono ?_; rintro e w' ⟨rfl, rfl⟩) | (go_at_call 87; refine (hrow _).mono ?_; rintro e w1 ⟨rfl, hb⟩; obtain ⟨hc1, hf1⟩ := bcell hb; have hz1 := belowS hb) | (refine (hname _ (hg2 hb)).mono ?_; rintro e w2 ⟨rfl, hb2⟩; obtain ⟨hc2, hf2⟩ := bcell hb2; have hz2 := belowS hb2; have hz3 := Nat.lt_trans hz1 hz2))
  refine wp_region_any (by kernel_rfl) ?_
  refine wpAny_inv (fun listed fr wr => ∃ b0 b1 b2 b3 b4 b5 b6 b7 b8 b9 b10 b11 b12 b13 b14 b15 b16 b17 b18 b19 b20 b21 b22 b23 : Bool, listed = #[b0, b1, b2, b3, b4, b5, b6, b7, b8, b9, b10, b11, b12, b13, b14, b15, b16, b17, b18, b19, b20, b21, b22, b23] ∧ fr = ⟨List.toArray (Value.int IntKind.u32 a :: undef :: Value.pointer (some ⟨w.heap.size, 0, none⟩) :: .bool false :: Value.pointer (some ⟨w1.heap.size, 0, none⟩) :: .bool true :: Value.pointer (some ⟨w2.heap.size, 0, none⟩) :: Value.tuple #[.agg #[Value.func (Fn.func n0) #[] #[], Value.func (Fn.func n1) #[] #[], Value.func (Fn.func n2) #[] #[], Value.func (Fn.func n3) #[] #[], Value.func (Fn.func n4) #[] #[]], .bool true] :: Value.int IntKind.u32 a :: .int .i64 op :: Value.tuple #[.agg #[Value.func (Fn.func n0) #[] #[], Value.func (Fn.func n1) #[] #[], Value.func (Fn.func n2) #[] #[], Value.func (Fn.func n3) #[] #[], Value.func (Fn.func n4) #[] #[]], .bool true] :: .agg #[Value.func (Fn.func n0) #[] #[], Value.func (Fn.func n1) #[] #[], Value.func (Fn.func n2) #[] #[], Value.func (Fn.func n3) #[] #[], Value.func (Fn.func n4) #[] #[]] :: .bool true :: .bool true :: .bool false :: undef :: Value.tuple #[i.v, .bool true] :: Value.pointer (some ⟨w1.heap.size, 0, none⟩) :: Value.func (Fn.func n0) #[] #[] :: Value.int IntKind.u32 a :: Value.tuple #[i.v, .bool true] :: i.v :: .bool true :: .bool true :: .bool false :: undef :: sv b0 (Value.pointer (some ⟨w1.heap.size, 1, none⟩)) :: sv b1 (Value.func (Fn.func n1) #[] #[]) :: sv b2 (Value.int IntKind.u32 a) :: sv b3 (.int .i64 rd) :: sv b4 (Value.pointer (some ⟨w1.heap.size, 2, none⟩)) :: sv b5 (Value.func (Fn.func n2) #[] #[]) :: sv b6 (Value.int IntKind.u32 a) :: sv b7 (.int .i64 r1) :: sv b8 (Value.pointer (some ⟨w1.heap.size, 3, none⟩)) :: sv b9 (Value.func (Fn.func n3) #[] #[]) :: sv b10 (Value.int IntKind.u32 a) :: sv b11 (.int .i64 r2) :: sv b12 (Value.pointer (some ⟨w1.heap.size, 4, none⟩)) :: sv b13 (Value.func (Fn.func n4) #[] #[]) :: sv b14 (Value.int IntKind.u32 a) :: sv b15 (.int .i64 im) :: sv b16 (Value.pointer (some ⟨w2.heap.size, 2, none⟩)) :: sv b18 (Value.pointer (some ⟨w2.heap.size, 3, none⟩)) :: sv b20 (Value.pointer (some ⟨w2.heap.size, 4, none⟩)) :: sv b22 (Value.pointer (some ⟨w2.heap.size, 5, none⟩)) :: undef :: []), []⟩ ∧ wr = (w2.alloc (Obj.cells #[.int .i64 i.kind, .int .i64 i.fn, .int .i64 (ci b17 rd i.rd), .int .i64 (ci b19 r1 i.rs1), .int .i64 (ci b21 r2 i.rs2), .int .i64 (ci b23 im i.imm), .int .i64 i.size, .bool i.sg] 92)).drew) ?step ?fin _ _ _ _ (by simp) ?start
  case start => exact ⟨false, false, false, false, false, false, false, false, false, false, false, false, false, false, false, false, false, false, false, false, false, false, false, false, rfl, rfl, rfl⟩
  case fin =>
    rintro listed fr wr ⟨b0, b1, b2, b3, b4, b5, b6, b7, b8, b9, b10, b11, b12, b13, b14, b15, b16, b17, b18, b19, b20, b21, b22, b23, rfl, rfl, rfl⟩ hr
    obtain rfl : b0 = true := by
      cases b0 with
      | true => rfl
      | false => exact (ready_no hr (j := 0) rfl rfl (by kernel_rfl)).elim
    obtain rfl : b1 = true := by
      cases b1 with
      | true => rfl
      | false => exact (ready_no hr (j := 1) rfl rfl (by kernel_rfl)).elim
    obtain rfl : b2 = true := by
      cases b2 with
      | true => rfl
      | false => exact (ready_no hr (j := 2) rfl rfl (by kernel_rfl)).elim
    obtain rfl : b3 = true := by
      cases b3 with
      | true => rfl
      | false => exact (ready_no hr (j := 3) rfl rfl (by kernel_rfl)).elim
    obtain rfl : b4 = true := by
      cases b4 with
      | true => rfl
      | false => exact (ready_no hr (j := 4) rfl rfl (by kernel_rfl)).elim
    obtain rfl : b5 = true := by
      cases b5 with
      | true => rfl
      | false => exact (ready_no hr (j := 5) rfl rfl (by kernel_rfl)).elim
    obtain rfl : b6 = true := by
      cases b6 with
      | true => rfl
      | false => exact (ready_no hr (j := 6) rfl rfl (by kernel_rfl)).elim
    obtain rfl : b7 = true := by
      cases b7 with
      | true => rfl
      | false => exact (ready_no hr (j := 7) rfl rfl (by kernel_rfl)).elim
    obtain rfl : b8 = true := by
      cases b8 with
      | true => rfl
      | false => exact (ready_no hr (j := 8) rfl rfl (by kernel_rfl)).elim
    obtain rfl : b9 = true := by
      cases b9 with
      | true => rfl
      | false => exact (ready_no hr (j := 9) rfl rfl (by kernel_rfl)).elim
    obtain rfl : b10 = true := by
      cases b10 with
      | true => rfl
      | false => exact (ready_no hr (j := 10) rfl rfl (by kernel_rfl)).elim
    obtain rfl : b11 = true := by
      cases b11 with
      | true => rfl
      | false => exact (ready_no hr (j := 11) rfl rfl (by kernel_rfl)).elim
    obtain rfl : b12 = true := by
      cases b12 with
      | true => rfl
      | false => exact (ready_no hr (j := 12) rfl rfl (by kernel_rfl)).elim
    obtain rfl : b13 = true := by
      cases b13 with
      | true => rfl
      | false => exact (ready_no hr (j := 13) rfl rfl (by kernel_rfl)).elim
    obtain rfl : b14 = true := by
      cases b14 with
      | true => rfl
      | false => exact (ready_no hr (j := 14) rfl rfl (by kernel_rfl)).elim
    obtain rfl : b15 = true := by
      cases b15 with
      | true => rfl
      | false => exact (ready_no hr (j := 15) rfl rfl (by kernel_rfl)).elim
    obtain rfl : b16 = true := by
      cases b16 with
      | true => rfl
      | false => exact (ready_no hr (j := 16) rfl rfl (by kernel_rfl)).elim
    obtain rfl : b17 = true := by
      cases b17 with
      | true => rfl
      | false => exact (ready_no hr (j := 17) rfl rfl (by kernel_rfl)).elim
    obtain rfl : b18 = true := by
      cases b18 with
      | true => rfl
      | false => exact (ready_no hr (j := 18) rfl rfl (by kernel_rfl)).elim
    obtain rfl : b19 = true := by
      cases b19 with
      | true => rfl
      | false => exact (ready_no hr (j := 19) rfl rfl (by kernel_rfl)).elim
    obtain rfl : b20 = true := by
      cases b20 with
      | true => rfl
      | false => exact (ready_no hr (j := 20) rfl rfl (by kernel_rfl)).elim
    obtain rfl : b21 = true := by
      cases b21 with
      | true => rfl
      | false => exact (ready_no hr (j := 21) rfl rfl (by kernel_rfl)).elim
    obtain rfl : b22 = true := by
      cases b22 with
      | true => rfl
      | false => exact (ready_no hr (j := 22) rfl rfl (by kernel_rfl)).elim
    obtain rfl : b23 = true := by
      cases b23 with
      | true => rfl
      | false => exact (ready_no hr (j := 23) rfl rfl (by kernel_rfl)).elim
    simp only [sv, ci]
    go_wp2
    exact bodyPost_ret (v := .tuple #[I.v ⟨i.kind, i.fn, rd, r1, r2, im, i.size, i.sg⟩, .bool true]) (by simp [results, Tryz.results65, go_sem, cell2 hb hb2, hz3]) rfl ⟨rfl, ((below8 ((belowA hb).trans ((belowA hb2).mono (Nat.le_of_lt hz1))) (Nat.le_refl _) _ _ _ _ _ _ _ _).alloc (by simp; omega) _).drew⟩
  case step =>
    rintro listed fr wr ⟨b0, b1, b2, b3, b4, b5, b6, b7, b8, b9, b10, b11, b12, b13, b14, b15, b16, b17, b18, b19, b20, b21, b22, b23, rfl, rfl, rfl⟩ j hj
    obtain ⟨hl, o, ho, he⟩ := mem_ready.1 hj
    clear hj
    match j, ho, hl, he with
    | 0, ho, hl, he =>
      obtain rfl := Option.some.inj ho
      simp [Region.binds] at hl he
      clear ho
      have hsv : ∀ v, sv true v = v := fun _ => rfl
      refine wpOp_step rfl (fun K hK => ?_)
      go_simp
      refine hK _ _ ⟨true, b1, b2, b3, b4, b5, b6, b7, b8, b9, b10, b11, b12, b13, b14, b15, b16, b17, b18, b19, b20, b21, b22, b23, rfl, ?_, ?_⟩ <;> simp [sv, ci]
    | 1, ho, hl, he =>
      obtain rfl := Option.some.inj ho
      simp [Region.binds] at hl he
      clear ho
      have hsv : ∀ v, sv true v = v := fun _ => rfl
      refine wpOp_step rfl (fun K hK => ?_)
      go_simp
      refine hK _ _ ⟨b0, true, b2, b3, b4, b5, b6, b7, b8, b9, b10, b11, b12, b13, b14, b15, b16, b17, b18, b19, b20, b21, b22, b23, rfl, ?_, ?_⟩ <;> simp [sv, ci, he]
    | 2, ho, hl, he =>
      obtain rfl := Option.some.inj ho
      simp [Region.binds] at hl he
      clear ho
      have hsv : ∀ v, sv true v = v := fun _ => rfl
      refine wpOp_step rfl (fun K hK => ?_)
      go_simp
      refine hK _ _ ⟨b0, b1, true, b3, b4, b5, b6, b7, b8, b9, b10, b11, b12, b13, b14, b15, b16, b17, b18, b19, b20, b21, b22, b23, rfl, ?_, ?_⟩ <;> simp [sv, ci]
    | 3, ho, hl, he =>
      obtain rfl := Option.some.inj ho
      simp [Region.binds] at hl he
      clear ho
      have hsv : ∀ v, sv true v = v := fun _ => rfl
      refine wpOp_step rfl (fun K hK => ?_)
      go_simp
      refine (hrd _).mono ?_
      rintro e w' ⟨rfl, rfl⟩
      refine hK _ _ ⟨b0, b1, b2, true, b4, b5, b6, b7, b8, b9, b10, b11, b12, b13, b14, b15, b16, b17, b18, b19, b20, b21, b22, b23, rfl, ?_, ?_⟩ <;> simp [sv, ci, he]
    | 4, ho, hl, he =>
      obtain rfl := Option.some.inj ho
      simp [Region.binds] at hl he
      clear ho
      have hsv : ∀ v, sv true v = v := fun _ => rfl
      refine wpOp_step rfl (fun K hK => ?_)
      go_simp
      refine hK _ _ ⟨b0, b1, b2, b3, true, b5, b6, b7, b8, b9, b10, b11, b12, b13, b14, b15, b16, b17, b18, b19, b20, b21, b22, b23, rfl, ?_, ?_⟩ <;> simp [sv, ci]
    | 5, ho, hl, he =>
      obtain rfl := Option.some.inj ho
      simp [Region.binds] at hl he
      clear ho
      have hsv : ∀ v, sv true v = v := fun _ => rfl
      refine wpOp_step rfl (fun K hK => ?_)
      go_simp
      refine hK _ _ ⟨b0, b1, b2, b3, b4, true, b6, b7, b8, b9, b10, b11, b12, b13, b14, b15, b16, b17, b18, b19, b20, b21, b22, b23, rfl, ?_, ?_⟩ <;> simp [sv, ci, he]
    | 6, ho, hl, he =>
      obtain rfl := Option.some.inj ho
      simp [Region.binds] at hl he
      clear ho
      have hsv : ∀ v, sv true v = v := fun _ => rfl
      refine wpOp_step rfl (fun K hK => ?_)
      go_simp
      refine hK _ _ ⟨b0, b1, b2, b3, b4, b5, true, b7, b8, b9, b10, b11, b12, b13, b14, b15, b16, b17, b18, b19, b20, b21, b22, b23, rfl, ?_, ?_⟩ <;> simp [sv, ci]
    | 7, ho, hl, he =>
      obtain rfl := Option.some.inj ho
      simp [Region.binds] at hl he
      clear ho
      have hsv : ∀ v, sv true v = v := fun _ => rfl
      refine wpOp_step rfl (fun K hK => ?_)
      go_simp
      refine (hr1 _).mono ?_
      rintro e w' ⟨rfl, rfl⟩
      refine hK _ _ ⟨b0, b1, b2, b3, b4, b5, b6, true, b8, b9, b10, b11, b12, b13, b14, b15, b16, b17, b18, b19, b20, b21, b22, b23, rfl, ?_, ?_⟩ <;> simp [sv, ci, he]
    | 8, ho, hl, he =>
      obtain rfl := Option.some.inj ho
      simp [Region.binds] at hl he
      clear ho
      have hsv : ∀ v, sv true v = v := fun _ => rfl
      refine wpOp_step rfl (fun K hK => ?_)
      go_simp
      refine hK _ _ ⟨b0, b1, b2, b3, b4, b5, b6, b7, true, b9, b10, b11, b12, b13, b14, b15, b16, b17, b18, b19, b20, b21, b22, b23, rfl, ?_, ?_⟩ <;> simp [sv, ci]
    | 9, ho, hl, he =>
      obtain rfl := Option.some.inj ho
      simp [Region.binds] at hl he
      clear ho
      have hsv : ∀ v, sv true v = v := fun _ => rfl
      refine wpOp_step rfl (fun K hK => ?_)
      go_simp
      refine hK _ _ ⟨b0, b1, b2, b3, b4, b5, b6, b7, b8, true, b10, b11, b12, b13, b14, b15, b16, b17, b18, b19, b20, b21, b22, b23, rfl, ?_, ?_⟩ <;> simp [sv, ci, he]
    | 10, ho, hl, he =>
      obtain rfl := Option.some.inj ho
      simp [Region.binds] at hl he
      clear ho
      have hsv : ∀ v, sv true v = v := fun _ => rfl
      refine wpOp_step rfl (fun K hK => ?_)
      go_simp
      refine hK _ _ ⟨b0, b1, b2, b3, b4, b5, b6, b7, b8, b9, true, b11, b12, b13, b14, b15, b16, b17, b18, b19, b20, b21, b22, b23, rfl, ?_, ?_⟩ <;> simp [sv, ci]
    | 11, ho, hl, he =>
      obtain rfl := Option.some.inj ho
      simp [Region.binds] at hl he
      clear ho
      have hsv : ∀ v, sv true v = v := fun _ => rfl
      refine wpOp_step rfl (fun K hK => ?_)
      go_simp
      refine (hr2 _).mono ?_
      rintro e w' ⟨rfl, rfl⟩
      refine hK _ _ ⟨b0, b1, b2, b3, b4, b5, b6, b7, b8, b9, b10, true, b12, b13, b14, b15, b16, b17, b18, b19, b20, b21, b22, b23, rfl, ?_, ?_⟩ <;> simp [sv, ci, he]
    | 12, ho, hl, he =>
      obtain rfl := Option.some.inj ho
      simp [Region.binds] at hl he
      clear ho
      have hsv : ∀ v, sv true v = v := fun _ => rfl
      refine wpOp_step rfl (fun K hK => ?_)
      go_simp
      refine hK _ _ ⟨b0, b1, b2, b3, b4, b5, b6, b7, b8, b9, b10, b11, true, b13, b14, b15, b16, b17, b18, b19, b20, b21, b22, b23, rfl, ?_, ?_⟩ <;> simp [sv, ci]
    | 13, ho, hl, he =>
      obtain rfl := Option.some.inj ho
      simp [Region.binds] at hl he
      clear ho
      have hsv : ∀ v, sv true v = v := fun _ => rfl
      refine wpOp_step rfl (fun K hK => ?_)
      go_simp
      refine hK _ _ ⟨b0, b1, b2, b3, b4, b5, b6, b7, b8, b9, b10, b11, b12, true, b14, b15, b16, b17, b18, b19, b20, b21, b22, b23, rfl, ?_, ?_⟩ <;> simp [sv, ci, he]
    | 14, ho, hl, he =>
      obtain rfl := Option.some.inj ho
      simp [Region.binds] at hl he
      clear ho
      have hsv : ∀ v, sv true v = v := fun _ => rfl
      refine wpOp_step rfl (fun K hK => ?_)
      go_simp
      refine hK _ _ ⟨b0, b1, b2, b3, b4, b5, b6, b7, b8, b9, b10, b11, b12, b13, true, b15, b16, b17, b18, b19, b20, b21, b22, b23, rfl, ?_, ?_⟩ <;> simp [sv, ci]
    | 15, ho, hl, he =>
      obtain rfl := Option.some.inj ho
      simp [Region.binds] at hl he
      clear ho
      have hsv : ∀ v, sv true v = v := fun _ => rfl
      refine wpOp_step rfl (fun K hK => ?_)
      go_simp
      refine (him _).mono ?_
      rintro e w' ⟨rfl, rfl⟩
      refine hK _ _ ⟨b0, b1, b2, b3, b4, b5, b6, b7, b8, b9, b10, b11, b12, b13, b14, true, b16, b17, b18, b19, b20, b21, b22, b23, rfl, ?_, ?_⟩ <;> simp [sv, ci, he]
    | 16, ho, hl, he =>
      obtain rfl := Option.some.inj ho
      simp [Region.binds] at hl he
      clear ho
      have hsv : ∀ v, sv true v = v := fun _ => rfl
      refine wpOp_step rfl (fun K hK => ?_)
      go_simp
      refine hK _ _ ⟨b0, b1, b2, b3, b4, b5, b6, b7, b8, b9, b10, b11, b12, b13, b14, b15, true, b17, b18, b19, b20, b21, b22, b23, rfl, ?_, ?_⟩ <;> simp [sv, ci, he]
    | 17, ho, hl, he =>
      obtain rfl := Option.some.inj ho
      simp [Region.binds] at hl he
      clear ho
      have hsv : ∀ v, sv true v = v := fun _ => rfl
      refine wpOp_step rfl (fun K hK => ?_)
      go_simp
      refine hK _ _ ⟨b0, b1, b2, b3, b4, b5, b6, b7, b8, b9, b10, b11, b12, b13, b14, b15, b16, true, b18, b19, b20, b21, b22, b23, rfl, ?_, ?_⟩ <;> simp [sv, ci, he]
    | 18, ho, hl, he =>
      obtain rfl := Option.some.inj ho
      simp [Region.binds] at hl he
      clear ho
      have hsv : ∀ v, sv true v = v := fun _ => rfl
      refine wpOp_step rfl (fun K hK => ?_)
      go_simp
      refine hK _ _ ⟨b0, b1, b2, b3, b4, b5, b6, b7, b8, b9, b10, b11, b12, b13, b14, b15, b16, b17, true, b19, b20, b21, b22, b23, rfl, ?_, ?_⟩ <;> simp [sv, ci, he]
    | 19, ho, hl, he =>
      obtain rfl := Option.some.inj ho
      simp [Region.binds] at hl he
      clear ho
      have hsv : ∀ v, sv true v = v := fun _ => rfl
      refine wpOp_step rfl (fun K hK => ?_)
      go_simp
      refine hK _ _ ⟨b0, b1, b2, b3, b4, b5, b6, b7, b8, b9, b10, b11, b12, b13, b14, b15, b16, b17, b18, true, b20, b21, b22, b23, rfl, ?_, ?_⟩ <;> simp [sv, ci, he]
    | 20, ho, hl, he =>
      obtain rfl := Option.some.inj ho
      simp [Region.binds] at hl he
      clear ho
      have hsv : ∀ v, sv true v = v := fun _ => rfl
      refine wpOp_step rfl (fun K hK => ?_)
      go_simp
      refine hK _ _ ⟨b0, b1, b2, b3, b4, b5, b6, b7, b8, b9, b10, b11, b12, b13, b14, b15, b16, b17, b18, b19, true, b21, b22, b23, rfl, ?_, ?_⟩ <;> simp [sv, ci, he]
    | 21, ho, hl, he =>
      obtain rfl := Option.some.inj ho
      simp [Region.binds] at hl he
      clear ho
      have hsv : ∀ v, sv true v = v := fun _ => rfl
      refine wpOp_step rfl (fun K hK => ?_)
      go_simp
      refine hK _ _ ⟨b0, b1, b2, b3, b4, b5, b6, b7, b8, b9, b10, b11, b12, b13, b14, b15, b16, b17, b18, b19, b20, true, b22, b23, rfl, ?_, ?_⟩ <;> simp [sv, ci, he]
    | 22, ho, hl, he =>
      obtain rfl := Option.some.inj ho
      simp [Region.binds] at hl he
      clear ho
      have hsv : ∀ v, sv true v = v := fun _ => rfl
      refine wpOp_step rfl (fun K hK => ?_)
      go_simp
      refine hK _ _ ⟨b0, b1, b2, b3, b4, b5, b6, b7, b8, b9, b10, b11, b12, b13, b14, b15, b16, b17, b18, b19, b20, b21, true, b23, rfl, ?_, ?_⟩ <;> simp [sv, ci, he]
    | 23, ho, hl, he =>
      obtain rfl := Option.some.inj ho
      simp [Region.binds] at hl he
      clear ho
      have hsv : ∀ v, sv true v = v := fun _ => rfl
      refine wpOp_step rfl (fun K hK => ?_)
      go_simp
      refine hK _ _ ⟨b0, b1, b2, b3, b4, b5, b6, b7, b8, b9, b10, b11, b12, b13, b14, b15, b16, b17, b18, b19, b20, b21, b22, true, rfl, ?_, ?_⟩ <;> simp [sv, ci, he]
    | n + 24, ho, hl, he => simp at ho
theorem read_no (a op : Int) (n0 n1 n2 n3 n4 : Nat) (i : I) (rd r1 r2 im : Int) (w : World) (hG : G w)
    (e0 : ∀ args w, (callFunc n0 args).run Tryz.prog w = .ok (.enter n0 args) w)
    (e1 : ∀ args w, (callFunc n1 args).run Tryz.prog w = .ok (.enter n1 args) w)
    (e2 : ∀ args w, (callFunc n2 args).run Tryz.prog w = .ok (.enter n2 args) w)
    (e3 : ∀ args w, (callFunc n3 args).run Tryz.prog w = .ok (.enter n3 args) w)
    (e4 : ∀ args w, (callFunc n4 args).run Tryz.prog w = .ok (.enter n4 args) w)
    (hop : ∀ w, Calls Tryz.prog 88 #[.int .u32 a] w fun e w' => e = .returned (.int .i64 op) ∧ w' = w)
    (hrow : ∀ w, Calls Tryz.prog 87 #[.int .i64 op] w fun e w' => e = .returned (.tuple #[.agg #[Value.func (Fn.func n0) #[] #[], Value.func (Fn.func n1) #[] #[], Value.func (Fn.func n2) #[] #[], Value.func (Fn.func n3) #[] #[], Value.func (Fn.func n4) #[] #[]], .bool true]) ∧ Below w.heap.size w w')
    (hname : ∀ w, G w → Calls Tryz.prog n0 #[.int .u32 a] w fun e w' => e = .returned (.tuple #[i.v, .bool false]) ∧ Below w.heap.size w w') :
    Calls Tryz.prog 65 #[.int .u32 a] w fun e w' => e = .returned (.tuple #[I.zero.v, .bool false]) ∧ Below w.heap.size w w' := by
  have hsf := st_func Tryz.prog
  have hg2 : ∀ {w1 : World} {o o' : Obj}, Below (w.alloc o).heap.size (w.alloc o) w1 → G (w1.alloc o') := fun hb => (hG.below (belowA hb)).alloc _
  go_enter Tryz.func65, Tryz.ntmps65
  go_wp2_with (first | (go_at_call 88; refine (hop _).mono ?_; rintro e w' ⟨rfl, rfl⟩) | (go_at_call 87; refine (hrow _).mono ?_; rintro e w1 ⟨rfl, hb⟩; obtain ⟨hc1, hf1⟩ := bcell hb; have hz1 := belowS hb) | (refine (hname _ (hg2 hb)).mono ?_; rintro e w2 ⟨rfl, hb2⟩; obtain ⟨hc2, hf2⟩ := bcell hb2; have hz2 := belowS hb2; have hz3 := Nat.lt_trans hz1 hz2))
  exact bodyPost_ret (v := .tuple #[I.zero.v, .bool false]) (by simp [results, Tryz.results65, go_sem, I.zero, cell2 hb hb2, hz3]) rfl ⟨rfl, (below8 ((belowA hb).trans ((belowA hb2).mono (Nat.le_of_lt hz1))) (Nat.le_refl _) _ _ _ _ _ _ _ _).alloc (by simp; omega) _⟩
theorem read_none (a op : Int) (w : World)
    (hop : ∀ w, Calls Tryz.prog 88 #[.int .u32 a] w fun e w' => e = .returned (.int .i64 op) ∧ w' = w)
    (hrow : ∀ w, Calls Tryz.prog 87 #[.int .i64 op] w fun e w' => e = .returned (.tuple #[.agg #[.nilFunc, .nilFunc, .nilFunc, .nilFunc, .nilFunc], .bool false]) ∧ Below w.heap.size w w') :
    Calls Tryz.prog 65 #[.int .u32 a] w fun e w' => e = .returned (.tuple #[I.zero.v, .bool false]) ∧ Below w.heap.size w w' := by
  have hsf := st_func Tryz.prog
  have hsn := st_nilFunc Tryz.prog
  go_enter Tryz.func65, Tryz.ntmps65
  go_wp2_with (first | (go_at_call 88; refine (hop _).mono ?_; rintro e w' ⟨rfl, rfl⟩) | (go_at_call 87; refine (hrow _).mono ?_; rintro e w1 ⟨rfl, hb⟩; obtain ⟨hc1, hf1⟩ := bcell hb; have hz1 := belowS hb))
  exact bodyPost_ret (v := .tuple #[I.zero.v, .bool false]) (by simp [results, Tryz.results65, go_sem, I.zero, *]) rfl ⟨rfl, (below8 (belowA hb) (Nat.le_refl _) _ _ _ _ _ _ _ _).alloc (by simp; omega) _⟩
/-- a word whose opcode has a row -/
theorem read_by (a op : Int) (n0 n1 n2 n3 n4 : Nat) (p : I × Bool) (rd r1 r2 im : Int) (w : World) (hG : G w)
    (e0 : ∀ args w, (callFunc n0 args).run Tryz.prog w = .ok (.enter n0 args) w)
    (e1 : ∀ args w, (callFunc n1 args).run Tryz.prog w = .ok (.enter n1 args) w)
    (e2 : ∀ args w, (callFunc n2 args).run Tryz.prog w = .ok (.enter n2 args) w)
    (e3 : ∀ args w, (callFunc n3 args).run Tryz.prog w = .ok (.enter n3 args) w)
    (e4 : ∀ args w, (callFunc n4 args).run Tryz.prog w = .ok (.enter n4 args) w)
    (hop : ∀ w, Calls Tryz.prog 88 #[.int .u32 a] w fun e w' => e = .returned (.int .i64 op) ∧ w' = w)
    (hrow : ∀ w, Calls Tryz.prog 87 #[.int .i64 op] w fun e w' => e = .returned (.tuple #[.agg #[Value.func (Fn.func n0) #[] #[], Value.func (Fn.func n1) #[] #[], Value.func (Fn.func n2) #[] #[], Value.func (Fn.func n3) #[] #[], Value.func (Fn.func n4) #[] #[]], .bool true]) ∧ Below w.heap.size w w')
    (hname : ∀ w, G w → Calls Tryz.prog n0 #[.int .u32 a] w fun e w' => e = .returned (.tuple #[p.1.v, .bool p.2]) ∧ Below w.heap.size w w')
    (hrd : ∀ w, Calls Tryz.prog n1 #[.int .u32 a] w fun e w' => e = .returned (.int .i64 rd) ∧ w' = w)
    (hr1 : ∀ w, Calls Tryz.prog n2 #[.int .u32 a] w fun e w' => e = .returned (.int .i64 r1) ∧ w' = w)
    (hr2 : ∀ w, Calls Tryz.prog n3 #[.int .u32 a] w fun e w' => e = .returned (.int .i64 r2) ∧ w' = w)
    (him : ∀ w, Calls Tryz.prog n4 #[.int .u32 a] w fun e w' => e = .returned (.int .i64 im) ∧ w' = w) :
    Calls Tryz.prog 65 #[.int .u32 a] w fun e w' => e = .returned (.tuple #[(withF p rd r1 r2 im).1.v, .bool (withF p rd r1 r2 im).2]) ∧ Below w.heap.size w w' := by
  obtain ⟨i, b⟩ := p
  cases b
  · exact read_no a op n0 n1 n2 n3 n4 i rd r1 r2 im w hG e0 e1 e2 e3 e4 hop hrow hname
  · exact read_ok a op n0 n1 n2 n3 n4 i rd r1 r2 im w hG e0 e1 e2 e3 e4 hop hrow hname hrd hr1 hr2 him
theorem m_read (a : Int) (h0 : 0 ≤ a) (h1 : a < 4294967296) (w : World) (hG : G w) :
    Calls Tryz.prog 65 #[.int .u32 a] w fun e w' => e = .returned (.tuple #[(D a).1.v, .bool (D a).2]) ∧ Below w.heap.size w w' := by
  have hop := m_op a h0 h1
  unfold D
  by_cases h55 : fOp a = 55
  · rw [if_pos h55]
    rw [h55] at hop
    exact read_by a 55 _ _ _ _ _ (nLui a) (fRd a) (0) (0) (iU a) w hG Tryz.call152 Tryz.call153 Tryz.call154 Tryz.call154 Tryz.call155 hop ro_55 (n_lui a h0 h1) (m_rd a h0 h1) (m_none a h0 h1) (m_none a h0 h1) (m_immU a h0 h1)
  rw [if_neg h55]
  by_cases h23 : fOp a = 23
  · rw [if_pos h23]
    rw [h23] at hop
    exact read_by a 23 _ _ _ _ _ (nAuipc a) (fRd a) (0) (0) (iU a) w hG Tryz.call156 Tryz.call153 Tryz.call154 Tryz.call154 Tryz.call155 hop ro_23 (n_auipc a h0 h1) (m_rd a h0 h1) (m_none a h0 h1) (m_none a h0 h1) (m_immU a h0 h1)
  rw [if_neg h23]
  by_cases h19 : fOp a = 19
  · rw [if_pos h19]
    rw [h19] at hop
    exact read_by a 19 _ _ _ _ _ (nImm a) (fRd a) (fRs1 a) (0) (iOpnd a) w hG Tryz.call157 Tryz.call153 Tryz.call158 Tryz.call154 Tryz.call159 hop ro_19 (n_aluImm a h0 h1) (m_rd a h0 h1) (m_rs1 a h0 h1) (m_none a h0 h1) (m_operand a h0 h1)
  rw [if_neg h19]
  by_cases h27 : fOp a = 27
  · rw [if_pos h27]
    rw [h27] at hop
    exact read_by a 27 _ _ _ _ _ (nImmW a) (fRd a) (fRs1 a) (0) (iOpndW a) w hG Tryz.call160 Tryz.call153 Tryz.call158 Tryz.call154 Tryz.call161 hop ro_27 (n_aluImmW a h0 h1) (m_rd a h0 h1) (m_rs1 a h0 h1) (m_none a h0 h1) (m_operandW a h0 h1)
  rw [if_neg h27]
  by_cases h51 : fOp a = 51
  · rw [if_pos h51]
    rw [h51] at hop
    exact read_by a 51 _ _ _ _ _ (nAlu a) (fRd a) (fRs1 a) (fRs2 a) (0) w hG Tryz.call162 Tryz.call153 Tryz.call158 Tryz.call163 Tryz.call154 hop ro_51 (n_alu a h0 h1) (m_rd a h0 h1) (m_rs1 a h0 h1) (m_rs2 a h0 h1) (m_none a h0 h1)
  rw [if_neg h51]
  by_cases h59 : fOp a = 59
  · rw [if_pos h59]
    rw [h59] at hop
    exact read_by a 59 _ _ _ _ _ (nAluW a) (fRd a) (fRs1 a) (fRs2 a) (0) w hG Tryz.call164 Tryz.call153 Tryz.call158 Tryz.call163 Tryz.call154 hop ro_59 (n_aluW a h0 h1) (m_rd a h0 h1) (m_rs1 a h0 h1) (m_rs2 a h0 h1) (m_none a h0 h1)
  rw [if_neg h59]
  by_cases h115 : fOp a = 115
  · rw [if_pos h115]
    rw [h115] at hop
    exact read_by a 115 _ _ _ _ _ (nSys a) (fRd a) (fRs1 a) (rSpace a) (iCsr a) w hG Tryz.call165 Tryz.call153 Tryz.call158 Tryz.call166 Tryz.call167 hop ro_115 (n_system a h0 h1) (m_rd a h0 h1) (m_rs1 a h0 h1) (m_space a h0 h1) (m_csr a h0 h1)
  rw [if_neg h115]
  by_cases h111 : fOp a = 111
  · rw [if_pos h111]
    rw [h111] at hop
    exact read_by a 111 _ _ _ _ _ (nJal a) (fRd a) (0) (0) (iJ a) w hG Tryz.call168 Tryz.call153 Tryz.call154 Tryz.call154 Tryz.call169 hop ro_111 (n_jal a h0 h1) (m_rd a h0 h1) (m_none a h0 h1) (m_none a h0 h1) (m_immJ a h0 h1)
  rw [if_neg h111]
  by_cases h103 : fOp a = 103
  · rw [if_pos h103]
    rw [h103] at hop
    exact read_by a 103 _ _ _ _ _ (nJalr a) (fRd a) (fRs1 a) (0) (iI a) w hG Tryz.call170 Tryz.call153 Tryz.call158 Tryz.call154 Tryz.call171 hop ro_103 (n_jalr a h0 h1) (m_rd a h0 h1) (m_rs1 a h0 h1) (m_none a h0 h1) (m_immI a h0 h1)
  rw [if_neg h103]
  by_cases h99 : fOp a = 99
  · rw [if_pos h99]
    rw [h99] at hop
    exact read_by a 99 _ _ _ _ _ (nBranch a) (0) (fRs1 a) (fRs2 a) (iB a) w hG Tryz.call143 Tryz.call154 Tryz.call158 Tryz.call163 Tryz.call172 hop ro_99 (n_branch a h0 h1) (m_none a h0 h1) (m_rs1 a h0 h1) (m_rs2 a h0 h1) (m_immB a h0 h1)
  rw [if_neg h99]
  by_cases h3 : fOp a = 3
  · rw [if_pos h3]
    rw [h3] at hop
    exact read_by a 3 _ _ _ _ _ (nLoad a) (fRd a) (fRs1 a) (0) (iI a) w hG Tryz.call144 Tryz.call153 Tryz.call158 Tryz.call154 Tryz.call171 hop ro_3 (n_load a h0 h1) (m_rd a h0 h1) (m_rs1 a h0 h1) (m_none a h0 h1) (m_immI a h0 h1)
  rw [if_neg h3]
  by_cases h35 : fOp a = 35
  · rw [if_pos h35]
    rw [h35] at hop
    exact read_by a 35 _ _ _ _ _ (nStore a) (0) (fRs1 a) (fRs2 a) (iS a) w hG Tryz.call145 Tryz.call154 Tryz.call158 Tryz.call163 Tryz.call173 hop ro_35 (n_store a h0 h1) (m_none a h0 h1) (m_rs1 a h0 h1) (m_rs2 a h0 h1) (m_immS a h0 h1)
  rw [if_neg h35]
  by_cases h15 : fOp a = 15
  · rw [if_pos h15]
    rw [h15] at hop
    exact read_by a 15 _ _ _ _ _ (nFence a) (0) (0) (0) (0) w hG Tryz.call174 Tryz.call154 Tryz.call154 Tryz.call154 Tryz.call154 hop ro_15 (n_fence a h0 h1) (m_none a h0 h1) (m_none a h0 h1) (m_none a h0 h1) (m_none a h0 h1)
  rw [if_neg h15]
  by_cases h47 : fOp a = 47
  · rw [if_pos h47]
    rw [h47] at hop
    exact read_by a 47 _ _ _ _ _ (nAto a) (fRd a) (fRs1 a) (fRs2 a) (0) w hG Tryz.call148 Tryz.call153 Tryz.call158 Tryz.call163 Tryz.call154 hop ro_47 (n_atomic a h0 h1) (m_rd a h0 h1) (m_rs1 a h0 h1) (m_rs2 a h0 h1) (m_none a h0 h1)
  rw [if_neg h47]
  exact read_none a (fOp a) w hop (ro_none (fOp a) h55 h23 h19 h27 h51 h59 h115 h111 h103 h99 h3 h35 h15 h47)
theorem m_Decode (a : Int) (h0 : 0 ≤ a) (h1 : a < 4294967296) (w : World) (hG : G w) :
    Calls Tryz.prog 42 #[.int .u32 a] w fun e w' => e = .returned (.tuple #[(D a).1.v, .bool (D a).2]) ∧ Below w.heap.size w w' := by
  go_enter Tryz.func42, Tryz.ntmps42
  go_wp2_with (first | (go_at_call 65; refine (m_read _ h0 h1 _ (hG.alloc _)).mono ?_; rintro e w1 ⟨rfl, hb⟩; obtain ⟨hc1, hf1⟩ := bcell hb))
  exact bodyPost_ret (v := .tuple #[(D a).1.v, .bool (D a).2]) (by simp [results, Tryz.results42, go_sem, hc1]) rfl ⟨rfl, below8 (belowA hb) (Nat.le_refl _) _ _ _ _ _ _ _ _⟩
end Go.Proofs.YtlfdokkopgmfjaaGreatDoor.B
