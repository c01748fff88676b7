/- The word that the reference puts together. New blocks alone. -/
import Derived.Test.YtlfdokkopgmfjaaGreatDoorMB3
namespace Go.Proofs.YtlfdokkopgmfjaaGreatDoor.B
open Go.RowKit
set_option linter.unusedVariables false
set_option maxRecDepth 100000
def szS (z : Int) : Int := pk [0, 0, 1, 0, 2, 0, 0, 0, 3] z
def coS (z : Int) : Int := pk [0, 0, 1, 4, 5, 6, 7] z
def fiS (z : Int) : Int := pk [0, 1, 0, 4, 12, 8, 16, 20, 24, 28] z
theorem szS_b (z : Int) (h0 : 0 ≤ z) (h1 : z ≤ 8) : 0 ≤ szS z ∧ szS z ≤ 3 := by
  rcases (by omega : z = 0 ∨ z = 1 ∨ z = 2 ∨ z = 3 ∨ z = 4 ∨ z = 5 ∨ z = 6 ∨ z = 7 ∨ z = 8) with h | h | h | h | h | h | h | h | h <;> subst h <;> decide
theorem coS_b (z : Int) (h0 : 0 ≤ z) (h1 : z ≤ 28) : 0 ≤ coS z ∧ coS z ≤ 7 := by
  by_cases h : z ≤ 6
  · rcases (by omega : z = 0 ∨ z = 1 ∨ z = 2 ∨ z = 3 ∨ z = 4 ∨ z = 5 ∨ z = 6) with h | h | h | h | h | h | h <;> subst h <;> decide
  · rw [show coS z = 0 from if_neg (by simp; omega)]; decide
theorem fiS_b (z : Int) (h0 : 0 ≤ z) (h1 : z ≤ 28) : 0 ≤ fiS z ∧ fiS z ≤ 28 := by
  by_cases h : z ≤ 9
  · rcases (by omega : z = 0 ∨ z = 1 ∨ z = 2 ∨ z = 3 ∨ z = 4 ∨ z = 5 ∨ z = 6 ∨ z = 7 ∨ z = 8 ∨ z = 9) with h | h | h | h | h | h | h | h | h | h <;> subst h <;> decide
  · rw [show fiS z = 0 from if_neg (by simp; omega)]; decide
/-- a world in which all that was there is as it was -/
structure WB (w0 : World) where
  w : World
  h : Below w0.heap.size w0 w
theorem WB.cell {w0 : World} (x : WB w0) {b o : Nat} {v : Value} (hb : b < w0.heap.size) (h : w0.cell? ⟨b, o, none⟩ = some v) : x.w.cell? ⟨b, o, none⟩ = some v := by
  rw [← h]; exact Below.cell x.h (p := ⟨b, o, none⟩) hb
theorem Calls.wb {P : Program} {f : FuncId} {args : Array Value} {w0 : World} {v : Value} (x : WB w0) (h : Calls P f args x.w fun e w' => e = .returned v ∧ Below x.w.heap.size x.w w') : Calls P f args x.w fun e w'' => e = .returned v ∧ ∃ y : WB w0, w'' = y.w :=
  h.mono fun _ w' hh => ⟨hh.1, ⟨w', x.h.trans (hh.2.mono x.h.size)⟩, rfl⟩
theorem Calls.wbs {P : Program} {f : FuncId} {args : Array Value} {w0 : World} {v : Value} (x : WB w0) (h : Calls P f args x.w fun e w' => e = .returned v ∧ w' = x.w) : Calls P f args x.w fun e w'' => e = .returned v ∧ ∃ y : WB w0, w'' = y.w :=
  h.mono fun _ w' hh => ⟨hh.1, x, hh.2⟩
theorem below_dn {B : Nat} {a w : World} (h : Below B a w) (n : Nat) : Below B a (w.drewN n) := ⟨h.os, h.tape, h.output, h.size, h.block⟩
theorem bl1 (w : World) (o o' : Obj) (n : Nat) : Below w.heap.size w (((w.alloc o).drewN n).alloc o') := (below_dn (below1 o) n).alloc (by show w.heap.size ≤ (w.alloc o).heap.size; simp) _
theorem bl2 (w : World) (o o' o'' : Obj) (n : Nat) : Below w.heap.size w ((((w.alloc o).drewN n).alloc o').alloc o'') := (bl1 w o o' n).alloc (bl1 w o o' n).size _
theorem Calls.quiet2 {P : Program} {f : FuncId} {args : Array Value} {w0 : World} {m x : Nat} {v : Value} (h : Calls P f args (w0.drewN (m + x)) fun e w' => e = .returned v ∧ w' = w0.drewN (m + x)) : Calls P f args (w0.drewN (m + x)) fun e w'' => e = .returned v ∧ ∃ n, w'' = w0.drewN (m + n) :=
  h.mono fun _ _ hh => ⟨hh.1, x, hh.2⟩
theorem wp_region_wb {P : Program} {id : Nat} {Q : Exit → Act → World → Prop} {a : Act} {w : World} {l : List Oper} (hm : P.follows .mixedOrders = true) (hB : Region.lexB .any l.toArray = true)
    (h : wpQuiet P l.toArray (fun w' => ∃ x : WB w, w' = x.w) (fun a' => ∀ w', (∃ x : WB w, w' = x.w) → Q .normal a' w') l a) : (Code.region id l.toArray true).wp P Q a w :=
  wp_region_quiet (C := fun w' => ∃ x : WB w, w' = x.w) hm hB ⟨⟨w.drew, (Below.refl _ _).drew⟩, rfl⟩ (by simpa using h)
theorem u_1_31_4096 (im : Int) (m0 : -2147483648 ≤ im) (m1 : im < 2147483648) (w : World) : Calls Tryz.prog 99 #[.int .i64 (im / 4096), .int .i64 1, .int .i64 31] w fun e w' => e = .returned (.int .u32 (at2 (im / 4096) 2 2147483648)) ∧ w' = w :=
  p_1_31 (im / 4096) (by omega) (by omega) w
theorem u_1_7_2048 (im : Int) (m0 : -2147483648 ≤ im) (m1 : im < 2147483648) (w : World) : Calls Tryz.prog 99 #[.int .i64 (im / 2048), .int .i64 1, .int .i64 7] w fun e w' => e = .returned (.int .u32 (at2 (im / 2048) 2 128)) ∧ w' = w :=
  p_1_7 (im / 2048) (by omega) (by omega) w
theorem u_6_25_32 (im : Int) (m0 : -2147483648 ≤ im) (m1 : im < 2147483648) (w : World) : Calls Tryz.prog 99 #[.int .i64 (im / 32), .int .i64 6, .int .i64 25] w fun e w' => e = .returned (.int .u32 (at2 (im / 32) 64 33554432)) ∧ w' = w :=
  p_6_25 (im / 32) (by omega) (by omega) w
theorem u_4_8_2 (im : Int) (m0 : -2147483648 ≤ im) (m1 : im < 2147483648) (w : World) : Calls Tryz.prog 99 #[.int .i64 (im / 2), .int .i64 4, .int .i64 8] w fun e w' => e = .returned (.int .u32 (at2 (im / 2) 16 256)) ∧ w' = w :=
  p_4_8 (im / 2) (by omega) (by omega) w
theorem u_1_31_1048576 (im : Int) (m0 : -2147483648 ≤ im) (m1 : im < 2147483648) (w : World) : Calls Tryz.prog 99 #[.int .i64 (im / 1048576), .int .i64 1, .int .i64 31] w fun e w' => e = .returned (.int .u32 (at2 (im / 1048576) 2 2147483648)) ∧ w' = w :=
  p_1_31 (im / 1048576) (by omega) (by omega) w
theorem u_8_12_4096 (im : Int) (m0 : -2147483648 ≤ im) (m1 : im < 2147483648) (w : World) : Calls Tryz.prog 99 #[.int .i64 (im / 4096), .int .i64 8, .int .i64 12] w fun e w' => e = .returned (.int .u32 (at2 (im / 4096) 256 4096)) ∧ w' = w :=
  p_8_12 (im / 4096) (by omega) (by omega) w
theorem u_1_20_2048 (im : Int) (m0 : -2147483648 ≤ im) (m1 : im < 2147483648) (w : World) : Calls Tryz.prog 99 #[.int .i64 (im / 2048), .int .i64 1, .int .i64 20] w fun e w' => e = .returned (.int .u32 (at2 (im / 2048) 2 1048576)) ∧ w' = w :=
  p_1_20 (im / 2048) (by omega) (by omega) w
theorem u_10_21_2 (im : Int) (m0 : -2147483648 ≤ im) (m1 : im < 2147483648) (w : World) : Calls Tryz.prog 99 #[.int .i64 (im / 2), .int .i64 10, .int .i64 21] w fun e w' => e = .returned (.int .u32 (at2 (im / 2) 1024 2097152)) ∧ w' = w :=
  p_10_21 (im / 2) (by omega) (by omega) w
theorem u_20_12_4096 (im : Int) (m0 : -2147483648 ≤ im) (m1 : im < 2147483648) (w : World) : Calls Tryz.prog 99 #[.int .i64 (im / 4096), .int .i64 20, .int .i64 12] w fun e w' => e = .returned (.int .u32 (at2 (im / 4096) 1048576 4096)) ∧ w' = w :=
  p_20_12 (im / 4096) (by omega) (by omega) w
theorem u_12_20_1 (im : Int) (m0 : -2147483648 ≤ im) (m1 : im < 2147483648) (w : World) : Calls Tryz.prog 99 #[.int .i64 im, .int .i64 12, .int .i64 20] w fun e w' => e = .returned (.int .u32 (at2 im 4096 1048576)) ∧ w' = w :=
  p_12_20 im (by omega) (by omega) w
theorem u_5_7_1 (im : Int) (m0 : -2147483648 ≤ im) (m1 : im < 2147483648) (w : World) : Calls Tryz.prog 99 #[.int .i64 im, .int .i64 5, .int .i64 7] w fun e w' => e = .returned (.int .u32 (at2 im 32 128)) ∧ w' = w :=
  p_5_7 im (by omega) (by omega) w
theorem u_7_25_32 (im : Int) (m0 : -2147483648 ≤ im) (m1 : im < 2147483648) (w : World) : Calls Tryz.prog 99 #[.int .i64 (im / 32), .int .i64 7, .int .i64 25] w fun e w' => e = .returned (.int .u32 (at2 (im / 32) 128 33554432)) ∧ w' = w :=
  p_7_25 (im / 32) (by omega) (by omega) w
end Go.Proofs.YtlfdokkopgmfjaaGreatDoor.B
