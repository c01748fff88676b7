/- From what the row says of the package's variables to the tables that the walks read. -/
import Derived.Test.YtkmknjiepegodaaDoorRows
import Derived.Test.YtkmknjiepegodaaDoorMB1
import Derived.WalkKit
import Derived.ProofKit
import Derived.LaidMore
import Derived.Lib.LaidTab
import Derived.Stop.LaidErr
import Derived.Stop.Joined
import Derived.OpenShut
namespace Go.Proofs.YtkmknjiepegodaaDoor
open Go.ChangeShapes Go.WideShapes Go.ChangeAt Go.RowKit
set_option linter.unusedVariables false

theorem own : ownKnob Tryd.prog.godebug = none := by kernel_rfl
def laidL : List (String × DataW Unit) := [("citadel/inst.conditions", Rows.laid_citadel_inst_conditions), ("citadel/inst.loads", Rows.laid_citadel_inst_loads), ("citadel/inst.stores", Rows.laid_citadel_inst_stores), ("citadel/inst.widths", Rows.laid_citadel_inst_widths), ("citadel/inst.basics", Rows.laid_citadel_inst_basics), ("citadel/inst.alternates", Rows.laid_citadel_inst_alternates), ("citadel/inst.products", Rows.laid_citadel_inst_products), ("citadel/inst.basicsW", Rows.laid_citadel_inst_basicsW), ("citadel/inst.alternatesW", Rows.laid_citadel_inst_alternatesW), ("citadel/inst.productsW", Rows.laid_citadel_inst_productsW), ("citadel/inst.atomics", Rows.laid_citadel_inst_atomics)]
theorem door_met (os : Os) (args : Array Value) : laidMetH Tryd.prog laidL ((World.doorLaid Tryd.prog 64 os).forCall (fun _ _ => 0) ⟨#[], args, []⟩).memory :=
  laidMetH_of_parts3 (fuel := 8) (laidMet_of_run' 8 (by kernel_rfl) (by kernel_rfl)) (by kernel_rfl) (by kernel_rfl)
theorem tb_of {W : World} {name : String} {g : Nat} {zs : List Int} {t : Int → Int} {len : Int} (hg : Tryd.prog.globalNamed name = some g) (h : Lib.TabIs Tryd.prog W name .i64 zs) (hl : (zs.length : Int) = len) (hp : 0 < zs.length) (ht : ∀ n : Int, t n = zs.getD n.toNat 0) : B.Tb W g t len := by
  have h0 := h.cell hg 0 hp
  refine ⟨?_, fun n n0 n1 => ?_⟩
  · rcases Nat.lt_or_ge g W.heap.size with q | q
    · exact q
    · rw [World.cell?, Array.getElem?_eq_none q] at h0; cases h0
  · rw [ht n]; exact h.cell hg n.toNat (by omega)
theorem G_of {W : World} (h : laidMetH Tryd.prog laidL W) : B.G W := by
  rw [MakeChecks.laidMetH_plain _ _ _ (by kernel_rfl)] at h
  have t0 : Lib.TabIs Tryd.prog W "citadel/inst.conditions" .i64 [1, 2, 0, 0, 3, 4, 5, 6] := Lib.tabIs_of_head (g := 6) (t := 75) (e := 3) (n := 8) (by kernel_rfl) (by kernel_rfl) (by kernel_rfl) (by kernel_rfl) (by kernel_rfl) (by kernel_rfl) h
  have h1 := laidMet.tail h
  have t1 : Lib.TabIs Tryd.prog W "citadel/inst.loads" .i64 [1, 2, 4, 8, 1, 2, 4, 0] := Lib.tabIs_of_head (g := 7) (t := 75) (e := 3) (n := 8) (by kernel_rfl) (by kernel_rfl) (by kernel_rfl) (by kernel_rfl) (by kernel_rfl) (by kernel_rfl) h1
  have h2 := laidMet.tail h1
  have t2 : Lib.TabIs Tryd.prog W "citadel/inst.stores" .i64 [1, 2, 4, 8, 0, 0, 0, 0] := Lib.tabIs_of_head (g := 8) (t := 75) (e := 3) (n := 8) (by kernel_rfl) (by kernel_rfl) (by kernel_rfl) (by kernel_rfl) (by kernel_rfl) (by kernel_rfl) h2
  have h3 := laidMet.tail h2
  have t3 : Lib.TabIs Tryd.prog W "citadel/inst.widths" .i64 [0, 0, 4, 8, 0, 0, 0, 0] := Lib.tabIs_of_head (g := 9) (t := 75) (e := 3) (n := 8) (by kernel_rfl) (by kernel_rfl) (by kernel_rfl) (by kernel_rfl) (by kernel_rfl) (by kernel_rfl) h3
  have h4 := laidMet.tail h3
  have t4 : Lib.TabIs Tryd.prog W "citadel/inst.basics" .i64 [1, 3, 4, 5, 6, 7, 9, 10] := Lib.tabIs_of_head (g := 0) (t := 75) (e := 3) (n := 8) (by kernel_rfl) (by kernel_rfl) (by kernel_rfl) (by kernel_rfl) (by kernel_rfl) (by kernel_rfl) h4
  have h5 := laidMet.tail h4
  have t5 : Lib.TabIs Tryd.prog W "citadel/inst.alternates" .i64 [2, 0, 0, 0, 0, 8, 0, 0] := Lib.tabIs_of_head (g := 1) (t := 75) (e := 3) (n := 8) (by kernel_rfl) (by kernel_rfl) (by kernel_rfl) (by kernel_rfl) (by kernel_rfl) (by kernel_rfl) h5
  have h6 := laidMet.tail h5
  have t6 : Lib.TabIs Tryd.prog W "citadel/inst.products" .i64 [11, 12, 13, 14, 15, 16, 17, 18] := Lib.tabIs_of_head (g := 4) (t := 75) (e := 3) (n := 8) (by kernel_rfl) (by kernel_rfl) (by kernel_rfl) (by kernel_rfl) (by kernel_rfl) (by kernel_rfl) h6
  have h7 := laidMet.tail h6
  have t7 : Lib.TabIs Tryd.prog W "citadel/inst.basicsW" .i64 [19, 21, 0, 0, 0, 22, 0, 0] := Lib.tabIs_of_head (g := 2) (t := 75) (e := 3) (n := 8) (by kernel_rfl) (by kernel_rfl) (by kernel_rfl) (by kernel_rfl) (by kernel_rfl) (by kernel_rfl) h7
  have h8 := laidMet.tail h7
  have t8 : Lib.TabIs Tryd.prog W "citadel/inst.alternatesW" .i64 [20, 0, 0, 0, 0, 23, 0, 0] := Lib.tabIs_of_head (g := 3) (t := 75) (e := 3) (n := 8) (by kernel_rfl) (by kernel_rfl) (by kernel_rfl) (by kernel_rfl) (by kernel_rfl) (by kernel_rfl) h8
  have h9 := laidMet.tail h8
  have t9 : Lib.TabIs Tryd.prog W "citadel/inst.productsW" .i64 [24, 0, 0, 0, 25, 26, 27, 28] := Lib.tabIs_of_head (g := 5) (t := 75) (e := 3) (n := 8) (by kernel_rfl) (by kernel_rfl) (by kernel_rfl) (by kernel_rfl) (by kernel_rfl) (by kernel_rfl) h9
  have h10 := laidMet.tail h9
  have t10 : Lib.TabIs Tryd.prog W "citadel/inst.atomics" .i64 [2, 1, 0, 0, 3, 0, 0, 0, 5, 0, 0, 0, 4, 0, 0, 0, 6, 0, 0, 0, 7, 0, 0, 0, 8, 0, 0, 0, 9, 0, 0, 0] := Lib.tabIs_of_head (g := 10) (t := 78) (e := 3) (n := 32) (by kernel_rfl) (by kernel_rfl) (by kernel_rfl) (by kernel_rfl) (by kernel_rfl) (by kernel_rfl) h10
  exact ⟨tb_of (by kernel_rfl) t0 rfl (by decide) (fun _ => rfl), tb_of (by kernel_rfl) t1 rfl (by decide) (fun _ => rfl), tb_of (by kernel_rfl) t2 rfl (by decide) (fun _ => rfl), tb_of (by kernel_rfl) t3 rfl (by decide) (fun _ => rfl), tb_of (by kernel_rfl) t10 rfl (by decide) (fun _ => rfl), tb_of (by kernel_rfl) t4 rfl (by decide) (fun _ => rfl), tb_of (by kernel_rfl) t5 rfl (by decide) (fun _ => rfl), tb_of (by kernel_rfl) t6 rfl (by decide) (fun _ => rfl), tb_of (by kernel_rfl) t7 rfl (by decide) (fun _ => rfl), tb_of (by kernel_rfl) t8 rfl (by decide) (fun _ => rfl), tb_of (by kernel_rfl) t9 rfl (by decide) (fun _ => rfl)⟩
end Go.Proofs.YtkmknjiepegodaaDoor
