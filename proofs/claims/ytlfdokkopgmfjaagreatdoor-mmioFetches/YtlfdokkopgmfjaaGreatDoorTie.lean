/-
  DERIVED. GIVEN WITH THE SEED: THE PROGRAM's TIES (one call each: nine closed facts by the kernel) AND EACH ROW's TIE, after the 31st guide's Derived/Test/Toyas{Tie, Card}.lean. No idea stands in it: it is a product of the set-up. Laid BY PROGRAM, IN A SANDBOX (cutbox-door.mjs). By AI agents, Wed Nov 11 2026. No macro, syntax, notation, axiom, sorry.
-/
import Derived.Test.YtlfdokkopgmfjaaGreatDoorRows
import Derived.LaidByTextLater
import Derived.SevenTiedAt
import Derived.LaidSub
import Derived.LaidOnce
namespace Go.Proofs.YtlfdokkopgmfjaaGreatDoor
open Go
set_option maxRecDepth 100000
theorem seatTie1 : Tryz.prog.laidByTextLater [("citadel/inst.conditions", Rows.laid_citadel_inst_conditions), ("citadel/inst.loads", Rows.laid_citadel_inst_loads), ("citadel/inst.stores", Rows.laid_citadel_inst_stores), ("citadel/inst.widths", Rows.laid_citadel_inst_widths), ("citadel/inst.basics", Rows.laid_citadel_inst_basics), ("citadel/inst.alternates", Rows.laid_citadel_inst_alternates), ("citadel/inst.products", Rows.laid_citadel_inst_products), ("citadel/inst.basicsW", Rows.laid_citadel_inst_basicsW), ("citadel/inst.alternatesW", Rows.laid_citadel_inst_alternatesW), ("citadel/inst.productsW", Rows.laid_citadel_inst_productsW), ("citadel/inst.atomics", Rows.laid_citadel_inst_atomics)] [.data, .data, .data, .data, .data, .data, .data, .data, .data, .data, .data] true :=
  Program.laidByTextLater_by_one 64 8 33 (by kernel_rfl) (by kernel_rfl) (by kernel_rfl) (by kernel_rfl) (by kernel_rfl) (by kernel_rfl) (fun _ _ => by kernel_rfl)
theorem noOwnUnsafe : Tryz.pinned.checked.prog.headLifts.contains "ownunsafe" = false := by kernel_rfl
theorem tie : Tryz.prog.laidByTextLater [("citadel/inst.conditions", Rows.laid_citadel_inst_conditions), ("citadel/inst.loads", Rows.laid_citadel_inst_loads), ("citadel/inst.stores", Rows.laid_citadel_inst_stores), ("citadel/inst.widths", Rows.laid_citadel_inst_widths), ("citadel/inst.basics", Rows.laid_citadel_inst_basics), ("citadel/inst.alternates", Rows.laid_citadel_inst_alternates), ("citadel/inst.products", Rows.laid_citadel_inst_products), ("citadel/inst.basicsW", Rows.laid_citadel_inst_basicsW), ("citadel/inst.alternatesW", Rows.laid_citadel_inst_alternatesW), ("citadel/inst.productsW", Rows.laid_citadel_inst_productsW), ("citadel/inst.atomics", Rows.laid_citadel_inst_atomics)] [.data, .data, .data, .data, .data, .data, .data, .data, .data, .data, .data] true :=
  Program.laidByTextLater.sub seatTie1 ["citadel/inst.conditions", "citadel/inst.loads", "citadel/inst.stores", "citadel/inst.widths", "citadel/inst.basics", "citadel/inst.alternates", "citadel/inst.products", "citadel/inst.basicsW", "citadel/inst.alternatesW", "citadel/inst.productsW", "citadel/inst.atomics"] (by kernel_rfl) (by kernel_rfl)
theorem mmioFetches_row_tie : Rows.mmioFetchesRow.laidByTextAt .later Tryz.pinned [.data, .data, .data, .data, .data, .data, .data, .data, .data, .data, .data] true :=
  OpenClaim.laidByTextAt_later rfl rfl tie noOwnUnsafe
theorem mmioFetchesUpto_row_tie : Rows.mmioFetchesUptoRow.laidByTextAt .later Tryz.pinned [.data, .data, .data, .data, .data, .data, .data, .data, .data, .data, .data] true :=
  OpenClaim.laidByTextAt_later rfl rfl tie noOwnUnsafe
end Go.Proofs.YtlfdokkopgmfjaaGreatDoor
