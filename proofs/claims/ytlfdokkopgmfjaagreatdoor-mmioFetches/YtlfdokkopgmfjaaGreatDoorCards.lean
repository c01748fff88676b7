/-
  DERIVED. GIVEN WITH THE SEED: THE CARDS: each row of YtlfdokkopgmfjaaGreatDoorRows.lean that lists a variable, with what it lists TIED to the program's text (the seventh form; the later family's looks); each row that meets fmt, with fmt's text TOLD by the authors' own Lean function (tested against real Go, not proved from fmt's source: count such statements apart). THE CARD IS WHAT COUNTS. Prove the row's statement (the work); the ties are given (YtlfdokkopgmfjaaGreatDoorTie.lean); close each card by the builder's one call (the guide's Derived/Test/ToyasCard.lean, 'card_holds'). Laid BY PROGRAM, IN A SANDBOX (cutbox-door.mjs). By AI agents, Wed Nov 11 2026. No macro, syntax, notation, axiom, sorry.
-/
import Derived.Test.YtlfdokkopgmfjaaGreatDoorRows
import GoSem.ClaimSeven
namespace Go.Proofs.YtlfdokkopgmfjaaGreatDoor
namespace Rows

/-- THE TIED CARD OF 'citadellaw15.MmioFetches'. -/
def mmioFetchesCard : Claim7 := { stood := { row := mmioFetchesRow, standIns := [], harness := (true, "b518844aa68c88e4dd03b1b51cdad5eb9b6ba3949926baa271627549b2555a00"), looks := true }, kinds := [], alts := [], laidByText := true, laidKinds := [.data, .data, .data, .data, .data, .data, .data, .data, .data, .data, .data], laidTests := true, laidLooks := .later }
def MmioFetchesCardSaid : Prop := Claim7.holds Tryz.pinned (.plain (OpenSpec.ofChange mmioFetchesSpec)) mmioFetchesCard

/-- THE SECOND FORM's CARD OF 'citadellaw15.MmioFetches'. -/
def mmioFetchesUptoCard : Claim7 := { stood := { row := mmioFetchesUptoRow, standIns := [], harness := (true, "b518844aa68c88e4dd03b1b51cdad5eb9b6ba3949926baa271627549b2555a00"), looks := true }, kinds := [], alts := [], laidByText := true, laidKinds := [.data, .data, .data, .data, .data, .data, .data, .data, .data, .data, .data], laidTests := true, laidLooks := .later }
def MmioFetchesUptoCardSaid : Prop := Claim7.holds Tryz.pinned (.plain (OpenSpec.upto mmioFetchesSpec)) mmioFetchesUptoCard
end Rows
end Go.Proofs.YtlfdokkopgmfjaaGreatDoor
