/-
  DERIVED. GIVEN WITH THE SEED: THE CARDS: each row of YtkmknjiepegodaaDoorRows.lean that lists a variable, with what it lists TIED to the program's text (the seventh form; the later family's looks); each row that meets fmt, with fmt's text TOLD by the authors' own Lean function (tested against real Go, not proved from fmt's source: count such statements apart). THE CARD IS WHAT COUNTS. Prove the row's statement (the work); the ties are given (YtkmknjiepegodaaDoorTie.lean); close each card by the builder's one call (the guide's Derived/Test/ToyasCard.lean, 'card_holds'). Laid BY PROGRAM, IN A SANDBOX (cutbox-door.mjs). By AI agents, Wed Nov 11 2026. No macro, syntax, notation, axiom, sorry.
-/
import Derived.Test.YtkmknjiepegodaaDoorRows
import GoSem.ClaimSeven
namespace Go.Proofs.YtkmknjiepegodaaDoor
namespace Rows

/-- THE TIED CARD OF 'citadellaw15.MmioPlans'. -/
def mmioPlansCard : Claim7 := { stood := { row := mmioPlansRow, standIns := [], harness := (true, "a10be2c3016050b923f61c0d17f0ac64d328d9b41db6ecc4707c35c1a0181dd8"), looks := true }, kinds := [], alts := [], laidByText := true, laidKinds := [.data, .data, .data, .data, .data, .data, .data, .data, .data, .data, .data], laidTests := true, laidLooks := .later }
def MmioPlansCardSaid : Prop := Claim7.holds Tryd.pinned (.plain (OpenSpec.ofChange mmioPlansSpec)) mmioPlansCard

/-- THE TIED CARD OF 'citadellaw15.MmioEnds'. -/
def mmioEndsCard : Claim7 := { stood := { row := mmioEndsRow, standIns := [], harness := (true, "a10be2c3016050b923f61c0d17f0ac64d328d9b41db6ecc4707c35c1a0181dd8"), looks := true }, kinds := [], alts := [], laidByText := true, laidKinds := [.data, .data, .data, .data, .data, .data, .data, .data, .data, .data, .data], laidTests := true, laidLooks := .later }
def MmioEndsCardSaid : Prop := Claim7.holds Tryd.pinned (.plain (OpenSpec.ofChange mmioEndsSpec)) mmioEndsCard

/-- THE SECOND FORM's CARD OF 'citadellaw15.MmioPlans'. -/
def mmioPlansUptoCard : Claim7 := { stood := { row := mmioPlansUptoRow, standIns := [], harness := (true, "a10be2c3016050b923f61c0d17f0ac64d328d9b41db6ecc4707c35c1a0181dd8"), looks := true }, kinds := [], alts := [], laidByText := true, laidKinds := [.data, .data, .data, .data, .data, .data, .data, .data, .data, .data, .data], laidTests := true, laidLooks := .later }
def MmioPlansUptoCardSaid : Prop := Claim7.holds Tryd.pinned (.plain (OpenSpec.upto mmioPlansSpec)) mmioPlansUptoCard

/-- THE SECOND FORM's CARD OF 'citadellaw15.MmioEnds'. -/
def mmioEndsUptoCard : Claim7 := { stood := { row := mmioEndsUptoRow, standIns := [], harness := (true, "a10be2c3016050b923f61c0d17f0ac64d328d9b41db6ecc4707c35c1a0181dd8"), looks := true }, kinds := [], alts := [], laidByText := true, laidKinds := [.data, .data, .data, .data, .data, .data, .data, .data, .data, .data, .data], laidTests := true, laidLooks := .later }
def MmioEndsUptoCardSaid : Prop := Claim7.holds Tryd.pinned (.plain (OpenSpec.upto mmioEndsSpec)) mmioEndsUptoCard
end Rows
end Go.Proofs.YtkmknjiepegodaaDoor
