/-
  DERIVED. GIVEN WITH THE SEED: THE CARDS: each row of YtooagjndelbegaaGreatDoorRows.lean that lists a variable, with what it lists TIED to the program's text (the seventh form; the later family's looks); each row that meets fmt, with fmt's text TOLD by the authors' own Lean function (tested against real Go, not proved from fmt's source: count such statements apart). THE CARD IS WHAT COUNTS. Prove the row's statement (the work); the ties are given (YtooagjndelbegaaGreatDoorTie.lean); close each card by the builder's one call (the guide's Derived/Test/ToyasCard.lean, 'card_holds'). Laid BY PROGRAM, IN A SANDBOX (cutbox-door.mjs). By AI agents, Wed Nov 11 2026. No macro, syntax, notation, axiom, sorry.
-/
import Derived.Test.YtooagjndelbegaaGreatDoorRows
import GoSem.ClaimSeven
namespace Go.Proofs.YtooagjndelbegaaGreatDoor
namespace Rows

/-- THE TIED CARD OF 'citadellaw06.HartSteps'. -/
def hartStepsCard : Claim7 := { stood := { row := hartStepsRow, standIns := [], harness := (true, "667dee8c8a2fc85c74b4b1a37236ef07deddb8b54763ae113329c5894942441d"), looks := false }, kinds := [], alts := [], laidByText := true, laidKinds := [.data, .data, .data, .data, .data, .data, .data, .data, .data, .data, .data], laidTests := true, laidLooks := .later }
def HartStepsCardSaid : Prop := Claim7.holds Tryz.pinned (.plain (OpenSpec.ofChange hartStepsSpec)) hartStepsCard

/-- THE TIED CARD OF 'citadellaw06.HartPeeks'. -/
def hartPeeksCard : Claim7 := { stood := { row := hartPeeksRow, standIns := [], harness := (true, "667dee8c8a2fc85c74b4b1a37236ef07deddb8b54763ae113329c5894942441d"), looks := false }, kinds := [], alts := [], laidByText := true, laidKinds := [.data, .data, .data, .data, .data, .data, .data, .data, .data, .data, .data], laidTests := true, laidLooks := .later }
def HartPeeksCardSaid : Prop := Claim7.holds Tryz.pinned (.plain (OpenSpec.ofChange hartPeeksSpec)) hartPeeksCard

/-- THE TIED CARD OF 'citadellaw06.HartTraps'. -/
def hartTrapsCard : Claim7 := { stood := { row := hartTrapsRow, standIns := [], harness := (true, "667dee8c8a2fc85c74b4b1a37236ef07deddb8b54763ae113329c5894942441d"), looks := false }, kinds := [], alts := [], laidByText := true, laidKinds := [.data, .data, .data, .data, .data, .data, .data, .data, .data, .data, .data], laidTests := true, laidLooks := .later }
def HartTrapsCardSaid : Prop := Claim7.holds Tryz.pinned (.plain (OpenSpec.ofChange hartTrapsSpec)) hartTrapsCard

/-- THE TIED CARD OF 'citadellaw06.HartCsrs'. -/
def hartCsrsCard : Claim7 := { stood := { row := hartCsrsRow, standIns := [], harness := (true, "667dee8c8a2fc85c74b4b1a37236ef07deddb8b54763ae113329c5894942441d"), looks := false }, kinds := [], alts := [], laidByText := true, laidKinds := [.data, .data, .data, .data, .data, .data, .data, .data, .data, .data, .data], laidTests := true, laidLooks := .later }
def HartCsrsCardSaid : Prop := Claim7.holds Tryz.pinned (.plain (OpenSpec.ofChange hartCsrsSpec)) hartCsrsCard

/-- THE TIED CARD OF 'citadellaw06.HartResets'. -/
def hartResetsCard : Claim7 := { stood := { row := hartResetsRow, standIns := [], harness := (true, "667dee8c8a2fc85c74b4b1a37236ef07deddb8b54763ae113329c5894942441d"), looks := false }, kinds := [], alts := [], laidByText := true, laidKinds := [.data, .data, .data, .data, .data, .data, .data, .data, .data, .data, .data], laidTests := true, laidLooks := .later }
def HartResetsCardSaid : Prop := Claim7.holds Tryz.pinned (.plain (OpenSpec.ofChange hartResetsSpec)) hartResetsCard

/-- THE TIED CARD OF 'citadellaw06.HartStores'. -/
def hartStoresCard : Claim7 := { stood := { row := hartStoresRow, standIns := [], harness := (true, "667dee8c8a2fc85c74b4b1a37236ef07deddb8b54763ae113329c5894942441d"), looks := false }, kinds := [], alts := [], laidByText := true, laidKinds := [.data, .data, .data, .data, .data, .data, .data, .data, .data, .data, .data], laidTests := true, laidLooks := .later }
def HartStoresCardSaid : Prop := Claim7.holds Tryz.pinned (.plain (OpenSpec.ofChange hartStoresSpec)) hartStoresCard

/-- THE SECOND FORM's CARD OF 'citadellaw06.HartSteps'. -/
def hartStepsUptoCard : Claim7 := { stood := { row := hartStepsUptoRow, standIns := [], harness := (true, "667dee8c8a2fc85c74b4b1a37236ef07deddb8b54763ae113329c5894942441d"), looks := false }, kinds := [], alts := [], laidByText := true, laidKinds := [.data, .data, .data, .data, .data, .data, .data, .data, .data, .data, .data], laidTests := true, laidLooks := .later }
def HartStepsUptoCardSaid : Prop := Claim7.holds Tryz.pinned (.plain (OpenSpec.upto hartStepsSpec)) hartStepsUptoCard

/-- THE SECOND FORM's CARD OF 'citadellaw06.HartPeeks'. -/
def hartPeeksUptoCard : Claim7 := { stood := { row := hartPeeksUptoRow, standIns := [], harness := (true, "667dee8c8a2fc85c74b4b1a37236ef07deddb8b54763ae113329c5894942441d"), looks := false }, kinds := [], alts := [], laidByText := true, laidKinds := [.data, .data, .data, .data, .data, .data, .data, .data, .data, .data, .data], laidTests := true, laidLooks := .later }
def HartPeeksUptoCardSaid : Prop := Claim7.holds Tryz.pinned (.plain (OpenSpec.upto hartPeeksSpec)) hartPeeksUptoCard

/-- THE SECOND FORM's CARD OF 'citadellaw06.HartTraps'. -/
def hartTrapsUptoCard : Claim7 := { stood := { row := hartTrapsUptoRow, standIns := [], harness := (true, "667dee8c8a2fc85c74b4b1a37236ef07deddb8b54763ae113329c5894942441d"), looks := false }, kinds := [], alts := [], laidByText := true, laidKinds := [.data, .data, .data, .data, .data, .data, .data, .data, .data, .data, .data], laidTests := true, laidLooks := .later }
def HartTrapsUptoCardSaid : Prop := Claim7.holds Tryz.pinned (.plain (OpenSpec.upto hartTrapsSpec)) hartTrapsUptoCard

/-- THE SECOND FORM's CARD OF 'citadellaw06.HartCsrs'. -/
def hartCsrsUptoCard : Claim7 := { stood := { row := hartCsrsUptoRow, standIns := [], harness := (true, "667dee8c8a2fc85c74b4b1a37236ef07deddb8b54763ae113329c5894942441d"), looks := false }, kinds := [], alts := [], laidByText := true, laidKinds := [.data, .data, .data, .data, .data, .data, .data, .data, .data, .data, .data], laidTests := true, laidLooks := .later }
def HartCsrsUptoCardSaid : Prop := Claim7.holds Tryz.pinned (.plain (OpenSpec.upto hartCsrsSpec)) hartCsrsUptoCard

/-- THE SECOND FORM's CARD OF 'citadellaw06.HartResets'. -/
def hartResetsUptoCard : Claim7 := { stood := { row := hartResetsUptoRow, standIns := [], harness := (true, "667dee8c8a2fc85c74b4b1a37236ef07deddb8b54763ae113329c5894942441d"), looks := false }, kinds := [], alts := [], laidByText := true, laidKinds := [.data, .data, .data, .data, .data, .data, .data, .data, .data, .data, .data], laidTests := true, laidLooks := .later }
def HartResetsUptoCardSaid : Prop := Claim7.holds Tryz.pinned (.plain (OpenSpec.upto hartResetsSpec)) hartResetsUptoCard

/-- THE SECOND FORM's CARD OF 'citadellaw06.HartStores'. -/
def hartStoresUptoCard : Claim7 := { stood := { row := hartStoresUptoRow, standIns := [], harness := (true, "667dee8c8a2fc85c74b4b1a37236ef07deddb8b54763ae113329c5894942441d"), looks := false }, kinds := [], alts := [], laidByText := true, laidKinds := [.data, .data, .data, .data, .data, .data, .data, .data, .data, .data, .data], laidTests := true, laidLooks := .later }
def HartStoresUptoCardSaid : Prop := Claim7.holds Tryz.pinned (.plain (OpenSpec.upto hartStoresSpec)) hartStoresUptoCard
end Rows
end Go.Proofs.YtooagjndelbegaaGreatDoor
