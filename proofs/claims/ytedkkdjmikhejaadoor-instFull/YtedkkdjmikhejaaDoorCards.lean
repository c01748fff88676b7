/-
  DERIVED. GIVEN WITH THE SEED: THE CARDS: each row of YtedkkdjmikhejaaDoorRows.lean that lists a variable, with what it lists TIED to the program's text (the seventh form; the later family's looks); each row that meets fmt, with fmt's text TOLD by the authors' own Lean function (tested against real Go, not proved from fmt's source: count such statements apart). THE CARD IS WHAT COUNTS. Prove the row's statement (the work); the ties are given (YtedkkdjmikhejaaDoorTie.lean); close each card by the builder's one call (the guide's Derived/Test/ToyasCard.lean, 'card_holds'). Laid BY PROGRAM, IN A SANDBOX (cutbox-door.mjs). By AI agents, Wed Nov 11 2026. No macro, syntax, notation, axiom, sorry.
-/
import Derived.Test.YtedkkdjmikhejaaDoorRows
import GoSem.ClaimSeven
namespace Go.Proofs.YtedkkdjmikhejaaDoor
namespace Rows

/-- THE TIED CARD OF 'citadellaw02.InstBack'. -/
def instBackCard : Claim7 := { stood := { row := instBackRow, standIns := [], harness := (true, "b49a5b7f3cf7f269bb4f8e1920728c5ac7366f9266b348eab1871c7d8605673e"), looks := false }, kinds := [], alts := [], laidByText := true, laidKinds := [.data, .data, .data, .data, .data, .data, .data, .data, .data, .data, .data], laidTests := true, laidLooks := .later }
def InstBackCardSaid : Prop := Claim7.holds Tryd.pinned (.plain (OpenSpec.ofChange instBackSpec)) instBackCard

/-- THE TIED CARD OF 'citadellaw02.InstFull'. -/
def instFullCard : Claim7 := { stood := { row := instFullRow, standIns := [], harness := (true, "b49a5b7f3cf7f269bb4f8e1920728c5ac7366f9266b348eab1871c7d8605673e"), looks := false }, kinds := [], alts := [], laidByText := true, laidKinds := [.data, .data, .data, .data, .data, .data, .data, .data, .data, .data, .data], laidTests := true, laidLooks := .later }
def InstFullCardSaid : Prop := Claim7.holds Tryd.pinned (.plain (OpenSpec.ofChange instFullSpec)) instFullCard

/-- THE TIED CARD OF 'citadellaw02.InstFields'. -/
def instFieldsCard : Claim7 := { stood := { row := instFieldsRow, standIns := [], harness := (true, "b49a5b7f3cf7f269bb4f8e1920728c5ac7366f9266b348eab1871c7d8605673e"), looks := false }, kinds := [], alts := [], laidByText := true, laidKinds := [.data, .data, .data, .data, .data, .data, .data, .data, .data, .data, .data], laidTests := true, laidLooks := .later }
def InstFieldsCardSaid : Prop := Claim7.holds Tryd.pinned (.plain (OpenSpec.ofChange instFieldsSpec)) instFieldsCard

/-- THE SECOND FORM's CARD OF 'citadellaw02.InstBack'. -/
def instBackUptoCard : Claim7 := { stood := { row := instBackUptoRow, standIns := [], harness := (true, "b49a5b7f3cf7f269bb4f8e1920728c5ac7366f9266b348eab1871c7d8605673e"), looks := false }, kinds := [], alts := [], laidByText := true, laidKinds := [.data, .data, .data, .data, .data, .data, .data, .data, .data, .data, .data], laidTests := true, laidLooks := .later }
def InstBackUptoCardSaid : Prop := Claim7.holds Tryd.pinned (.plain (OpenSpec.upto instBackSpec)) instBackUptoCard

/-- THE SECOND FORM's CARD OF 'citadellaw02.InstFull'. -/
def instFullUptoCard : Claim7 := { stood := { row := instFullUptoRow, standIns := [], harness := (true, "b49a5b7f3cf7f269bb4f8e1920728c5ac7366f9266b348eab1871c7d8605673e"), looks := false }, kinds := [], alts := [], laidByText := true, laidKinds := [.data, .data, .data, .data, .data, .data, .data, .data, .data, .data, .data], laidTests := true, laidLooks := .later }
def InstFullUptoCardSaid : Prop := Claim7.holds Tryd.pinned (.plain (OpenSpec.upto instFullSpec)) instFullUptoCard

/-- THE SECOND FORM's CARD OF 'citadellaw02.InstFields'. -/
def instFieldsUptoCard : Claim7 := { stood := { row := instFieldsUptoRow, standIns := [], harness := (true, "b49a5b7f3cf7f269bb4f8e1920728c5ac7366f9266b348eab1871c7d8605673e"), looks := false }, kinds := [], alts := [], laidByText := true, laidKinds := [.data, .data, .data, .data, .data, .data, .data, .data, .data, .data, .data], laidTests := true, laidLooks := .later }
def InstFieldsUptoCardSaid : Prop := Claim7.holds Tryd.pinned (.plain (OpenSpec.upto instFieldsSpec)) instFieldsUptoCard
end Rows
end Go.Proofs.YtedkkdjmikhejaaDoor
