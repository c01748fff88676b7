/-
  DERIVED. GIVEN WITH THE SEED: THE CARDS: each row of YtioodijiejipiaaGreatDoorRows.lean that lists a variable, with what it lists TIED to the program's text (the seventh form; the later family's looks); each row that meets fmt, with fmt's text TOLD by the authors' own Lean function (tested against real Go, not proved from fmt's source: count such statements apart). THE CARD IS WHAT COUNTS. Prove the row's statement (the work); the ties are given (YtioodijiejipiaaGreatDoorTie.lean); close each card by the builder's one call (the guide's Derived/Test/ToyasCard.lean, 'card_holds'). Laid BY PROGRAM, IN A SANDBOX (cutbox-door.mjs). By AI agents, Wed Nov 11 2026. No macro, syntax, notation, axiom, sorry.
-/
import Derived.Test.YtioodijiejipiaaGreatDoorRows
import GoSem.ClaimSeven
namespace Go.Proofs.YtioodijiejipiaaGreatDoor
namespace Rows

/-- THE TIED CARD OF 'citadellaw02.InstDecodes'. -/
def instDecodesCard : Claim7 := { stood := { row := instDecodesRow, standIns := [], harness := (true, "4905e99f4f83ef0a03cc8300245cbc5b55dd1850aff0dd3f66ba2fb75d829303"), looks := false }, kinds := [], alts := [], laidByText := true, laidKinds := [.data, .data, .data, .data, .data, .data, .data, .data, .data, .data, .data], laidTests := true, laidLooks := .later }
def InstDecodesCardSaid : Prop := Claim7.holds Tryz.pinned (.plain (OpenSpec.ofChange instDecodesSpec)) instDecodesCard

/-- THE TIED CARD OF 'citadellaw02.InstEncodes'. -/
def instEncodesCard : Claim7 := { stood := { row := instEncodesRow, standIns := [], harness := (true, "4905e99f4f83ef0a03cc8300245cbc5b55dd1850aff0dd3f66ba2fb75d829303"), looks := false }, kinds := [], alts := [], laidByText := true, laidKinds := [.data, .data, .data, .data, .data, .data, .data, .data, .data, .data, .data], laidTests := true, laidLooks := .later }
def InstEncodesCardSaid : Prop := Claim7.holds Tryz.pinned (.plain (OpenSpec.ofChange instEncodesSpec)) instEncodesCard

/-- THE TIED CARD OF 'citadellaw02.InstExpands'. -/
def instExpandsCard : Claim7 := { stood := { row := instExpandsRow, standIns := [], harness := (true, "4905e99f4f83ef0a03cc8300245cbc5b55dd1850aff0dd3f66ba2fb75d829303"), looks := false }, kinds := [], alts := [], laidByText := true, laidKinds := [.data, .data, .data, .data, .data, .data, .data, .data, .data, .data, .data], laidTests := true, laidLooks := .later }
def InstExpandsCardSaid : Prop := Claim7.holds Tryz.pinned (.plain (OpenSpec.ofChange instExpandsSpec)) instExpandsCard

/-- THE SECOND FORM's CARD OF 'citadellaw02.InstDecodes'. -/
def instDecodesUptoCard : Claim7 := { stood := { row := instDecodesUptoRow, standIns := [], harness := (true, "4905e99f4f83ef0a03cc8300245cbc5b55dd1850aff0dd3f66ba2fb75d829303"), looks := false }, kinds := [], alts := [], laidByText := true, laidKinds := [.data, .data, .data, .data, .data, .data, .data, .data, .data, .data, .data], laidTests := true, laidLooks := .later }
def InstDecodesUptoCardSaid : Prop := Claim7.holds Tryz.pinned (.plain (OpenSpec.upto instDecodesSpec)) instDecodesUptoCard

/-- THE SECOND FORM's CARD OF 'citadellaw02.InstEncodes'. -/
def instEncodesUptoCard : Claim7 := { stood := { row := instEncodesUptoRow, standIns := [], harness := (true, "4905e99f4f83ef0a03cc8300245cbc5b55dd1850aff0dd3f66ba2fb75d829303"), looks := false }, kinds := [], alts := [], laidByText := true, laidKinds := [.data, .data, .data, .data, .data, .data, .data, .data, .data, .data, .data], laidTests := true, laidLooks := .later }
def InstEncodesUptoCardSaid : Prop := Claim7.holds Tryz.pinned (.plain (OpenSpec.upto instEncodesSpec)) instEncodesUptoCard

/-- THE SECOND FORM's CARD OF 'citadellaw02.InstExpands'. -/
def instExpandsUptoCard : Claim7 := { stood := { row := instExpandsUptoRow, standIns := [], harness := (true, "4905e99f4f83ef0a03cc8300245cbc5b55dd1850aff0dd3f66ba2fb75d829303"), looks := false }, kinds := [], alts := [], laidByText := true, laidKinds := [.data, .data, .data, .data, .data, .data, .data, .data, .data, .data, .data], laidTests := true, laidLooks := .later }
def InstExpandsUptoCardSaid : Prop := Claim7.holds Tryz.pinned (.plain (OpenSpec.upto instExpandsSpec)) instExpandsUptoCard
end Rows
end Go.Proofs.YtioodijiejipiaaGreatDoor
