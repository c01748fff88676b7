/-
  No cell of these rows narrows 'for every input' (looked for: loops, veiled, ifaces, maps, wideKeys, modest, calm, conditions, laid).
  DERIVED. THE GIVEN ROWS OF THIS SEAT. 3 by the template 'for every input the law returns true; each argument reads behind the call as it read before'; 0 by the template 'total and deterministic' (their statements: YtekkjalfiogenaaTotals.lean).
  GIVEN WITH THE SEED: the statements are not yours to turn. If you find one false, say at which input.
  Laid BY PROGRAM, IN A SANDBOX (cutbox-rows.mjs): the forced cells as the released guide's own fill.sh prints them over the translation 5a2aeb2848dc07eb… (all of the seat's roots in one cut). By AI agents, Wed Nov 11 2026. No macro, syntax, notation, axiom, sorry.
-/
import Derived.Test.YtekkjalfiogenaaChecked
import GoSem.Claim
import GoSem.ClaimJoined
import GoSem.ClaimMapViews
import Derived.JoinedTies
import Derived.KernelRfl
namespace Go.Proofs.Ytekkjalfiogenaa
/- THE CELL 'sum', in the pinned program and in every row, IS THE sha256 OF THE DUMP (.gsa) THAT YtekkjalfiogenaaProg.lean LOADS. Nothing in Lean hashes anything: it is a label: what it is worth is what the hold of that sum in a sandbox is worth. -/
noncomputable def Try.pinned : Pinned := { name := "ytekkjalfiogenaa", sum := "5a2aeb2848dc07ebf0410a42b5494a15c94426767c92cd0750d9ef9203a0dacf", checked := Try.checked }
namespace Rows
def none {H : Type} : Left H := { results := [], args := [] }

/-- 'citadellaw10.StagePlays': WHATEVER THE INPUT: true; the input reads as it did. -/
def stagePlaysSpec : ChangeSpec := { name := "stagePlays", fn := fun _ => fun
  | [d1, d2, d3, d4] => { results := [.lit (.bool true)], args := [d1, d2, d3, d4] }
  | _ => none }
def stagePlaysRow : OpenClaim := { program := "ytekkjalfiogenaa", sum := "5a2aeb2848dc07ebf0410a42b5494a15c94426767c92cd0750d9ef9203a0dacf", func := "citadel/citadellaw10.StagePlays", spec := "stagePlays", unfollowed := true, recurses := true, apart := false }
def StagePlaysSaid : Prop := stagePlaysRow.holds Try.pinned (OpenSpec.ofChange stagePlaysSpec)

/-- ITS FALSE NEIGHBOUR: 'it returns false'. Refute it at one input. -/
def stagePlaysWrong : ChangeSpec := { name := "stagePlays", fn := fun _ => fun
  | [d1, d2, d3, d4] => { results := [.lit (.bool false)], args := [d1, d2, d3, d4] }
  | _ => none }
def StagePlaysWrongFalsely : Prop := stagePlaysRow.holds Try.pinned (OpenSpec.ofChange stagePlaysWrong)

/-- 'citadellaw10.StageTables': WHATEVER THE INPUT: true; the input reads as it did. -/
def stageTablesSpec : ChangeSpec := { name := "stageTables", fn := fun _ => fun
  | [d1, d2, d3, d4] => { results := [.lit (.bool true)], args := [d1, d2, d3, d4] }
  | _ => none }
def stageTablesRow : OpenClaim := { program := "ytekkjalfiogenaa", sum := "5a2aeb2848dc07ebf0410a42b5494a15c94426767c92cd0750d9ef9203a0dacf", func := "citadel/citadellaw10.StageTables", spec := "stageTables", unfollowed := true, recurses := true, apart := false }
def StageTablesSaid : Prop := stageTablesRow.holds Try.pinned (OpenSpec.ofChange stageTablesSpec)

/-- ITS FALSE NEIGHBOUR: 'it returns false'. Refute it at one input. -/
def stageTablesWrong : ChangeSpec := { name := "stageTables", fn := fun _ => fun
  | [d1, d2, d3, d4] => { results := [.lit (.bool false)], args := [d1, d2, d3, d4] }
  | _ => none }
def StageTablesWrongFalsely : Prop := stageTablesRow.holds Try.pinned (OpenSpec.ofChange stageTablesWrong)

/-- 'citadellaw10.StageFull': WHATEVER THE INPUT: true; the input reads as it did. -/
def stageFullSpec : ChangeSpec := { name := "stageFull", fn := fun _ => fun
  | [d1, d2] => { results := [.lit (.bool true)], args := [d1, d2] }
  | _ => none }
def stageFullRow : OpenClaim := { program := "ytekkjalfiogenaa", sum := "5a2aeb2848dc07ebf0410a42b5494a15c94426767c92cd0750d9ef9203a0dacf", func := "citadel/citadellaw10.StageFull", spec := "stageFull", unfollowed := true, recurses := true, apart := false }
def StageFullSaid : Prop := stageFullRow.holds Try.pinned (OpenSpec.ofChange stageFullSpec)

/-- ITS FALSE NEIGHBOUR: 'it returns false'. Refute it at one input. -/
def stageFullWrong : ChangeSpec := { name := "stageFull", fn := fun _ => fun
  | [d1, d2] => { results := [.lit (.bool false)], args := [d1, d2] }
  | _ => none }
def StageFullWrongFalsely : Prop := stageFullRow.holds Try.pinned (OpenSpec.ofChange stageFullWrong)

/- THE SECOND FORM. 'bulk': how many values and letters a reading holds, each counted each time it is reached (what is shared counts as often as it is met; a slice's spare places count too). A statement '..UptoSaid' is the law's where the arguments, and the package variables that the reading takes, are together of bulk at most 1048576: NARROWER than '..Said'. Prove '..Said' where nothing that the law and all that it calls make is longer than what came in: it says more and counts as full. Else prove '..UptoSaid'. A law counts once. -/
mutual
def uptoBulk {H : Type} : DataW H → Nat
  | .lit (.string bytes) => bytes.length + 1
  | .lit _ => 1
  | .nil => 1
  | .ptr d => uptoBulk d + 1
  | .slice elems spare => uptoBulkAll elems + uptoBulkAll spare + 1
  | .agg parts => uptoBulkAll parts + 1
  | .iface _ d => uptoBulk d + 1
  | .map entries => uptoBulkEntries entries + 1
  | .held _ => 1
def uptoBulkAll {H : Type} : List (DataW H) → Nat
  | [] => 0
  | d :: r => uptoBulk d + uptoBulkAll r
def uptoBulkEntries {H : Type} : List (Lit × DataW H) → Nat
  | [] => 0
  | x :: r => uptoBulkEntry x + uptoBulkEntries r
def uptoBulkEntry {H : Type} : Lit × DataW H → Nat
  | (.string bytes, d) => bytes.length + uptoBulk d + 1
  | (_, d) => uptoBulk d + 1
 end
def uptoSmall : (H : Type) → List (DataW H) → Bool := fun _ ds => decide (uptoBulkAll ds ≤ 1048576)
def OpenSpec.upto (s : _root_.Go.ChangeSpec) : _root_.Go.OpenSpec := { _root_.Go.OpenSpec.ofChange s with cond := some uptoSmall }

/-- 'citadellaw10.StagePlays', WHERE WHAT IT READS IS OF BULK AT MOST 1048576: true; the input reads as it did. -/
def stagePlaysUptoRow : OpenClaim := { program := "ytekkjalfiogenaa", sum := "5a2aeb2848dc07ebf0410a42b5494a15c94426767c92cd0750d9ef9203a0dacf", func := "citadel/citadellaw10.StagePlays", spec := "stagePlays", unfollowed := true, recurses := true, apart := false, narrowed := true }
def StagePlaysUptoSaid : Prop := stagePlaysUptoRow.holds Try.pinned (OpenSpec.upto stagePlaysSpec)

/-- 'citadellaw10.StageTables', WHERE WHAT IT READS IS OF BULK AT MOST 1048576: true; the input reads as it did. -/
def stageTablesUptoRow : OpenClaim := { program := "ytekkjalfiogenaa", sum := "5a2aeb2848dc07ebf0410a42b5494a15c94426767c92cd0750d9ef9203a0dacf", func := "citadel/citadellaw10.StageTables", spec := "stageTables", unfollowed := true, recurses := true, apart := false, narrowed := true }
def StageTablesUptoSaid : Prop := stageTablesUptoRow.holds Try.pinned (OpenSpec.upto stageTablesSpec)

/-- 'citadellaw10.StageFull', WHERE WHAT IT READS IS OF BULK AT MOST 1048576: true; the input reads as it did. -/
def stageFullUptoRow : OpenClaim := { program := "ytekkjalfiogenaa", sum := "5a2aeb2848dc07ebf0410a42b5494a15c94426767c92cd0750d9ef9203a0dacf", func := "citadel/citadellaw10.StageFull", spec := "stageFull", unfollowed := true, recurses := true, apart := false, narrowed := true }
def StageFullUptoSaid : Prop := stageFullUptoRow.holds Try.pinned (OpenSpec.upto stageFullSpec)

end Rows
end Go.Proofs.Ytekkjalfiogenaa
