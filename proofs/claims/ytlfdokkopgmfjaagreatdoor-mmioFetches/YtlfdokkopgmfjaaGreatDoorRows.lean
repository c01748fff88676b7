/-
  NARROWER THAN 'FOR EVERY INPUT', by the rows' own cells (each row's printed sentence says how): MmioFetches: laid.
  DERIVED. THE GIVEN ROWS OF THIS SEAT. 1 by the template 'for every input the law returns true; each argument reads behind the call as it read before'; 0 by the template 'total and deterministic' (their statements: YtlfdokkopgmfjaaGreatDoorTotals.lean).
  GIVEN WITH THE SEED: the statements are not yours to turn. If you find one false, say at which input.
  Laid BY PROGRAM, IN A SANDBOX (cutbox-rows.mjs): the forced cells as the released guide's own fill.sh prints them over the translation 51b8c2391094fcb0… (all of the seat's roots in one cut). By AI agents, Wed Nov 11 2026. No macro, syntax, notation, axiom, sorry.
-/
import Derived.Test.YtlfdokkopgmfjaaGreatDoorChecked
import GoSem.Claim
import GoSem.ClaimJoined
import GoSem.ClaimMapViews
import Derived.JoinedTies
import Derived.KernelRfl
namespace Go.Proofs.YtlfdokkopgmfjaaGreatDoor
/- THE CELL 'sum', in the pinned program and in every row, IS THE sha256 OF THE DUMP (.gsa) THAT YtlfdokkopgmfjaaGreatDoorProg.lean LOADS. Nothing in Lean hashes anything: it is a label: what it is worth is what the hold of that sum in a sandbox is worth. -/
noncomputable def Tryz.pinned : Pinned := { name := "ytlfdokkopgmfjaagreatdoor", sum := "51b8c2391094fcb0d2b1085947bc270b0aacb15e9818e2f47198d0717c48bdaf", checked := Tryz.checked }
namespace Rows
def none {H : Type} : Left H := { results := [], args := [] }

/- WHAT THE LISTED PACKAGE-LEVEL VARIABLES READ AS WHEN THE CALL BEGINS. Each datum BY PROGRAM (the guide's laid-datum.mjs) off the statement by which the dump's own 'gosem.cut.vars' lays the variable. In a bare row this is a premise. The card (YtlfdokkopgmfjaaGreatDoorCards.lean) ties it to the program's text. -/
def laid_citadel_inst_conditions {H : Type} : DataW H := .agg [.lit (.int .i64 1), .lit (.int .i64 2), .lit (.int .i64 0), .lit (.int .i64 0), .lit (.int .i64 3), .lit (.int .i64 4), .lit (.int .i64 5), .lit (.int .i64 6)]
def laid_citadel_inst_loads {H : Type} : DataW H := .agg [.lit (.int .i64 1), .lit (.int .i64 2), .lit (.int .i64 4), .lit (.int .i64 8), .lit (.int .i64 1), .lit (.int .i64 2), .lit (.int .i64 4), .lit (.int .i64 0)]
def laid_citadel_inst_stores {H : Type} : DataW H := .agg [.lit (.int .i64 1), .lit (.int .i64 2), .lit (.int .i64 4), .lit (.int .i64 8), .lit (.int .i64 0), .lit (.int .i64 0), .lit (.int .i64 0), .lit (.int .i64 0)]
def laid_citadel_inst_widths {H : Type} : DataW H := .agg [.lit (.int .i64 0), .lit (.int .i64 0), .lit (.int .i64 4), .lit (.int .i64 8), .lit (.int .i64 0), .lit (.int .i64 0), .lit (.int .i64 0), .lit (.int .i64 0)]
def laid_citadel_inst_basics {H : Type} : DataW H := .agg [.lit (.int .i64 1), .lit (.int .i64 3), .lit (.int .i64 4), .lit (.int .i64 5), .lit (.int .i64 6), .lit (.int .i64 7), .lit (.int .i64 9), .lit (.int .i64 10)]
def laid_citadel_inst_alternates {H : Type} : DataW H := .agg [.lit (.int .i64 2), .lit (.int .i64 0), .lit (.int .i64 0), .lit (.int .i64 0), .lit (.int .i64 0), .lit (.int .i64 8), .lit (.int .i64 0), .lit (.int .i64 0)]
def laid_citadel_inst_products {H : Type} : DataW H := .agg [.lit (.int .i64 11), .lit (.int .i64 12), .lit (.int .i64 13), .lit (.int .i64 14), .lit (.int .i64 15), .lit (.int .i64 16), .lit (.int .i64 17), .lit (.int .i64 18)]
def laid_citadel_inst_basicsW {H : Type} : DataW H := .agg [.lit (.int .i64 19), .lit (.int .i64 21), .lit (.int .i64 0), .lit (.int .i64 0), .lit (.int .i64 0), .lit (.int .i64 22), .lit (.int .i64 0), .lit (.int .i64 0)]
def laid_citadel_inst_alternatesW {H : Type} : DataW H := .agg [.lit (.int .i64 20), .lit (.int .i64 0), .lit (.int .i64 0), .lit (.int .i64 0), .lit (.int .i64 0), .lit (.int .i64 23), .lit (.int .i64 0), .lit (.int .i64 0)]
def laid_citadel_inst_productsW {H : Type} : DataW H := .agg [.lit (.int .i64 24), .lit (.int .i64 0), .lit (.int .i64 0), .lit (.int .i64 0), .lit (.int .i64 25), .lit (.int .i64 26), .lit (.int .i64 27), .lit (.int .i64 28)]
def laid_citadel_inst_atomics {H : Type} : DataW H := .agg [.lit (.int .i64 2), .lit (.int .i64 1), .lit (.int .i64 0), .lit (.int .i64 0), .lit (.int .i64 3), .lit (.int .i64 0), .lit (.int .i64 0), .lit (.int .i64 0), .lit (.int .i64 5), .lit (.int .i64 0), .lit (.int .i64 0), .lit (.int .i64 0), .lit (.int .i64 4), .lit (.int .i64 0), .lit (.int .i64 0), .lit (.int .i64 0), .lit (.int .i64 6), .lit (.int .i64 0), .lit (.int .i64 0), .lit (.int .i64 0), .lit (.int .i64 7), .lit (.int .i64 0), .lit (.int .i64 0), .lit (.int .i64 0), .lit (.int .i64 8), .lit (.int .i64 0), .lit (.int .i64 0), .lit (.int .i64 0), .lit (.int .i64 9), .lit (.int .i64 0), .lit (.int .i64 0), .lit (.int .i64 0)]

/-- 'citadellaw15.MmioFetches': WHATEVER THE INPUT: true; the input reads as it did. -/
def mmioFetchesSpec : ChangeSpec := { name := "mmioFetches", fn := fun _ => fun
  | [d] => { results := [.lit (.bool true)], args := [d] }
  | _ => none }
def mmioFetchesRow : OpenClaim := { program := "ytlfdokkopgmfjaagreatdoor", sum := "51b8c2391094fcb0d2b1085947bc270b0aacb15e9818e2f47198d0717c48bdaf", func := "citadel/citadellaw15.MmioFetches", spec := "mmioFetches", unfollowed := true, recurses := true, named := ["citadel/inst.conditions", "citadel/inst.loads", "citadel/inst.stores", "citadel/inst.basics", "citadel/inst.alternates", "citadel/inst.products", "citadel/inst.basicsW", "citadel/inst.alternatesW", "citadel/inst.productsW", "citadel/inst.widths", "citadel/inst.atomics"], apart := false, laid := [("citadel/inst.conditions", laid_citadel_inst_conditions), ("citadel/inst.loads", laid_citadel_inst_loads), ("citadel/inst.stores", laid_citadel_inst_stores), ("citadel/inst.widths", laid_citadel_inst_widths), ("citadel/inst.basics", laid_citadel_inst_basics), ("citadel/inst.alternates", laid_citadel_inst_alternates), ("citadel/inst.products", laid_citadel_inst_products), ("citadel/inst.basicsW", laid_citadel_inst_basicsW), ("citadel/inst.alternatesW", laid_citadel_inst_alternatesW), ("citadel/inst.productsW", laid_citadel_inst_productsW), ("citadel/inst.atomics", laid_citadel_inst_atomics)] }
def MmioFetchesSaid : Prop := mmioFetchesRow.holds Tryz.pinned (OpenSpec.ofChange mmioFetchesSpec)

/-- ITS FALSE NEIGHBOUR: 'it returns false'. Refute it at one input. -/
def mmioFetchesWrong : ChangeSpec := { name := "mmioFetches", fn := fun _ => fun
  | [d] => { results := [.lit (.bool false)], args := [d] }
  | _ => none }
def MmioFetchesWrongFalsely : Prop := mmioFetchesRow.holds Tryz.pinned (OpenSpec.ofChange mmioFetchesWrong)

/- THE SECOND FORM. 'bulk': how many values and letters a reading holds, each counted each time it is reached (what is shared counts as often as it is met; a slice's spare places count too). A statement '..UptoSaid' is the law's where the arguments, and the package variables that the reading takes, are together of bulk at most 1048576: NARROWER than '..Said'. Prove '..Said' where nothing that the law and all that it calls make is longer than what came in: it says more and counts as full. Else prove '..UptoSaid'. A law counts once. -/
mutual
def uptoBulk {H : Type} : DataW H → Nat
  | .lit (.string bytes) => bytes.length + 1
  | .lit _ => 1
  | .nil => 1
  | .ptr d => uptoBulk d + 1
  | .slice elems spare => uptoBulkAll elems + uptoBulkAll spare + 1
  | .agg parts => uptoBulkAll parts + 1
  | .iface _ d => uptoBulk d + 1
  | .map entries => uptoBulkEntries entries + 1
  | .held _ => 1
def uptoBulkAll {H : Type} : List (DataW H) → Nat
  | [] => 0
  | d :: r => uptoBulk d + uptoBulkAll r
def uptoBulkEntries {H : Type} : List (Lit × DataW H) → Nat
  | [] => 0
  | x :: r => uptoBulkEntry x + uptoBulkEntries r
def uptoBulkEntry {H : Type} : Lit × DataW H → Nat
  | (.string bytes, d) => bytes.length + uptoBulk d + 1
  | (_, d) => uptoBulk d + 1
 end
def uptoSmall : (H : Type) → List (DataW H) → Bool := fun _ ds => decide (uptoBulkAll ds ≤ 1048576)
def OpenSpec.upto (s : _root_.Go.ChangeSpec) : _root_.Go.OpenSpec := { _root_.Go.OpenSpec.ofChange s with cond := some uptoSmall }

/-- 'citadellaw15.MmioFetches', WHERE WHAT IT READS IS OF BULK AT MOST 1048576: true; the input reads as it did. -/
def mmioFetchesUptoRow : OpenClaim := { program := "ytlfdokkopgmfjaagreatdoor", sum := "51b8c2391094fcb0d2b1085947bc270b0aacb15e9818e2f47198d0717c48bdaf", func := "citadel/citadellaw15.MmioFetches", spec := "mmioFetches", unfollowed := true, recurses := true, named := ["citadel/inst.conditions", "citadel/inst.loads", "citadel/inst.stores", "citadel/inst.basics", "citadel/inst.alternates", "citadel/inst.products", "citadel/inst.basicsW", "citadel/inst.alternatesW", "citadel/inst.productsW", "citadel/inst.widths", "citadel/inst.atomics"], apart := false, laid := [("citadel/inst.conditions", laid_citadel_inst_conditions), ("citadel/inst.loads", laid_citadel_inst_loads), ("citadel/inst.stores", laid_citadel_inst_stores), ("citadel/inst.widths", laid_citadel_inst_widths), ("citadel/inst.basics", laid_citadel_inst_basics), ("citadel/inst.alternates", laid_citadel_inst_alternates), ("citadel/inst.products", laid_citadel_inst_products), ("citadel/inst.basicsW", laid_citadel_inst_basicsW), ("citadel/inst.alternatesW", laid_citadel_inst_alternatesW), ("citadel/inst.productsW", laid_citadel_inst_productsW), ("citadel/inst.atomics", laid_citadel_inst_atomics)], narrowed := true }
def MmioFetchesUptoSaid : Prop := mmioFetchesUptoRow.holds Tryz.pinned (OpenSpec.upto mmioFetchesSpec)

end Rows
end Go.Proofs.YtlfdokkopgmfjaaGreatDoor
