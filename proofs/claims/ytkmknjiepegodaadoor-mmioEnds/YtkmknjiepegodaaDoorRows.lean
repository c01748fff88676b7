/-
  NARROWER THAN 'FOR EVERY INPUT', by the rows' own cells (each row's printed sentence says how): MmioPlans: laid · MmioEnds: laid.
  DERIVED. THE GIVEN ROWS OF THIS SEAT. 2 by the template 'for every input the law returns true; each argument reads behind the call as it read before'; 0 by the template 'total and deterministic' (their statements: YtkmknjiepegodaaDoorTotals.lean).
  GIVEN WITH THE SEED: the statements are not yours to turn. If you find one false, say at which input.
  Laid BY PROGRAM, IN A SANDBOX (cutbox-rows.mjs): the forced cells as the released guide's own fill.sh prints them over the translation f260a9297353b3fe… (all of the seat's roots in one cut). By AI agents, Wed Nov 11 2026. No macro, syntax, notation, axiom, sorry.
-/
import Derived.Test.YtkmknjiepegodaaDoorChecked
import GoSem.Claim
import GoSem.ClaimJoined
import GoSem.ClaimMapViews
import Derived.JoinedTies
import Derived.KernelRfl
namespace Go.Proofs.YtkmknjiepegodaaDoor
/- THE CELL 'sum', in the pinned program and in every row, IS THE sha256 OF THE DUMP (.gsa) THAT YtkmknjiepegodaaDoorProg.lean LOADS. Nothing in Lean hashes anything: it is a label: what it is worth is what the hold of that sum in a sandbox is worth. -/
noncomputable def Tryd.pinned : Pinned := { name := "ytkmknjiepegodaadoor", sum := "f260a9297353b3fe80b649d72c774527c59d4024d4f38e7e4d9707be1a21752d", checked := Tryd.checked }
namespace Rows
def none {H : Type} : Left H := { results := [], args := [] }

/- WHAT THE LISTED PACKAGE-LEVEL VARIABLES READ AS WHEN THE CALL BEGINS. Each datum BY PROGRAM (the guide's laid-datum.mjs) off the statement by which the dump's own 'gosem.cut.vars' lays the variable. In a bare row this is a premise. The card (YtkmknjiepegodaaDoorCards.lean) ties it to the program's text. -/
def laid_citadel_inst_conditions {H : Type} : DataW H := .agg [.lit (.int .i64 1), .lit (.int .i64 2), .lit (.int .i64 0), .lit (.int .i64 0), .lit (.int .i64 3), .lit (.int .i64 4), .lit (.int .i64 5), .lit (.int .i64 6)]
def laid_citadel_inst_loads {H : Type} : DataW H := .agg [.lit (.int .i64 1), .lit (.int .i64 2), .lit (.int .i64 4), .lit (.int .i64 8), .lit (.int .i64 1), .lit (.int .i64 2), .lit (.int .i64 4), .lit (.int .i64 0)]
def laid_citadel_inst_stores {H : Type} : DataW H := .agg [.lit (.int .i64 1), .lit (.int .i64 2), .lit (.int .i64 4), .lit (.int .i64 8), .lit (.int .i64 0), .lit (.int .i64 0), .lit (.int .i64 0), .lit (.int .i64 0)]
def laid_citadel_inst_widths {H : Type} : DataW H := .agg [.lit (.int .i64 0), .lit (.int .i64 0), .lit (.int .i64 4), .lit (.int .i64 8), .lit (.int .i64 0), .lit (.int .i64 0), .lit (.int .i64 0), .lit (.int .i64 0)]
def laid_citadel_inst_basics {H : Type} : DataW H := .agg [.lit (.int .i64 1), .lit (.int .i64 3), .lit (.int .i64 4), .lit (.int .i64 5), .lit (.int .i64 6), .lit (.int .i64 7), .lit (.int .i64 9), .lit (.int .i64 10)]
def laid_citadel_inst_alternates {H : Type} : DataW H := .agg [.lit (.int .i64 2), .lit (.int .i64 0), .lit (.int .i64 0), .lit (.int .i64 0), .lit (.int .i64 0), .lit (.int .i64 8), .lit (.int .i64 0), .lit (.int .i64 0)]
def laid_citadel_inst_products {H : Type} : DataW H := .agg [.lit (.int .i64 11), .lit (.int .i64 12), .lit (.int .i64 13), .lit (.int .i64 14), .lit (.int .i64 15), .lit (.int .i64 16), .lit (.int .i64 17), .lit (.int .i64 18)]
def laid_citadel_inst_basicsW {H : Type} : DataW H := .agg [.lit (.int .i64 19), .lit (.int .i64 21), .lit (.int .i64 0), .lit (.int .i64 0), .lit (.int .i64 0), .lit (.int .i64 22), .lit (.int .i64 0), .lit (.int .i64 0)]
def laid_citadel_inst_alternatesW {H : Type} : DataW H := .agg [.lit (.int .i64 20), .lit (.int .i64 0), .lit (.int .i64 0), .lit (.int .i64 0), .lit (.int .i64 0), .lit (.int .i64 23), .lit (.int .i64 0), .lit (.int .i64 0)]
def laid_citadel_inst_productsW {H : Type} : DataW H := .agg [.lit (.int .i64 24), .lit (.int .i64 0), .lit (.int .i64 0), .lit (.int .i64 0), .lit (.int .i64 25), .lit (.int .i64 26), .lit (.int .i64 27), .lit (.int .i64 28)]
def laid_citadel_inst_atomics {H : Type} : DataW H := .agg [.lit (.int .i64 2), .lit (.int .i64 1), .lit (.int .i64 0), .lit (.int .i64 0), .lit (.int .i64 3), .lit (.int .i64 0), .lit (.int .i64 0), .lit (.int .i64 0), .lit (.int .i64 5), .lit (.int .i64 0), .lit (.int .i64 0), .lit (.int .i64 0), .lit (.int .i64 4), .lit (.int .i64 0), .lit (.int .i64 0), .lit (.int .i64 0), .lit (.int .i64 6), .lit (.int .i64 0), .lit (.int .i64 0), .lit (.int .i64 0), .lit (.int .i64 7), .lit (.int .i64 0), .lit (.int .i64 0), .lit (.int .i64 0), .lit (.int .i64 8), .lit (.int .i64 0), .lit (.int .i64 0), .lit (.int .i64 0), .lit (.int .i64 9), .lit (.int .i64 0), .lit (.int .i64 0), .lit (.int .i64 0)]

/-- 'citadellaw15.MmioPlans': WHATEVER THE INPUT: true; the input reads as it did. -/
def mmioPlansSpec : ChangeSpec := { name := "mmioPlans", fn := fun _ => fun
  | [d1, d2, d3, d4] => { results := [.lit (.bool true)], args := [d1, d2, d3, d4] }
  | _ => none }
def mmioPlansRow : OpenClaim := { program := "ytkmknjiepegodaadoor", sum := "f260a9297353b3fe80b649d72c774527c59d4024d4f38e7e4d9707be1a21752d", func := "citadel/citadellaw15.MmioPlans", spec := "mmioPlans", unfollowed := true, recurses := true, named := ["citadel/inst.basics", "citadel/inst.alternates", "citadel/inst.basicsW", "citadel/inst.alternatesW", "citadel/inst.products", "citadel/inst.productsW", "citadel/inst.conditions", "citadel/inst.loads", "citadel/inst.stores", "citadel/inst.widths", "citadel/inst.atomics"], apart := false, laid := [("citadel/inst.conditions", laid_citadel_inst_conditions), ("citadel/inst.loads", laid_citadel_inst_loads), ("citadel/inst.stores", laid_citadel_inst_stores), ("citadel/inst.widths", laid_citadel_inst_widths), ("citadel/inst.basics", laid_citadel_inst_basics), ("citadel/inst.alternates", laid_citadel_inst_alternates), ("citadel/inst.products", laid_citadel_inst_products), ("citadel/inst.basicsW", laid_citadel_inst_basicsW), ("citadel/inst.alternatesW", laid_citadel_inst_alternatesW), ("citadel/inst.productsW", laid_citadel_inst_productsW), ("citadel/inst.atomics", laid_citadel_inst_atomics)] }
def MmioPlansSaid : Prop := mmioPlansRow.holds Tryd.pinned (OpenSpec.ofChange mmioPlansSpec)

/-- ITS FALSE NEIGHBOUR: 'it returns false'. Refute it at one input. -/
def mmioPlansWrong : ChangeSpec := { name := "mmioPlans", fn := fun _ => fun
  | [d1, d2, d3, d4] => { results := [.lit (.bool false)], args := [d1, d2, d3, d4] }
  | _ => none }
def MmioPlansWrongFalsely : Prop := mmioPlansRow.holds Tryd.pinned (OpenSpec.ofChange mmioPlansWrong)

/-- 'citadellaw15.MmioEnds': WHATEVER THE INPUT: true; the input reads as it did. -/
def mmioEndsSpec : ChangeSpec := { name := "mmioEnds", fn := fun _ => fun
  | [d1, d2, d3, d4] => { results := [.lit (.bool true)], args := [d1, d2, d3, d4] }
  | _ => none }
def mmioEndsRow : OpenClaim := { program := "ytkmknjiepegodaadoor", sum := "f260a9297353b3fe80b649d72c774527c59d4024d4f38e7e4d9707be1a21752d", func := "citadel/citadellaw15.MmioEnds", spec := "mmioEnds", unfollowed := true, recurses := true, named := ["citadel/inst.basics", "citadel/inst.alternates", "citadel/inst.basicsW", "citadel/inst.alternatesW", "citadel/inst.products", "citadel/inst.productsW", "citadel/inst.conditions", "citadel/inst.loads", "citadel/inst.stores", "citadel/inst.widths", "citadel/inst.atomics"], apart := false, laid := [("citadel/inst.conditions", laid_citadel_inst_conditions), ("citadel/inst.loads", laid_citadel_inst_loads), ("citadel/inst.stores", laid_citadel_inst_stores), ("citadel/inst.widths", laid_citadel_inst_widths), ("citadel/inst.basics", laid_citadel_inst_basics), ("citadel/inst.alternates", laid_citadel_inst_alternates), ("citadel/inst.products", laid_citadel_inst_products), ("citadel/inst.basicsW", laid_citadel_inst_basicsW), ("citadel/inst.alternatesW", laid_citadel_inst_alternatesW), ("citadel/inst.productsW", laid_citadel_inst_productsW), ("citadel/inst.atomics", laid_citadel_inst_atomics)] }
def MmioEndsSaid : Prop := mmioEndsRow.holds Tryd.pinned (OpenSpec.ofChange mmioEndsSpec)

/-- ITS FALSE NEIGHBOUR: 'it returns false'. Refute it at one input. -/
def mmioEndsWrong : ChangeSpec := { name := "mmioEnds", fn := fun _ => fun
  | [d1, d2, d3, d4] => { results := [.lit (.bool false)], args := [d1, d2, d3, d4] }
  | _ => none }
def MmioEndsWrongFalsely : Prop := mmioEndsRow.holds Tryd.pinned (OpenSpec.ofChange mmioEndsWrong)

/- THE SECOND FORM. 'bulk': how many values and letters a reading holds, each counted each time it is reached (what is shared counts as often as it is met; a slice's spare places count too). A statement '..UptoSaid' is the law's where the arguments, and the package variables that the reading takes, are together of bulk at most 1048576: NARROWER than '..Said'. Prove '..Said' where nothing that the law and all that it calls make is longer than what came in: it says more and counts as full. Else prove '..UptoSaid'. A law counts once. -/
mutual
def uptoBulk {H : Type} : DataW H → Nat
  | .lit (.string bytes) => bytes.length + 1
  | .lit _ => 1
  | .nil => 1
  | .ptr d => uptoBulk d + 1
  | .slice elems spare => uptoBulkAll elems + uptoBulkAll spare + 1
  | .agg parts => uptoBulkAll parts + 1
  | .iface _ d => uptoBulk d + 1
  | .map entries => uptoBulkEntries entries + 1
  | .held _ => 1
def uptoBulkAll {H : Type} : List (DataW H) → Nat
  | [] => 0
  | d :: r => uptoBulk d + uptoBulkAll r
def uptoBulkEntries {H : Type} : List (Lit × DataW H) → Nat
  | [] => 0
  | x :: r => uptoBulkEntry x + uptoBulkEntries r
def uptoBulkEntry {H : Type} : Lit × DataW H → Nat
  | (.string bytes, d) => bytes.length + uptoBulk d + 1
  | (_, d) => uptoBulk d + 1
 end
def uptoSmall : (H : Type) → List (DataW H) → Bool := fun _ ds => decide (uptoBulkAll ds ≤ 1048576)
def OpenSpec.upto (s : _root_.Go.ChangeSpec) : _root_.Go.OpenSpec := { _root_.Go.OpenSpec.ofChange s with cond := some uptoSmall }

/-- 'citadellaw15.MmioPlans', WHERE WHAT IT READS IS OF BULK AT MOST 1048576: true; the input reads as it did. -/
def mmioPlansUptoRow : OpenClaim := { program := "ytkmknjiepegodaadoor", sum := "f260a9297353b3fe80b649d72c774527c59d4024d4f38e7e4d9707be1a21752d", func := "citadel/citadellaw15.MmioPlans", spec := "mmioPlans", unfollowed := true, recurses := true, named := ["citadel/inst.basics", "citadel/inst.alternates", "citadel/inst.basicsW", "citadel/inst.alternatesW", "citadel/inst.products", "citadel/inst.productsW", "citadel/inst.conditions", "citadel/inst.loads", "citadel/inst.stores", "citadel/inst.widths", "citadel/inst.atomics"], apart := false, laid := [("citadel/inst.conditions", laid_citadel_inst_conditions), ("citadel/inst.loads", laid_citadel_inst_loads), ("citadel/inst.stores", laid_citadel_inst_stores), ("citadel/inst.widths", laid_citadel_inst_widths), ("citadel/inst.basics", laid_citadel_inst_basics), ("citadel/inst.alternates", laid_citadel_inst_alternates), ("citadel/inst.products", laid_citadel_inst_products), ("citadel/inst.basicsW", laid_citadel_inst_basicsW), ("citadel/inst.alternatesW", laid_citadel_inst_alternatesW), ("citadel/inst.productsW", laid_citadel_inst_productsW), ("citadel/inst.atomics", laid_citadel_inst_atomics)], narrowed := true }
def MmioPlansUptoSaid : Prop := mmioPlansUptoRow.holds Tryd.pinned (OpenSpec.upto mmioPlansSpec)

/-- 'citadellaw15.MmioEnds', WHERE WHAT IT READS IS OF BULK AT MOST 1048576: true; the input reads as it did. -/
def mmioEndsUptoRow : OpenClaim := { program := "ytkmknjiepegodaadoor", sum := "f260a9297353b3fe80b649d72c774527c59d4024d4f38e7e4d9707be1a21752d", func := "citadel/citadellaw15.MmioEnds", spec := "mmioEnds", unfollowed := true, recurses := true, named := ["citadel/inst.basics", "citadel/inst.alternates", "citadel/inst.basicsW", "citadel/inst.alternatesW", "citadel/inst.products", "citadel/inst.productsW", "citadel/inst.conditions", "citadel/inst.loads", "citadel/inst.stores", "citadel/inst.widths", "citadel/inst.atomics"], apart := false, laid := [("citadel/inst.conditions", laid_citadel_inst_conditions), ("citadel/inst.loads", laid_citadel_inst_loads), ("citadel/inst.stores", laid_citadel_inst_stores), ("citadel/inst.widths", laid_citadel_inst_widths), ("citadel/inst.basics", laid_citadel_inst_basics), ("citadel/inst.alternates", laid_citadel_inst_alternates), ("citadel/inst.products", laid_citadel_inst_products), ("citadel/inst.basicsW", laid_citadel_inst_basicsW), ("citadel/inst.alternatesW", laid_citadel_inst_alternatesW), ("citadel/inst.productsW", laid_citadel_inst_productsW), ("citadel/inst.atomics", laid_citadel_inst_atomics)], narrowed := true }
def MmioEndsUptoSaid : Prop := mmioEndsUptoRow.holds Tryd.pinned (OpenSpec.upto mmioEndsSpec)

end Rows
end Go.Proofs.YtkmknjiepegodaaDoor
