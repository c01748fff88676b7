/-
  No cell of these rows narrows 'for every input' (looked for: loops, veiled, ifaces, maps, wideKeys, modest, calm, conditions, laid).
  DERIVED. THE GIVEN ROWS OF THIS SEAT. 6 by the template 'for every input the law returns true; each argument reads behind the call as it read before'; 0 by the template 'total and deterministic' (their statements: YtdpnojlmiopniaaTotals.lean).
  GIVEN WITH THE SEED: the statements are not yours to turn. If you find one false, say at which input.
  Laid BY PROGRAM, IN A SANDBOX (cutbox-rows.mjs): the forced cells as the released guide's own fill.sh prints them over the translation b65de705745cd1b8… (all of the seat's roots in one cut). By AI agents, Wed Nov 11 2026. No macro, syntax, notation, axiom, sorry.
-/
import Derived.Test.YtdpnojlmiopniaaChecked
import GoSem.Claim
import GoSem.ClaimJoined
import GoSem.ClaimMapViews
import Derived.JoinedTies
import Derived.KernelRfl
namespace Go.Proofs.Ytdpnojlmiopniaa
/- THE CELL 'sum', in the pinned program and in every row, IS THE sha256 OF THE DUMP (.gsa) THAT YtdpnojlmiopniaaProg.lean LOADS. Nothing in Lean hashes anything: it is a label: what it is worth is what the hold of that sum in a sandbox is worth. -/
noncomputable def Try.pinned : Pinned := { name := "ytdpnojlmiopniaa", sum := "b65de705745cd1b89fa663725f735632a09f21b8bb21c5069648901878a72435", checked := Try.checked }
namespace Rows
def none {H : Type} : Left H := { results := [], args := [] }

/-- 'citadellaw01.WordAlus': WHATEVER THE INPUT: true; the input reads as it did. -/
def wordAlusSpec : ChangeSpec := { name := "wordAlus", fn := fun _ => fun
  | [d1, d2, d3] => { results := [.lit (.bool true)], args := [d1, d2, d3] }
  | _ => none }
def wordAlusRow : OpenClaim := { program := "ytdpnojlmiopniaa", sum := "b65de705745cd1b89fa663725f735632a09f21b8bb21c5069648901878a72435", func := "citadel/citadellaw01.WordAlus", spec := "wordAlus", unfollowed := true, recurses := true, apart := false }
def WordAlusSaid : Prop := wordAlusRow.holds Try.pinned (OpenSpec.ofChange wordAlusSpec)

/-- ITS FALSE NEIGHBOUR: 'it returns false'. Refute it at one input. -/
def wordAlusWrong : ChangeSpec := { name := "wordAlus", fn := fun _ => fun
  | [d1, d2, d3] => { results := [.lit (.bool false)], args := [d1, d2, d3] }
  | _ => none }
def WordAlusWrongFalsely : Prop := wordAlusRow.holds Try.pinned (OpenSpec.ofChange wordAlusWrong)

/-- 'citadellaw01.WordAll': WHATEVER THE INPUT: true; the input reads as it did. -/
def wordAllSpec : ChangeSpec := { name := "wordAll", fn := fun _ => fun
  | [d1, d2] => { results := [.lit (.bool true)], args := [d1, d2] }
  | _ => none }
def wordAllRow : OpenClaim := { program := "ytdpnojlmiopniaa", sum := "b65de705745cd1b89fa663725f735632a09f21b8bb21c5069648901878a72435", func := "citadel/citadellaw01.WordAll", spec := "wordAll", unfollowed := true, recurses := true, apart := false }
def WordAllSaid : Prop := wordAllRow.holds Try.pinned (OpenSpec.ofChange wordAllSpec)

/-- ITS FALSE NEIGHBOUR: 'it returns false'. Refute it at one input. -/
def wordAllWrong : ChangeSpec := { name := "wordAll", fn := fun _ => fun
  | [d1, d2] => { results := [.lit (.bool false)], args := [d1, d2] }
  | _ => none }
def WordAllWrongFalsely : Prop := wordAllRow.holds Try.pinned (OpenSpec.ofChange wordAllWrong)

/-- 'citadellaw01.WordBranches': WHATEVER THE INPUT: true; the input reads as it did. -/
def wordBranchesSpec : ChangeSpec := { name := "wordBranches", fn := fun _ => fun
  | [d1, d2] => { results := [.lit (.bool true)], args := [d1, d2] }
  | _ => none }
def wordBranchesRow : OpenClaim := { program := "ytdpnojlmiopniaa", sum := "b65de705745cd1b89fa663725f735632a09f21b8bb21c5069648901878a72435", func := "citadel/citadellaw01.WordBranches", spec := "wordBranches", unfollowed := true, recurses := true, apart := false }
def WordBranchesSaid : Prop := wordBranchesRow.holds Try.pinned (OpenSpec.ofChange wordBranchesSpec)

/-- ITS FALSE NEIGHBOUR: 'it returns false'. Refute it at one input. -/
def wordBranchesWrong : ChangeSpec := { name := "wordBranches", fn := fun _ => fun
  | [d1, d2] => { results := [.lit (.bool false)], args := [d1, d2] }
  | _ => none }
def WordBranchesWrongFalsely : Prop := wordBranchesRow.holds Try.pinned (OpenSpec.ofChange wordBranchesWrong)

/-- 'citadellaw01.WordAmos': WHATEVER THE INPUT: true; the input reads as it did. -/
def wordAmosSpec : ChangeSpec := { name := "wordAmos", fn := fun _ => fun
  | [d1, d2, d3] => { results := [.lit (.bool true)], args := [d1, d2, d3] }
  | _ => none }
def wordAmosRow : OpenClaim := { program := "ytdpnojlmiopniaa", sum := "b65de705745cd1b89fa663725f735632a09f21b8bb21c5069648901878a72435", func := "citadel/citadellaw01.WordAmos", spec := "wordAmos", unfollowed := true, recurses := true, apart := false }
def WordAmosSaid : Prop := wordAmosRow.holds Try.pinned (OpenSpec.ofChange wordAmosSpec)

/-- ITS FALSE NEIGHBOUR: 'it returns false'. Refute it at one input. -/
def wordAmosWrong : ChangeSpec := { name := "wordAmos", fn := fun _ => fun
  | [d1, d2, d3] => { results := [.lit (.bool false)], args := [d1, d2, d3] }
  | _ => none }
def WordAmosWrongFalsely : Prop := wordAmosRow.holds Try.pinned (OpenSpec.ofChange wordAmosWrong)

/-- 'citadellaw01.WordExtends': WHATEVER THE INPUT: true; the input reads as it did. -/
def wordExtendsSpec : ChangeSpec := { name := "wordExtends", fn := fun _ => fun
  | [d1, d2] => { results := [.lit (.bool true)], args := [d1, d2] }
  | _ => none }
def wordExtendsRow : OpenClaim := { program := "ytdpnojlmiopniaa", sum := "b65de705745cd1b89fa663725f735632a09f21b8bb21c5069648901878a72435", func := "citadel/citadellaw01.WordExtends", spec := "wordExtends", unfollowed := true, recurses := true, apart := false }
def WordExtendsSaid : Prop := wordExtendsRow.holds Try.pinned (OpenSpec.ofChange wordExtendsSpec)

/-- ITS FALSE NEIGHBOUR: 'it returns false'. Refute it at one input. -/
def wordExtendsWrong : ChangeSpec := { name := "wordExtends", fn := fun _ => fun
  | [d1, d2] => { results := [.lit (.bool false)], args := [d1, d2] }
  | _ => none }
def WordExtendsWrongFalsely : Prop := wordExtendsRow.holds Try.pinned (OpenSpec.ofChange wordExtendsWrong)

/-- 'citadellaw01.WordDivides': WHATEVER THE INPUT: true; the input reads as it did. -/
def wordDividesSpec : ChangeSpec := { name := "wordDivides", fn := fun _ => fun
  | [d1, d2] => { results := [.lit (.bool true)], args := [d1, d2] }
  | _ => none }
def wordDividesRow : OpenClaim := { program := "ytdpnojlmiopniaa", sum := "b65de705745cd1b89fa663725f735632a09f21b8bb21c5069648901878a72435", func := "citadel/citadellaw01.WordDivides", spec := "wordDivides", unfollowed := true, recurses := true, apart := false }
def WordDividesSaid : Prop := wordDividesRow.holds Try.pinned (OpenSpec.ofChange wordDividesSpec)

/-- ITS FALSE NEIGHBOUR: 'it returns false'. Refute it at one input. -/
def wordDividesWrong : ChangeSpec := { name := "wordDivides", fn := fun _ => fun
  | [d1, d2] => { results := [.lit (.bool false)], args := [d1, d2] }
  | _ => none }
def WordDividesWrongFalsely : Prop := wordDividesRow.holds Try.pinned (OpenSpec.ofChange wordDividesWrong)

/- THE SECOND FORM. 'bulk': how many values and letters a reading holds, each counted each time it is reached (what is shared counts as often as it is met; a slice's spare places count too). A statement '..UptoSaid' is the law's where the arguments, and the package variables that the reading takes, are together of bulk at most 1048576: NARROWER than '..Said'. Prove '..Said' where nothing that the law and all that it calls make is longer than what came in: it says more and counts as full. Else prove '..UptoSaid'. A law counts once. -/
mutual
def uptoBulk {H : Type} : DataW H → Nat
  | .lit (.string bytes) => bytes.length + 1
  | .lit _ => 1
  | .nil => 1
  | .ptr d => uptoBulk d + 1
  | .slice elems spare => uptoBulkAll elems + uptoBulkAll spare + 1
  | .agg parts => uptoBulkAll parts + 1
  | .iface _ d => uptoBulk d + 1
  | .map entries => uptoBulkEntries entries + 1
  | .held _ => 1
def uptoBulkAll {H : Type} : List (DataW H) → Nat
  | [] => 0
  | d :: r => uptoBulk d + uptoBulkAll r
def uptoBulkEntries {H : Type} : List (Lit × DataW H) → Nat
  | [] => 0
  | x :: r => uptoBulkEntry x + uptoBulkEntries r
def uptoBulkEntry {H : Type} : Lit × DataW H → Nat
  | (.string bytes, d) => bytes.length + uptoBulk d + 1
  | (_, d) => uptoBulk d + 1
 end
def uptoSmall : (H : Type) → List (DataW H) → Bool := fun _ ds => decide (uptoBulkAll ds ≤ 1048576)
def OpenSpec.upto (s : _root_.Go.ChangeSpec) : _root_.Go.OpenSpec := { _root_.Go.OpenSpec.ofChange s with cond := some uptoSmall }

/-- 'citadellaw01.WordAlus', WHERE WHAT IT READS IS OF BULK AT MOST 1048576: true; the input reads as it did. -/
def wordAlusUptoRow : OpenClaim := { program := "ytdpnojlmiopniaa", sum := "b65de705745cd1b89fa663725f735632a09f21b8bb21c5069648901878a72435", func := "citadel/citadellaw01.WordAlus", spec := "wordAlus", unfollowed := true, recurses := true, apart := false, narrowed := true }
def WordAlusUptoSaid : Prop := wordAlusUptoRow.holds Try.pinned (OpenSpec.upto wordAlusSpec)

/-- 'citadellaw01.WordAll', WHERE WHAT IT READS IS OF BULK AT MOST 1048576: true; the input reads as it did. -/
def wordAllUptoRow : OpenClaim := { program := "ytdpnojlmiopniaa", sum := "b65de705745cd1b89fa663725f735632a09f21b8bb21c5069648901878a72435", func := "citadel/citadellaw01.WordAll", spec := "wordAll", unfollowed := true, recurses := true, apart := false, narrowed := true }
def WordAllUptoSaid : Prop := wordAllUptoRow.holds Try.pinned (OpenSpec.upto wordAllSpec)

/-- 'citadellaw01.WordBranches', WHERE WHAT IT READS IS OF BULK AT MOST 1048576: true; the input reads as it did. -/
def wordBranchesUptoRow : OpenClaim := { program := "ytdpnojlmiopniaa", sum := "b65de705745cd1b89fa663725f735632a09f21b8bb21c5069648901878a72435", func := "citadel/citadellaw01.WordBranches", spec := "wordBranches", unfollowed := true, recurses := true, apart := false, narrowed := true }
def WordBranchesUptoSaid : Prop := wordBranchesUptoRow.holds Try.pinned (OpenSpec.upto wordBranchesSpec)

/-- 'citadellaw01.WordAmos', WHERE WHAT IT READS IS OF BULK AT MOST 1048576: true; the input reads as it did. -/
def wordAmosUptoRow : OpenClaim := { program := "ytdpnojlmiopniaa", sum := "b65de705745cd1b89fa663725f735632a09f21b8bb21c5069648901878a72435", func := "citadel/citadellaw01.WordAmos", spec := "wordAmos", unfollowed := true, recurses := true, apart := false, narrowed := true }
def WordAmosUptoSaid : Prop := wordAmosUptoRow.holds Try.pinned (OpenSpec.upto wordAmosSpec)

/-- 'citadellaw01.WordExtends', WHERE WHAT IT READS IS OF BULK AT MOST 1048576: true; the input reads as it did. -/
def wordExtendsUptoRow : OpenClaim := { program := "ytdpnojlmiopniaa", sum := "b65de705745cd1b89fa663725f735632a09f21b8bb21c5069648901878a72435", func := "citadel/citadellaw01.WordExtends", spec := "wordExtends", unfollowed := true, recurses := true, apart := false, narrowed := true }
def WordExtendsUptoSaid : Prop := wordExtendsUptoRow.holds Try.pinned (OpenSpec.upto wordExtendsSpec)

/-- 'citadellaw01.WordDivides', WHERE WHAT IT READS IS OF BULK AT MOST 1048576: true; the input reads as it did. -/
def wordDividesUptoRow : OpenClaim := { program := "ytdpnojlmiopniaa", sum := "b65de705745cd1b89fa663725f735632a09f21b8bb21c5069648901878a72435", func := "citadel/citadellaw01.WordDivides", spec := "wordDivides", unfollowed := true, recurses := true, apart := false, narrowed := true }
def WordDividesUptoSaid : Prop := wordDividesUptoRow.holds Try.pinned (OpenSpec.upto wordDividesSpec)

end Rows
end Go.Proofs.Ytdpnojlmiopniaa
