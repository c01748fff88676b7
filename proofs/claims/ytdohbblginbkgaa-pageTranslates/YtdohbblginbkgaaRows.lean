/-
  No cell of these rows narrows 'for every input' (looked for: loops, veiled, ifaces, maps, wideKeys, modest, calm, conditions, laid).
  DERIVED. THE GIVEN ROWS OF THIS SEAT. 6 by the template 'for every input the law returns true; each argument reads behind the call as it read before'; 0 by the template 'total and deterministic' (their statements: YtdohbblginbkgaaTotals.lean).
  GIVEN WITH THE SEED: the statements are not yours to turn. If you find one false, say at which input.
  Laid BY PROGRAM, IN A SANDBOX (cutbox-rows.mjs): the forced cells as the released guide's own fill.sh prints them over the translation 7ba7a3ce6289152c… (all of the seat's roots in one cut). By AI agents, Wed Nov 11 2026. No macro, syntax, notation, axiom, sorry.
-/
import Derived.Test.YtdohbblginbkgaaChecked
import GoSem.Claim
import GoSem.ClaimJoined
import GoSem.ClaimMapViews
import Derived.JoinedTies
import Derived.KernelRfl
namespace Go.Proofs.Ytdohbblginbkgaa
/- THE CELL 'sum', in the pinned program and in every row, IS THE sha256 OF THE DUMP (.gsa) THAT YtdohbblginbkgaaProg.lean LOADS. Nothing in Lean hashes anything: it is a label: what it is worth is what the hold of that sum in a sandbox is worth. -/
noncomputable def Try.pinned : Pinned := { name := "ytdohbblginbkgaa", sum := "7ba7a3ce6289152c99db5149b53b367e5b43fe436c57b1aee5b2fa4f3db5a160", checked := Try.checked }
namespace Rows
def none {H : Type} : Left H := { results := [], args := [] }

/-- 'citadellaw03.RamPlays': WHATEVER THE INPUT: true; the input reads as it did. -/
def ramPlaysSpec : ChangeSpec := { name := "ramPlays", fn := fun _ => fun
  | [d1, d2, d3] => { results := [.lit (.bool true)], args := [d1, d2, d3] }
  | _ => none }
def ramPlaysRow : OpenClaim := { program := "ytdohbblginbkgaa", sum := "7ba7a3ce6289152c99db5149b53b367e5b43fe436c57b1aee5b2fa4f3db5a160", func := "citadel/citadellaw03.RamPlays", spec := "ramPlays", apart := false }
def RamPlaysSaid : Prop := ramPlaysRow.holds Try.pinned (OpenSpec.ofChange ramPlaysSpec)

/-- ITS FALSE NEIGHBOUR: 'it returns false'. Refute it at one input. -/
def ramPlaysWrong : ChangeSpec := { name := "ramPlays", fn := fun _ => fun
  | [d1, d2, d3] => { results := [.lit (.bool false)], args := [d1, d2, d3] }
  | _ => none }
def RamPlaysWrongFalsely : Prop := ramPlaysRow.holds Try.pinned (OpenSpec.ofChange ramPlaysWrong)

/-- 'citadellaw04.PageGuests': WHATEVER THE INPUT: true; the input reads as it did. -/
def pageGuestsSpec : ChangeSpec := { name := "pageGuests", fn := fun _ => fun
  | [d1, d2, d3] => { results := [.lit (.bool true)], args := [d1, d2, d3] }
  | _ => none }
def pageGuestsRow : OpenClaim := { program := "ytdohbblginbkgaa", sum := "7ba7a3ce6289152c99db5149b53b367e5b43fe436c57b1aee5b2fa4f3db5a160", func := "citadel/citadellaw04.PageGuests", spec := "pageGuests", unfollowed := true, recurses := true, apart := false }
def PageGuestsSaid : Prop := pageGuestsRow.holds Try.pinned (OpenSpec.ofChange pageGuestsSpec)

/-- ITS FALSE NEIGHBOUR: 'it returns false'. Refute it at one input. -/
def pageGuestsWrong : ChangeSpec := { name := "pageGuests", fn := fun _ => fun
  | [d1, d2, d3] => { results := [.lit (.bool false)], args := [d1, d2, d3] }
  | _ => none }
def PageGuestsWrongFalsely : Prop := pageGuestsRow.holds Try.pinned (OpenSpec.ofChange pageGuestsWrong)

/-- 'citadellaw04.PageTranslates': WHATEVER THE INPUT: true; the input reads as it did. -/
def pageTranslatesSpec : ChangeSpec := { name := "pageTranslates", fn := fun _ => fun
  | [d1, d2, d3] => { results := [.lit (.bool true)], args := [d1, d2, d3] }
  | _ => none }
def pageTranslatesRow : OpenClaim := { program := "ytdohbblginbkgaa", sum := "7ba7a3ce6289152c99db5149b53b367e5b43fe436c57b1aee5b2fa4f3db5a160", func := "citadel/citadellaw04.PageTranslates", spec := "pageTranslates", unfollowed := true, recurses := true, apart := false }
def PageTranslatesSaid : Prop := pageTranslatesRow.holds Try.pinned (OpenSpec.ofChange pageTranslatesSpec)

/-- ITS FALSE NEIGHBOUR: 'it returns false'. Refute it at one input. -/
def pageTranslatesWrong : ChangeSpec := { name := "pageTranslates", fn := fun _ => fun
  | [d1, d2, d3] => { results := [.lit (.bool false)], args := [d1, d2, d3] }
  | _ => none }
def PageTranslatesWrongFalsely : Prop := pageTranslatesRow.holds Try.pinned (OpenSpec.ofChange pageTranslatesWrong)

/-- 'citadellaw04.PageOffsets': WHATEVER THE INPUT: true; the input reads as it did. -/
def pageOffsetsSpec : ChangeSpec := { name := "pageOffsets", fn := fun _ => fun
  | [d1, d2, d3, d4] => { results := [.lit (.bool true)], args := [d1, d2, d3, d4] }
  | _ => none }
def pageOffsetsRow : OpenClaim := { program := "ytdohbblginbkgaa", sum := "7ba7a3ce6289152c99db5149b53b367e5b43fe436c57b1aee5b2fa4f3db5a160", func := "citadel/citadellaw04.PageOffsets", spec := "pageOffsets", unfollowed := true, recurses := true, apart := false }
def PageOffsetsSaid : Prop := pageOffsetsRow.holds Try.pinned (OpenSpec.ofChange pageOffsetsSpec)

/-- ITS FALSE NEIGHBOUR: 'it returns false'. Refute it at one input. -/
def pageOffsetsWrong : ChangeSpec := { name := "pageOffsets", fn := fun _ => fun
  | [d1, d2, d3, d4] => { results := [.lit (.bool false)], args := [d1, d2, d3, d4] }
  | _ => none }
def PageOffsetsWrongFalsely : Prop := pageOffsetsRow.holds Try.pinned (OpenSpec.ofChange pageOffsetsWrong)

/-- 'citadellaw04.PageOff': WHATEVER THE INPUT: true; the input reads as it did. -/
def pageOffSpec : ChangeSpec := { name := "pageOff", fn := fun _ => fun
  | [d1, d2, d3] => { results := [.lit (.bool true)], args := [d1, d2, d3] }
  | _ => none }
def pageOffRow : OpenClaim := { program := "ytdohbblginbkgaa", sum := "7ba7a3ce6289152c99db5149b53b367e5b43fe436c57b1aee5b2fa4f3db5a160", func := "citadel/citadellaw04.PageOff", spec := "pageOff", unfollowed := true, recurses := true, apart := false }
def PageOffSaid : Prop := pageOffRow.holds Try.pinned (OpenSpec.ofChange pageOffSpec)

/-- ITS FALSE NEIGHBOUR: 'it returns false'. Refute it at one input. -/
def pageOffWrong : ChangeSpec := { name := "pageOff", fn := fun _ => fun
  | [d1, d2, d3] => { results := [.lit (.bool false)], args := [d1, d2, d3] }
  | _ => none }
def PageOffWrongFalsely : Prop := pageOffRow.holds Try.pinned (OpenSpec.ofChange pageOffWrong)

/-- 'citadellaw04.PageStores': WHATEVER THE INPUT: true; the input reads as it did. -/
def pageStoresSpec : ChangeSpec := { name := "pageStores", fn := fun _ => fun
  | [d1, d2] => { results := [.lit (.bool true)], args := [d1, d2] }
  | _ => none }
def pageStoresRow : OpenClaim := { program := "ytdohbblginbkgaa", sum := "7ba7a3ce6289152c99db5149b53b367e5b43fe436c57b1aee5b2fa4f3db5a160", func := "citadel/citadellaw04.PageStores", spec := "pageStores", unfollowed := true, recurses := true, apart := false }
def PageStoresSaid : Prop := pageStoresRow.holds Try.pinned (OpenSpec.ofChange pageStoresSpec)

/-- ITS FALSE NEIGHBOUR: 'it returns false'. Refute it at one input. -/
def pageStoresWrong : ChangeSpec := { name := "pageStores", fn := fun _ => fun
  | [d1, d2] => { results := [.lit (.bool false)], args := [d1, d2] }
  | _ => none }
def PageStoresWrongFalsely : Prop := pageStoresRow.holds Try.pinned (OpenSpec.ofChange pageStoresWrong)

/- THE SECOND FORM. 'bulk': how many values and letters a reading holds, each counted each time it is reached (what is shared counts as often as it is met; a slice's spare places count too). A statement '..UptoSaid' is the law's where the arguments, and the package variables that the reading takes, are together of bulk at most 1048576: NARROWER than '..Said'. Prove '..Said' where nothing that the law and all that it calls make is longer than what came in: it says more and counts as full. Else prove '..UptoSaid'. A law counts once. -/
mutual
def uptoBulk {H : Type} : DataW H → Nat
  | .lit (.string bytes) => bytes.length + 1
  | .lit _ => 1
  | .nil => 1
  | .ptr d => uptoBulk d + 1
  | .slice elems spare => uptoBulkAll elems + uptoBulkAll spare + 1
  | .agg parts => uptoBulkAll parts + 1
  | .iface _ d => uptoBulk d + 1
  | .map entries => uptoBulkEntries entries + 1
  | .held _ => 1
def uptoBulkAll {H : Type} : List (DataW H) → Nat
  | [] => 0
  | d :: r => uptoBulk d + uptoBulkAll r
def uptoBulkEntries {H : Type} : List (Lit × DataW H) → Nat
  | [] => 0
  | x :: r => uptoBulkEntry x + uptoBulkEntries r
def uptoBulkEntry {H : Type} : Lit × DataW H → Nat
  | (.string bytes, d) => bytes.length + uptoBulk d + 1
  | (_, d) => uptoBulk d + 1
 end
def uptoSmall : (H : Type) → List (DataW H) → Bool := fun _ ds => decide (uptoBulkAll ds ≤ 1048576)
def OpenSpec.upto (s : _root_.Go.ChangeSpec) : _root_.Go.OpenSpec := { _root_.Go.OpenSpec.ofChange s with cond := some uptoSmall }

/-- 'citadellaw03.RamPlays', WHERE WHAT IT READS IS OF BULK AT MOST 1048576: true; the input reads as it did. -/
def ramPlaysUptoRow : OpenClaim := { program := "ytdohbblginbkgaa", sum := "7ba7a3ce6289152c99db5149b53b367e5b43fe436c57b1aee5b2fa4f3db5a160", func := "citadel/citadellaw03.RamPlays", spec := "ramPlays", apart := false, narrowed := true }
def RamPlaysUptoSaid : Prop := ramPlaysUptoRow.holds Try.pinned (OpenSpec.upto ramPlaysSpec)

/-- 'citadellaw04.PageGuests', WHERE WHAT IT READS IS OF BULK AT MOST 1048576: true; the input reads as it did. -/
def pageGuestsUptoRow : OpenClaim := { program := "ytdohbblginbkgaa", sum := "7ba7a3ce6289152c99db5149b53b367e5b43fe436c57b1aee5b2fa4f3db5a160", func := "citadel/citadellaw04.PageGuests", spec := "pageGuests", unfollowed := true, recurses := true, apart := false, narrowed := true }
def PageGuestsUptoSaid : Prop := pageGuestsUptoRow.holds Try.pinned (OpenSpec.upto pageGuestsSpec)

/-- 'citadellaw04.PageTranslates', WHERE WHAT IT READS IS OF BULK AT MOST 1048576: true; the input reads as it did. -/
def pageTranslatesUptoRow : OpenClaim := { program := "ytdohbblginbkgaa", sum := "7ba7a3ce6289152c99db5149b53b367e5b43fe436c57b1aee5b2fa4f3db5a160", func := "citadel/citadellaw04.PageTranslates", spec := "pageTranslates", unfollowed := true, recurses := true, apart := false, narrowed := true }
def PageTranslatesUptoSaid : Prop := pageTranslatesUptoRow.holds Try.pinned (OpenSpec.upto pageTranslatesSpec)

/-- 'citadellaw04.PageOffsets', WHERE WHAT IT READS IS OF BULK AT MOST 1048576: true; the input reads as it did. -/
def pageOffsetsUptoRow : OpenClaim := { program := "ytdohbblginbkgaa", sum := "7ba7a3ce6289152c99db5149b53b367e5b43fe436c57b1aee5b2fa4f3db5a160", func := "citadel/citadellaw04.PageOffsets", spec := "pageOffsets", unfollowed := true, recurses := true, apart := false, narrowed := true }
def PageOffsetsUptoSaid : Prop := pageOffsetsUptoRow.holds Try.pinned (OpenSpec.upto pageOffsetsSpec)

/-- 'citadellaw04.PageOff', WHERE WHAT IT READS IS OF BULK AT MOST 1048576: true; the input reads as it did. -/
def pageOffUptoRow : OpenClaim := { program := "ytdohbblginbkgaa", sum := "7ba7a3ce6289152c99db5149b53b367e5b43fe436c57b1aee5b2fa4f3db5a160", func := "citadel/citadellaw04.PageOff", spec := "pageOff", unfollowed := true, recurses := true, apart := false, narrowed := true }
def PageOffUptoSaid : Prop := pageOffUptoRow.holds Try.pinned (OpenSpec.upto pageOffSpec)

/-- 'citadellaw04.PageStores', WHERE WHAT IT READS IS OF BULK AT MOST 1048576: true; the input reads as it did. -/
def pageStoresUptoRow : OpenClaim := { program := "ytdohbblginbkgaa", sum := "7ba7a3ce6289152c99db5149b53b367e5b43fe436c57b1aee5b2fa4f3db5a160", func := "citadel/citadellaw04.PageStores", spec := "pageStores", unfollowed := true, recurses := true, apart := false, narrowed := true }
def PageStoresUptoSaid : Prop := pageStoresUptoRow.holds Try.pinned (OpenSpec.upto pageStoresSpec)

end Rows
end Go.Proofs.Ytdohbblginbkgaa
