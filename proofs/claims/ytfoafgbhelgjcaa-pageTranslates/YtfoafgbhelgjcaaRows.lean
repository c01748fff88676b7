/-
  No cell of these rows narrows 'for every input' (looked for: loops, veiled, ifaces, maps, wideKeys, modest, calm, conditions, laid).
  DERIVED. THE GIVEN ROWS OF THIS SEAT. 15 by the template 'for every input the law returns true; each argument reads behind the call as it read before'; 0 by the template 'total and deterministic' (their statements: YtfoafgbhelgjcaaTotals.lean).
  GIVEN WITH THE SEED: the statements are not yours to turn. If you find one false, say at which input.
  Laid BY PROGRAM, IN A SANDBOX (cutbox-rows.mjs): the forced cells as the released guide's own fill.sh prints them over the translation 035a15fef63524f7… (all of the seat's roots in one cut). By AI agents, Wed Nov 11 2026. No macro, syntax, notation, axiom, sorry.
-/
import Derived.Test.YtfoafgbhelgjcaaChecked
import GoSem.Claim
import GoSem.ClaimJoined
import GoSem.ClaimMapViews
import Derived.JoinedTies
import Derived.KernelRfl
namespace Go.Proofs.Ytfoafgbhelgjcaa
/- THE CELL 'sum', in the pinned program and in every row, IS THE sha256 OF THE DUMP (.gsa) THAT YtfoafgbhelgjcaaProg.lean LOADS. Nothing in Lean hashes anything: it is a label: what it is worth is what the hold of that sum in a sandbox is worth. -/
noncomputable def Try.pinned : Pinned := { name := "ytfoafgbhelgjcaa", sum := "035a15fef63524f7e71ce2a863e790f43af290d1a184d2507f1acff365a0a3fa", checked := Try.checked }
namespace Rows
def none {H : Type} : Left H := { results := [], args := [] }

/-- 'citadellaw07.IommuBlocks': WHATEVER THE INPUT: true; the input reads as it did. -/
def iommuBlocksSpec : ChangeSpec := { name := "iommuBlocks", fn := fun _ => fun
  | [d1, d2, d3, d4] => { results := [.lit (.bool true)], args := [d1, d2, d3, d4] }
  | _ => none }
def iommuBlocksRow : OpenClaim := { program := "ytfoafgbhelgjcaa", sum := "035a15fef63524f7e71ce2a863e790f43af290d1a184d2507f1acff365a0a3fa", func := "citadel/citadellaw07.IommuBlocks", spec := "iommuBlocks", unfollowed := true, recurses := true, apart := false }
def IommuBlocksSaid : Prop := iommuBlocksRow.holds Try.pinned (OpenSpec.ofChange iommuBlocksSpec)

/-- ITS FALSE NEIGHBOUR: 'it returns false'. Refute it at one input. -/
def iommuBlocksWrong : ChangeSpec := { name := "iommuBlocks", fn := fun _ => fun
  | [d1, d2, d3, d4] => { results := [.lit (.bool false)], args := [d1, d2, d3, d4] }
  | _ => none }
def IommuBlocksWrongFalsely : Prop := iommuBlocksRow.holds Try.pinned (OpenSpec.ofChange iommuBlocksWrong)

/-- 'citadellaw07.IommuRings': WHATEVER THE INPUT: true; the input reads as it did. -/
def iommuRingsSpec : ChangeSpec := { name := "iommuRings", fn := fun _ => fun
  | [d1, d2, d3] => { results := [.lit (.bool true)], args := [d1, d2, d3] }
  | _ => none }
def iommuRingsRow : OpenClaim := { program := "ytfoafgbhelgjcaa", sum := "035a15fef63524f7e71ce2a863e790f43af290d1a184d2507f1acff365a0a3fa", func := "citadel/citadellaw07.IommuRings", spec := "iommuRings", unfollowed := true, recurses := true, apart := false }
def IommuRingsSaid : Prop := iommuRingsRow.holds Try.pinned (OpenSpec.ofChange iommuRingsSpec)

/-- ITS FALSE NEIGHBOUR: 'it returns false'. Refute it at one input. -/
def iommuRingsWrong : ChangeSpec := { name := "iommuRings", fn := fun _ => fun
  | [d1, d2, d3] => { results := [.lit (.bool false)], args := [d1, d2, d3] }
  | _ => none }
def IommuRingsWrongFalsely : Prop := iommuRingsRow.holds Try.pinned (OpenSpec.ofChange iommuRingsWrong)

/-- 'citadellaw07.IommuAlone': WHATEVER THE INPUT: true; the input reads as it did. -/
def iommuAloneSpec : ChangeSpec := { name := "iommuAlone", fn := fun _ => fun
  | [d1, d2, d3, d4, d5] => { results := [.lit (.bool true)], args := [d1, d2, d3, d4, d5] }
  | _ => none }
def iommuAloneRow : OpenClaim := { program := "ytfoafgbhelgjcaa", sum := "035a15fef63524f7e71ce2a863e790f43af290d1a184d2507f1acff365a0a3fa", func := "citadel/citadellaw07.IommuAlone", spec := "iommuAlone", unfollowed := true, recurses := true, apart := false }
def IommuAloneSaid : Prop := iommuAloneRow.holds Try.pinned (OpenSpec.ofChange iommuAloneSpec)

/-- ITS FALSE NEIGHBOUR: 'it returns false'. Refute it at one input. -/
def iommuAloneWrong : ChangeSpec := { name := "iommuAlone", fn := fun _ => fun
  | [d1, d2, d3, d4, d5] => { results := [.lit (.bool false)], args := [d1, d2, d3, d4, d5] }
  | _ => none }
def IommuAloneWrongFalsely : Prop := iommuAloneRow.holds Try.pinned (OpenSpec.ofChange iommuAloneWrong)

/-- 'citadellaw07.IommuForgets': WHATEVER THE INPUT: true; the input reads as it did. -/
def iommuForgetsSpec : ChangeSpec := { name := "iommuForgets", fn := fun _ => fun
  | [d1, d2, d3] => { results := [.lit (.bool true)], args := [d1, d2, d3] }
  | _ => none }
def iommuForgetsRow : OpenClaim := { program := "ytfoafgbhelgjcaa", sum := "035a15fef63524f7e71ce2a863e790f43af290d1a184d2507f1acff365a0a3fa", func := "citadel/citadellaw07.IommuForgets", spec := "iommuForgets", unfollowed := true, recurses := true, apart := false }
def IommuForgetsSaid : Prop := iommuForgetsRow.holds Try.pinned (OpenSpec.ofChange iommuForgetsSpec)

/-- ITS FALSE NEIGHBOUR: 'it returns false'. Refute it at one input. -/
def iommuForgetsWrong : ChangeSpec := { name := "iommuForgets", fn := fun _ => fun
  | [d1, d2, d3] => { results := [.lit (.bool false)], args := [d1, d2, d3] }
  | _ => none }
def IommuForgetsWrongFalsely : Prop := iommuForgetsRow.holds Try.pinned (OpenSpec.ofChange iommuForgetsWrong)

/-- 'citadellaw07.IommuReaches': WHATEVER THE INPUT: true; the input reads as it did. -/
def iommuReachesSpec : ChangeSpec := { name := "iommuReaches", fn := fun _ => fun
  | [d1, d2, d3, d4, d5] => { results := [.lit (.bool true)], args := [d1, d2, d3, d4, d5] }
  | _ => none }
def iommuReachesRow : OpenClaim := { program := "ytfoafgbhelgjcaa", sum := "035a15fef63524f7e71ce2a863e790f43af290d1a184d2507f1acff365a0a3fa", func := "citadel/citadellaw07.IommuReaches", spec := "iommuReaches", unfollowed := true, recurses := true, apart := false }
def IommuReachesSaid : Prop := iommuReachesRow.holds Try.pinned (OpenSpec.ofChange iommuReachesSpec)

/-- ITS FALSE NEIGHBOUR: 'it returns false'. Refute it at one input. -/
def iommuReachesWrong : ChangeSpec := { name := "iommuReaches", fn := fun _ => fun
  | [d1, d2, d3, d4, d5] => { results := [.lit (.bool false)], args := [d1, d2, d3, d4, d5] }
  | _ => none }
def IommuReachesWrongFalsely : Prop := iommuReachesRow.holds Try.pinned (OpenSpec.ofChange iommuReachesWrong)

/-- 'citadellaw07.IommuDrops': WHATEVER THE INPUT: true; the input reads as it did. -/
def iommuDropsSpec : ChangeSpec := { name := "iommuDrops", fn := fun _ => fun
  | [d1, d2] => { results := [.lit (.bool true)], args := [d1, d2] }
  | _ => none }
def iommuDropsRow : OpenClaim := { program := "ytfoafgbhelgjcaa", sum := "035a15fef63524f7e71ce2a863e790f43af290d1a184d2507f1acff365a0a3fa", func := "citadel/citadellaw07.IommuDrops", spec := "iommuDrops", unfollowed := true, recurses := true, apart := false }
def IommuDropsSaid : Prop := iommuDropsRow.holds Try.pinned (OpenSpec.ofChange iommuDropsSpec)

/-- ITS FALSE NEIGHBOUR: 'it returns false'. Refute it at one input. -/
def iommuDropsWrong : ChangeSpec := { name := "iommuDrops", fn := fun _ => fun
  | [d1, d2] => { results := [.lit (.bool false)], args := [d1, d2] }
  | _ => none }
def IommuDropsWrongFalsely : Prop := iommuDropsRow.holds Try.pinned (OpenSpec.ofChange iommuDropsWrong)

/-- 'citadellaw07.IommuMessages': WHATEVER THE INPUT: true; the input reads as it did. -/
def iommuMessagesSpec : ChangeSpec := { name := "iommuMessages", fn := fun _ => fun
  | [d1, d2, d3, d4, d5] => { results := [.lit (.bool true)], args := [d1, d2, d3, d4, d5] }
  | _ => none }
def iommuMessagesRow : OpenClaim := { program := "ytfoafgbhelgjcaa", sum := "035a15fef63524f7e71ce2a863e790f43af290d1a184d2507f1acff365a0a3fa", func := "citadel/citadellaw07.IommuMessages", spec := "iommuMessages", apart := false }
def IommuMessagesSaid : Prop := iommuMessagesRow.holds Try.pinned (OpenSpec.ofChange iommuMessagesSpec)

/-- ITS FALSE NEIGHBOUR: 'it returns false'. Refute it at one input. -/
def iommuMessagesWrong : ChangeSpec := { name := "iommuMessages", fn := fun _ => fun
  | [d1, d2, d3, d4, d5] => { results := [.lit (.bool false)], args := [d1, d2, d3, d4, d5] }
  | _ => none }
def IommuMessagesWrongFalsely : Prop := iommuMessagesRow.holds Try.pinned (OpenSpec.ofChange iommuMessagesWrong)

/-- 'citadellaw04.PageGuests': WHATEVER THE INPUT: true; the input reads as it did. -/
def pageGuestsSpec : ChangeSpec := { name := "pageGuests", fn := fun _ => fun
  | [d1, d2, d3] => { results := [.lit (.bool true)], args := [d1, d2, d3] }
  | _ => none }
def pageGuestsRow : OpenClaim := { program := "ytfoafgbhelgjcaa", sum := "035a15fef63524f7e71ce2a863e790f43af290d1a184d2507f1acff365a0a3fa", func := "citadel/citadellaw04.PageGuests", spec := "pageGuests", unfollowed := true, recurses := true, apart := false }
def PageGuestsSaid : Prop := pageGuestsRow.holds Try.pinned (OpenSpec.ofChange pageGuestsSpec)

/-- ITS FALSE NEIGHBOUR: 'it returns false'. Refute it at one input. -/
def pageGuestsWrong : ChangeSpec := { name := "pageGuests", fn := fun _ => fun
  | [d1, d2, d3] => { results := [.lit (.bool false)], args := [d1, d2, d3] }
  | _ => none }
def PageGuestsWrongFalsely : Prop := pageGuestsRow.holds Try.pinned (OpenSpec.ofChange pageGuestsWrong)

/-- 'citadellaw04.PageTranslates': WHATEVER THE INPUT: true; the input reads as it did. -/
def pageTranslatesSpec : ChangeSpec := { name := "pageTranslates", fn := fun _ => fun
  | [d1, d2, d3] => { results := [.lit (.bool true)], args := [d1, d2, d3] }
  | _ => none }
def pageTranslatesRow : OpenClaim := { program := "ytfoafgbhelgjcaa", sum := "035a15fef63524f7e71ce2a863e790f43af290d1a184d2507f1acff365a0a3fa", func := "citadel/citadellaw04.PageTranslates", spec := "pageTranslates", unfollowed := true, recurses := true, apart := false }
def PageTranslatesSaid : Prop := pageTranslatesRow.holds Try.pinned (OpenSpec.ofChange pageTranslatesSpec)

/-- ITS FALSE NEIGHBOUR: 'it returns false'. Refute it at one input. -/
def pageTranslatesWrong : ChangeSpec := { name := "pageTranslates", fn := fun _ => fun
  | [d1, d2, d3] => { results := [.lit (.bool false)], args := [d1, d2, d3] }
  | _ => none }
def PageTranslatesWrongFalsely : Prop := pageTranslatesRow.holds Try.pinned (OpenSpec.ofChange pageTranslatesWrong)

/-- 'citadellaw04.PageOffsets': WHATEVER THE INPUT: true; the input reads as it did. -/
def pageOffsetsSpec : ChangeSpec := { name := "pageOffsets", fn := fun _ => fun
  | [d1, d2, d3, d4] => { results := [.lit (.bool true)], args := [d1, d2, d3, d4] }
  | _ => none }
def pageOffsetsRow : OpenClaim := { program := "ytfoafgbhelgjcaa", sum := "035a15fef63524f7e71ce2a863e790f43af290d1a184d2507f1acff365a0a3fa", func := "citadel/citadellaw04.PageOffsets", spec := "pageOffsets", unfollowed := true, recurses := true, apart := false }
def PageOffsetsSaid : Prop := pageOffsetsRow.holds Try.pinned (OpenSpec.ofChange pageOffsetsSpec)

/-- ITS FALSE NEIGHBOUR: 'it returns false'. Refute it at one input. -/
def pageOffsetsWrong : ChangeSpec := { name := "pageOffsets", fn := fun _ => fun
  | [d1, d2, d3, d4] => { results := [.lit (.bool false)], args := [d1, d2, d3, d4] }
  | _ => none }
def PageOffsetsWrongFalsely : Prop := pageOffsetsRow.holds Try.pinned (OpenSpec.ofChange pageOffsetsWrong)

/-- 'citadellaw04.PageOff': WHATEVER THE INPUT: true; the input reads as it did. -/
def pageOffSpec : ChangeSpec := { name := "pageOff", fn := fun _ => fun
  | [d1, d2, d3] => { results := [.lit (.bool true)], args := [d1, d2, d3] }
  | _ => none }
def pageOffRow : OpenClaim := { program := "ytfoafgbhelgjcaa", sum := "035a15fef63524f7e71ce2a863e790f43af290d1a184d2507f1acff365a0a3fa", func := "citadel/citadellaw04.PageOff", spec := "pageOff", unfollowed := true, recurses := true, apart := false }
def PageOffSaid : Prop := pageOffRow.holds Try.pinned (OpenSpec.ofChange pageOffSpec)

/-- ITS FALSE NEIGHBOUR: 'it returns false'. Refute it at one input. -/
def pageOffWrong : ChangeSpec := { name := "pageOff", fn := fun _ => fun
  | [d1, d2, d3] => { results := [.lit (.bool false)], args := [d1, d2, d3] }
  | _ => none }
def PageOffWrongFalsely : Prop := pageOffRow.holds Try.pinned (OpenSpec.ofChange pageOffWrong)

/-- 'citadellaw04.PageStores': WHATEVER THE INPUT: true; the input reads as it did. -/
def pageStoresSpec : ChangeSpec := { name := "pageStores", fn := fun _ => fun
  | [d1, d2] => { results := [.lit (.bool true)], args := [d1, d2] }
  | _ => none }
def pageStoresRow : OpenClaim := { program := "ytfoafgbhelgjcaa", sum := "035a15fef63524f7e71ce2a863e790f43af290d1a184d2507f1acff365a0a3fa", func := "citadel/citadellaw04.PageStores", spec := "pageStores", unfollowed := true, recurses := true, apart := false }
def PageStoresSaid : Prop := pageStoresRow.holds Try.pinned (OpenSpec.ofChange pageStoresSpec)

/-- ITS FALSE NEIGHBOUR: 'it returns false'. Refute it at one input. -/
def pageStoresWrong : ChangeSpec := { name := "pageStores", fn := fun _ => fun
  | [d1, d2] => { results := [.lit (.bool false)], args := [d1, d2] }
  | _ => none }
def PageStoresWrongFalsely : Prop := pageStoresRow.holds Try.pinned (OpenSpec.ofChange pageStoresWrong)

/-- 'citadellaw04.PageEntries': WHATEVER THE INPUT: true; the input reads as it did. -/
def pageEntriesSpec : ChangeSpec := { name := "pageEntries", fn := fun _ => fun
  | [d1, d2, d3, d4] => { results := [.lit (.bool true)], args := [d1, d2, d3, d4] }
  | _ => none }
def pageEntriesRow : OpenClaim := { program := "ytfoafgbhelgjcaa", sum := "035a15fef63524f7e71ce2a863e790f43af290d1a184d2507f1acff365a0a3fa", func := "citadel/citadellaw04.PageEntries", spec := "pageEntries", unfollowed := true, recurses := true, apart := false }
def PageEntriesSaid : Prop := pageEntriesRow.holds Try.pinned (OpenSpec.ofChange pageEntriesSpec)

/-- ITS FALSE NEIGHBOUR: 'it returns false'. Refute it at one input. -/
def pageEntriesWrong : ChangeSpec := { name := "pageEntries", fn := fun _ => fun
  | [d1, d2, d3, d4] => { results := [.lit (.bool false)], args := [d1, d2, d3, d4] }
  | _ => none }
def PageEntriesWrongFalsely : Prop := pageEntriesRow.holds Try.pinned (OpenSpec.ofChange pageEntriesWrong)

/-- 'citadellaw04.PageBig': WHATEVER THE INPUT: true; the input reads as it did. -/
def pageBigSpec : ChangeSpec := { name := "pageBig", fn := fun _ => fun
  | [d1, d2, d3, d4] => { results := [.lit (.bool true)], args := [d1, d2, d3, d4] }
  | _ => none }
def pageBigRow : OpenClaim := { program := "ytfoafgbhelgjcaa", sum := "035a15fef63524f7e71ce2a863e790f43af290d1a184d2507f1acff365a0a3fa", func := "citadel/citadellaw04.PageBig", spec := "pageBig", unfollowed := true, recurses := true, apart := false }
def PageBigSaid : Prop := pageBigRow.holds Try.pinned (OpenSpec.ofChange pageBigSpec)

/-- ITS FALSE NEIGHBOUR: 'it returns false'. Refute it at one input. -/
def pageBigWrong : ChangeSpec := { name := "pageBig", fn := fun _ => fun
  | [d1, d2, d3, d4] => { results := [.lit (.bool false)], args := [d1, d2, d3, d4] }
  | _ => none }
def PageBigWrongFalsely : Prop := pageBigRow.holds Try.pinned (OpenSpec.ofChange pageBigWrong)

/-- 'citadellaw04.PageRights': WHATEVER THE INPUT: true; the input reads as it did. -/
def pageRightsSpec : ChangeSpec := { name := "pageRights", fn := fun _ => fun
  | [d1, d2, d3, d4, d5] => { results := [.lit (.bool true)], args := [d1, d2, d3, d4, d5] }
  | _ => none }
def pageRightsRow : OpenClaim := { program := "ytfoafgbhelgjcaa", sum := "035a15fef63524f7e71ce2a863e790f43af290d1a184d2507f1acff365a0a3fa", func := "citadel/citadellaw04.PageRights", spec := "pageRights", unfollowed := true, recurses := true, apart := false }
def PageRightsSaid : Prop := pageRightsRow.holds Try.pinned (OpenSpec.ofChange pageRightsSpec)

/-- ITS FALSE NEIGHBOUR: 'it returns false'. Refute it at one input. -/
def pageRightsWrong : ChangeSpec := { name := "pageRights", fn := fun _ => fun
  | [d1, d2, d3, d4, d5] => { results := [.lit (.bool false)], args := [d1, d2, d3, d4, d5] }
  | _ => none }
def PageRightsWrongFalsely : Prop := pageRightsRow.holds Try.pinned (OpenSpec.ofChange pageRightsWrong)

/- THE SECOND FORM. 'bulk': how many values and letters a reading holds, each counted each time it is reached (what is shared counts as often as it is met; a slice's spare places count too). A statement '..UptoSaid' is the law's where the arguments, and the package variables that the reading takes, are together of bulk at most 1048576: NARROWER than '..Said'. Prove '..Said' where nothing that the law and all that it calls make is longer than what came in: it says more and counts as full. Else prove '..UptoSaid'. A law counts once. -/
mutual
def uptoBulk {H : Type} : DataW H → Nat
  | .lit (.string bytes) => bytes.length + 1
  | .lit _ => 1
  | .nil => 1
  | .ptr d => uptoBulk d + 1
  | .slice elems spare => uptoBulkAll elems + uptoBulkAll spare + 1
  | .agg parts => uptoBulkAll parts + 1
  | .iface _ d => uptoBulk d + 1
  | .map entries => uptoBulkEntries entries + 1
  | .held _ => 1
def uptoBulkAll {H : Type} : List (DataW H) → Nat
  | [] => 0
  | d :: r => uptoBulk d + uptoBulkAll r
def uptoBulkEntries {H : Type} : List (Lit × DataW H) → Nat
  | [] => 0
  | x :: r => uptoBulkEntry x + uptoBulkEntries r
def uptoBulkEntry {H : Type} : Lit × DataW H → Nat
  | (.string bytes, d) => bytes.length + uptoBulk d + 1
  | (_, d) => uptoBulk d + 1
 end
def uptoSmall : (H : Type) → List (DataW H) → Bool := fun _ ds => decide (uptoBulkAll ds ≤ 1048576)
def OpenSpec.upto (s : _root_.Go.ChangeSpec) : _root_.Go.OpenSpec := { _root_.Go.OpenSpec.ofChange s with cond := some uptoSmall }

/-- 'citadellaw07.IommuBlocks', WHERE WHAT IT READS IS OF BULK AT MOST 1048576: true; the input reads as it did. -/
def iommuBlocksUptoRow : OpenClaim := { program := "ytfoafgbhelgjcaa", sum := "035a15fef63524f7e71ce2a863e790f43af290d1a184d2507f1acff365a0a3fa", func := "citadel/citadellaw07.IommuBlocks", spec := "iommuBlocks", unfollowed := true, recurses := true, apart := false, narrowed := true }
def IommuBlocksUptoSaid : Prop := iommuBlocksUptoRow.holds Try.pinned (OpenSpec.upto iommuBlocksSpec)

/-- 'citadellaw07.IommuRings', WHERE WHAT IT READS IS OF BULK AT MOST 1048576: true; the input reads as it did. -/
def iommuRingsUptoRow : OpenClaim := { program := "ytfoafgbhelgjcaa", sum := "035a15fef63524f7e71ce2a863e790f43af290d1a184d2507f1acff365a0a3fa", func := "citadel/citadellaw07.IommuRings", spec := "iommuRings", unfollowed := true, recurses := true, apart := false, narrowed := true }
def IommuRingsUptoSaid : Prop := iommuRingsUptoRow.holds Try.pinned (OpenSpec.upto iommuRingsSpec)

/-- 'citadellaw07.IommuAlone', WHERE WHAT IT READS IS OF BULK AT MOST 1048576: true; the input reads as it did. -/
def iommuAloneUptoRow : OpenClaim := { program := "ytfoafgbhelgjcaa", sum := "035a15fef63524f7e71ce2a863e790f43af290d1a184d2507f1acff365a0a3fa", func := "citadel/citadellaw07.IommuAlone", spec := "iommuAlone", unfollowed := true, recurses := true, apart := false, narrowed := true }
def IommuAloneUptoSaid : Prop := iommuAloneUptoRow.holds Try.pinned (OpenSpec.upto iommuAloneSpec)

/-- 'citadellaw07.IommuForgets', WHERE WHAT IT READS IS OF BULK AT MOST 1048576: true; the input reads as it did. -/
def iommuForgetsUptoRow : OpenClaim := { program := "ytfoafgbhelgjcaa", sum := "035a15fef63524f7e71ce2a863e790f43af290d1a184d2507f1acff365a0a3fa", func := "citadel/citadellaw07.IommuForgets", spec := "iommuForgets", unfollowed := true, recurses := true, apart := false, narrowed := true }
def IommuForgetsUptoSaid : Prop := iommuForgetsUptoRow.holds Try.pinned (OpenSpec.upto iommuForgetsSpec)

/-- 'citadellaw07.IommuReaches', WHERE WHAT IT READS IS OF BULK AT MOST 1048576: true; the input reads as it did. -/
def iommuReachesUptoRow : OpenClaim := { program := "ytfoafgbhelgjcaa", sum := "035a15fef63524f7e71ce2a863e790f43af290d1a184d2507f1acff365a0a3fa", func := "citadel/citadellaw07.IommuReaches", spec := "iommuReaches", unfollowed := true, recurses := true, apart := false, narrowed := true }
def IommuReachesUptoSaid : Prop := iommuReachesUptoRow.holds Try.pinned (OpenSpec.upto iommuReachesSpec)

/-- 'citadellaw07.IommuDrops', WHERE WHAT IT READS IS OF BULK AT MOST 1048576: true; the input reads as it did. -/
def iommuDropsUptoRow : OpenClaim := { program := "ytfoafgbhelgjcaa", sum := "035a15fef63524f7e71ce2a863e790f43af290d1a184d2507f1acff365a0a3fa", func := "citadel/citadellaw07.IommuDrops", spec := "iommuDrops", unfollowed := true, recurses := true, apart := false, narrowed := true }
def IommuDropsUptoSaid : Prop := iommuDropsUptoRow.holds Try.pinned (OpenSpec.upto iommuDropsSpec)

/-- 'citadellaw07.IommuMessages', WHERE WHAT IT READS IS OF BULK AT MOST 1048576: true; the input reads as it did. -/
def iommuMessagesUptoRow : OpenClaim := { program := "ytfoafgbhelgjcaa", sum := "035a15fef63524f7e71ce2a863e790f43af290d1a184d2507f1acff365a0a3fa", func := "citadel/citadellaw07.IommuMessages", spec := "iommuMessages", apart := false, narrowed := true }
def IommuMessagesUptoSaid : Prop := iommuMessagesUptoRow.holds Try.pinned (OpenSpec.upto iommuMessagesSpec)

/-- 'citadellaw04.PageGuests', WHERE WHAT IT READS IS OF BULK AT MOST 1048576: true; the input reads as it did. -/
def pageGuestsUptoRow : OpenClaim := { program := "ytfoafgbhelgjcaa", sum := "035a15fef63524f7e71ce2a863e790f43af290d1a184d2507f1acff365a0a3fa", func := "citadel/citadellaw04.PageGuests", spec := "pageGuests", unfollowed := true, recurses := true, apart := false, narrowed := true }
def PageGuestsUptoSaid : Prop := pageGuestsUptoRow.holds Try.pinned (OpenSpec.upto pageGuestsSpec)

/-- 'citadellaw04.PageTranslates', WHERE WHAT IT READS IS OF BULK AT MOST 1048576: true; the input reads as it did. -/
def pageTranslatesUptoRow : OpenClaim := { program := "ytfoafgbhelgjcaa", sum := "035a15fef63524f7e71ce2a863e790f43af290d1a184d2507f1acff365a0a3fa", func := "citadel/citadellaw04.PageTranslates", spec := "pageTranslates", unfollowed := true, recurses := true, apart := false, narrowed := true }
def PageTranslatesUptoSaid : Prop := pageTranslatesUptoRow.holds Try.pinned (OpenSpec.upto pageTranslatesSpec)

/-- 'citadellaw04.PageOffsets', WHERE WHAT IT READS IS OF BULK AT MOST 1048576: true; the input reads as it did. -/
def pageOffsetsUptoRow : OpenClaim := { program := "ytfoafgbhelgjcaa", sum := "035a15fef63524f7e71ce2a863e790f43af290d1a184d2507f1acff365a0a3fa", func := "citadel/citadellaw04.PageOffsets", spec := "pageOffsets", unfollowed := true, recurses := true, apart := false, narrowed := true }
def PageOffsetsUptoSaid : Prop := pageOffsetsUptoRow.holds Try.pinned (OpenSpec.upto pageOffsetsSpec)

/-- 'citadellaw04.PageOff', WHERE WHAT IT READS IS OF BULK AT MOST 1048576: true; the input reads as it did. -/
def pageOffUptoRow : OpenClaim := { program := "ytfoafgbhelgjcaa", sum := "035a15fef63524f7e71ce2a863e790f43af290d1a184d2507f1acff365a0a3fa", func := "citadel/citadellaw04.PageOff", spec := "pageOff", unfollowed := true, recurses := true, apart := false, narrowed := true }
def PageOffUptoSaid : Prop := pageOffUptoRow.holds Try.pinned (OpenSpec.upto pageOffSpec)

/-- 'citadellaw04.PageStores', WHERE WHAT IT READS IS OF BULK AT MOST 1048576: true; the input reads as it did. -/
def pageStoresUptoRow : OpenClaim := { program := "ytfoafgbhelgjcaa", sum := "035a15fef63524f7e71ce2a863e790f43af290d1a184d2507f1acff365a0a3fa", func := "citadel/citadellaw04.PageStores", spec := "pageStores", unfollowed := true, recurses := true, apart := false, narrowed := true }
def PageStoresUptoSaid : Prop := pageStoresUptoRow.holds Try.pinned (OpenSpec.upto pageStoresSpec)

/-- 'citadellaw04.PageEntries', WHERE WHAT IT READS IS OF BULK AT MOST 1048576: true; the input reads as it did. -/
def pageEntriesUptoRow : OpenClaim := { program := "ytfoafgbhelgjcaa", sum := "035a15fef63524f7e71ce2a863e790f43af290d1a184d2507f1acff365a0a3fa", func := "citadel/citadellaw04.PageEntries", spec := "pageEntries", unfollowed := true, recurses := true, apart := false, narrowed := true }
def PageEntriesUptoSaid : Prop := pageEntriesUptoRow.holds Try.pinned (OpenSpec.upto pageEntriesSpec)

/-- 'citadellaw04.PageBig', WHERE WHAT IT READS IS OF BULK AT MOST 1048576: true; the input reads as it did. -/
def pageBigUptoRow : OpenClaim := { program := "ytfoafgbhelgjcaa", sum := "035a15fef63524f7e71ce2a863e790f43af290d1a184d2507f1acff365a0a3fa", func := "citadel/citadellaw04.PageBig", spec := "pageBig", unfollowed := true, recurses := true, apart := false, narrowed := true }
def PageBigUptoSaid : Prop := pageBigUptoRow.holds Try.pinned (OpenSpec.upto pageBigSpec)

/-- 'citadellaw04.PageRights', WHERE WHAT IT READS IS OF BULK AT MOST 1048576: true; the input reads as it did. -/
def pageRightsUptoRow : OpenClaim := { program := "ytfoafgbhelgjcaa", sum := "035a15fef63524f7e71ce2a863e790f43af290d1a184d2507f1acff365a0a3fa", func := "citadel/citadellaw04.PageRights", spec := "pageRights", unfollowed := true, recurses := true, apart := false, narrowed := true }
def PageRightsUptoSaid : Prop := pageRightsUptoRow.holds Try.pinned (OpenSpec.upto pageRightsSpec)

end Rows
end Go.Proofs.Ytfoafgbhelgjcaa
