/-
  No cell of these rows narrows 'for every input' (looked for: loops, veiled, ifaces, maps, wideKeys, modest, calm, conditions, laid).
  DERIVED. THE GIVEN ROWS OF THIS SEAT. 9 by the template 'for every input the law returns true; each argument reads behind the call as it read before'; 0 by the template 'total and deterministic' (their statements: YtnfbnbiiejaldaaGreatTotals.lean).
  GIVEN WITH THE SEED: the statements are not yours to turn. If you find one false, say at which input.
  Laid BY PROGRAM, IN A SANDBOX (cutbox-rows.mjs): the forced cells as the released guide's own fill.sh prints them over the translation d78a46f03120e999… (all of the seat's roots in one cut). By AI agents, Wed Nov 11 2026. No macro, syntax, notation, axiom, sorry.
-/
import Derived.Test.YtnfbnbiiejaldaaGreatChecked
import GoSem.Claim
import GoSem.ClaimJoined
import GoSem.ClaimMapViews
import Derived.JoinedTies
import Derived.KernelRfl
namespace Go.Proofs.YtnfbnbiiejaldaaGreat
/- THE CELL 'sum', in the pinned program and in every row, IS THE sha256 OF THE DUMP (.gsa) THAT YtnfbnbiiejaldaaGreatProg.lean LOADS. Nothing in Lean hashes anything: it is a label: what it is worth is what the hold of that sum in a sandbox is worth. -/
noncomputable def Tryz.pinned : Pinned := { name := "ytnfbnbiiejaldaagreat", sum := "d78a46f03120e99907288109d02480107466aaeb02d878002f1a0f35ab2fe112", checked := Tryz.checked }
namespace Rows
def none {H : Type} : Left H := { results := [], args := [] }

/-- 'citadellaw14.VirtdevPlays': WHATEVER THE INPUT: true; the input reads as it did. -/
def virtdevPlaysSpec : ChangeSpec := { name := "virtdevPlays", fn := fun _ => fun
  | [d1, d2, d3] => { results := [.lit (.bool true)], args := [d1, d2, d3] }
  | _ => none }
def virtdevPlaysRow : OpenClaim := { program := "ytnfbnbiiejaldaagreat", sum := "d78a46f03120e99907288109d02480107466aaeb02d878002f1a0f35ab2fe112", func := "citadel/citadellaw14.VirtdevPlays", spec := "virtdevPlays", inPlace := ["sync/atomic.LoadUint32", "(*internal/sync.Mutex).Lock", "internal/race.Disable", "sync/atomic.CompareAndSwapInt32", "internal/race.Enable", "internal/race.Acquire", "(*internal/sync.Mutex).lockSlow", "internal/sync.runtime_canSpin", "internal/sync.runtime_doSpin", "internal/sync.throw", "internal/sync.runtime_nanotime", "internal/sync.runtime_SemacquireMutex", "sync/atomic.AddInt32", "(*internal/sync.Mutex).Unlock", "internal/race.ReleaseMerge", "(*internal/sync.Mutex).unlockSlow", "internal/sync.fatal", "internal/sync.runtime_Semrelease", "sync/atomic.StoreUint32"], unfollowed := true, recurses := true, plainKeys := false, apart := false }
def VirtdevPlaysSaid : Prop := virtdevPlaysRow.holds Tryz.pinned (OpenSpec.ofChange virtdevPlaysSpec)

/-- ITS FALSE NEIGHBOUR: 'it returns false'. Refute it at one input. -/
def virtdevPlaysWrong : ChangeSpec := { name := "virtdevPlays", fn := fun _ => fun
  | [d1, d2, d3] => { results := [.lit (.bool false)], args := [d1, d2, d3] }
  | _ => none }
def VirtdevPlaysWrongFalsely : Prop := virtdevPlaysRow.holds Tryz.pinned (OpenSpec.ofChange virtdevPlaysWrong)

/-- 'citadellaw14.VirtdevDisks': WHATEVER THE INPUT: true; the input reads as it did. -/
def virtdevDisksSpec : ChangeSpec := { name := "virtdevDisks", fn := fun _ => fun
  | [d1, d2, d3] => { results := [.lit (.bool true)], args := [d1, d2, d3] }
  | _ => none }
def virtdevDisksRow : OpenClaim := { program := "ytnfbnbiiejaldaagreat", sum := "d78a46f03120e99907288109d02480107466aaeb02d878002f1a0f35ab2fe112", func := "citadel/citadellaw14.VirtdevDisks", spec := "virtdevDisks", inPlace := ["sync/atomic.LoadUint32", "(*internal/sync.Mutex).Lock", "internal/race.Disable", "sync/atomic.CompareAndSwapInt32", "internal/race.Enable", "internal/race.Acquire", "(*internal/sync.Mutex).lockSlow", "internal/sync.runtime_canSpin", "internal/sync.runtime_doSpin", "internal/sync.throw", "internal/sync.runtime_nanotime", "internal/sync.runtime_SemacquireMutex", "sync/atomic.AddInt32", "(*internal/sync.Mutex).Unlock", "internal/race.ReleaseMerge", "(*internal/sync.Mutex).unlockSlow", "internal/sync.fatal", "internal/sync.runtime_Semrelease", "sync/atomic.StoreUint32"], unfollowed := true, recurses := true, plainKeys := false, apart := false }
def VirtdevDisksSaid : Prop := virtdevDisksRow.holds Tryz.pinned (OpenSpec.ofChange virtdevDisksSpec)

/-- ITS FALSE NEIGHBOUR: 'it returns false'. Refute it at one input. -/
def virtdevDisksWrong : ChangeSpec := { name := "virtdevDisks", fn := fun _ => fun
  | [d1, d2, d3] => { results := [.lit (.bool false)], args := [d1, d2, d3] }
  | _ => none }
def VirtdevDisksWrongFalsely : Prop := virtdevDisksRow.holds Tryz.pinned (OpenSpec.ofChange virtdevDisksWrong)

/-- 'citadellaw14.VirtdevConsoles': WHATEVER THE INPUT: true; the input reads as it did. -/
def virtdevConsolesSpec : ChangeSpec := { name := "virtdevConsoles", fn := fun _ => fun
  | [d1, d2, d3] => { results := [.lit (.bool true)], args := [d1, d2, d3] }
  | _ => none }
def virtdevConsolesRow : OpenClaim := { program := "ytnfbnbiiejaldaagreat", sum := "d78a46f03120e99907288109d02480107466aaeb02d878002f1a0f35ab2fe112", func := "citadel/citadellaw14.VirtdevConsoles", spec := "virtdevConsoles", inPlace := ["sync/atomic.LoadUint32", "(*internal/sync.Mutex).Lock", "internal/race.Disable", "sync/atomic.CompareAndSwapInt32", "internal/race.Enable", "internal/race.Acquire", "(*internal/sync.Mutex).lockSlow", "internal/sync.runtime_canSpin", "internal/sync.runtime_doSpin", "internal/sync.throw", "internal/sync.runtime_nanotime", "internal/sync.runtime_SemacquireMutex", "sync/atomic.AddInt32", "(*internal/sync.Mutex).Unlock", "internal/race.ReleaseMerge", "(*internal/sync.Mutex).unlockSlow", "internal/sync.fatal", "internal/sync.runtime_Semrelease", "sync/atomic.StoreUint32"], unfollowed := true, recurses := true, plainKeys := false, apart := false }
def VirtdevConsolesSaid : Prop := virtdevConsolesRow.holds Tryz.pinned (OpenSpec.ofChange virtdevConsolesSpec)

/-- ITS FALSE NEIGHBOUR: 'it returns false'. Refute it at one input. -/
def virtdevConsolesWrong : ChangeSpec := { name := "virtdevConsoles", fn := fun _ => fun
  | [d1, d2, d3] => { results := [.lit (.bool false)], args := [d1, d2, d3] }
  | _ => none }
def VirtdevConsolesWrongFalsely : Prop := virtdevConsolesRow.holds Tryz.pinned (OpenSpec.ofChange virtdevConsolesWrong)

/-- 'citadellaw14.VirtdevNotices': WHATEVER THE INPUT: true; the input reads as it did. -/
def virtdevNoticesSpec : ChangeSpec := { name := "virtdevNotices", fn := fun _ => fun
  | [d1, d2, d3, d4] => { results := [.lit (.bool true)], args := [d1, d2, d3, d4] }
  | _ => none }
def virtdevNoticesRow : OpenClaim := { program := "ytnfbnbiiejaldaagreat", sum := "d78a46f03120e99907288109d02480107466aaeb02d878002f1a0f35ab2fe112", func := "citadel/citadellaw14.VirtdevNotices", spec := "virtdevNotices", inPlace := ["sync/atomic.LoadUint32", "(*internal/sync.Mutex).Lock", "internal/race.Disable", "sync/atomic.CompareAndSwapInt32", "internal/race.Enable", "internal/race.Acquire", "(*internal/sync.Mutex).lockSlow", "internal/sync.runtime_canSpin", "internal/sync.runtime_doSpin", "internal/sync.throw", "internal/sync.runtime_nanotime", "internal/sync.runtime_SemacquireMutex", "sync/atomic.AddInt32", "(*internal/sync.Mutex).Unlock", "internal/race.ReleaseMerge", "(*internal/sync.Mutex).unlockSlow", "internal/sync.fatal", "internal/sync.runtime_Semrelease", "sync/atomic.StoreUint32"], unfollowed := true, recurses := true, plainKeys := false, apart := false }
def VirtdevNoticesSaid : Prop := virtdevNoticesRow.holds Tryz.pinned (OpenSpec.ofChange virtdevNoticesSpec)

/-- ITS FALSE NEIGHBOUR: 'it returns false'. Refute it at one input. -/
def virtdevNoticesWrong : ChangeSpec := { name := "virtdevNotices", fn := fun _ => fun
  | [d1, d2, d3, d4] => { results := [.lit (.bool false)], args := [d1, d2, d3, d4] }
  | _ => none }
def VirtdevNoticesWrongFalsely : Prop := virtdevNoticesRow.holds Tryz.pinned (OpenSpec.ofChange virtdevNoticesWrong)

/-- 'citadellaw14.VirtdevFeatures': WHATEVER THE INPUT: true; the input reads as it did. -/
def virtdevFeaturesSpec : ChangeSpec := { name := "virtdevFeatures", fn := fun _ => fun
  | [d1, d2, d3, d4] => { results := [.lit (.bool true)], args := [d1, d2, d3, d4] }
  | _ => none }
def virtdevFeaturesRow : OpenClaim := { program := "ytnfbnbiiejaldaagreat", sum := "d78a46f03120e99907288109d02480107466aaeb02d878002f1a0f35ab2fe112", func := "citadel/citadellaw14.VirtdevFeatures", spec := "virtdevFeatures", inPlace := ["sync/atomic.LoadUint32", "(*internal/sync.Mutex).Lock", "internal/race.Disable", "sync/atomic.CompareAndSwapInt32", "internal/race.Enable", "internal/race.Acquire", "(*internal/sync.Mutex).lockSlow", "internal/sync.runtime_canSpin", "internal/sync.runtime_doSpin", "internal/sync.throw", "internal/sync.runtime_nanotime", "internal/sync.runtime_SemacquireMutex", "sync/atomic.AddInt32", "(*internal/sync.Mutex).Unlock", "internal/race.ReleaseMerge", "(*internal/sync.Mutex).unlockSlow", "internal/sync.fatal", "internal/sync.runtime_Semrelease", "sync/atomic.StoreUint32"], unfollowed := true, recurses := true, plainKeys := false, apart := false }
def VirtdevFeaturesSaid : Prop := virtdevFeaturesRow.holds Tryz.pinned (OpenSpec.ofChange virtdevFeaturesSpec)

/-- ITS FALSE NEIGHBOUR: 'it returns false'. Refute it at one input. -/
def virtdevFeaturesWrong : ChangeSpec := { name := "virtdevFeatures", fn := fun _ => fun
  | [d1, d2, d3, d4] => { results := [.lit (.bool false)], args := [d1, d2, d3, d4] }
  | _ => none }
def VirtdevFeaturesWrongFalsely : Prop := virtdevFeaturesRow.holds Tryz.pinned (OpenSpec.ofChange virtdevFeaturesWrong)

/-- 'citadellaw14.VirtdevReads': WHATEVER THE INPUT: true; the input reads as it did. -/
def virtdevReadsSpec : ChangeSpec := { name := "virtdevReads", fn := fun _ => fun
  | [d1, d2, d3] => { results := [.lit (.bool true)], args := [d1, d2, d3] }
  | _ => none }
def virtdevReadsRow : OpenClaim := { program := "ytnfbnbiiejaldaagreat", sum := "d78a46f03120e99907288109d02480107466aaeb02d878002f1a0f35ab2fe112", func := "citadel/citadellaw14.VirtdevReads", spec := "virtdevReads", inPlace := ["sync/atomic.LoadUint32", "(*internal/sync.Mutex).Lock", "internal/race.Disable", "sync/atomic.CompareAndSwapInt32", "internal/race.Enable", "internal/race.Acquire", "(*internal/sync.Mutex).lockSlow", "internal/sync.runtime_canSpin", "internal/sync.runtime_doSpin", "internal/sync.throw", "internal/sync.runtime_nanotime", "internal/sync.runtime_SemacquireMutex", "sync/atomic.AddInt32", "(*internal/sync.Mutex).Unlock", "internal/race.ReleaseMerge", "(*internal/sync.Mutex).unlockSlow", "internal/sync.fatal", "internal/sync.runtime_Semrelease", "sync/atomic.StoreUint32"], unfollowed := true, recurses := true, plainKeys := false, apart := false }
def VirtdevReadsSaid : Prop := virtdevReadsRow.holds Tryz.pinned (OpenSpec.ofChange virtdevReadsSpec)

/-- ITS FALSE NEIGHBOUR: 'it returns false'. Refute it at one input. -/
def virtdevReadsWrong : ChangeSpec := { name := "virtdevReads", fn := fun _ => fun
  | [d1, d2, d3] => { results := [.lit (.bool false)], args := [d1, d2, d3] }
  | _ => none }
def VirtdevReadsWrongFalsely : Prop := virtdevReadsRow.holds Tryz.pinned (OpenSpec.ofChange virtdevReadsWrong)

/-- 'citadellaw14.VirtdevWrecks': WHATEVER THE INPUT: true; the input reads as it did. -/
def virtdevWrecksSpec : ChangeSpec := { name := "virtdevWrecks", fn := fun _ => fun
  | [d1, d2, d3, d4] => { results := [.lit (.bool true)], args := [d1, d2, d3, d4] }
  | _ => none }
def virtdevWrecksRow : OpenClaim := { program := "ytnfbnbiiejaldaagreat", sum := "d78a46f03120e99907288109d02480107466aaeb02d878002f1a0f35ab2fe112", func := "citadel/citadellaw14.VirtdevWrecks", spec := "virtdevWrecks", inPlace := ["sync/atomic.LoadUint32", "(*internal/sync.Mutex).Lock", "internal/race.Disable", "sync/atomic.CompareAndSwapInt32", "internal/race.Enable", "internal/race.Acquire", "(*internal/sync.Mutex).lockSlow", "internal/sync.runtime_canSpin", "internal/sync.runtime_doSpin", "internal/sync.throw", "internal/sync.runtime_nanotime", "internal/sync.runtime_SemacquireMutex", "sync/atomic.AddInt32", "(*internal/sync.Mutex).Unlock", "internal/race.ReleaseMerge", "(*internal/sync.Mutex).unlockSlow", "internal/sync.fatal", "internal/sync.runtime_Semrelease", "sync/atomic.StoreUint32"], unfollowed := true, recurses := true, plainKeys := false, apart := false }
def VirtdevWrecksSaid : Prop := virtdevWrecksRow.holds Tryz.pinned (OpenSpec.ofChange virtdevWrecksSpec)

/-- ITS FALSE NEIGHBOUR: 'it returns false'. Refute it at one input. -/
def virtdevWrecksWrong : ChangeSpec := { name := "virtdevWrecks", fn := fun _ => fun
  | [d1, d2, d3, d4] => { results := [.lit (.bool false)], args := [d1, d2, d3, d4] }
  | _ => none }
def VirtdevWrecksWrongFalsely : Prop := virtdevWrecksRow.holds Tryz.pinned (OpenSpec.ofChange virtdevWrecksWrong)

/-- 'citadellaw14.VirtdevFrames': WHATEVER THE INPUT: true; the input reads as it did. -/
def virtdevFramesSpec : ChangeSpec := { name := "virtdevFrames", fn := fun _ => fun
  | [d1, d2, d3] => { results := [.lit (.bool true)], args := [d1, d2, d3] }
  | _ => none }
def virtdevFramesRow : OpenClaim := { program := "ytnfbnbiiejaldaagreat", sum := "d78a46f03120e99907288109d02480107466aaeb02d878002f1a0f35ab2fe112", func := "citadel/citadellaw14.VirtdevFrames", spec := "virtdevFrames", inPlace := ["sync/atomic.LoadUint32", "(*internal/sync.Mutex).Lock", "internal/race.Disable", "sync/atomic.CompareAndSwapInt32", "internal/race.Enable", "internal/race.Acquire", "(*internal/sync.Mutex).lockSlow", "internal/sync.runtime_canSpin", "internal/sync.runtime_doSpin", "internal/sync.throw", "internal/sync.runtime_nanotime", "internal/sync.runtime_SemacquireMutex", "sync/atomic.AddInt32", "(*internal/sync.Mutex).Unlock", "internal/race.ReleaseMerge", "(*internal/sync.Mutex).unlockSlow", "internal/sync.fatal", "internal/sync.runtime_Semrelease", "sync/atomic.StoreUint32"], unfollowed := true, recurses := true, plainKeys := false, apart := false }
def VirtdevFramesSaid : Prop := virtdevFramesRow.holds Tryz.pinned (OpenSpec.ofChange virtdevFramesSpec)

/-- ITS FALSE NEIGHBOUR: 'it returns false'. Refute it at one input. -/
def virtdevFramesWrong : ChangeSpec := { name := "virtdevFrames", fn := fun _ => fun
  | [d1, d2, d3] => { results := [.lit (.bool false)], args := [d1, d2, d3] }
  | _ => none }
def VirtdevFramesWrongFalsely : Prop := virtdevFramesRow.holds Tryz.pinned (OpenSpec.ofChange virtdevFramesWrong)

/-- 'citadellaw14.VirtdevBounds': WHATEVER THE INPUT: true; the input reads as it did. -/
def virtdevBoundsSpec : ChangeSpec := { name := "virtdevBounds", fn := fun _ => fun
  | [d1, d2, d3, d4] => { results := [.lit (.bool true)], args := [d1, d2, d3, d4] }
  | _ => none }
def virtdevBoundsRow : OpenClaim := { program := "ytnfbnbiiejaldaagreat", sum := "d78a46f03120e99907288109d02480107466aaeb02d878002f1a0f35ab2fe112", func := "citadel/citadellaw14.VirtdevBounds", spec := "virtdevBounds", inPlace := ["sync/atomic.LoadUint32", "(*internal/sync.Mutex).Lock", "internal/race.Disable", "sync/atomic.CompareAndSwapInt32", "internal/race.Enable", "internal/race.Acquire", "(*internal/sync.Mutex).lockSlow", "internal/sync.runtime_canSpin", "internal/sync.runtime_doSpin", "internal/sync.throw", "internal/sync.runtime_nanotime", "internal/sync.runtime_SemacquireMutex", "sync/atomic.AddInt32", "(*internal/sync.Mutex).Unlock", "internal/race.ReleaseMerge", "(*internal/sync.Mutex).unlockSlow", "internal/sync.fatal", "internal/sync.runtime_Semrelease", "sync/atomic.StoreUint32"], unfollowed := true, recurses := true, plainKeys := false, apart := false }
def VirtdevBoundsSaid : Prop := virtdevBoundsRow.holds Tryz.pinned (OpenSpec.ofChange virtdevBoundsSpec)

/-- ITS FALSE NEIGHBOUR: 'it returns false'. Refute it at one input. -/
def virtdevBoundsWrong : ChangeSpec := { name := "virtdevBounds", fn := fun _ => fun
  | [d1, d2, d3, d4] => { results := [.lit (.bool false)], args := [d1, d2, d3, d4] }
  | _ => none }
def VirtdevBoundsWrongFalsely : Prop := virtdevBoundsRow.holds Tryz.pinned (OpenSpec.ofChange virtdevBoundsWrong)

/- THE SECOND FORM. 'bulk': how many values and letters a reading holds, each counted each time it is reached (what is shared counts as often as it is met; a slice's spare places count too). A statement '..UptoSaid' is the law's where the arguments, and the package variables that the reading takes, are together of bulk at most 1048576: NARROWER than '..Said'. Prove '..Said' where nothing that the law and all that it calls make is longer than what came in: it says more and counts as full. Else prove '..UptoSaid'. A law counts once. -/
mutual
def uptoBulk {H : Type} : DataW H → Nat
  | .lit (.string bytes) => bytes.length + 1
  | .lit _ => 1
  | .nil => 1
  | .ptr d => uptoBulk d + 1
  | .slice elems spare => uptoBulkAll elems + uptoBulkAll spare + 1
  | .agg parts => uptoBulkAll parts + 1
  | .iface _ d => uptoBulk d + 1
  | .map entries => uptoBulkEntries entries + 1
  | .held _ => 1
def uptoBulkAll {H : Type} : List (DataW H) → Nat
  | [] => 0
  | d :: r => uptoBulk d + uptoBulkAll r
def uptoBulkEntries {H : Type} : List (Lit × DataW H) → Nat
  | [] => 0
  | x :: r => uptoBulkEntry x + uptoBulkEntries r
def uptoBulkEntry {H : Type} : Lit × DataW H → Nat
  | (.string bytes, d) => bytes.length + uptoBulk d + 1
  | (_, d) => uptoBulk d + 1
 end
def uptoSmall : (H : Type) → List (DataW H) → Bool := fun _ ds => decide (uptoBulkAll ds ≤ 1048576)
def OpenSpec.upto (s : _root_.Go.ChangeSpec) : _root_.Go.OpenSpec := { _root_.Go.OpenSpec.ofChange s with cond := some uptoSmall }

/-- 'citadellaw14.VirtdevPlays', WHERE WHAT IT READS IS OF BULK AT MOST 1048576: true; the input reads as it did. -/
def virtdevPlaysUptoRow : OpenClaim := { program := "ytnfbnbiiejaldaagreat", sum := "d78a46f03120e99907288109d02480107466aaeb02d878002f1a0f35ab2fe112", func := "citadel/citadellaw14.VirtdevPlays", spec := "virtdevPlays", inPlace := ["sync/atomic.LoadUint32", "(*internal/sync.Mutex).Lock", "internal/race.Disable", "sync/atomic.CompareAndSwapInt32", "internal/race.Enable", "internal/race.Acquire", "(*internal/sync.Mutex).lockSlow", "internal/sync.runtime_canSpin", "internal/sync.runtime_doSpin", "internal/sync.throw", "internal/sync.runtime_nanotime", "internal/sync.runtime_SemacquireMutex", "sync/atomic.AddInt32", "(*internal/sync.Mutex).Unlock", "internal/race.ReleaseMerge", "(*internal/sync.Mutex).unlockSlow", "internal/sync.fatal", "internal/sync.runtime_Semrelease", "sync/atomic.StoreUint32"], unfollowed := true, recurses := true, plainKeys := false, apart := false, narrowed := true }
def VirtdevPlaysUptoSaid : Prop := virtdevPlaysUptoRow.holds Tryz.pinned (OpenSpec.upto virtdevPlaysSpec)

/-- 'citadellaw14.VirtdevDisks', WHERE WHAT IT READS IS OF BULK AT MOST 1048576: true; the input reads as it did. -/
def virtdevDisksUptoRow : OpenClaim := { program := "ytnfbnbiiejaldaagreat", sum := "d78a46f03120e99907288109d02480107466aaeb02d878002f1a0f35ab2fe112", func := "citadel/citadellaw14.VirtdevDisks", spec := "virtdevDisks", inPlace := ["sync/atomic.LoadUint32", "(*internal/sync.Mutex).Lock", "internal/race.Disable", "sync/atomic.CompareAndSwapInt32", "internal/race.Enable", "internal/race.Acquire", "(*internal/sync.Mutex).lockSlow", "internal/sync.runtime_canSpin", "internal/sync.runtime_doSpin", "internal/sync.throw", "internal/sync.runtime_nanotime", "internal/sync.runtime_SemacquireMutex", "sync/atomic.AddInt32", "(*internal/sync.Mutex).Unlock", "internal/race.ReleaseMerge", "(*internal/sync.Mutex).unlockSlow", "internal/sync.fatal", "internal/sync.runtime_Semrelease", "sync/atomic.StoreUint32"], unfollowed := true, recurses := true, plainKeys := false, apart := false, narrowed := true }
def VirtdevDisksUptoSaid : Prop := virtdevDisksUptoRow.holds Tryz.pinned (OpenSpec.upto virtdevDisksSpec)

/-- 'citadellaw14.VirtdevConsoles', WHERE WHAT IT READS IS OF BULK AT MOST 1048576: true; the input reads as it did. -/
def virtdevConsolesUptoRow : OpenClaim := { program := "ytnfbnbiiejaldaagreat", sum := "d78a46f03120e99907288109d02480107466aaeb02d878002f1a0f35ab2fe112", func := "citadel/citadellaw14.VirtdevConsoles", spec := "virtdevConsoles", inPlace := ["sync/atomic.LoadUint32", "(*internal/sync.Mutex).Lock", "internal/race.Disable", "sync/atomic.CompareAndSwapInt32", "internal/race.Enable", "internal/race.Acquire", "(*internal/sync.Mutex).lockSlow", "internal/sync.runtime_canSpin", "internal/sync.runtime_doSpin", "internal/sync.throw", "internal/sync.runtime_nanotime", "internal/sync.runtime_SemacquireMutex", "sync/atomic.AddInt32", "(*internal/sync.Mutex).Unlock", "internal/race.ReleaseMerge", "(*internal/sync.Mutex).unlockSlow", "internal/sync.fatal", "internal/sync.runtime_Semrelease", "sync/atomic.StoreUint32"], unfollowed := true, recurses := true, plainKeys := false, apart := false, narrowed := true }
def VirtdevConsolesUptoSaid : Prop := virtdevConsolesUptoRow.holds Tryz.pinned (OpenSpec.upto virtdevConsolesSpec)

/-- 'citadellaw14.VirtdevNotices', WHERE WHAT IT READS IS OF BULK AT MOST 1048576: true; the input reads as it did. -/
def virtdevNoticesUptoRow : OpenClaim := { program := "ytnfbnbiiejaldaagreat", sum := "d78a46f03120e99907288109d02480107466aaeb02d878002f1a0f35ab2fe112", func := "citadel/citadellaw14.VirtdevNotices", spec := "virtdevNotices", inPlace := ["sync/atomic.LoadUint32", "(*internal/sync.Mutex).Lock", "internal/race.Disable", "sync/atomic.CompareAndSwapInt32", "internal/race.Enable", "internal/race.Acquire", "(*internal/sync.Mutex).lockSlow", "internal/sync.runtime_canSpin", "internal/sync.runtime_doSpin", "internal/sync.throw", "internal/sync.runtime_nanotime", "internal/sync.runtime_SemacquireMutex", "sync/atomic.AddInt32", "(*internal/sync.Mutex).Unlock", "internal/race.ReleaseMerge", "(*internal/sync.Mutex).unlockSlow", "internal/sync.fatal", "internal/sync.runtime_Semrelease", "sync/atomic.StoreUint32"], unfollowed := true, recurses := true, plainKeys := false, apart := false, narrowed := true }
def VirtdevNoticesUptoSaid : Prop := virtdevNoticesUptoRow.holds Tryz.pinned (OpenSpec.upto virtdevNoticesSpec)

/-- 'citadellaw14.VirtdevFeatures', WHERE WHAT IT READS IS OF BULK AT MOST 1048576: true; the input reads as it did. -/
def virtdevFeaturesUptoRow : OpenClaim := { program := "ytnfbnbiiejaldaagreat", sum := "d78a46f03120e99907288109d02480107466aaeb02d878002f1a0f35ab2fe112", func := "citadel/citadellaw14.VirtdevFeatures", spec := "virtdevFeatures", inPlace := ["sync/atomic.LoadUint32", "(*internal/sync.Mutex).Lock", "internal/race.Disable", "sync/atomic.CompareAndSwapInt32", "internal/race.Enable", "internal/race.Acquire", "(*internal/sync.Mutex).lockSlow", "internal/sync.runtime_canSpin", "internal/sync.runtime_doSpin", "internal/sync.throw", "internal/sync.runtime_nanotime", "internal/sync.runtime_SemacquireMutex", "sync/atomic.AddInt32", "(*internal/sync.Mutex).Unlock", "internal/race.ReleaseMerge", "(*internal/sync.Mutex).unlockSlow", "internal/sync.fatal", "internal/sync.runtime_Semrelease", "sync/atomic.StoreUint32"], unfollowed := true, recurses := true, plainKeys := false, apart := false, narrowed := true }
def VirtdevFeaturesUptoSaid : Prop := virtdevFeaturesUptoRow.holds Tryz.pinned (OpenSpec.upto virtdevFeaturesSpec)

/-- 'citadellaw14.VirtdevReads', WHERE WHAT IT READS IS OF BULK AT MOST 1048576: true; the input reads as it did. -/
def virtdevReadsUptoRow : OpenClaim := { program := "ytnfbnbiiejaldaagreat", sum := "d78a46f03120e99907288109d02480107466aaeb02d878002f1a0f35ab2fe112", func := "citadel/citadellaw14.VirtdevReads", spec := "virtdevReads", inPlace := ["sync/atomic.LoadUint32", "(*internal/sync.Mutex).Lock", "internal/race.Disable", "sync/atomic.CompareAndSwapInt32", "internal/race.Enable", "internal/race.Acquire", "(*internal/sync.Mutex).lockSlow", "internal/sync.runtime_canSpin", "internal/sync.runtime_doSpin", "internal/sync.throw", "internal/sync.runtime_nanotime", "internal/sync.runtime_SemacquireMutex", "sync/atomic.AddInt32", "(*internal/sync.Mutex).Unlock", "internal/race.ReleaseMerge", "(*internal/sync.Mutex).unlockSlow", "internal/sync.fatal", "internal/sync.runtime_Semrelease", "sync/atomic.StoreUint32"], unfollowed := true, recurses := true, plainKeys := false, apart := false, narrowed := true }
def VirtdevReadsUptoSaid : Prop := virtdevReadsUptoRow.holds Tryz.pinned (OpenSpec.upto virtdevReadsSpec)

/-- 'citadellaw14.VirtdevWrecks', WHERE WHAT IT READS IS OF BULK AT MOST 1048576: true; the input reads as it did. -/
def virtdevWrecksUptoRow : OpenClaim := { program := "ytnfbnbiiejaldaagreat", sum := "d78a46f03120e99907288109d02480107466aaeb02d878002f1a0f35ab2fe112", func := "citadel/citadellaw14.VirtdevWrecks", spec := "virtdevWrecks", inPlace := ["sync/atomic.LoadUint32", "(*internal/sync.Mutex).Lock", "internal/race.Disable", "sync/atomic.CompareAndSwapInt32", "internal/race.Enable", "internal/race.Acquire", "(*internal/sync.Mutex).lockSlow", "internal/sync.runtime_canSpin", "internal/sync.runtime_doSpin", "internal/sync.throw", "internal/sync.runtime_nanotime", "internal/sync.runtime_SemacquireMutex", "sync/atomic.AddInt32", "(*internal/sync.Mutex).Unlock", "internal/race.ReleaseMerge", "(*internal/sync.Mutex).unlockSlow", "internal/sync.fatal", "internal/sync.runtime_Semrelease", "sync/atomic.StoreUint32"], unfollowed := true, recurses := true, plainKeys := false, apart := false, narrowed := true }
def VirtdevWrecksUptoSaid : Prop := virtdevWrecksUptoRow.holds Tryz.pinned (OpenSpec.upto virtdevWrecksSpec)

/-- 'citadellaw14.VirtdevFrames', WHERE WHAT IT READS IS OF BULK AT MOST 1048576: true; the input reads as it did. -/
def virtdevFramesUptoRow : OpenClaim := { program := "ytnfbnbiiejaldaagreat", sum := "d78a46f03120e99907288109d02480107466aaeb02d878002f1a0f35ab2fe112", func := "citadel/citadellaw14.VirtdevFrames", spec := "virtdevFrames", inPlace := ["sync/atomic.LoadUint32", "(*internal/sync.Mutex).Lock", "internal/race.Disable", "sync/atomic.CompareAndSwapInt32", "internal/race.Enable", "internal/race.Acquire", "(*internal/sync.Mutex).lockSlow", "internal/sync.runtime_canSpin", "internal/sync.runtime_doSpin", "internal/sync.throw", "internal/sync.runtime_nanotime", "internal/sync.runtime_SemacquireMutex", "sync/atomic.AddInt32", "(*internal/sync.Mutex).Unlock", "internal/race.ReleaseMerge", "(*internal/sync.Mutex).unlockSlow", "internal/sync.fatal", "internal/sync.runtime_Semrelease", "sync/atomic.StoreUint32"], unfollowed := true, recurses := true, plainKeys := false, apart := false, narrowed := true }
def VirtdevFramesUptoSaid : Prop := virtdevFramesUptoRow.holds Tryz.pinned (OpenSpec.upto virtdevFramesSpec)

/-- 'citadellaw14.VirtdevBounds', WHERE WHAT IT READS IS OF BULK AT MOST 1048576: true; the input reads as it did. -/
def virtdevBoundsUptoRow : OpenClaim := { program := "ytnfbnbiiejaldaagreat", sum := "d78a46f03120e99907288109d02480107466aaeb02d878002f1a0f35ab2fe112", func := "citadel/citadellaw14.VirtdevBounds", spec := "virtdevBounds", inPlace := ["sync/atomic.LoadUint32", "(*internal/sync.Mutex).Lock", "internal/race.Disable", "sync/atomic.CompareAndSwapInt32", "internal/race.Enable", "internal/race.Acquire", "(*internal/sync.Mutex).lockSlow", "internal/sync.runtime_canSpin", "internal/sync.runtime_doSpin", "internal/sync.throw", "internal/sync.runtime_nanotime", "internal/sync.runtime_SemacquireMutex", "sync/atomic.AddInt32", "(*internal/sync.Mutex).Unlock", "internal/race.ReleaseMerge", "(*internal/sync.Mutex).unlockSlow", "internal/sync.fatal", "internal/sync.runtime_Semrelease", "sync/atomic.StoreUint32"], unfollowed := true, recurses := true, plainKeys := false, apart := false, narrowed := true }
def VirtdevBoundsUptoSaid : Prop := virtdevBoundsUptoRow.holds Tryz.pinned (OpenSpec.upto virtdevBoundsSpec)

end Rows
end Go.Proofs.YtnfbnbiiejaldaaGreat
