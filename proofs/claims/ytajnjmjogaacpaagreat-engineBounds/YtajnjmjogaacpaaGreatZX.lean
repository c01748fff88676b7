/- EngineBounds: a list's length out of its weight. -/
import Derived.Test.YtajnjmjogaacpaaGreatZU
import Derived.Test.YtajnjmjogaacpaaGreatMC5
import Derived.Test.YtajnjmjogaacpaaGreatMC2
namespace Go.Proofs.YtajnjmjogaacpaaGreat
open Go.ChangeShapes Go.WideShapes Go.ChangeAt Go.RowKit Go.Deep
set_option linter.unusedVariables false

theorem bytes_cellE : Tryz.prog.bytesOf 26 = 16 := by kernel_rfl
set_option maxRecDepth 100000 in
theorem cells_len {H : Type} {enc : TypeId × Value → H} {W : World} {base : Nat} {ad : Option Addr} {la cap : Nat} {d : DataW H} {p : List MemPlace} (h : DataW.Trod enc Tryz.prog W base (fun _ => true) true 22 (.slice ad la cap) d p) (hw : ∀ n ∈ d.weights Tryz.prog 22, n ≤ reachBytes) : la ≤ 8796093022208 := by
  obtain ⟨fuel, hf⟩ := h
  rcases open_slice uE_sCell hf with ⟨hcs, hx⟩ | ⟨a, len', cap', m, n, D, Pl, hcs, _, hl, hm, hmm, hx, hel⟩
  · simp [Value.cells] at hcs
    obtain ⟨rfl, rfl, rfl⟩ := hcs
    exact Nat.zero_le _
  · simp [Value.cells] at hcs
    obtain ⟨rfl, rfl, rfl⟩ := hcs
    simp only [Prod.mk.injEq] at hx
    obtain ⟨rfl, rfl⟩ := hx
    have h2 := hw ((((List.range la).map D).length + ((List.range (m - la)).map fun j => D (la + j)).length) * Tryz.prog.bytesOf 26) (by simp [DataW.weights])
    rw [bytes_cellE] at h2
    simp [reachBytes] at h2
    omega
theorem w_EngineBounds (W : World) (ad : Option Addr) (la cap ab ao : Nat) (X : Nat → Int × Int) (hX : C.Cl W ad la cap ab ao X) (root : Int) (r0 : 0 ≤ root) (r1 : root < 18446744073709551616) (bd : Option Addr) (lb cbp bb bo : Nat) (Y : Nat → EOpV) (hY : Ec W bd lb cbp bb bo Y) (hla : la ≤ 8796093022208) :
    Calls Tryz.prog 3 #[.slice ad la cap, .int .u64 root, .slice bd lb cbp] W fun e w' => e = .returned (.bool true) ∧ Below W.heap.size W w' :=
  w_EngineBounds0 W ad la cap ab ao X hX hla root r0 r1 bd lb cbp bb bo Y hY
end Go.Proofs.YtajnjmjogaacpaaGreat
