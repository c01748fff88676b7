/- From what the row says of an argument to what the walks read. -/
import Derived.Test.YtlfdokkopgmfjaaGreatDoorRows
import Derived.Test.YtlfdokkopgmfjaaGreatDoorMC2
import Derived.OpenShut
import Derived.SizedLaws
import Derived.Test.YtlfdokkopgmfjaaGreatDoorMC3
import Derived.Deep.Slices
namespace Go.Proofs.YtlfdokkopgmfjaaGreatDoor.C
open Go.ChangeShapes Go.WideShapes Go.ChangeAt Go.RowKit
set_option linter.unusedVariables false
set_option maxRecDepth 100000
end Go.Proofs.YtlfdokkopgmfjaaGreatDoor.C
namespace Go.Proofs.YtlfdokkopgmfjaaGreatDoor.C
open Go.ChangeShapes Go.WideShapes Go.ChangeAt Go.RowKit Go.Deep
set_option linter.unusedVariables false
set_option maxRecDepth 100000
theorem under_cell : Tryz.prog.underlying 77 = some (.struct (Tryz.prog.fieldsOf 77)) := by kernel_rfl
theorem cells_cell : Tryz.prog.cellsOf 77 = 2 := by kernel_rfl
theorem cells_i : Tryz.prog.cellsOf 3 = 1 := by kernel_rfl
theorem cells_u : Tryz.prog.cellsOf 22 = 1 := by kernel_rfl
theorem cells_sc : Tryz.prog.cellsOf 24 = 1 := by kernel_rfl
theorem u_sCell : Tryz.prog.underlying 24 = some (.slice 77) := by kernel_rfl
theorem addr_two (a : Addr) (i j : Nat) : (a.add i).add j = a.add (i + j) := by
  unfold Addr.add
  by_cases hi : i = 0
  · subst hi; simp
  · by_cases hj : j = 0
    · subst hj; simp
    · have : ¬ i + j = 0 := by omega
      simp [hi, hj, Nat.add_assoc]
theorem fldOf {T k : Nat} {t : TypeId} {o : Nat} (h : ((Tryz.prog.fieldsOf T)[k]?).map (fun f => (f.type, f.offset)) = some (t, o)) : ∃ f, (Tryz.prog.fieldsOf T)[k]? = some f ∧ f.type = t ∧ f.offset = o := by
  cases hq : (Tryz.prog.fieldsOf T)[k]? with
  | none => rw [hq] at h; cases h
  | some f => rw [hq] at h; simp at h; exact ⟨f, rfl, h.1, h.2⟩
theorem open_cell {H : Type} {enc : TypeId × Value → H} {W : World} {base fuel : Nat} {cs : List Value} {x : DataW H × List MemPlace} (h : DataW.trod enc Tryz.prog W base (fun _ => true) true fuel 77 cs = some x) :
    ∃ z0 z1 : Int, cs = [.int .i64 z0, .int .u64 z1] ∧ (-9223372036854775808 ≤ z0 ∧ z0 ≤ 9223372036854775807) ∧ 0 ≤ z1 ∧ z1 < 18446744073709551616 := by
  obtain ⟨xs, n, _, rfl, hcl, hlen, hfs⟩ := DataW.trod_struct under_cell h
  have hl : xs.length = 2 := by rw [hlen]; kernel_rfl
  rw [cells_cell] at hcl
  obtain ⟨f0, e0, t0, o0⟩ := fldOf (T := 77) (k := 0) (t := 3) (o := 0) (by kernel_rfl)
  obtain ⟨f1, e1, t1, o1⟩ := fldOf (T := 77) (k := 1) (t := 22) (o := 1) (by kernel_rfl)
  have q0 := hfs 0 f0 e0
  have q1 := hfs 1 f1 e1
  rw [t0, o0, cells_i, List.getElem?_eq_getElem (by omega)] at q0
  rw [t1, o1, cells_u, List.getElem?_eq_getElem (by omega)] at q1
  obtain ⟨z0, r0, _, w0⟩ := DataW.trod_int Tryz.underlying3 q0
  obtain ⟨z1, r1, _, w1⟩ := DataW.trod_int Tryz.underlying22 q1
  obtain ⟨c0, c1, rfl⟩ : ∃ c0 c1, cs = [c0, c1] := by
    match cs, hcl with
    | [c0, c1], _ => exact ⟨c0, c1, rfl⟩
  simp at r0 r1
  subst r0 r1
  have := bounds_u64 w1
  exact ⟨z0, z1, rfl, bounds_i64 w0, by omega, by omega⟩
/-- a list of cells, as it stands -/
theorem open_cells {H : Type} {enc : TypeId × Value → H} {W : World} {base fuel : Nat} {cs : List Value} {x : DataW H × List MemPlace} (h : DataW.trod enc Tryz.prog W base (fun _ => true) true fuel 24 cs = some x) (hlt : ∀ p ∈ x.2, p.block < W.heap.size) :
    ∃ (ad : Option Addr) (la cap ab ao : Nat) (X : Nat → Int × Int), cs = [.slice ad la cap] ∧ Cl W ad la cap ab ao X := by
  rcases open_slice u_sCell h with ⟨hcs, hx⟩ | ⟨a, len, cap, m, n, D, Pl, hcs, _, hl, hm, hmm, hx, hel⟩
  · exact ⟨none, 0, 0, 0, 0, fun _ => (0, 0), hcs, ⟨Nat.le_refl _, by decide, fun q => absurd q (by decide), fun i hi => absurd hi (Nat.not_lt_zero i), fun i hi => absurd hi (Nat.not_lt_zero i)⟩⟩
  · subst hx
    simp only [if_true] at hmm
    have each : ∀ i, ∃ X : Int × Int, i < len → ((-9223372036854775808 ≤ X.1 ∧ X.1 ≤ 9223372036854775807) ∧ 0 ≤ X.2 ∧ X.2 < 18446744073709551616) ∧ W.cell? (a.add (i * 2)) = some (.int .i64 X.1) ∧ W.cell? (a.add (i * 2 + 1)) = some (.int .u64 X.2) := fun i => by
      rcases Nat.lt_or_ge i len with hi | hi
      · obtain ⟨cs', h1, h2⟩ := hel i (by omega)
        obtain ⟨z0, z1, rfl, b0, b1⟩ := open_cell h2
        rw [cells_cell] at h1
        obtain ⟨_, hlen, hcell⟩ := World.cells?_some h1
        have k0 := hcell 0 (by decide)
        have k1 := hcell 1 (by decide)
        refine ⟨(z0, z1), fun _ => ⟨⟨b0, b1⟩, ?_, ?_⟩⟩
        · simpa [Addr.add] using k0
        · rw [addr_two] at k1
          simpa using k1
      · exact ⟨(0, 0), fun q => by omega⟩
    obtain ⟨X, hX⟩ := Classical.axiomOfChoice each
    clear each
    have hbl : ∀ h0 : 0 < len, a.spot = none ∧ a.block < W.heap.size := fun h0 => by
      have k0 := (hX 0 h0).2.1
      refine ⟨by simpa [Addr.add] using World.cell?_spot k0, ?_⟩
      obtain ⟨cs', h1, _⟩ := hel 0 (by omega)
      rw [cells_cell] at h1
      have := World.cells?_block h1 (by decide)
      rwa [add_block] at this
    obtain ⟨ab, ao, asp⟩ := a
    refine ⟨some ⟨ab, ao, asp⟩, len, cap, ab, ao, X, hcs, ⟨hl, by simpa [maxLen] using hm, fun h0 => ?_, fun i hi => ?_, fun i hi => (hX i hi).1⟩⟩
    · obtain ⟨q1, q2⟩ := hbl h0
      obtain rfl : asp = none := q1
      exact ⟨rfl, q2⟩
    · obtain ⟨q1, q2⟩ := hbl (by omega)
      obtain rfl : asp = none := q1
      have := (hX i hi).2
      rw [addr_add, addr_add, ← Nat.add_assoc] at this
      exact this
end Go.Proofs.YtlfdokkopgmfjaaGreatDoor.C
