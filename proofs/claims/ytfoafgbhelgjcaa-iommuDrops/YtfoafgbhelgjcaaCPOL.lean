/- A case's length, out of its weight; a list of cells as an argument. -/
import Derived.Test.YtfoafgbhelgjcaaCPO
import Derived.SizedLaws
namespace Go.Proofs.Ytfoafgbhelgjcaa.C
open Go.ChangeShapes Go.WideShapes Go.ChangeAt Go.RowKit Go.Deep
set_option linter.unusedVariables false
set_option maxRecDepth 100000

theorem bytes_cell : Try.prog.bytesOf 71 = 16 := by kernel_rfl
theorem fields_case : ((Try.prog.fieldsOf 85).toList.map (·.type))[0]? = some 22 := by kernel_rfl
set_option maxRecDepth 100000 in
theorem case_len {H : Type} {enc : TypeId × Value → H} {W : World} {base : Nat} {ad : Option Addr} {la cap : Nat} {a b : Int} {c d e : Bool} {x : DataW H} {p : List MemPlace} (h : DataW.Trod enc Try.prog W base (fun _ => true) true 85 (.agg #[.slice ad la cap, .int .u64 a, .int .u64 b, .bool c, .bool d, .bool e]) x p) (hw : ∀ n ∈ x.weights Try.prog 85, n ≤ reachBytes) : la ≤ 8796093022208 := by
  obtain ⟨fuel, hf⟩ := h
  obtain ⟨xs, n, _, hx, hcl, hlen, hfs⟩ := DataW.trod_struct under_case hf
  simp only [Prod.mk.injEq] at hx
  have hl : xs.length = 2 := by rw [hlen]; kernel_rfl
  obtain ⟨f0, e0, t0, o0⟩ := fldOf (T := 85) (k := 0) (t := 22) (o := 0) (by kernel_rfl)
  have q0 := hfs 0 f0 e0
  rw [t0, o0, cells_sc, List.getElem?_eq_getElem (by omega)] at q0
  simp only [Value.cells, List.drop_zero] at q0
  rcases open_slice u_sCell q0 with ⟨hcs, hx0⟩ | ⟨a', len, cap', m, n', D, Pl, hcs, _, hl', hm, hmm, hx0, hel⟩
  · simp at hcs
    omega
  · simp at hcs
    obtain ⟨_, rfl, rfl⟩ := hcs
    have hmem := DataW.weights_mem_each (P := Try.prog) (ts := (Try.prog.fieldsOf 85).toList.map (·.type)) (ds := xs.map (·.1)) (j := 0) fields_case (d := (xs[0]'(by omega)).1) (by rw [List.getElem?_map, List.getElem?_eq_getElem (by omega)]; rfl)
    rw [hx0] at hmem
    have h2 := hw _ (by rw [hx.1]; simp only [DataW.weights, under_case]; exact hmem ((((List.range la).map D).length + ((List.range (m - la)).map fun j => D (la + j)).length) * Try.prog.bytesOf 71) (by simp [DataW.weights]))
    rw [bytes_cell] at h2
    simp [reachBytes] at h2
    omega
set_option maxRecDepth 100000 in
/-- a list of cells, as an argument -/
theorem open_list {H : Type} {enc : TypeId × Value → H} {W : World} {base : Nat} {r : Reach} {b0 : Nat} {v : Value} {d : DataW H} {p : List MemPlace} (hv : Value.okWide Try.prog W r b0 22 v) (h : DataW.Trod enc Try.prog W base (fun _ => true) true 22 v d p) (hlt : ∀ x ∈ p, x.block < W.heap.size) :
    ∃ (ad : Option Addr) (la cap ab ao : Nat) (X : Nat → Int × Int), v = .slice ad la cap ∧ Cl W ad la cap ab ao X := by
  obtain ⟨fuel, hf⟩ := h
  obtain ⟨ad, la, cap, ab, ao, X, hcs, hC⟩ := open_cells hf hlt
  obtain ⟨ad', la', cap', rfl⟩ := okWide_slice u_sCell hv
  simp [Value.cells] at hcs
  obtain ⟨rfl, rfl, rfl⟩ := hcs
  exact ⟨_, _, _, ab, ao, X, rfl, hC⟩
end Go.Proofs.Ytfoafgbhelgjcaa.C
