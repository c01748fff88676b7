/- A script's length, and its bytes', out of their weight. -/
import Derived.Test.YtioodijiejipiaaRP
import Derived.SizedLaws
namespace Go.Proofs.Ytioodijiejipiaa
open Go.ChangeShapes Go.WideShapes Go.ChangeAt Go.RowKit Go.Deep
set_option linter.unusedVariables false

theorem bytes_op : Try.prog.bytesOf 37 = 64 := by kernel_rfl
theorem bytes_u8 : Try.prog.bytesOf 5 = 1 := by kernel_rfl
theorem fields_op5 : ((Try.prog.fieldsOf 37).toList.map (·.type))[5]? = some 35 := by kernel_rfl
theorem all_mem {H : Type} {P : Program} {e : TypeId} : ∀ {ds : List (DataW H)} {d : DataW H}, d ∈ ds → ∀ n ∈ d.weights P e, n ∈ DataW.weightsAll P e ds
  | d0 :: ds, d, hd, n, hn => by
    simp only [DataW.weightsAll, List.mem_append]
    rcases List.mem_cons.1 hd with rfl | hd
    · exact .inl hn
    · exact .inr (all_mem hd n hn)
set_option maxRecDepth 100000 in
theorem op_len {H : Type} {enc : TypeId × Value → H} {W : World} {base fuel : Nat} {cs : List Value} {x : DataW H × List MemPlace} (h : DataW.trod enc Try.prog W base (fun _ => true) true fuel 37 cs = some x) (hw : ∀ n ∈ x.1.weights Try.prog 37, n ≤ reachBytes) {b : Option Addr} {l c : Nat} (hc : cs[5]? = some (.slice b l c)) : l ≤ 140737488355328 := by
  obtain ⟨xs, n, _, rfl, hcl, hlen, hfs⟩ := DataW.trod_struct under_op h
  have hl6 : xs.length = 6 := by rw [hlen]; kernel_rfl
  obtain ⟨f, e1, e2, e3⟩ := fld (k := 5) (t := 35) (by kernel_rfl)
  have q := hfs 5 f e1
  rw [e2, e3, cells_s, List.getElem?_eq_getElem (by omega)] at q
  have hd : (cs.drop 5).take 1 = [.slice b l c] := by
    rw [cells_op] at hcl
    match cs, hcl, hc with
    | [c0, c1, c2, c3, c4, c5], _, hc => simp at hc; subst hc; rfl
  rw [hd] at q
  rcases open_ints u_su8 u_u8 cells_u8 q with ⟨hcs, hx⟩ | ⟨a, len, cap, zs, hcs, _, hl, hm, hz, hx, hcell, hwz⟩
  · simp at hcs; omega
  · simp at hcs
    obtain ⟨rfl, rfl, rfl⟩ := hcs
    simp only [if_true] at hz
    have hmem := DataW.weights_mem_each (P := Try.prog) (ts := (Try.prog.fieldsOf 37).toList.map (·.type)) (ds := xs.map (·.1)) (j := 5) fields_op5 (d := (xs[5]'(by omega)).1) (by rw [List.getElem?_map, List.getElem?_eq_getElem (by omega)]; rfl)
    rw [hx] at hmem
    have h2 := hw _ (by simp only [DataW.weights, under_op]; exact hmem (((lits IntKind.u8 (zs.take l) : List (DataW H)).length + (lits IntKind.u8 (zs.drop l) : List (DataW H)).length) * Try.prog.bytesOf 5) (by simp [DataW.weights]))
    rw [bytes_u8] at h2
    simp [lits, reachBytes] at h2
    omega
set_option maxRecDepth 100000 in
theorem script_len {H : Type} {enc : TypeId × Value → H} {W : World} {base : Nat} {ad : Option Addr} {la cap : Nat} {d : DataW H} {p : List MemPlace} (hsO : Try.prog.underlying 23 = some (.slice 37)) (h : DataW.Trod enc Try.prog W base (fun _ => true) true 23 (.slice ad la cap) d p) (hw : ∀ n ∈ d.weights Try.prog 23, n ≤ reachBytes) :
    la * 16 + 16 ≤ 140737488355328 ∧ ∀ aa, ad = some aa → ∀ i, i < la → ∀ b l c, W.cell? (aa.add (i * 6 + 5)) = some (.slice b l c) → l ≤ 140737488355328 := by
  obtain ⟨fuel, hf⟩ := h
  rcases open_slice hsO hf with ⟨hcs, hx⟩ | ⟨a, len', cap', m, n, D, Pl, hcs, _, hl, hm, hmm, hx, hel⟩
  · simp [Value.cells] at hcs
    obtain ⟨rfl, rfl, rfl⟩ := hcs
    exact ⟨by omega, fun aa e => by cases e⟩
  · simp [Value.cells] at hcs
    obtain ⟨rfl, rfl, rfl⟩ := hcs
    simp only [Prod.mk.injEq] at hx
    obtain ⟨rfl, rfl⟩ := hx
    simp only [if_true] at hmm
    refine ⟨?_, fun aa e i hi b l c hc => ?_⟩
    · have h2 := hw ((((List.range la).map D).length + ((List.range (m - la)).map fun j => D (la + j)).length) * Try.prog.bytesOf 37) (by simp [DataW.weights, hsO])
      rw [bytes_op] at h2
      simp [reachBytes] at h2
      omega
    · obtain rfl := Option.some.inj e
      obtain ⟨cs', h1, h2⟩ := hel i (by omega)
      rw [cells_op] at h1
      obtain ⟨_, hlen, hcell⟩ := World.cells?_some h1
      have hq := hcell 5 (by omega)
      rw [add_add, hc] at hq
      exact op_len h2 (fun k hk => hw k (by simp only [DataW.weights, hsO]; exact List.mem_cons_of_mem _ (List.mem_append_left _ (all_mem (List.mem_map.2 ⟨i, List.mem_range.2 hi, rfl⟩) k hk)))) hq.symm
end Go.Proofs.Ytioodijiejipiaa
