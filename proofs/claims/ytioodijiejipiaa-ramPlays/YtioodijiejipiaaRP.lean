/- A script of calls, as it stands. -/
import Derived.Test.YtioodijiejipiaaRO
import Derived.Deep.Slices
namespace Go.Proofs.Ytioodijiejipiaa
open Go.ChangeShapes Go.WideShapes Go.ChangeAt Go.RowKit Go.Deep
set_option linter.unusedVariables false

structure OpV where
  kind : Int
  size : Int
  addr : Int
  v : Int
  near : Bool
  bad : Option Addr
  bl : Nat
  bc : Nat
  ba : Addr
  br : Nat → Int
def OpV.cells (X : OpV) : List Value := [.int .i64 X.kind, .int .i64 X.size, .int .u64 X.addr, .int .u64 X.v, .bool X.near, .slice X.bad X.bl X.bc]
structure OpOk (W : World) (X : OpV) : Prop where
  kind : -9223372036854775808 ≤ X.kind ∧ X.kind ≤ 9223372036854775807
  size : -9223372036854775808 ≤ X.size ∧ X.size ≤ 9223372036854775807
  addr : 0 ≤ X.addr ∧ X.addr ≤ 18446744073709551615
  v : 0 ≤ X.v ∧ X.v ≤ 18446744073709551615
  len : X.bl ≤ X.bc ∧ X.bc ≤ 9223372036854775807
  none : X.bad = none → X.bl = 0 ∧ X.bc = 0
  byt : ∀ j, 0 ≤ X.br j ∧ X.br j < 256
  src : 0 < X.bl → X.bad = some X.ba ∧ X.ba.block < W.heap.size ∧ ∀ j, j < X.bl → W.cell? (X.ba.add j) = some (.int .u8 (X.br j))
theorem under_op : Try.prog.underlying 37 = some (.struct (Try.prog.fieldsOf 37)) := by kernel_rfl
theorem cells_op : Try.prog.cellsOf 37 = 6 := by kernel_rfl
theorem cells_i : Try.prog.cellsOf 3 = 1 := by kernel_rfl
theorem cells_u : Try.prog.cellsOf 22 = 1 := by kernel_rfl
theorem cells_b : Try.prog.cellsOf 4 = 1 := by kernel_rfl
theorem cells_s : Try.prog.cellsOf 35 = 1 := by kernel_rfl
theorem fld {k : Nat} {t : TypeId} (h : ((Try.prog.fieldsOf 37)[k]?).map (fun f => (f.type, f.offset)) = some (t, k)) : ∃ f, (Try.prog.fieldsOf 37)[k]? = some f ∧ f.type = t ∧ f.offset = k := by
  cases hq : (Try.prog.fieldsOf 37)[k]? with
  | none => rw [hq] at h; cases h
  | some f => rw [hq] at h; simp at h; exact ⟨f, rfl, h.1, h.2⟩
set_option maxRecDepth 100000 in
theorem open_op {H : Type} {enc : TypeId × Value → H} {W : World} {base fuel : Nat} {cs : List Value} {x : DataW H × List MemPlace} (h : DataW.trod enc Try.prog W base (fun _ => true) true fuel 37 cs = some x) (hlt : ∀ p ∈ x.2, p.block < W.heap.size) :
    ∃ X : OpV, OpOk W X ∧ cs = X.cells := by
  obtain ⟨xs, n, _, rfl, hcl, hlen, hfs⟩ := DataW.trod_struct under_op h
  have hl6 : xs.length = 6 := by rw [hlen]; kernel_rfl
  rw [cells_op] at hcl
  have get : ∀ (k : Nat) (t : TypeId), k < 6 → ((Try.prog.fieldsOf 37)[k]?).map (fun f => (f.type, f.offset)) = some (t, k) → Try.prog.cellsOf t = 1 → ∃ y, xs[k]? = some y ∧ DataW.trod enc Try.prog W base (fun _ => true) true n t ((cs.drop k).take 1) = some y := by
    intro k t hk hm hc
    obtain ⟨f, e1, e2, e3⟩ := fld hm
    have q := hfs k f e1
    rw [e2, e3, hc] at q
    obtain ⟨y, hy⟩ : ∃ y, xs[k]? = some y := ⟨xs[k]'(by omega), List.getElem?_eq_getElem (by omega)⟩
    rw [hy] at q
    exact ⟨y, hy, q⟩
  obtain ⟨y0, _, q0⟩ := get 0 3 (by omega) (by kernel_rfl) cells_i
  obtain ⟨y1, _, q1⟩ := get 1 3 (by omega) (by kernel_rfl) cells_i
  obtain ⟨y2, _, q2⟩ := get 2 22 (by omega) (by kernel_rfl) cells_u
  obtain ⟨y3, _, q3⟩ := get 3 22 (by omega) (by kernel_rfl) cells_u
  obtain ⟨y4, _, q4⟩ := get 4 4 (by omega) (by kernel_rfl) cells_b
  obtain ⟨y5, e5, q5⟩ := get 5 35 (by omega) (by kernel_rfl) cells_s
  obtain ⟨z0, r0, _, w0⟩ := DataW.trod_int Try.underlying3 q0
  obtain ⟨z1, r1, _, w1⟩ := DataW.trod_int Try.underlying3 q1
  obtain ⟨z2, r2, _, w2⟩ := DataW.trod_int Try.underlying22 q2
  obtain ⟨z3, r3, _, w3⟩ := DataW.trod_int Try.underlying22 q3
  obtain ⟨z4, r4, _⟩ := DataW.trod_bool Try.underlying4 q4
  obtain ⟨c0, c1, c2, c3, c4, c5, rfl⟩ : ∃ c0 c1 c2 c3 c4 c5, cs = [c0, c1, c2, c3, c4, c5] := by
    match cs, hcl with
    | [c0, c1, c2, c3, c4, c5], _ => exact ⟨c0, c1, c2, c3, c4, c5, rfl⟩
  simp at r0 r1 r2 r3 r4
  subst r0 r1 r2 r3 r4
  simp only [List.drop_succ_cons, List.drop_zero, List.take_succ_cons, List.take_zero] at q5
  have hl5 : ∀ p ∈ y5.2, p.block < W.heap.size := fun p hp => hlt p (List.mem_flatMap.2 ⟨y5, List.mem_of_getElem? e5, hp⟩)
  rcases open_ints u_su8 u_u8 cells_u8 q5 with ⟨hcs, hx⟩ | ⟨a, len, cap, zs, hcs, _, hl, hm, hz, hx, hcell, hwz⟩
  · simp at hcs
    subst hcs
    exact ⟨⟨z0, z1, z2, z3, z4, none, 0, 0, ⟨0, 0, none⟩, fun _ => 0⟩, ⟨bounds_i64 w0, bounds_i64 w1, bounds_u64 w2, bounds_u64 w3, ⟨Nat.le_refl _, show (0 : Nat) ≤ 9223372036854775807 by decide⟩, fun _ => ⟨rfl, rfl⟩, fun _ => ⟨Int.le_refl _, show (0 : Int) < 256 by decide⟩, fun q => absurd q (show ¬ (0 : Nat) < 0 by decide)⟩, rfl⟩
  · simp at hcs
    subst hcs
    obtain ⟨yd, yp⟩ := y5
    simp only [Prod.mk.injEq] at hx
    obtain ⟨rfl, rfl⟩ := hx
    simp only [if_true] at hz
    have hlz : len ≤ zs.length := by omega
    refine ⟨⟨z0, z1, z2, z3, z4, some a, len, cap, a, fun j => zs.getD j 0⟩, ⟨bounds_i64 w0, bounds_i64 w1, bounds_u64 w2, bounds_u64 w3, ⟨hl, by simpa [maxLen] using hm⟩, fun q => (Option.some_ne_none _ q).elim, fun j => ?_, fun q => ⟨rfl, ?_, fun j hj => hcell j (Nat.lt_of_lt_of_le hj hlz)⟩⟩, rfl⟩
    · show 0 ≤ zs.getD j 0 ∧ zs.getD j 0 < 256
      rcases Nat.lt_or_ge j zs.length with q | q
      · simp only [List.getD, List.getElem?_eq_getElem q, Option.getD_some]; have := bounds_u8 (hwz _ (List.getElem_mem q)); omega
      · simp [List.getD, List.getElem?_eq_none q]
    · obtain ⟨b, off, spot⟩ := a
      have q' : 0 < len := q
      have hspot : spot = none := by simpa [Addr.add] using World.cell?_spot (hcell 0 (by omega))
      subst hspot
      exact hl5 (.cell b off) (MemPlace.mem_row.2 ⟨0, by omega, by simp⟩)
theorem add_add (a : Addr) (i j : Nat) : (a.add i).add j = a.add (i + j) := by
  unfold Addr.add
  by_cases hi : i = 0
  · subst hi; simp
  · by_cases hj : j = 0
    · subst hj; simp
    · have : ¬ i + j = 0 := by omega
      simp [hi, hj, Nat.add_assoc]
set_option maxRecDepth 100000 in
/-- a script, as it stands -/
theorem open_ops {H : Type} {enc : TypeId × Value → H} {W : World} {base : Nat} {r : Reach} {b : Nat} {v : Value} {d : DataW H} {p : List MemPlace} (hsO : Try.prog.underlying 23 = some (.slice 37))
    (hv : Value.okWide Try.prog W r b 23 v) (h : DataW.Trod enc Try.prog W base (fun _ => true) true 23 v d p) (hlt : ∀ x ∈ p, x.block < W.heap.size) :
    ∃ (ad : Option Addr) (la cap : Nat) (aa : Addr) (X : Nat → OpV), v = .slice ad la cap ∧ la ≤ cap ∧ cap ≤ 9223372036854775807 ∧ (0 < la → ad = some aa ∧ aa.block < W.heap.size) ∧ ∀ i, i < la → OpOk W (X i) ∧ ∀ j u, (X i).cells[j]? = some u → W.cell? (aa.add (i * 6 + j)) = some u := by
  obtain ⟨a0, len, cap, rfl⟩ := okWide_slice hsO hv
  obtain ⟨fuel, hf⟩ := h
  have dflt : Inhabited OpV := ⟨⟨0, 0, 0, 0, false, none, 0, 0, ⟨0, 0, none⟩, fun _ => 0⟩⟩
  rcases open_slice hsO hf with ⟨hcs, hx⟩ | ⟨a, len', cap', m, n, D, Pl, hcs, _, hl, hm, hmm, hx, hel⟩
  · simp [Value.cells] at hcs
    obtain ⟨rfl, rfl, rfl⟩ := hcs
    exact ⟨none, 0, 0, ⟨0, 0, none⟩, fun _ => default, rfl, Nat.le_refl _, by decide, fun q => absurd q (by decide), fun i hi => absurd hi (Nat.not_lt_zero i)⟩
  · simp [Value.cells] at hcs
    obtain ⟨rfl, rfl, rfl⟩ := hcs
    simp only [Prod.mk.injEq] at hx
    obtain ⟨rfl, rfl⟩ := hx
    simp only [if_true] at hmm
    have each : ∀ i, ∃ X : OpV, i < len → OpOk W X ∧ ∀ j u, X.cells[j]? = some u → W.cell? (a.add (i * 6 + j)) = some u := fun i => by
      rcases Nat.lt_or_ge i len with hi | hi
      · obtain ⟨cs', h1, h2⟩ := hel i (by omega)
        obtain ⟨X, hX, rfl⟩ := open_op h2 (fun q hq => hlt q (List.mem_append.2 (.inr (List.mem_flatMap.2 ⟨i, List.mem_range.2 (by omega), hq⟩))))
        rw [cells_op] at h1
        obtain ⟨_, hlen, hcell⟩ := World.cells?_some h1
        refine ⟨X, fun _ => ⟨hX, fun j u hu => ?_⟩⟩
        have hj : j < 6 := by
          rcases Nat.lt_or_ge j 6 with q | q
          · exact q
          · rw [List.getElem?_eq_none (by rw [hlen]; exact q)] at hu; cases hu
        have := hcell j hj
        rw [add_add] at this
        rw [this]; exact hu
      · exact ⟨default, fun q => by omega⟩
    refine ⟨some a, len, cap, a, fun i => (each i).choose, rfl, hl, by simpa [maxLen] using hm, fun q => ⟨rfl, ?_⟩, fun i hi => (each i).choose_spec hi⟩
    obtain ⟨cs', h1, _⟩ := hel 0 (by omega)
    rw [cells_op] at h1
    have := World.cells?_block h1 (by decide)
    rwa [add_block] at this
end Go.Proofs.Ytioodijiejipiaa
