/- A script of calls, as it stands. -/
import Derived.Test.YtgenjhcpcjhpmaaRows
import Derived.Test.YtgenjhcpcjhpmaaTA
import Derived.OpenShut
import Derived.SizedLaws
import Derived.Deep.Slices
namespace Go.Proofs.Ytgenjhcpcjhpmaa
open Go.ChangeShapes Go.WideShapes Go.ChangeAt Go.RowKit Go.Deep
set_option linter.unusedVariables false

set_option maxRecDepth 100000 in
theorem own : ownKnob Try.prog.godebug = none := by kernel_rfl
set_option maxRecDepth 100000 in
theorem laidOut_prog : laidOutB Try.prog = true := by kernel_rfl
structure OpV where
  kind : Int
  n : Int
  e : TV
structure Sc (w : World) (ad : Option Addr) (la cap ab ao : Nat) (X : Nat → OpV) : Prop where
  len : la ≤ cap
  cap : cap ≤ 9223372036854775807
  at0 : 0 < la → ad = some ⟨ab, ao, none⟩ ∧ ab < w.heap.size
  cell : ∀ i, i < la → w.cell? ⟨ab, ao + i * 6, none⟩ = some (.int .i64 (X i).kind) ∧ w.cell? ⟨ab, ao + i * 6 + 1, none⟩ = some (.int .i64 (X i).n) ∧ w.cell? ⟨ab, ao + i * 6 + 2, none⟩ = some (.int .i64 (X i).e.v) ∧ w.cell? ⟨ab, ao + i * 6 + 3, none⟩ = some (.int .u64 (X i).e.p) ∧ w.cell? ⟨ab, ao + i * 6 + 4, none⟩ = some (.int .u64 (X i).e.f) ∧ w.cell? ⟨ab, ao + i * 6 + 5, none⟩ = some (.int .i64 (X i).e.r)
  num : ∀ i, i < la → -9223372036854775808 ≤ (X i).kind ∧ (X i).kind ≤ 9223372036854775807
theorem Sc.below {w w' : World} {ad : Option Addr} {la cap ab ao : Nat} {X : Nat → OpV} (h : Sc w ad la cap ab ao X) (hb : Below w.heap.size w w') : Sc w' ad la cap ab ao X :=
  ⟨h.len, h.cap, fun q => ⟨(h.at0 q).1, Nat.lt_of_lt_of_le (h.at0 q).2 hb.size⟩, fun i hi => by
    have hlt := (h.at0 (by omega)).2
    have e : ∀ o, w'.cell? ⟨ab, o, none⟩ = w.cell? ⟨ab, o, none⟩ := fun o => World.cell?_of_block (w := w) (hb.block _ hlt)
    rw [e, e, e, e, e, e]; exact h.cell i hi, h.num⟩
theorem under_op : Try.prog.underlying 35 = some (.struct (Try.prog.fieldsOf 35)) := by kernel_rfl
theorem cells_op : Try.prog.cellsOf 35 = 6 := by kernel_rfl
theorem cells_t : Try.prog.cellsOf 33 = 4 := by kernel_rfl
theorem cells_i : Try.prog.cellsOf 3 = 1 := by kernel_rfl
theorem cells_u : Try.prog.cellsOf 31 = 1 := by kernel_rfl
theorem u_sOp : Try.prog.underlying 22 = some (.slice 35) := by kernel_rfl
theorem addr_two (a : Addr) (i j : Nat) : (a.add i).add j = a.add (i + j) := by
  unfold Addr.add
  by_cases hi : i = 0
  · subst hi; simp
  · by_cases hj : j = 0
    · subst hj; simp
    · have : ¬ i + j = 0 := by omega
      simp [hi, hj, Nat.add_assoc]
theorem fldOf {T k : Nat} {t : TypeId} {o : Nat} (h : ((Try.prog.fieldsOf T)[k]?).map (fun f => (f.type, f.offset)) = some (t, o)) : ∃ f, (Try.prog.fieldsOf T)[k]? = some f ∧ f.type = t ∧ f.offset = o := by
  cases hq : (Try.prog.fieldsOf T)[k]? with
  | none => rw [hq] at h; cases h
  | some f => rw [hq] at h; simp at h; exact ⟨f, rfl, h.1, h.2⟩
set_option maxRecDepth 100000 in
theorem open_t {H : Type} {enc : TypeId × Value → H} {W : World} {base fuel : Nat} {cs : List Value} {x : DataW H × List MemPlace} (h : DataW.trod enc Try.prog W base (fun _ => true) true fuel 33 cs = some x) : ∃ e : TV, cs = e.cs := by
  obtain ⟨xs, n, _, rfl, hcl, hlen, hfs⟩ := DataW.trod_struct under_t h
  have hl : xs.length = 4 := by rw [hlen]; kernel_rfl
  rw [cells_t] at hcl
  have get : ∀ (k : Nat) (t : TypeId), k < 4 → ((Try.prog.fieldsOf 33)[k]?).map (fun f => (f.type, f.offset)) = some (t, k) → Try.prog.cellsOf t = 1 → ∃ y, DataW.trod enc Try.prog W base (fun _ => true) true n t ((cs.drop k).take 1) = some y := by
    intro k t hk hm hc
    obtain ⟨f, e1, e2, e3⟩ := fldOf hm
    have q := hfs k f e1
    rw [e2, e3, hc, List.getElem?_eq_getElem (by omega)] at q
    exact ⟨_, q⟩
  obtain ⟨y0, q0⟩ := get 0 3 (by omega) (by kernel_rfl) cells_i
  obtain ⟨y1, q1⟩ := get 1 31 (by omega) (by kernel_rfl) cells_u
  obtain ⟨y2, q2⟩ := get 2 31 (by omega) (by kernel_rfl) cells_u
  obtain ⟨y3, q3⟩ := get 3 3 (by omega) (by kernel_rfl) cells_i
  obtain ⟨z0, r0, _, w0⟩ := DataW.trod_int Try.underlying3 q0
  obtain ⟨z1, r1, _, w1⟩ := DataW.trod_int Try.underlying31 q1
  obtain ⟨z2, r2, _, w2⟩ := DataW.trod_int Try.underlying31 q2
  obtain ⟨z3, r3, _, w3⟩ := DataW.trod_int Try.underlying3 q3
  obtain ⟨c0, c1, c2, c3, rfl⟩ : ∃ c0 c1 c2 c3, cs = [c0, c1, c2, c3] := by
    match cs, hcl with
    | [c0, c1, c2, c3], _ => exact ⟨c0, c1, c2, c3, rfl⟩
  simp at r0 r1 r2 r3
  subst r0 r1 r2 r3
  exact ⟨⟨z0, z1, z2, z3⟩, rfl⟩
set_option maxRecDepth 100000 in
theorem open_op {H : Type} {enc : TypeId × Value → H} {W : World} {base fuel : Nat} {cs : List Value} {x : DataW H × List MemPlace} (h : DataW.trod enc Try.prog W base (fun _ => true) true fuel 35 cs = some x) :
    ∃ X : OpV, cs = [.int .i64 X.kind, .int .i64 X.n] ++ X.e.cs ∧ -9223372036854775808 ≤ X.kind ∧ X.kind ≤ 9223372036854775807 := by
  obtain ⟨xs, n, _, rfl, hcl, hlen, hfs⟩ := DataW.trod_struct under_op h
  have hl : xs.length = 3 := by rw [hlen]; kernel_rfl
  rw [cells_op] at hcl
  obtain ⟨f0, e0, t0, o0⟩ := fldOf (T := 35) (k := 0) (t := 3) (o := 0) (by kernel_rfl)
  obtain ⟨f1, e1, t1, o1⟩ := fldOf (T := 35) (k := 1) (t := 3) (o := 1) (by kernel_rfl)
  obtain ⟨f2, e2, t2, o2⟩ := fldOf (T := 35) (k := 2) (t := 33) (o := 2) (by kernel_rfl)
  have q0 := hfs 0 f0 e0
  have q1 := hfs 1 f1 e1
  have q2 := hfs 2 f2 e2
  rw [t0, o0, cells_i, List.getElem?_eq_getElem (by omega)] at q0
  rw [t1, o1, cells_i, List.getElem?_eq_getElem (by omega)] at q1
  rw [t2, o2, cells_t, List.getElem?_eq_getElem (by omega)] at q2
  obtain ⟨z0, r0, _, w0⟩ := DataW.trod_int Try.underlying3 q0
  obtain ⟨z1, r1, _, w1⟩ := DataW.trod_int Try.underlying3 q1
  obtain ⟨e, r2⟩ := open_t q2
  obtain ⟨c0, c1, c2, c3, c4, c5, rfl⟩ : ∃ c0 c1 c2 c3 c4 c5, cs = [c0, c1, c2, c3, c4, c5] := by
    match cs, hcl with
    | [c0, c1, c2, c3, c4, c5], _ => exact ⟨c0, c1, c2, c3, c4, c5, rfl⟩
  simp at r0 r1 r2
  subst r0 r1
  refine ⟨⟨z0, z1, e⟩, ?_, bounds_i64 w0⟩
  rw [← r2]; rfl
set_option maxRecDepth 100000 in
/-- a script, as it stands -/
theorem open_ops {H : Type} {enc : TypeId × Value → H} {W : World} {base : Nat} {r : Reach} {b : Nat} {v : Value} {d : DataW H} {p : List MemPlace}
    (hv : Value.okWide Try.prog W r b 22 v) (h : DataW.Trod enc Try.prog W base (fun _ => true) true 22 v d p) (hlt : ∀ x ∈ p, x.block < W.heap.size) :
    ∃ (ad : Option Addr) (la cap ab ao : Nat) (X : Nat → OpV), v = .slice ad la cap ∧ Sc W ad la cap ab ao X := by
  obtain ⟨a0, len, cap, rfl⟩ := okWide_slice u_sOp hv
  obtain ⟨fuel, hf⟩ := h
  rcases open_slice u_sOp hf with ⟨hcs, hx⟩ | ⟨a, len', cap', m, n, D, Pl, hcs, _, hl, hm, hmm, hx, hel⟩
  · simp [Value.cells] at hcs
    obtain ⟨rfl, rfl, rfl⟩ := hcs
    exact ⟨none, 0, 0, 0, 0, fun _ => ⟨0, 0, TV.zero⟩, rfl, ⟨Nat.le_refl _, by decide, fun q => absurd q (by decide), fun i hi => absurd hi (Nat.not_lt_zero i), fun i hi => absurd hi (Nat.not_lt_zero i)⟩⟩
  · simp [Value.cells] at hcs
    obtain ⟨rfl, rfl, rfl⟩ := hcs
    simp only [if_true] at hmm
    have each : ∀ i, ∃ X : OpV, i < len → (-9223372036854775808 ≤ X.kind ∧ X.kind ≤ 9223372036854775807) ∧ ∀ j, j < 6 → W.cell? (a.add (i * 6 + j)) = ([.int .i64 X.kind, .int .i64 X.n] ++ X.e.cs)[j]? := fun i => by
      rcases Nat.lt_or_ge i len with hi | hi
      · obtain ⟨cs', h1, h2⟩ := hel i (by omega)
        obtain ⟨X, rfl, b0⟩ := open_op h2
        rw [cells_op] at h1
        obtain ⟨_, hlen, hcell⟩ := World.cells?_some h1
        refine ⟨X, fun _ => ⟨b0, fun j hj => ?_⟩⟩
        have := hcell j hj
        rw [addr_two] at this
        exact this
      · exact ⟨⟨0, 0, TV.zero⟩, fun q => by omega⟩
    obtain ⟨X, hX⟩ := Classical.axiomOfChoice each
    clear each
    have hbl : ∀ h0 : 0 < len, a.spot = none ∧ a.block < W.heap.size := fun h0 => by
      have k0 := (hX 0 h0).2 0 (by decide)
      refine ⟨by simpa [Addr.add] using World.cell?_spot k0, ?_⟩
      obtain ⟨cs', h1, _⟩ := hel 0 (by omega)
      rw [cells_op] at h1
      have := World.cells?_block h1 (by decide)
      simpa [Addr.add] using this
    obtain ⟨ab, ao, asp⟩ := a
    refine ⟨some ⟨ab, ao, asp⟩, len, cap, ab, ao, X, rfl, ⟨hl, by simpa [maxLen] using hm, fun h0 => ?_, fun i hi => ?_, fun i hi => (hX i hi).1⟩⟩
    · obtain ⟨q1, q2⟩ := hbl h0
      obtain rfl : asp = none := q1
      exact ⟨rfl, q2⟩
    · obtain ⟨q1, q2⟩ := hbl (by omega)
      obtain rfl : asp = none := q1
      have k := (hX i hi).2
      have k0 := k 0 (by decide)
      have k1 := k 1 (by decide)
      have k2 := k 2 (by decide)
      have k3 := k 3 (by decide)
      have k4 := k 4 (by decide)
      have k5 := k 5 (by decide)
      rw [addr_add] at k0 k1 k2 k3 k4 k5
      simp only [Nat.add_assoc] at k0 k1 k2 k3 k4 k5 ⊢
      exact ⟨k0, k1, k2, k3, k4, k5⟩
end Go.Proofs.Ytgenjhcpcjhpmaa
