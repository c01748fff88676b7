/- A script of calls, as it stands. -/
import Derived.Test.YtajnjmjogaacpaaGreatMC5
import Derived.Test.YtajnjmjogaacpaaGreatMH5
import Derived.OpenShut
import Derived.SizedLaws
import Derived.Deep.Slices
import Derived.Test.YtajnjmjogaacpaaGreatMH2
import Derived.Test.YtajnjmjogaacpaaGreatCPF
import Derived.Test.YtajnjmjogaacpaaGreatMC4
import Derived.Test.YtajnjmjogaacpaaGreatMH4
import Derived.Deep.DeepCutAuto
namespace Go.Proofs.YtajnjmjogaacpaaGreat
open Go.ChangeShapes Go.WideShapes Go.ChangeAt Go.RowKit Go.Deep
set_option linter.unusedVariables false

structure OpV where
  kind : Int
  dev : Int
  size : Int
  addr : Int
  data : Int
  write : Bool
  guest : Int
  irq : Int
def OpV.cs (x : OpV) : List Value := [.int .i64 x.kind, .int .i64 x.dev, .int .i64 x.size, .int .u64 x.addr, .int .u64 x.data, .bool x.write, .int .i64 x.guest, .int .i64 x.irq]
structure OpB (x : OpV) : Prop where
  kind : -9223372036854775808 ≤ x.kind ∧ x.kind ≤ 9223372036854775807
  dev : -9223372036854775808 ≤ x.dev ∧ x.dev ≤ 9223372036854775807
  size : -9223372036854775808 ≤ x.size ∧ x.size ≤ 9223372036854775807
  addr : 0 ≤ x.addr ∧ x.addr < 18446744073709551616
  data : 0 ≤ x.data ∧ x.data < 18446744073709551616
structure Sc (w : World) (ad : Option Addr) (la cap ab ao : Nat) (X : Nat → OpV) : Prop where
  len : la ≤ cap
  cap : cap ≤ 9223372036854775807
  at0 : 0 < la → ad = some ⟨ab, ao, none⟩ ∧ ab < w.heap.size
  cell : ∀ i, i < la → ∀ j, j < 8 → w.cell? ⟨ab, ao + i * 8 + j, none⟩ = (X i).cs[j]?
  num : ∀ i, i < la → OpB (X i)
theorem Sc.below {w w' : World} {ad : Option Addr} {la cap ab ao : Nat} {X : Nat → OpV} (h : Sc w ad la cap ab ao X) (hb : Below w.heap.size w w') : Sc w' ad la cap ab ao X :=
  ⟨h.len, h.cap, fun q => ⟨(h.at0 q).1, Nat.lt_of_lt_of_le (h.at0 q).2 hb.size⟩, fun i hi j hj => by
    have hlt := (h.at0 (by omega)).2
    have e : ∀ o, w'.cell? ⟨ab, o, none⟩ = w.cell? ⟨ab, o, none⟩ := fun o => World.cell?_of_block (w := w) (hb.block _ hlt)
    rw [e]; exact h.cell i hi j hj, h.num⟩
theorem Sc.cells {w : World} {ad : Option Addr} {la cap ab ao : Nat} {X : Nat → OpV} (h : Sc w ad la cap ab ao X) (i : Nat) (hi : i < la) : w.cell? ⟨ab, ao + i * 8, none⟩ = some (.int .i64 (X i).kind) ∧ w.cell? ⟨ab, ao + i * 8 + 1, none⟩ = some (.int .i64 (X i).dev) ∧ w.cell? ⟨ab, ao + i * 8 + 2, none⟩ = some (.int .i64 (X i).size) ∧ w.cell? ⟨ab, ao + i * 8 + 3, none⟩ = some (.int .u64 (X i).addr) ∧ w.cell? ⟨ab, ao + i * 8 + 4, none⟩ = some (.int .u64 (X i).data) ∧ w.cell? ⟨ab, ao + i * 8 + 5, none⟩ = some (.bool (X i).write) ∧ w.cell? ⟨ab, ao + i * 8 + 6, none⟩ = some (.int .i64 (X i).guest) ∧ w.cell? ⟨ab, ao + i * 8 + 7, none⟩ = some (.int .i64 (X i).irq) :=
  ⟨h.cell i hi 0 (by decide), h.cell i hi 1 (by decide), h.cell i hi 2 (by decide), h.cell i hi 3 (by decide), h.cell i hi 4 (by decide), h.cell i hi 5 (by decide), h.cell i hi 6 (by decide), h.cell i hi 7 (by decide)⟩
theorem under_op : Tryz.prog.underlying 49 = some (.struct (Tryz.prog.fieldsOf 49)) := by kernel_rfl
theorem under_msi : Tryz.prog.underlying 47 = some (.struct (Tryz.prog.fieldsOf 47)) := by kernel_rfl
theorem cells_op : Tryz.prog.cellsOf 49 = 8 := by kernel_rfl
theorem cells_msi : Tryz.prog.cellsOf 47 = 2 := by kernel_rfl
theorem cells_i8 : Tryz.prog.cellsOf 3 = 1 := by kernel_rfl
theorem cells_u8 : Tryz.prog.cellsOf 23 = 1 := by kernel_rfl
theorem cells_b8 : Tryz.prog.cellsOf 4 = 1 := by kernel_rfl
theorem addr_two (a : Addr) (i j : Nat) : (a.add i).add j = a.add (i + j) := by
  unfold Addr.add
  by_cases hi : i = 0
  · subst hi; simp
  · by_cases hj : j = 0
    · subst hj; simp
    · have : ¬ i + j = 0 := by omega
      simp [hi, hj, Nat.add_assoc]
theorem fld8 {T k : Nat} {t : TypeId} {o : Nat} (h : ((Tryz.prog.fieldsOf T)[k]?).map (fun f => (f.type, f.offset)) = some (t, o)) : ∃ f, (Tryz.prog.fieldsOf T)[k]? = some f ∧ f.type = t ∧ f.offset = o := by
  cases hq : (Tryz.prog.fieldsOf T)[k]? with
  | none => rw [hq] at h; cases h
  | some f => rw [hq] at h; simp at h; exact ⟨f, rfl, h.1, h.2⟩
set_option maxRecDepth 100000 in
theorem open_msi {H : Type} {enc : TypeId × Value → H} {W : World} {base fuel : Nat} {cs : List Value} {x : DataW H × List MemPlace} (h : DataW.trod enc Tryz.prog W base (fun _ => true) true fuel 47 cs = some x) : ∃ g i : Int, cs = [.int .i64 g, .int .i64 i] := by
  obtain ⟨xs, n, _, rfl, hcl, hlen, hfs⟩ := DataW.trod_struct under_msi h
  have hl : xs.length = 2 := by rw [hlen]; kernel_rfl
  rw [cells_msi] at hcl
  obtain ⟨f0, e0, t0, o0⟩ := fld8 (T := 47) (k := 0) (t := 3) (o := 0) (by kernel_rfl)
  obtain ⟨f1, e1, t1, o1⟩ := fld8 (T := 47) (k := 1) (t := 3) (o := 1) (by kernel_rfl)
  have q0 := hfs 0 f0 e0
  have q1 := hfs 1 f1 e1
  rw [t0, o0, cells_i8, List.getElem?_eq_getElem (by omega)] at q0
  rw [t1, o1, cells_i8, List.getElem?_eq_getElem (by omega)] at q1
  obtain ⟨z0, r0, _, w0⟩ := DataW.trod_int Tryz.underlying3 q0
  obtain ⟨z1, r1, _, w1⟩ := DataW.trod_int Tryz.underlying3 q1
  obtain ⟨c0, c1, rfl⟩ : ∃ c0 c1, cs = [c0, c1] := by
    match cs, hcl with
    | [c0, c1], _ => exact ⟨c0, c1, rfl⟩
  simp at r0 r1
  subst r0 r1
  exact ⟨z0, z1, rfl⟩
set_option maxRecDepth 100000 in
theorem open_op {H : Type} {enc : TypeId × Value → H} {W : World} {base fuel : Nat} {cs : List Value} {x : DataW H × List MemPlace} (h : DataW.trod enc Tryz.prog W base (fun _ => true) true fuel 49 cs = some x) :
    ∃ X : OpV, cs = X.cs ∧ OpB X := by
  obtain ⟨xs, n, _, rfl, hcl, hlen, hfs⟩ := DataW.trod_struct under_op h
  have hl : xs.length = 7 := by rw [hlen]; kernel_rfl
  rw [cells_op] at hcl
  obtain ⟨f0, e0, t0, o0⟩ := fld8 (T := 49) (k := 0) (t := 3) (o := 0) (by kernel_rfl)
  have q0 := hfs 0 f0 e0
  rw [t0, o0, cells_i8, List.getElem?_eq_getElem (by omega)] at q0
  obtain ⟨z0, r0, _, w0⟩ := DataW.trod_int Tryz.underlying3 q0
  obtain ⟨f1, e1, t1, o1⟩ := fld8 (T := 49) (k := 1) (t := 3) (o := 1) (by kernel_rfl)
  have q1 := hfs 1 f1 e1
  rw [t1, o1, cells_i8, List.getElem?_eq_getElem (by omega)] at q1
  obtain ⟨z1, r1, _, w1⟩ := DataW.trod_int Tryz.underlying3 q1
  obtain ⟨f2, e2, t2, o2⟩ := fld8 (T := 49) (k := 2) (t := 3) (o := 2) (by kernel_rfl)
  have q2 := hfs 2 f2 e2
  rw [t2, o2, cells_i8, List.getElem?_eq_getElem (by omega)] at q2
  obtain ⟨z2, r2, _, w2⟩ := DataW.trod_int Tryz.underlying3 q2
  obtain ⟨f3, e3, t3, o3⟩ := fld8 (T := 49) (k := 3) (t := 23) (o := 3) (by kernel_rfl)
  have q3 := hfs 3 f3 e3
  rw [t3, o3, cells_u8, List.getElem?_eq_getElem (by omega)] at q3
  obtain ⟨z3, r3, _, w3⟩ := DataW.trod_int Tryz.underlying23 q3
  obtain ⟨f4, e4, t4, o4⟩ := fld8 (T := 49) (k := 4) (t := 23) (o := 4) (by kernel_rfl)
  have q4 := hfs 4 f4 e4
  rw [t4, o4, cells_u8, List.getElem?_eq_getElem (by omega)] at q4
  obtain ⟨z4, r4, _, w4⟩ := DataW.trod_int Tryz.underlying23 q4
  obtain ⟨f5, e5, t5, o5⟩ := fld8 (T := 49) (k := 5) (t := 4) (o := 5) (by kernel_rfl)
  have q5 := hfs 5 f5 e5
  rw [t5, o5, cells_b8, List.getElem?_eq_getElem (by omega)] at q5
  obtain ⟨z5, r5, _⟩ := DataW.trod_bool Tryz.underlying4 q5
  obtain ⟨f6, e6, t6, o6⟩ := fld8 (T := 49) (k := 6) (t := 47) (o := 6) (by kernel_rfl)
  have q6 := hfs 6 f6 e6
  rw [t6, o6, cells_msi, List.getElem?_eq_getElem (by omega)] at q6
  obtain ⟨g, i, r6⟩ := open_msi q6
  obtain ⟨c0, c1, c2, c3, c4, c5, c6, c7, rfl⟩ : ∃ c0 c1 c2 c3 c4 c5 c6 c7, cs = [c0, c1, c2, c3, c4, c5, c6, c7] := by
    match cs, hcl with
    | [c0, c1, c2, c3, c4, c5, c6, c7], _ => exact ⟨c0, c1, c2, c3, c4, c5, c6, c7, rfl⟩
  simp at r0 r1 r2 r3 r4 r5 r6
  obtain ⟨r6, r7⟩ := r6
  subst r0 r1 r2 r3 r4 r5 r6 r7
  have b3 := bounds_u64 w3
  have b4 := bounds_u64 w4
  exact ⟨⟨z0, z1, z2, z3, z4, z5, g, i⟩, rfl, ⟨bounds_i64 w0, bounds_i64 w1, bounds_i64 w2, ⟨b3.1, by show z3 < _; omega⟩, ⟨b4.1, by show z4 < _; omega⟩⟩⟩
end Go.Proofs.YtajnjmjogaacpaaGreat
namespace Go.Proofs.YtajnjmjogaacpaaGreat
open Go.ChangeShapes Go.WideShapes Go.ChangeAt Go.RowKit Go.Deep
set_option linter.unusedVariables false

structure EOpV where
  kind : Int
  size : Int
  off : Int
  v : Int
  x : OpV
def EOpV.cs (x : EOpV) : List Value := [.int .i64 x.kind, .int .i64 x.size, .int .u64 x.off, .int .u64 x.v, .int .i64 x.x.kind, .int .i64 x.x.dev, .int .i64 x.x.size, .int .u64 x.x.addr, .int .u64 x.x.data, .bool x.x.write, .int .i64 x.x.guest, .int .i64 x.x.irq]
structure EOpB (x : EOpV) : Prop where
  kind : -9223372036854775808 ≤ x.kind ∧ x.kind ≤ 9223372036854775807
  size : -9223372036854775808 ≤ x.size ∧ x.size ≤ 9223372036854775807
  off : 0 ≤ x.off ∧ x.off < 18446744073709551616
  v : 0 ≤ x.v ∧ x.v < 18446744073709551616
  x : OpB x.x
structure Ec (w : World) (ad : Option Addr) (la cap ab ao : Nat) (X : Nat → EOpV) : Prop where
  len : la ≤ cap
  cap : cap ≤ 9223372036854775807
  at0 : 0 < la → ad = some ⟨ab, ao, none⟩ ∧ ab < w.heap.size
  cell : ∀ i, i < la → ∀ j, j < 12 → w.cell? ⟨ab, ao + i * 12 + j, none⟩ = (X i).cs[j]?
  num : ∀ i, i < la → EOpB (X i)
theorem Ec.below {w w' : World} {ad : Option Addr} {la cap ab ao : Nat} {X : Nat → EOpV} (h : Ec w ad la cap ab ao X) (hb : Below w.heap.size w w') : Ec w' ad la cap ab ao X :=
  ⟨h.len, h.cap, fun q => ⟨(h.at0 q).1, Nat.lt_of_lt_of_le (h.at0 q).2 hb.size⟩, fun i hi j hj => by
    have hlt := (h.at0 (by omega)).2
    have e : ∀ o, w'.cell? ⟨ab, o, none⟩ = w.cell? ⟨ab, o, none⟩ := fun o => World.cell?_of_block (w := w) (hb.block _ hlt)
    rw [e]; exact h.cell i hi j hj, h.num⟩
theorem under_eop : Tryz.prog.underlying 51 = some (.struct (Tryz.prog.fieldsOf 51)) := by kernel_rfl
theorem cells_eop : Tryz.prog.cellsOf 51 = 12 := by kernel_rfl
theorem u_sEOp : Tryz.prog.underlying 24 = some (.slice 51) := by kernel_rfl
set_option maxRecDepth 100000 in
theorem open_eop {H : Type} {enc : TypeId × Value → H} {W : World} {base fuel : Nat} {cs : List Value} {x : DataW H × List MemPlace} (h : DataW.trod enc Tryz.prog W base (fun _ => true) true fuel 51 cs = some x) :
    ∃ X : EOpV, cs = X.cs ∧ EOpB X := by
  obtain ⟨xs, n, _, rfl, hcl, hlen, hfs⟩ := DataW.trod_struct under_eop h
  have hl : xs.length = 5 := by rw [hlen]; kernel_rfl
  rw [cells_eop] at hcl
  obtain ⟨f0, e0, t0, o0⟩ := fld8 (T := 51) (k := 0) (t := 3) (o := 0) (by kernel_rfl)
  have q0 := hfs 0 f0 e0
  rw [t0, o0, cells_i8, List.getElem?_eq_getElem (by omega)] at q0
  obtain ⟨z0, r0, _, w0⟩ := DataW.trod_int Tryz.underlying3 q0
  obtain ⟨f1, e1, t1, o1⟩ := fld8 (T := 51) (k := 1) (t := 3) (o := 1) (by kernel_rfl)
  have q1 := hfs 1 f1 e1
  rw [t1, o1, cells_i8, List.getElem?_eq_getElem (by omega)] at q1
  obtain ⟨z1, r1, _, w1⟩ := DataW.trod_int Tryz.underlying3 q1
  obtain ⟨f2, e2, t2, o2⟩ := fld8 (T := 51) (k := 2) (t := 23) (o := 2) (by kernel_rfl)
  have q2 := hfs 2 f2 e2
  rw [t2, o2, cells_u8, List.getElem?_eq_getElem (by omega)] at q2
  obtain ⟨z2, r2, _, w2⟩ := DataW.trod_int Tryz.underlying23 q2
  obtain ⟨f3, e3, t3, o3⟩ := fld8 (T := 51) (k := 3) (t := 23) (o := 3) (by kernel_rfl)
  have q3 := hfs 3 f3 e3
  rw [t3, o3, cells_u8, List.getElem?_eq_getElem (by omega)] at q3
  obtain ⟨z3, r3, _, w3⟩ := DataW.trod_int Tryz.underlying23 q3
  obtain ⟨f4, e4, t4, o4⟩ := fld8 (T := 51) (k := 4) (t := 49) (o := 4) (by kernel_rfl)
  have q4 := hfs 4 f4 e4
  rw [t4, o4, cells_op, List.getElem?_eq_getElem (by omega)] at q4
  obtain ⟨X, r4, b4⟩ := open_op q4
  obtain ⟨c0, c1, c2, c3, c4, c5, c6, c7, c8, c9, c10, c11, rfl⟩ : ∃ c0 c1 c2 c3 c4 c5 c6 c7 c8 c9 c10 c11, cs = [c0, c1, c2, c3, c4, c5, c6, c7, c8, c9, c10, c11] := by
    match cs, hcl with
    | [c0, c1, c2, c3, c4, c5, c6, c7, c8, c9, c10, c11], _ => exact ⟨c0, c1, c2, c3, c4, c5, c6, c7, c8, c9, c10, c11, rfl⟩
  simp [OpV.cs] at r0 r1 r2 r3 r4
  obtain ⟨g0, g1, g2, g3, g4, g5, g6, g7⟩ := r4
  subst r0 r1 r2 r3 g0 g1 g2 g3 g4 g5 g6 g7
  have b2 := bounds_u64 w2
  have b3 := bounds_u64 w3
  exact ⟨⟨z0, z1, z2, z3, X⟩, rfl, ⟨bounds_i64 w0, bounds_i64 w1, ⟨b2.1, by show z2 < _; omega⟩, ⟨b3.1, by show z3 < _; omega⟩, b4⟩⟩
set_option maxRecDepth 100000 in
/-- a script, as it stands -/
theorem open_eops {H : Type} {enc : TypeId × Value → H} {W : World} {base : Nat} {r : Reach} {b : Nat} {v : Value} {d : DataW H} {p : List MemPlace}
    (hv : Value.okWide Tryz.prog W r b 24 v) (h : DataW.Trod enc Tryz.prog W base (fun _ => true) true 24 v d p) (hlt : ∀ x ∈ p, x.block < W.heap.size) :
    ∃ (ad : Option Addr) (la cap ab ao : Nat) (X : Nat → EOpV), v = .slice ad la cap ∧ Ec W ad la cap ab ao X := by
  obtain ⟨a0, len, cap, rfl⟩ := okWide_slice u_sEOp hv
  obtain ⟨fuel, hf⟩ := h
  rcases open_slice u_sEOp hf with ⟨hcs, hx⟩ | ⟨a, len', cap', m, n, D, Pl, hcs, _, hl, hm, hmm, hx, hel⟩
  · simp [Value.cells] at hcs
    obtain ⟨rfl, rfl, rfl⟩ := hcs
    exact ⟨none, 0, 0, 0, 0, fun _ => ⟨0, 0, 0, 0, 0, 0, 0, 0, 0, false, 0, 0⟩, rfl, ⟨Nat.le_refl _, by decide, fun q => absurd q (by decide), fun i hi => absurd hi (Nat.not_lt_zero i), fun i hi => absurd hi (Nat.not_lt_zero i)⟩⟩
  · simp [Value.cells] at hcs
    obtain ⟨rfl, rfl, rfl⟩ := hcs
    simp only [if_true] at hmm
    have each : ∀ i, ∃ X : EOpV, i < len → EOpB X ∧ ∀ j, j < 12 → W.cell? (a.add (i * 12 + j)) = X.cs[j]? := fun i => by
      rcases Nat.lt_or_ge i len with hi | hi
      · obtain ⟨cs', h1, h2⟩ := hel i (by omega)
        obtain ⟨X, rfl, b0⟩ := open_eop h2
        rw [cells_eop] at h1
        obtain ⟨_, hlen, hcell⟩ := World.cells?_some h1
        refine ⟨X, fun _ => ⟨b0, fun j hj => ?_⟩⟩
        have := hcell j hj
        rw [addr_two] at this
        exact this
      · exact ⟨⟨0, 0, 0, 0, 0, 0, 0, 0, 0, false, 0, 0⟩, fun q => by omega⟩
    obtain ⟨X, hX⟩ := Classical.axiomOfChoice each
    clear each
    have hbl : ∀ h0 : 0 < len, a.spot = none ∧ a.block < W.heap.size := fun h0 => by
      have k0 := (hX 0 h0).2 0 (by decide)
      refine ⟨by simpa [Addr.add] using World.cell?_spot k0, ?_⟩
      obtain ⟨cs', h1, _⟩ := hel 0 (by omega)
      rw [cells_eop] at h1
      have := World.cells?_block h1 (by decide)
      simpa [Addr.add] using this
    obtain ⟨ab, ao, asp⟩ := a
    refine ⟨some ⟨ab, ao, asp⟩, len, cap, ab, ao, X, rfl, ⟨hl, by simpa [maxLen] using hm, fun h0 => ?_, fun i hi j hj => ?_, fun i hi => (hX i hi).1⟩⟩
    · obtain ⟨q1, q2⟩ := hbl h0
      obtain rfl : asp = none := q1
      exact ⟨rfl, q2⟩
    · obtain ⟨q1, q2⟩ := hbl (by omega)
      obtain rfl : asp = none := q1
      have k := (hX i hi).2 j hj
      rw [C.addr_add, ← Nat.add_assoc] at k
      exact k
theorem bytes_eop : Tryz.prog.bytesOf 51 = 96 := by kernel_rfl
end Go.Proofs.YtajnjmjogaacpaaGreat
namespace Go.Proofs.YtajnjmjogaacpaaGreat
open Go.RowKit
open C (Only hid Mem Still ret_int ret_bool put byt nu hasB RMem TB Cl fcl Tw)
set_option linter.unusedVariables false
set_option maxRecDepth 100000

theorem rmem_cells {w : World} {T : Nat → Prop} {q : Nat} {bs : Int} {n : Nat} {f : Nat → Int} (h : RMem w T q bs n f) (k : Nat) (hk : T k) : ∃ c t fr, w.heap[k]? = some (.cells c t fr) := by
  obtain ⟨g, hs, hr, rfl, hS⟩ := h
  rcases (hS k).1 hk with rfl | rfl | ⟨i, c, hi⟩
  · exact ⟨_, _, _, hr.top⟩
  · exact ⟨_, _, _, hr.tab⟩
  · obtain ⟨_, cur, hg, _⟩ := hr.full i k c hi
    exact ⟨_, _, _, hg⟩
structure FL (W w : World) (b e : Nat) (v : EV) (S T : Nat → Prop) (p q : Nat) (bs : Int) (n : Nat) (f h : Nat → Int) : Prop where
  eg : Eg w e v
  mm : Mem w S p bs n f
  rm : RMem w T q bs n h
  tb : TB w b p q
  vm : v.m = p
  vg : v.g = gF p
  rb : RB v.r
  st : ∀ k, S k → ¬ T k
  sb : ¬ S b
  nt : ¬ T b
  be : b ≠ e
  te : ¬ T e
  new : Below W.heap.size W w
  own : ∀ k, k = e ∨ S k ∨ T k ∨ k = b → W.heap.size ≤ k
section
variable {W w w' : World} {b e : Nat} {v v' : EV} {S S' T : Nat → Prop} {p q : Nat} {bs : Int} {n : Nat} {f f' h : Nat → Int}
theorem FL.turn (H : FL W w b e v S T p q bs n f h) (t : Txe w e S w' S') (he : Eg w' e v') (hm : Mem w' S' p bs n f') (h1 : v'.m = v.m) (h2 : v'.g = v.g) (h3 : RB v'.r) : FL W w' b e v' S' T p q bs n f' h where
  eg := he
  mm := hm
  rm := H.rm.only t.1 fun k hk z => z.elim (fun y => H.te (y ▸ hk)) fun y => H.st k y hk
  tb := t.1.old H.tb fun z => z.elim H.be H.sb
  vm := h1.trans H.vm
  vg := h2.trans H.vg
  rb := h3
  st := fun k hk z => (t.2 k hk).elim (fun y => H.st k y z) fun y => by have := H.rm.lt z; omega
  sb := fun z => (t.2 b z).elim H.sb fun y => by have := lt_of_block H.tb; omega
  nt := H.nt
  be := H.be
  te := H.te
  new := H.new.trans (t.1.below _ H.new.size fun k z => H.own k (z.elim .inl fun y => .inr (.inl y)))
  own := fun k z => by
    rcases z with z | z | z | z
    · exact H.own k (.inl z)
    · exact (t.2 k z).elim (fun y => H.own k (.inr (.inl y))) fun y => Nat.le_trans H.new.size y
    · exact H.own k (.inr (.inr (.inl z)))
    · exact H.own k (.inr (.inr (.inr z)))
theorem FL.below (H : FL W w b e v S T p q bs n f h) (hb : Below w.heap.size w w') : FL W w' b e v S T p q bs n f h :=
  H.turn (.ofBelow hb) (H.eg.below hb) (H.mm.below hb) rfl rfl H.rb
theorem FL.cells (H : FL W w b e v S T p q bs n f h) : w.cell? ⟨b, 0, none⟩ = some (.pointer (some ⟨p, 0, none⟩)) ∧ w.cell? ⟨b, 1, none⟩ = some (.pointer (some ⟨q, 0, none⟩)) := ⟨H.tb.c0, H.tb.c1⟩
/-- the document's memory turned -/
theorem FL.turnR (H : FL W w b e v S T p q bs n f h) {T' : Nat → Prop} {h' : Nat → Int} (ho : Only T w w') (hr : RMem w' T' q bs n h') (hT : ∀ k, T' k → T k ∨ w.heap.size ≤ k) : FL W w' b e v S T' p q bs n f h' := by
  have hS : ∀ k, S k → ¬ T k := H.st
  refine ⟨H.eg.only ho H.te fun k hk => ?_, H.mm.only ho hS, hr, ho.old H.tb H.nt, H.vm, H.vg, H.rb, fun k hk z => (hT k z).elim (H.st k hk) fun y => by have := H.mm.lt hk; omega, H.sb, fun z => (hT b z).elim H.nt fun y => by have := lt_of_block H.tb; omega, H.be, fun z => (hT e z).elim H.te fun y => by have := H.eg.lt; omega, H.new.trans (ho.below _ H.new.size fun k z => H.own k (.inr (.inr (.inl z)))), fun k z => ?_⟩
  · obtain ⟨c, t, fr, z⟩ := rmem_cells H.rm k hk
    exact ⟨c, t, fr, z⟩
  · rcases z with z | z | z | z
    · exact H.own k (.inl z)
    · exact H.own k (.inr (.inl z))
    · exact (hT k z).elim (fun y => H.own k (.inr (.inr (.inl y)))) fun y => Nat.le_trans H.new.size y
    · exact H.own k (.inr (.inr (.inr z)))
end
section
variable (W w : World) (b e : Nat) (v : EV) (S T : Nat → Prop) (p q : Nat) (bs : Int) (n : Nat) (f h : Nat → Int) (H : FL W w b e v S T p q bs n f h)
include H
theorem f_Write (off size z : Int) (z0 : 0 ≤ z) (z1 : z < 18446744073709551616) (o0 : 0 ≤ off) (o1 : off < 18446744073709551616) (k : Bool) (hk : okE off size = k) (r : Nat → Int) (hr : (bif k then wrE v.r off size z else v.r) = r) :
    Calls Tryz.prog 9 #[.pointer (some ⟨e, 0, none⟩), .int .u64 off, .int .i64 size, .int .u64 z] w fun x w' => x = .returned (.bool k) ∧ FL W w' b e (v.wr r) S T p q bs n f h := by
  refine (x_Write w e v H.eg H.rb off size z z0 z1 o0 o1).mono ?_
  rw [hk]
  rintro x w' ⟨rfl, h1, h2⟩
  rw [hr] at h1
  refine ⟨rfl, H.turn (.own S h2) h1 (H.mm.only h2 fun j hj y => ?_) rfl rfl ?_⟩
  · subst y
    obtain ⟨d, x, q3⟩ := H.eg.blk
    exact H.mm.typ q3 (by decide) (by decide) (by decide) hj
  · show RB r
    rw [← hr]
    cases k
    · exact H.rb
    · exact wrE_b H.rb z0 z1
theorem f_Read (off size : Int) (o0 : 0 ≤ off) (o1 : off < 18446744073709551616) (k : Bool) (hk : okE off size = k) (y : Int) (hy : (bif k then rdE v.r off size else 0) = y) :
    Calls Tryz.prog 10 #[.pointer (some ⟨e, 0, none⟩), .int .u64 off, .int .i64 size] w fun x w' => x = .returned (.tuple #[.int .u64 y, .bool k]) ∧ FL W w' b e v S T p q bs n f h := by
  refine (x_Read w e v H.eg H.rb off size o0 o1).mono ?_
  rw [hk, hy]
  rintro x w' ⟨rfl, h1, h2⟩
  refine ⟨rfl, H.turn (.own S h2) h1 (H.mm.only h2 fun j hj y => ?_) rfl rfl H.rb⟩
  subst y
  obtain ⟨d, x, q3⟩ := H.eg.blk
  exact H.mm.typ q3 (by decide) (by decide) (by decide) hj
theorem f_Step (g i : Int) (k : Bool) (r f' : Nat → Int) (hs : stN (FlG p bs n) v.r f = ((g, i, k), r, f')) :
    Calls Tryz.prog 15 #[.pointer (some ⟨e, 0, none⟩)] w fun x w' => x = .returned (.tuple #[.agg #[.int .i64 g, .int .i64 i], .bool k]) ∧ ∃ S', FL W w' b e (v.wr r) S' T p q bs n f' h := by
  refine (x_Step (flC p bs n v.dev) w e v H.eg H.vm H.vg rfl H.rb S f H.mm).mono ?_
  rw [hs]
  rintro x w' ⟨rfl, h1, F', h2, h3⟩
  refine ⟨rfl, F', H.turn h3 h1 h2 rfl rfl ?_⟩
  have := stN_b (G := FlG p bs n) f H.rb
  rw [hs] at this
  exact this
end
end Go.Proofs.YtajnjmjogaacpaaGreat
namespace Go.Proofs.YtajnjmjogaacpaaGreat
open Go.RowKit
open C (Only hid Mem Still ret_int ret_bool put byt nu hasB RMem TB Cl fcl Tw)
set_option linter.unusedVariables false
set_option maxRecDepth 100000

theorem e0_b (m : Nat) : RB (e0 m).r := fun k => by show 0 ≤ (0 : Int) ∧ (0 : Int) < 18446744073709551616; decide
theorem FL.lay {W w : World} {b e p q n : Nat} {U : Nat → Prop} {f : Nat → Int} (ht : Tw w U p q n f) (he : Eg w e (e0 p)) (hb : TB w b p q) (hw : Below W.heap.size W w) (hu : ∀ k, U k → W.heap.size ≤ k ∧ k ≠ e ∧ k ≠ b) (h1 : W.heap.size ≤ e) (h2 : W.heap.size ≤ b) (h3 : b ≠ e) : ∃ S T, FL W w b e (e0 p) S T p q 0 n f f := by
  obtain ⟨S, T, m1, m2, m3, m4⟩ := ht
  refine ⟨S, T, he, m1, m2, hb, rfl, rfl, e0_b p, m4, fun z => (hu b ((m3 b).2 (.inl z))).2.2 rfl, fun z => (hu b ((m3 b).2 (.inr z))).2.2 rfl, h3, fun z => (hu e ((m3 e).2 (.inr z))).2.1 rfl, hw, fun k z => ?_⟩
  rcases z with z | z | z | z
  · exact z ▸ h1
  · exact (hu k ((m3 k).2 (.inl z))).1
  · exact (hu k ((m3 k).2 (.inr z))).1
  · exact z ▸ h2
theorem f_W8 (r : Nat → Int) (h : (r 3 == 1) = false) (z : Int) : wrE r 0 8 z = eu r 0 z ∧ wrE r 8 8 z = eu r 1 z ∧ wrE r 16 8 z = eu r 2 z ∧ wrE r 24 8 z = cmE r z := by
  unfold wrE
  rw [h]
  exact ⟨rfl, rfl, rfl, rfl⟩
theorem f_W4 (r : Nat → Int) (z : Int) : wrE r 24 4 z = cmE r (z % 4294967296) := by
  unfold wrE
  cases (r 3 == 1)
  · rfl
  · rfl
theorem cm_1 (r : Nat → Int) (h : (r 3 == 1) = false) : cmE r 1 = bgE r := by unfold cmE; rw [h]; rfl
/-- src, dst and len are told, and it begins -/
def rB (a b k : Int) : Nat → Int := bgE (eu (eu (eu (fun _ => 0) 0 a) 1 b) 2 k)
theorem rB_0 (a b k : Int) : rB a b k 0 = a ∧ rB a b k 1 = b ∧ rB a b k 2 = k ∧ rB a b k 4 = 0 ∧ rB a b k 5 = 0 ∧ rB a b k 6 = 0 := ⟨rfl, rfl, rfl, rfl, rfl, rfl⟩
def okB (a b k : Int) : Bool := !(k == 0 || decide (k > 4096) || !(a % 8 == 0 && b % 8 == 0 && k % 8 == 0))
theorem rB_3 (a b k : Int) : rB a b k 3 = bif okB a b k then 1 else 3 := by
  show (bif (k == 0 || decide (k > 4096) || !(a % 8 == 0 && b % 8 == 0 && k % 8 == 0)) then (3 : Int) else 1) = _
  unfold okB
  cases (k == 0 || decide (k > 4096) || !(a % 8 == 0 && b % 8 == 0 && k % 8 == 0)) <;> rfl
theorem nu_aw : nu (fun j => put (put (fun _ => 0) 8 8 (byt 77)) 4096 8 (byt (nu (fun j => put (fun _ => 0) 8 8 (byt 77) (8 + j)) 8)) (4096 + j)) 8 = 77 := by decide
def X1 : Nat → Int × Int := fun _ => (1, 77)
theorem fcl1 : fcl 2 X1 1 = put (fun _ => 0) 8 8 (byt 77) := rfl
theorem aw_step (p : Nat) : stN (FlG p 0 2) (rB 8 4096 8) (put (fun _ => 0) 8 8 (byt 77)) = ((0, 0, false), eu (eu (rB 8 4096 8) 6 8) 3 2, put (put (fun _ => 0) 8 8 (byt 77)) 4096 8 (byt (nu (fun j => put (fun _ => 0) 8 8 (byt 77) (8 + j)) 8))) := rfl
theorem cl1 (w : World) (a : Int) (x : Int) (a0 : -9223372036854775808 ≤ a ∧ a ≤ 9223372036854775807) (x0 : 0 ≤ x ∧ x < 18446744073709551616) : Cl (w.alloc (.cells #[.int .i64 a, .int .u64 x] 26)) (some ⟨w.heap.size, 0, none⟩) 1 1 w.heap.size 0 (fun _ => (a, x)) where
  len := Nat.le_refl _
  cap := by decide
  at0 := fun _ => ⟨rfl, by simp⟩
  cell := fun i hi => by
    obtain rfl : i = 0 := by omega
    exact ⟨cell_of_row _ _ 0 _ _ _ (heap_alloc_new w _), cell_of_row _ _ 1 _ _ _ (heap_alloc_new w _)⟩
  num := fun i _ => ⟨a0, x0⟩
/-- the engine is made behind the memory -/
theorem lay_flat {W w0 w1 w2 : World} {p q n : Nat} {U : Nat → Prop} {f : Nat → Int} (h0 : Below W.heap.size W w0) (ht : Tw w1 U p q n f) (hb : Below w0.heap.size w0 w1) (hu : ∀ k, U k → w0.heap.size ≤ k) (f1 : Eg w2 (w1.alloc (.cells #[.pointer (some ⟨p, 0, none⟩), .pointer (some ⟨q, 0, none⟩)] 34)).heap.size (e0 p)) (f2 : Below (w1.alloc (.cells #[.pointer (some ⟨p, 0, none⟩), .pointer (some ⟨q, 0, none⟩)] 34)).heap.size (w1.alloc (.cells #[.pointer (some ⟨p, 0, none⟩), .pointer (some ⟨q, 0, none⟩)] 34)) w2) :
    ∃ S T, FL W w2 w1.heap.size (w1.heap.size + 1) (e0 p) S T p q 0 n f f := by
  have b1 : Below w1.heap.size w1 (w1.alloc (.cells #[.pointer (some ⟨p, 0, none⟩), .pointer (some ⟨q, 0, none⟩)] 34)) := (Below.refl _ _).alloc (Nat.le_refl _) _
  have b2 : Below w1.heap.size w1 w2 := b1.trans (f2.mono b1.size)
  have z0 := h0.size
  have z1 := hb.size
  refine FL.lay (ht.below b2) ?_ (C.TB.below (C.TB.new w1 p q) f2) (h0.trans ((hb.mono z0).trans (b2.mono (Nat.le_trans z0 z1)))) (fun k hk => ?_) (by omega) (by omega) (by omega)
  · have : (w1.alloc (.cells #[.pointer (some ⟨p, 0, none⟩), .pointer (some ⟨q, 0, none⟩)] 34)).heap.size = w1.heap.size + 1 := by simp
    rw [← this]; exact f1
  · have y1 := hu k hk
    have y2 := ht.lt hk
    omega
set_option maxHeartbeats 1000000 in
theorem l_awake8 (w : World) : Calls Tryz.prog 17 #[] w fun r w' => r = .returned (.bool true) ∧ Below w.heap.size w w' := by
  have H0 : Hid (Below w.heap.size w (w.alloc (.cells #[.int .i64 1, .int .u64 77] 26))) := (Below.refl _ _).alloc (Nat.le_refl _) _
  have hA := nu_aw
  go_enter Tryz.func17, Tryz.ntmps17
  have T0 : Hid True := hid trivial
  have T1 : Hid True := hid trivial
  have T2 : Hid True := hid trivial
  go_wp2_with (first
    | (go_at_call 18; refine (C.c_Memory _ 2 (by decide) (by decide) _ 1 1 _ 0 X1 (cl1 w 1 77 (by decide) (by decide))).mono ?_; rintro r w1 ⟨p, q, U, rfl, ht, hb, hu⟩; have HT := hid ht; have HB := hid hb; have HU := hid hu; clear ht hb hu)
    | (go_at_call 32; refine (x_Flat _ p).mono ?_; rintro r w2 ⟨rfl, f1, f2⟩; obtain ⟨S, T, hL⟩ := lay_flat H0.out HT.out HB.out HU.out f1 f2; have HL := hid hL; clear f1 f2 hL)
    | (go_at_call 9; have t := T0; clear t T0; refine (f_Write _ _ _ _ _ _ _ _ _ _ _ _ _ HL.out 0 8 8 (by decide) (by decide) (by decide) (by decide) true rfl (eu (fun _ => 0) 0 8) (f_W8 (fun _ => 0) rfl 8).1).mono ?_; rintro r w3 ⟨rfl, hL⟩; have HL3 := hid hL; clear hL)
    | (go_at_call 9; have t := T1; clear t T1; refine (f_Write _ _ _ _ _ _ _ _ _ _ _ _ _ HL3.out 8 8 4096 (by decide) (by decide) (by decide) (by decide) true rfl (eu (eu (fun _ => 0) 0 8) 1 4096) (f_W8 (eu (fun _ => 0) 0 8) rfl 4096).2.1).mono ?_; rintro r w4 ⟨rfl, hL⟩; have HL4 := hid hL; clear hL)
    | (go_at_call 9; have t := T2; clear t T2; refine (f_Write _ _ _ _ _ _ _ _ _ _ _ _ _ HL4.out 16 8 8 (by decide) (by decide) (by decide) (by decide) true rfl (eu (eu (eu (fun _ => 0) 0 8) 1 4096) 2 8) (f_W8 (eu (eu (fun _ => 0) 0 8) 1 4096) rfl 8).2.2.1).mono ?_; rintro r w5 ⟨rfl, hL⟩; have HL5 := hid hL; clear hL)
    | (go_at_call 9; refine (f_Write _ _ _ _ _ _ _ _ _ _ _ _ _ HL5.out 24 8 1 (by decide) (by decide) (by decide) (by decide) true rfl (rB 8 4096 8) ((f_W8 (eu (eu (eu (fun _ => 0) 0 8) 1 4096) 2 8) rfl 1).2.2.2.trans (cm_1 (eu (eu (eu (fun _ => 0) 0 8) 1 4096) 2 8) rfl))).mono ?_; rintro r w6 ⟨rfl, hL⟩; have HL6 := hid hL; clear hL)
    | (go_at_call 11; refine (x_Busy _ _ _ HL6.out.eg).mono ?_; rw [show (((((e0 p).wr (eu (fun _ => 0) 0 8)).wr (eu (eu (fun _ => 0) 0 8) 1 4096)).wr (eu (eu (eu (fun _ => 0) 0 8) 1 4096) 2 8)).wr (rB 8 4096 8)).r 3 = 1 from rfl]; rintro r w7 ⟨rfl, hw⟩; obtain rfl := hw.symm)
    | (go_at_call 15; refine (f_Step _ _ _ _ _ _ _ _ _ _ _ _ _ HL6.out 0 0 false _ _ (aw_step p)).mono ?_; rintro r w8 ⟨rfl, S8, hL⟩; have HL8 := hid hL; have c0 := HL8.out.tb.c0; clear hL)
    | (go_at_call 29; refine (C.c_Read _ S8 p 0 2 _ HL8.out.mm 4096 8 (by decide) (by decide) 4096 rfl).mono ?_; rw [hA]; rintro r w9 ⟨rfl, hb⟩; have HL9 := hid (HL8.out.below hb); clear hb)
    | (go_at_call 10; refine (f_Read _ _ _ _ _ _ _ _ _ _ _ _ _ HL9.out 32 8 (by decide) (by decide) true rfl 2 rfl).mono ?_; rintro r w10 ⟨rfl, hL⟩; have HL10 := hid hL; clear hL))
  go_ret
  exact ⟨rfl, HL10.out.new⟩
end Go.Proofs.YtajnjmjogaacpaaGreat
namespace Go.Proofs.YtajnjmjogaacpaaGreat
open Go.RowKit Go.Deep Go.ChangeShapes
open C
set_option linter.unusedVariables false
def eU (dev : Int) (m u : Nat) : EV := ⟨dev, m, gU u, fun _ => 0⟩
theorem x_New (w : World) (dev : Int) (m u : Nat) (hd : isDev dev = true) : Calls Tryz.prog 8 #[.int .i64 dev, .pointer (some ⟨m, 0, none⟩), .pointer (some ⟨u, 0, none⟩)] w fun r w' => ∃ e, r = .returned (.tuple #[.pointer (some ⟨e, 0, none⟩), .int .i64 0]) ∧ w.heap.size ≤ e ∧ Eg w' e (eU dev m u) ∧ Below w.heap.size w w' := by
  obtain ⟨d0, d1⟩ := dev_cases hd
  go_enter Tryz.func8, Tryz.ntmps8
  go_wp2
  go_returns
  exact ⟨_, rfl, Nat.le_refl _, .inl (heap_alloc_new w _), (Below.refl _ _).alloc (Nat.le_refl _) _⟩
theorem own_ge {w : World} {base : Nat} {e : TypeId} {size : Nat} {v : Value} {n : Nat} {xs : List Value} (h : w.ownsRow base e size v n xs) {r : Nat} (q : v.ownBlock = some r) : base ≤ r := by
  rcases h.2 with ⟨rfl, _⟩ | ⟨g, cap, cur, rfl, hg, _⟩
  · simp [Value.ownBlock] at q
  · simp [Value.ownBlock] at q; omega
/-- an engine behind an IOMMU, the pair's own block beside it -/
structure EB (W w : World) (ob : Nat) (O : Obj) (u m t e : Nat) (v : EV) (F : Nat → Prop) (s : Us) (b : Nat → Int) (x : Int) : Prop where
  us : (UG u 8 8 m t 3).R w F s
  sb : Sb b x s
  eg : Eg w e v
  vm : v.m = m
  vg : v.g = gU u
  vd : v.dev = 3
  rb : RB v.r
  r6 : v.r 6 = 0
  on : w.heap[ob]? = some O
  nob : ¬ F ob ∧ ob ≠ e
  new : Below W.heap.size W w
  own : ∀ k, k = e ∨ F k → W.heap.size ≤ k
theorem EB.write {W w w' : World} {ob : Nat} {O : Obj} {u m t e : Nat} {v v' : EV} {F : Nat → Prop} {s : Us} {b : Nat → Int} {x : Int} (h : EB W w ob O u m t e v F s b x) (he : Eg w' e v') (ho : Only (· = e) w w') (h1 : v'.m = v.m) (h2 : v'.g = v.g) (h3 : v'.dev = v.dev) (h4 : RB v'.r) (h5 : v'.r 6 = 0) : EB W w' ob O u m t e v' F s b x :=
  ⟨(ugC u 8 8 m t 3 (by decide)).own h.us h.eg ho, h.sb, he, h1.trans h.vm, h2.trans h.vg, h3.trans h.vd, h4, h5, ho.old h.on h.nob.2, h.nob, h.new.trans (ho.below _ h.new.size fun k z => h.own k (.inl z)), h.own⟩
theorem EB.below {W w w' : World} {ob : Nat} {O : Obj} {u m t e : Nat} {v : EV} {F : Nat → Prop} {s : Us} {b : Nat → Int} {x : Int} (h : EB W w ob O u m t e v F s b x) (hb : Below w.heap.size w w') : EB W w' ob O u m t e v F s b x :=
  h.write (h.eg.below hb) (Only.ofBelow hb) rfl rfl rfl h.rb h.r6
theorem yof_ok (X : Nat → Int × Int) (k : Nat) (hN : ∀ i, i < k → (-9223372036854775808 ≤ (X i).1 ∧ (X i).1 ≤ 9223372036854775807) ∧ 0 ≤ (X i).2 ∧ (X i).2 < 18446744073709551616) : ∀ i, i < 3584 → okT7 (rd8 (fcl 8 (Yof7 X) k) (8 * i)) :=
  fcl_tab7 (Yof7 X) k fun i hi => by
    obtain ⟨-, u0, u1⟩ := hN i hi
    obtain ⟨h1, h2⟩ := lowV_ok7 _ u0 u1
    refine ⟨⟨?_, ?_⟩, h1, h2⟩
    · show 0 ≤ (X i).1 % 3584; omega
    · show (X i).1 % 3584 < 3584; omega
section
variable {W w w' : World} {ob : Nat} {O : Obj} {u m t e : Nat} {v : EV} {F F' : Nat → Prop} {s s' : Us} {b : Nat → Int} {x : Int}
theorem us_cells (h : (UG u 8 8 m t 3).R w F s) : CellsOnly w F := fun k hk => by
  obtain ⟨c, t', f, q, _⟩ := (ugC u 8 8 m t 3 (by decide)).sep w F s h k hk
  exact ⟨c, t', f, q⟩
/-- the IOMMU has turned -/
theorem EB.turn (h : EB W w ob O u m t e v F s b x) (hr : (UG u 8 8 m t 3).R w' F' s') (hs : Sb b x s') (ht : Tx w F w' F') : EB W w' ob O u m t e v F' s' b x :=
  ⟨hr, hs, h.eg.only ht.1 ((ugC u 8 8 m t 3 (by decide)).ne h.us h.eg) (us_cells h.us), h.vm, h.vg, h.vd, h.rb, h.r6, ht.1.old h.on h.nob.1, ⟨fun z => (ht.2 _ z).elim h.nob.1 fun y => by have := lt_of_block h.on; omega, h.nob.2⟩, h.new.trans (ht.1.below _ h.new.size fun k z => h.own k (.inr z)), fun k z => z.elim (fun z => h.own k (.inl z)) fun z => (ht.2 k z).elim (fun y => h.own k (.inr y)) fun y => Nat.le_trans h.new.size y⟩
theorem EB.read (h : EB W w ob O u m t e v F s b x) : Calls Tryz.prog 10 #[.pointer (some ⟨e, 0, none⟩), .int .u64 8, .int .i64 8] w fun r w' => r = .returned (.tuple #[.int .u64 (v.r 1), .bool true]) ∧ EB W w' ob O u m t e v F s b x := by
  refine (x_Read w e v h.eg h.rb 8 8 (by decide) (by decide)).mono ?_
  rintro r w' ⟨rfl, h1, h2⟩
  exact ⟨rfl, h.write h1 h2 rfl rfl rfl h.rb h.r6⟩
theorem EB.acc (h : EB W w ob O u m t e v F s b x) : Calls Tryz.prog 12 #[.pointer (some ⟨u, 0, none⟩), .int .i64 3, .int .u64 (v.r 1), .int .i64 8, .bool true] w fun r w' => r = .returned (.tuple #[.int .u64 (acN 8 b x (v.r 1) 8 true).2, .bool (decide ((acN 8 b x (v.r 1) 8 true).1 = 0))]) ∧ ∃ F' s', EB W w' ob O u m t e v F' s' b x := by
  obtain ⟨a1, a2, a3⟩ := h.sb.acc u m t (v.r 1) true (h.rb 1).1 (h.rb 1).2
  refine ((ugC u 8 8 m t 3 (by decide)).A w F s h.us (v.r 1) true (h.rb 1).1 (h.rb 1).2).mono ?_
  rintro r w' ⟨rfl, F', h1, h2⟩
  rw [a1, a2]
  exact ⟨rfl, F', _, h.turn h1 a3 h2⟩
theorem EB.okP (h : EB W w ob O u m t e v F s b x) (hl : decide ((acN 8 b x (v.r 1) 8 true).1 = 0) = true) : hasB 0 8 (acN 8 b x (v.r 1) 8 true).2 8 = true := by
  obtain ⟨a1, a2, a3⟩ := h.sb.acc u m t (v.r 1) true (h.rb 1).1 (h.rb 1).2
  have := (ugC u 8 8 m t 3 (by decide)).ok s (v.r 1) true (by rw [a2]; exact hl)
  rw [a1] at this
  exact this
theorem EB.next (h : EB W w ob O u m t e v F s b x) : Calls Tryz.prog 13 #[.pointer (some ⟨u, 0, none⟩)] w fun r w' => (∃ a c d k, r = .returned (.tuple #[.agg #[.int .i64 a, .int .i64 c, .int .u64 d], .bool k])) ∧ ∃ s', EB W w' ob O u m t e v F s' b x := by
  obtain ⟨h1, h2, h3⟩ := h.us
  rcases Nat.eq_zero_or_pos s.v.count with hc | hc
  · refine (s_Next_no w F u s.v 8 s.f 8 s.L h1 hc).mono ?_
    rintro r w' ⟨rfl, hb⟩
    exact ⟨⟨_, _, _, _, rfl⟩, s, h.below hb⟩
  · refine (s_Next w F u s.v 8 s.f 8 s.L h1 hc).mono ?_
    rintro r w' ⟨rfl, hu, ht⟩
    exact ⟨⟨_, _, _, _, rfl⟩, ⟨nxV s.v, s.f, s.L⟩, h.turn ⟨hu, h2, h3⟩ h.sb.next ht⟩
/-- what the last loops read: what was, and what is -/
structure Ls2 (W w : World) (ob : Nat) (O : Obj) (m c : Nat) (f g : Nat → Int) : Prop where
  was : ∃ S, Mem w S c 0 8 f
  now : ∃ S, Mem w S m 0 8 g
  on : w.heap[ob]? = some O
  new : Below W.heap.size W w
theorem Ls2.below {c : Nat} {f g : Nat → Int} (h : Ls2 W w ob O m c f g) (hb : Below w.heap.size w w') : Ls2 W w' ob O m c f g := by
  obtain ⟨S, h1⟩ := h.was
  obtain ⟨T, h2⟩ := h.now
  exact ⟨⟨S, h1.below hb⟩, ⟨T, h2.below hb⟩, (hb.block _ (lt_of_block h.on)).trans h.on, h.new.trans (hb.mono h.new.size)⟩
theorem EB.copy (h : EB W w ob O u m t e v F s b x) : Calls Tryz.prog 14 #[.pointer (some ⟨m, 0, none⟩)] w fun r w' => ∃ c, r = .returned (.pointer (some ⟨c, 0, none⟩)) ∧
    Calls Tryz.prog 15 #[.pointer (some ⟨e, 0, none⟩)] w' fun r w2 => (∃ a d k, r = .returned (.tuple #[.agg #[.int .i64 a, .int .i64 d], .bool k])) ∧ Ls2 W w2 ob O m c s.f (stN (UG u 8 8 m t 3) v.r s).2.2.f := by
  obtain ⟨h1, h2, h3⟩ := h.us
  have h1' := h1
  obtain ⟨S, g, u1, u2, u3, u4, u5⟩ := h1
  rw [h2] at u2
  refine (C.c_Copy w S m 0 8 s.f u2).mono ?_
  rintro r w' ⟨c, S', rfl, c1, c2, c3⟩
  refine ⟨c, rfl, ?_⟩
  have hB := h.below c2
  refine (x_Step (ugC u 8 8 m t 3 (by decide)) w' e v hB.eg hB.vm (by rw [hB.vg]; rfl) hB.vd hB.rb F s hB.us).mono ?_
  rintro r w2 ⟨rfl, e1, F', e2, e3⟩
  have hel := h.eg.lt
  have hlt : ∀ k, F k → k < w.heap.size := fun k hk => h1'.lt hk
  refine ⟨⟨_, _, _, rfl⟩, ⟨S', c1.only e3.1 fun k hk z => ?_⟩, ?_, e3.1.old hB.on (fun z => z.elim hB.nob.2 hB.nob.1), hB.new.trans (e3.1.below _ hB.new.size fun k z => hB.own k z)⟩
  · have := c3 k hk
    rcases z with z | z
    · omega
    · have := hlt k z; omega
  · obtain ⟨⟨S2, g2, v1, v2, v3, v4, v5⟩, w3, w4⟩ := e2
    rw [w3] at v2
    exact ⟨S2, v2⟩
theorem Ls2.bytes {c : Nat} {f g : Nat → Int} (h : Ls2 W w ob O m c f g) (off : Nat) (hl : off + 4096 ≤ 32768) (a : Int) (ha : a = (off : Int)) : Calls Tryz.prog 16 #[.pointer (some ⟨c, 0, none⟩), .int .u64 a, .int .i64 4096] w fun r w' => ∃ d, r = .returned (.tuple #[.slice (some ⟨d, 0, none⟩) 4096 4096, .bool true]) ∧ w'.heap[d]? = some (.cells (row (fun j => f (off + j)) 0 4096).toArray 5 (0, 0)) ∧ Ls2 W w' ob O m c f g ∧
    Calls Tryz.prog 16 #[.pointer (some ⟨m, 0, none⟩), .int .u64 a, .int .i64 4096] w' fun r w2 => ∃ d2, r = .returned (.tuple #[.slice (some ⟨d2, 0, none⟩) 4096 4096, .bool true]) ∧ w2.heap[d]? = some (.cells (row (fun j => f (off + j)) 0 4096).toArray 5 (0, 0)) ∧ w2.heap[d2]? = some (.cells (row (fun j => g (off + j)) 0 4096).toArray 5 (0, 0)) ∧ Ls2 W w2 ob O m c f g := by
  obtain ⟨S, h1⟩ := h.was
  refine (c_BytesF w S c 0 8 f h1 off (by omega) a (by omega)).mono ?_
  rintro r w' ⟨d, rfl, d1, d2, d3⟩
  have h' := h.below d3
  refine ⟨d, rfl, d1, h', ?_⟩
  obtain ⟨T, h2⟩ := h'.now
  refine (c_BytesF w' T m 0 8 g h2 off (by omega) a (by omega)).mono ?_
  rintro r w2 ⟨k, rfl, k1, k2, k3⟩
  exact ⟨k, rfl, (k3.block d (lt_of_block d1)).trans d1, k1, h'.below k3⟩
end
end Go.Proofs.YtajnjmjogaacpaaGreat
