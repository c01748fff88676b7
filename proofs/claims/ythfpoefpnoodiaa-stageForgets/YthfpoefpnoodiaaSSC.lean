/- Scripts, as they stand. -/
import Derived.Test.YthfpoefpnoodiaaRows
import Derived.Test.YthfpoefpnoodiaaMC2
import Derived.OpenShut
import Derived.SizedLaws
import Derived.Deep.Slices
namespace Go.Proofs.Ythfpoefpnoodiaa
open Go.ChangeShapes Go.WideShapes Go.ChangeAt Go.RowKit Go.Deep
set_option linter.unusedVariables false

theorem cells_i8 : Try.prog.cellsOf 3 = 1 := by kernel_rfl
theorem cells_u8 : Try.prog.cellsOf 22 = 1 := by kernel_rfl
theorem addr_two (a : Addr) (i j : Nat) : (a.add i).add j = a.add (i + j) := by
  unfold Addr.add
  by_cases hi : i = 0
  · subst hi; simp
  · by_cases hj : j = 0
    · subst hj; simp
    · have : ¬ i + j = 0 := by omega
      simp [hi, hj, Nat.add_assoc]
theorem fld8 {T k : Nat} {t : TypeId} {o : Nat} (h : ((Try.prog.fieldsOf T)[k]?).map (fun f => (f.type, f.offset)) = some (t, o)) : ∃ f, (Try.prog.fieldsOf T)[k]? = some f ∧ f.type = t ∧ f.offset = o := by
  cases hq : (Try.prog.fieldsOf T)[k]? with
  | none => rw [hq] at h; cases h
  | some f => rw [hq] at h; simp at h; exact ⟨f, rfl, h.1, h.2⟩
structure ShoV where
  kind : Int
  hart : Int
  vmid : Int
  page : Int
def ShoV.cs (x : ShoV) : List Value := [.int .i64 x.kind, .int .i64 x.hart, .int .i64 x.vmid, .int .u64 x.page]
structure ShoB (x : ShoV) : Prop where
  kind : -9223372036854775808 ≤ x.kind ∧ x.kind ≤ 9223372036854775807
  hart : -9223372036854775808 ≤ x.hart ∧ x.hart ≤ 9223372036854775807
  vmid : -9223372036854775808 ≤ x.vmid ∧ x.vmid ≤ 9223372036854775807
  page : 0 ≤ x.page ∧ x.page < 18446744073709551616
structure Shc (w : World) (ad : Option Addr) (la cap ab ao : Nat) (X : Nat → ShoV) : Prop where
  len : la ≤ cap
  cap : cap ≤ 9223372036854775807
  at0 : 0 < la → ad = some ⟨ab, ao, none⟩ ∧ ab < w.heap.size
  cell : ∀ i, i < la → ∀ j, j < 4 → w.cell? ⟨ab, ao + i * 4 + j, none⟩ = (X i).cs[j]?
  num : ∀ i, i < la → ShoB (X i)
theorem Shc.below {w w' : World} {ad : Option Addr} {la cap ab ao : Nat} {X : Nat → ShoV} (h : Shc w ad la cap ab ao X) (hb : Below w.heap.size w w') : Shc w' ad la cap ab ao X :=
  ⟨h.len, h.cap, fun q => ⟨(h.at0 q).1, Nat.lt_of_lt_of_le (h.at0 q).2 hb.size⟩, fun i hi j hj => by
    have hlt := (h.at0 (by omega)).2
    have e : ∀ o, w'.cell? ⟨ab, o, none⟩ = w.cell? ⟨ab, o, none⟩ := fun o => World.cell?_of_block (w := w) (hb.block _ hlt)
    rw [e]; exact h.cell i hi j hj, h.num⟩
theorem under_sho : Try.prog.underlying 92 = some (.struct (Try.prog.fieldsOf 92)) := by kernel_rfl
theorem cells_sho : Try.prog.cellsOf 92 = 4 := by kernel_rfl
theorem u_sShot : Try.prog.underlying 76 = some (.slice 92) := by kernel_rfl
set_option maxRecDepth 100000 in
theorem open_sho {H : Type} {enc : TypeId × Value → H} {W : World} {base fuel : Nat} {cs : List Value} {x : DataW H × List MemPlace} (h : DataW.trod enc Try.prog W base (fun _ => true) true fuel 92 cs = some x) :
    ∃ X : ShoV, cs = X.cs ∧ ShoB X := by
  obtain ⟨xs, n, _, rfl, hcl, hlen, hfs⟩ := DataW.trod_struct under_sho h
  have hl : xs.length = 4 := by rw [hlen]; kernel_rfl
  rw [cells_sho] at hcl
  obtain ⟨f0, e0, t0, o0⟩ := fld8 (T := 92) (k := 0) (t := 3) (o := 0) (by kernel_rfl)
  have q0 := hfs 0 f0 e0
  rw [t0, o0, cells_i8, List.getElem?_eq_getElem (by omega)] at q0
  obtain ⟨z0, r0, _, w0⟩ := DataW.trod_int Try.underlying3 q0
  obtain ⟨f1, e1, t1, o1⟩ := fld8 (T := 92) (k := 1) (t := 3) (o := 1) (by kernel_rfl)
  have q1 := hfs 1 f1 e1
  rw [t1, o1, cells_i8, List.getElem?_eq_getElem (by omega)] at q1
  obtain ⟨z1, r1, _, w1⟩ := DataW.trod_int Try.underlying3 q1
  obtain ⟨f2, e2, t2, o2⟩ := fld8 (T := 92) (k := 2) (t := 3) (o := 2) (by kernel_rfl)
  have q2 := hfs 2 f2 e2
  rw [t2, o2, cells_i8, List.getElem?_eq_getElem (by omega)] at q2
  obtain ⟨z2, r2, _, w2⟩ := DataW.trod_int Try.underlying3 q2
  obtain ⟨f3, e3, t3, o3⟩ := fld8 (T := 92) (k := 3) (t := 22) (o := 3) (by kernel_rfl)
  have q3 := hfs 3 f3 e3
  rw [t3, o3, cells_u8, List.getElem?_eq_getElem (by omega)] at q3
  obtain ⟨z3, r3, _, w3⟩ := DataW.trod_int Try.underlying22 q3
  obtain ⟨c0, c1, c2, c3, rfl⟩ : ∃ c0 c1 c2 c3, cs = [c0, c1, c2, c3] := by
    match cs, hcl with
    | [c0, c1, c2, c3], _ => exact ⟨c0, c1, c2, c3, rfl⟩
  simp at r0 r1 r2 r3
  subst r0 r1 r2 r3
  have b3 := bounds_u64 w3
  exact ⟨⟨z0, z1, z2, z3⟩, rfl, ⟨bounds_i64 w0, bounds_i64 w1, bounds_i64 w2, ⟨b3.1, by show z3 < _; omega⟩⟩⟩
set_option maxRecDepth 100000 in
/-- a script, as it stands -/
theorem open_shots {H : Type} {enc : TypeId × Value → H} {W : World} {base : Nat} {r : Reach} {b : Nat} {v : Value} {d : DataW H} {p : List MemPlace}
    (hv : Value.okWide Try.prog W r b 76 v) (h : DataW.Trod enc Try.prog W base (fun _ => true) true 76 v d p) (hlt : ∀ x ∈ p, x.block < W.heap.size) :
    ∃ (ad : Option Addr) (la cap ab ao : Nat) (X : Nat → ShoV), v = .slice ad la cap ∧ Shc W ad la cap ab ao X := by
  obtain ⟨a0, len, cap, rfl⟩ := okWide_slice u_sShot hv
  obtain ⟨fuel, hf⟩ := h
  rcases open_slice u_sShot hf with ⟨hcs, hx⟩ | ⟨a, len', cap', m, n, D, Pl, hcs, _, hl, hm, hmm, hx, hel⟩
  · simp [Value.cells] at hcs
    obtain ⟨rfl, rfl, rfl⟩ := hcs
    exact ⟨none, 0, 0, 0, 0, fun _ => ⟨0, 0, 0, 0⟩, rfl, ⟨Nat.le_refl _, by decide, fun q => absurd q (by decide), fun i hi => absurd hi (Nat.not_lt_zero i), fun i hi => absurd hi (Nat.not_lt_zero i)⟩⟩
  · simp [Value.cells] at hcs
    obtain ⟨rfl, rfl, rfl⟩ := hcs
    simp only [if_true] at hmm
    have each : ∀ i, ∃ X : ShoV, i < len → ShoB X ∧ ∀ j, j < 4 → W.cell? (a.add (i * 4 + j)) = X.cs[j]? := fun i => by
      rcases Nat.lt_or_ge i len with hi | hi
      · obtain ⟨cs', h1, h2⟩ := hel i (by omega)
        obtain ⟨X, rfl, b0⟩ := open_sho h2
        rw [cells_sho] at h1
        obtain ⟨_, hlen, hcell⟩ := World.cells?_some h1
        refine ⟨X, fun _ => ⟨b0, fun j hj => ?_⟩⟩
        have := hcell j hj
        rw [addr_two] at this
        exact this
      · exact ⟨⟨0, 0, 0, 0⟩, fun q => by omega⟩
    obtain ⟨X, hX⟩ := Classical.axiomOfChoice each
    clear each
    have hbl : ∀ h0 : 0 < len, a.spot = none ∧ a.block < W.heap.size := fun h0 => by
      have k0 := (hX 0 h0).2 0 (by decide)
      refine ⟨by simpa [Addr.add] using World.cell?_spot k0, ?_⟩
      obtain ⟨cs', h1, _⟩ := hel 0 (by omega)
      rw [cells_sho] at h1
      have := World.cells?_block h1 (by decide)
      simpa [Addr.add] using this
    obtain ⟨ab, ao, asp⟩ := a
    refine ⟨some ⟨ab, ao, asp⟩, len, cap, ab, ao, X, rfl, ⟨hl, by simpa [maxLen] using hm, fun h0 => ?_, fun i hi j hj => ?_, fun i hi => (hX i hi).1⟩⟩
    · obtain ⟨q1, q2⟩ := hbl h0
      obtain rfl : asp = none := q1
      exact ⟨rfl, q2⟩
    · obtain ⟨q1, q2⟩ := hbl (by omega)
      obtain rfl : asp = none := q1
      have k := (hX i hi).2 j hj
      rw [C.addr_add, ← Nat.add_assoc] at k
      exact k
theorem bytes_sho : Try.prog.bytesOf 92 = 32 := by kernel_rfl
set_option maxRecDepth 100000 in
theorem shots_len {H : Type} {enc : TypeId × Value → H} {W : World} {base : Nat} {ad : Option Addr} {la cap : Nat} {d : DataW H} {p : List MemPlace} (h : DataW.Trod enc Try.prog W base (fun _ => true) true 76 (.slice ad la cap) d p) (hw : ∀ n ∈ d.weights Try.prog 76, n ≤ reachBytes) : la ≤ 8796093022208 := by
  obtain ⟨fuel, hf⟩ := h
  rcases open_slice u_sShot hf with ⟨hcs, hx⟩ | ⟨a, len', cap', m, n, D, Pl, hcs, _, hl, hm, hmm, hx, hel⟩
  · simp [Value.cells] at hcs
    obtain ⟨rfl, rfl, rfl⟩ := hcs
    exact Nat.zero_le _
  · simp [Value.cells] at hcs
    obtain ⟨rfl, rfl, rfl⟩ := hcs
    simp only [Prod.mk.injEq] at hx
    obtain ⟨rfl, rfl⟩ := hx
    have h2 := hw ((((List.range la).map D).length + ((List.range (m - la)).map fun j => D (la + j)).length) * Try.prog.bytesOf 92) (by simp [DataW.weights])
    rw [bytes_sho] at h2
    simp [reachBytes] at h2
    omega
structure SopV where
  kind : Int
  frame : Int
  perm : Int
  size : Int
  page : Int
  addr : Int
  v : Int
def SopV.cs (x : SopV) : List Value := [.int .i64 x.kind, .int .i64 x.frame, .int .i64 x.perm, .int .i64 x.size, .int .u64 x.page, .int .u64 x.addr, .int .u64 x.v]
structure SopB (x : SopV) : Prop where
  kind : -9223372036854775808 ≤ x.kind ∧ x.kind ≤ 9223372036854775807
  frame : -9223372036854775808 ≤ x.frame ∧ x.frame ≤ 9223372036854775807
  perm : -9223372036854775808 ≤ x.perm ∧ x.perm ≤ 9223372036854775807
  size : -9223372036854775808 ≤ x.size ∧ x.size ≤ 9223372036854775807
  page : 0 ≤ x.page ∧ x.page < 18446744073709551616
  addr : 0 ≤ x.addr ∧ x.addr < 18446744073709551616
  v : 0 ≤ x.v ∧ x.v < 18446744073709551616
structure Soc (w : World) (ad : Option Addr) (la cap ab ao : Nat) (X : Nat → SopV) : Prop where
  len : la ≤ cap
  cap : cap ≤ 9223372036854775807
  at0 : 0 < la → ad = some ⟨ab, ao, none⟩ ∧ ab < w.heap.size
  cell : ∀ i, i < la → ∀ j, j < 7 → w.cell? ⟨ab, ao + i * 7 + j, none⟩ = (X i).cs[j]?
  num : ∀ i, i < la → SopB (X i)
theorem Soc.below {w w' : World} {ad : Option Addr} {la cap ab ao : Nat} {X : Nat → SopV} (h : Soc w ad la cap ab ao X) (hb : Below w.heap.size w w') : Soc w' ad la cap ab ao X :=
  ⟨h.len, h.cap, fun q => ⟨(h.at0 q).1, Nat.lt_of_lt_of_le (h.at0 q).2 hb.size⟩, fun i hi j hj => by
    have hlt := (h.at0 (by omega)).2
    have e : ∀ o, w'.cell? ⟨ab, o, none⟩ = w.cell? ⟨ab, o, none⟩ := fun o => World.cell?_of_block (w := w) (hb.block _ hlt)
    rw [e]; exact h.cell i hi j hj, h.num⟩
theorem under_sop : Try.prog.underlying 39 = some (.struct (Try.prog.fieldsOf 39)) := by kernel_rfl
theorem cells_sop : Try.prog.cellsOf 39 = 7 := by kernel_rfl
theorem u_sSOp : Try.prog.underlying 23 = some (.slice 39) := by kernel_rfl
set_option maxRecDepth 100000 in
theorem open_sop {H : Type} {enc : TypeId × Value → H} {W : World} {base fuel : Nat} {cs : List Value} {x : DataW H × List MemPlace} (h : DataW.trod enc Try.prog W base (fun _ => true) true fuel 39 cs = some x) :
    ∃ X : SopV, cs = X.cs ∧ SopB X := by
  obtain ⟨xs, n, _, rfl, hcl, hlen, hfs⟩ := DataW.trod_struct under_sop h
  have hl : xs.length = 7 := by rw [hlen]; kernel_rfl
  rw [cells_sop] at hcl
  obtain ⟨f0, e0, t0, o0⟩ := fld8 (T := 39) (k := 0) (t := 3) (o := 0) (by kernel_rfl)
  have q0 := hfs 0 f0 e0
  rw [t0, o0, cells_i8, List.getElem?_eq_getElem (by omega)] at q0
  obtain ⟨z0, r0, _, w0⟩ := DataW.trod_int Try.underlying3 q0
  obtain ⟨f1, e1, t1, o1⟩ := fld8 (T := 39) (k := 1) (t := 3) (o := 1) (by kernel_rfl)
  have q1 := hfs 1 f1 e1
  rw [t1, o1, cells_i8, List.getElem?_eq_getElem (by omega)] at q1
  obtain ⟨z1, r1, _, w1⟩ := DataW.trod_int Try.underlying3 q1
  obtain ⟨f2, e2, t2, o2⟩ := fld8 (T := 39) (k := 2) (t := 3) (o := 2) (by kernel_rfl)
  have q2 := hfs 2 f2 e2
  rw [t2, o2, cells_i8, List.getElem?_eq_getElem (by omega)] at q2
  obtain ⟨z2, r2, _, w2⟩ := DataW.trod_int Try.underlying3 q2
  obtain ⟨f3, e3, t3, o3⟩ := fld8 (T := 39) (k := 3) (t := 3) (o := 3) (by kernel_rfl)
  have q3 := hfs 3 f3 e3
  rw [t3, o3, cells_i8, List.getElem?_eq_getElem (by omega)] at q3
  obtain ⟨z3, r3, _, w3⟩ := DataW.trod_int Try.underlying3 q3
  obtain ⟨f4, e4, t4, o4⟩ := fld8 (T := 39) (k := 4) (t := 22) (o := 4) (by kernel_rfl)
  have q4 := hfs 4 f4 e4
  rw [t4, o4, cells_u8, List.getElem?_eq_getElem (by omega)] at q4
  obtain ⟨z4, r4, _, w4⟩ := DataW.trod_int Try.underlying22 q4
  obtain ⟨f5, e5, t5, o5⟩ := fld8 (T := 39) (k := 5) (t := 22) (o := 5) (by kernel_rfl)
  have q5 := hfs 5 f5 e5
  rw [t5, o5, cells_u8, List.getElem?_eq_getElem (by omega)] at q5
  obtain ⟨z5, r5, _, w5⟩ := DataW.trod_int Try.underlying22 q5
  obtain ⟨f6, e6, t6, o6⟩ := fld8 (T := 39) (k := 6) (t := 22) (o := 6) (by kernel_rfl)
  have q6 := hfs 6 f6 e6
  rw [t6, o6, cells_u8, List.getElem?_eq_getElem (by omega)] at q6
  obtain ⟨z6, r6, _, w6⟩ := DataW.trod_int Try.underlying22 q6
  obtain ⟨c0, c1, c2, c3, c4, c5, c6, rfl⟩ : ∃ c0 c1 c2 c3 c4 c5 c6, cs = [c0, c1, c2, c3, c4, c5, c6] := by
    match cs, hcl with
    | [c0, c1, c2, c3, c4, c5, c6], _ => exact ⟨c0, c1, c2, c3, c4, c5, c6, rfl⟩
  simp at r0 r1 r2 r3 r4 r5 r6
  subst r0 r1 r2 r3 r4 r5 r6
  have b4 := bounds_u64 w4
  have b5 := bounds_u64 w5
  have b6 := bounds_u64 w6
  exact ⟨⟨z0, z1, z2, z3, z4, z5, z6⟩, rfl, ⟨bounds_i64 w0, bounds_i64 w1, bounds_i64 w2, bounds_i64 w3, ⟨b4.1, by show z4 < _; omega⟩, ⟨b5.1, by show z5 < _; omega⟩, ⟨b6.1, by show z6 < _; omega⟩⟩⟩
set_option maxRecDepth 100000 in
/-- a script, as it stands -/
theorem open_sops {H : Type} {enc : TypeId × Value → H} {W : World} {base : Nat} {r : Reach} {b : Nat} {v : Value} {d : DataW H} {p : List MemPlace}
    (hv : Value.okWide Try.prog W r b 23 v) (h : DataW.Trod enc Try.prog W base (fun _ => true) true 23 v d p) (hlt : ∀ x ∈ p, x.block < W.heap.size) :
    ∃ (ad : Option Addr) (la cap ab ao : Nat) (X : Nat → SopV), v = .slice ad la cap ∧ Soc W ad la cap ab ao X := by
  obtain ⟨a0, len, cap, rfl⟩ := okWide_slice u_sSOp hv
  obtain ⟨fuel, hf⟩ := h
  rcases open_slice u_sSOp hf with ⟨hcs, hx⟩ | ⟨a, len', cap', m, n, D, Pl, hcs, _, hl, hm, hmm, hx, hel⟩
  · simp [Value.cells] at hcs
    obtain ⟨rfl, rfl, rfl⟩ := hcs
    exact ⟨none, 0, 0, 0, 0, fun _ => ⟨0, 0, 0, 0, 0, 0, 0⟩, rfl, ⟨Nat.le_refl _, by decide, fun q => absurd q (by decide), fun i hi => absurd hi (Nat.not_lt_zero i), fun i hi => absurd hi (Nat.not_lt_zero i)⟩⟩
  · simp [Value.cells] at hcs
    obtain ⟨rfl, rfl, rfl⟩ := hcs
    simp only [if_true] at hmm
    have each : ∀ i, ∃ X : SopV, i < len → SopB X ∧ ∀ j, j < 7 → W.cell? (a.add (i * 7 + j)) = X.cs[j]? := fun i => by
      rcases Nat.lt_or_ge i len with hi | hi
      · obtain ⟨cs', h1, h2⟩ := hel i (by omega)
        obtain ⟨X, rfl, b0⟩ := open_sop h2
        rw [cells_sop] at h1
        obtain ⟨_, hlen, hcell⟩ := World.cells?_some h1
        refine ⟨X, fun _ => ⟨b0, fun j hj => ?_⟩⟩
        have := hcell j hj
        rw [addr_two] at this
        exact this
      · exact ⟨⟨0, 0, 0, 0, 0, 0, 0⟩, fun q => by omega⟩
    obtain ⟨X, hX⟩ := Classical.axiomOfChoice each
    clear each
    have hbl : ∀ h0 : 0 < len, a.spot = none ∧ a.block < W.heap.size := fun h0 => by
      have k0 := (hX 0 h0).2 0 (by decide)
      refine ⟨by simpa [Addr.add] using World.cell?_spot k0, ?_⟩
      obtain ⟨cs', h1, _⟩ := hel 0 (by omega)
      rw [cells_sop] at h1
      have := World.cells?_block h1 (by decide)
      simpa [Addr.add] using this
    obtain ⟨ab, ao, asp⟩ := a
    refine ⟨some ⟨ab, ao, asp⟩, len, cap, ab, ao, X, rfl, ⟨hl, by simpa [maxLen] using hm, fun h0 => ?_, fun i hi j hj => ?_, fun i hi => (hX i hi).1⟩⟩
    · obtain ⟨q1, q2⟩ := hbl h0
      obtain rfl : asp = none := q1
      exact ⟨rfl, q2⟩
    · obtain ⟨q1, q2⟩ := hbl (by omega)
      obtain rfl : asp = none := q1
      have k := (hX i hi).2 j hj
      rw [C.addr_add, ← Nat.add_assoc] at k
      exact k
theorem bytes_sop : Try.prog.bytesOf 39 = 56 := by kernel_rfl
set_option maxRecDepth 100000 in
theorem sops_len {H : Type} {enc : TypeId × Value → H} {W : World} {base : Nat} {ad : Option Addr} {la cap : Nat} {d : DataW H} {p : List MemPlace} (h : DataW.Trod enc Try.prog W base (fun _ => true) true 23 (.slice ad la cap) d p) (hw : ∀ n ∈ d.weights Try.prog 23, n ≤ reachBytes) : la ≤ 8796093022208 := by
  obtain ⟨fuel, hf⟩ := h
  rcases open_slice u_sSOp hf with ⟨hcs, hx⟩ | ⟨a, len', cap', m, n, D, Pl, hcs, _, hl, hm, hmm, hx, hel⟩
  · simp [Value.cells] at hcs
    obtain ⟨rfl, rfl, rfl⟩ := hcs
    exact Nat.zero_le _
  · simp [Value.cells] at hcs
    obtain ⟨rfl, rfl, rfl⟩ := hcs
    simp only [Prod.mk.injEq] at hx
    obtain ⟨rfl, rfl⟩ := hx
    have h2 := hw ((((List.range la).map D).length + ((List.range (m - la)).map fun j => D (la + j)).length) * Try.prog.bytesOf 39) (by simp [DataW.weights])
    rw [bytes_sop] at h2
    simp [reachBytes] at h2
    omega
end Go.Proofs.Ythfpoefpnoodiaa
