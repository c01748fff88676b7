/- Scripts, as they stand. -/
import Derived.Test.YtmpldaenakenlaaRows
import Derived.Test.YtmpldaenakenlaaMC2
import Derived.OpenShut
import Derived.SizedLaws
import Derived.Deep.Slices
import Derived.Test.YtmpldaenakenlaaHQ
import Derived.Test.YtmpldaenakenlaaMH2
namespace Go.Proofs.Ytmpldaenakenlaa
open Go.ChangeShapes Go.WideShapes Go.ChangeAt Go.RowKit Go.Deep
set_option linter.unusedVariables false

theorem cells_i8 : Try.prog.cellsOf 3 = 1 := by kernel_rfl
theorem cells_u8 : Try.prog.cellsOf 29 = 1 := by kernel_rfl
theorem addr_two (a : Addr) (i j : Nat) : (a.add i).add j = a.add (i + j) := by
  unfold Addr.add
  by_cases hi : i = 0
  · subst hi; simp
  · by_cases hj : j = 0
    · subst hj; simp
    · have : ¬ i + j = 0 := by omega
      simp [hi, hj, Nat.add_assoc]
theorem fld8 {T k : Nat} {t : TypeId} {o : Nat} (h : ((Try.prog.fieldsOf T)[k]?).map (fun f => (f.type, f.offset)) = some (t, o)) : ∃ f, (Try.prog.fieldsOf T)[k]? = some f ∧ f.type = t ∧ f.offset = o := by
  cases hq : (Try.prog.fieldsOf T)[k]? with
  | none => rw [hq] at h; cases h
  | some f => rw [hq] at h; simp at h; exact ⟨f, rfl, h.1, h.2⟩
structure PopV where
  kd : Int
  sz : Int
  sr : Int
  of : Int
  v : Int
def PopV.cs (x : PopV) : List Value := [.int .i64 x.kd, .int .i64 x.sz, .int .i64 x.sr, .int .u64 x.of, .int .u64 x.v]
structure PopB (x : PopV) : Prop where
  kd : -9223372036854775808 ≤ x.kd ∧ x.kd ≤ 9223372036854775807
  sz : -9223372036854775808 ≤ x.sz ∧ x.sz ≤ 9223372036854775807
  sr : -9223372036854775808 ≤ x.sr ∧ x.sr ≤ 9223372036854775807
  of : 0 ≤ x.of ∧ x.of < 18446744073709551616
  v : 0 ≤ x.v ∧ x.v < 18446744073709551616
structure Pc (w : World) (ad : Option Addr) (la cap ab ao : Nat) (X : Nat → PopV) : Prop where
  len : la ≤ cap
  cap : cap ≤ 9223372036854775807
  at0 : 0 < la → ad = some ⟨ab, ao, none⟩ ∧ ab < w.heap.size
  cell : ∀ i, i < la → ∀ j, j < 5 → w.cell? ⟨ab, ao + i * 5 + j, none⟩ = (X i).cs[j]?
  num : ∀ i, i < la → PopB (X i)
theorem Pc.below {w w' : World} {ad : Option Addr} {la cap ab ao : Nat} {X : Nat → PopV} (h : Pc w ad la cap ab ao X) (hb : Below w.heap.size w w') : Pc w' ad la cap ab ao X :=
  ⟨h.len, h.cap, fun q => ⟨(h.at0 q).1, Nat.lt_of_lt_of_le (h.at0 q).2 hb.size⟩, fun i hi j hj => by
    have hlt := (h.at0 (by omega)).2
    have e : ∀ o, w'.cell? ⟨ab, o, none⟩ = w.cell? ⟨ab, o, none⟩ := fun o => World.cell?_of_block (w := w) (hb.block _ hlt)
    rw [e]; exact h.cell i hi j hj, h.num⟩
theorem under_pop : Try.prog.underlying 31 = some (.struct (Try.prog.fieldsOf 31)) := by kernel_rfl
theorem cells_pop : Try.prog.cellsOf 31 = 5 := by kernel_rfl
theorem u_sPOp : Try.prog.underlying 22 = some (.slice 31) := by kernel_rfl
set_option maxRecDepth 100000 in
theorem open_pop {H : Type} {enc : TypeId × Value → H} {W : World} {base fuel : Nat} {cs : List Value} {x : DataW H × List MemPlace} (h : DataW.trod enc Try.prog W base (fun _ => true) true fuel 31 cs = some x) :
    ∃ X : PopV, cs = X.cs ∧ PopB X := by
  obtain ⟨xs, n, _, rfl, hcl, hlen, hfs⟩ := DataW.trod_struct under_pop h
  have hl : xs.length = 5 := by rw [hlen]; kernel_rfl
  rw [cells_pop] at hcl
  obtain ⟨f0, e0, t0, o0⟩ := fld8 (T := 31) (k := 0) (t := 3) (o := 0) (by kernel_rfl)
  have q0 := hfs 0 f0 e0
  rw [t0, o0, cells_i8, List.getElem?_eq_getElem (by omega)] at q0
  obtain ⟨z0, r0, _, w0⟩ := DataW.trod_int Try.underlying3 q0
  obtain ⟨f1, e1, t1, o1⟩ := fld8 (T := 31) (k := 1) (t := 3) (o := 1) (by kernel_rfl)
  have q1 := hfs 1 f1 e1
  rw [t1, o1, cells_i8, List.getElem?_eq_getElem (by omega)] at q1
  obtain ⟨z1, r1, _, w1⟩ := DataW.trod_int Try.underlying3 q1
  obtain ⟨f2, e2, t2, o2⟩ := fld8 (T := 31) (k := 2) (t := 3) (o := 2) (by kernel_rfl)
  have q2 := hfs 2 f2 e2
  rw [t2, o2, cells_i8, List.getElem?_eq_getElem (by omega)] at q2
  obtain ⟨z2, r2, _, w2⟩ := DataW.trod_int Try.underlying3 q2
  obtain ⟨f3, e3, t3, o3⟩ := fld8 (T := 31) (k := 3) (t := 29) (o := 3) (by kernel_rfl)
  have q3 := hfs 3 f3 e3
  rw [t3, o3, cells_u8, List.getElem?_eq_getElem (by omega)] at q3
  obtain ⟨z3, r3, _, w3⟩ := DataW.trod_int Try.underlying29 q3
  obtain ⟨f4, e4, t4, o4⟩ := fld8 (T := 31) (k := 4) (t := 29) (o := 4) (by kernel_rfl)
  have q4 := hfs 4 f4 e4
  rw [t4, o4, cells_u8, List.getElem?_eq_getElem (by omega)] at q4
  obtain ⟨z4, r4, _, w4⟩ := DataW.trod_int Try.underlying29 q4
  obtain ⟨c0, c1, c2, c3, c4, rfl⟩ : ∃ c0 c1 c2 c3 c4, cs = [c0, c1, c2, c3, c4] := by
    match cs, hcl with
    | [c0, c1, c2, c3, c4], _ => exact ⟨c0, c1, c2, c3, c4, rfl⟩
  simp at r0 r1 r2 r3 r4
  subst r0 r1 r2 r3 r4
  have b3 := bounds_u64 w3
  have b4 := bounds_u64 w4
  exact ⟨⟨z0, z1, z2, z3, z4⟩, rfl, ⟨bounds_i64 w0, bounds_i64 w1, bounds_i64 w2, ⟨b3.1, by show z3 < _; omega⟩, ⟨b4.1, by show z4 < _; omega⟩⟩⟩
set_option maxRecDepth 100000 in
/-- a script, as it stands -/
theorem open_pops {H : Type} {enc : TypeId × Value → H} {W : World} {base : Nat} {r : Reach} {b : Nat} {v : Value} {d : DataW H} {p : List MemPlace}
    (hv : Value.okWide Try.prog W r b 22 v) (h : DataW.Trod enc Try.prog W base (fun _ => true) true 22 v d p) (hlt : ∀ x ∈ p, x.block < W.heap.size) :
    ∃ (ad : Option Addr) (la cap ab ao : Nat) (X : Nat → PopV), v = .slice ad la cap ∧ Pc W ad la cap ab ao X := by
  obtain ⟨a0, len, cap, rfl⟩ := okWide_slice u_sPOp hv
  obtain ⟨fuel, hf⟩ := h
  rcases open_slice u_sPOp hf with ⟨hcs, hx⟩ | ⟨a, len', cap', m, n, D, Pl, hcs, _, hl, hm, hmm, hx, hel⟩
  · simp [Value.cells] at hcs
    obtain ⟨rfl, rfl, rfl⟩ := hcs
    exact ⟨none, 0, 0, 0, 0, fun _ => ⟨0, 0, 0, 0, 0⟩, rfl, ⟨Nat.le_refl _, by decide, fun q => absurd q (by decide), fun i hi => absurd hi (Nat.not_lt_zero i), fun i hi => absurd hi (Nat.not_lt_zero i)⟩⟩
  · simp [Value.cells] at hcs
    obtain ⟨rfl, rfl, rfl⟩ := hcs
    simp only [if_true] at hmm
    have each : ∀ i, ∃ X : PopV, i < len → PopB X ∧ ∀ j, j < 5 → W.cell? (a.add (i * 5 + j)) = X.cs[j]? := fun i => by
      rcases Nat.lt_or_ge i len with hi | hi
      · obtain ⟨cs', h1, h2⟩ := hel i (by omega)
        obtain ⟨X, rfl, b0⟩ := open_pop h2
        rw [cells_pop] at h1
        obtain ⟨_, hlen, hcell⟩ := World.cells?_some h1
        refine ⟨X, fun _ => ⟨b0, fun j hj => ?_⟩⟩
        have := hcell j hj
        rw [addr_two] at this
        exact this
      · exact ⟨⟨0, 0, 0, 0, 0⟩, fun q => by omega⟩
    obtain ⟨X, hX⟩ := Classical.axiomOfChoice each
    clear each
    have hbl : ∀ h0 : 0 < len, a.spot = none ∧ a.block < W.heap.size := fun h0 => by
      have k0 := (hX 0 h0).2 0 (by decide)
      refine ⟨by simpa [Addr.add] using World.cell?_spot k0, ?_⟩
      obtain ⟨cs', h1, _⟩ := hel 0 (by omega)
      rw [cells_pop] at h1
      have := World.cells?_block h1 (by decide)
      simpa [Addr.add] using this
    obtain ⟨ab, ao, asp⟩ := a
    refine ⟨some ⟨ab, ao, asp⟩, len, cap, ab, ao, X, rfl, ⟨hl, by simpa [maxLen] using hm, fun h0 => ?_, fun i hi j hj => ?_, fun i hi => (hX i hi).1⟩⟩
    · obtain ⟨q1, q2⟩ := hbl h0
      obtain rfl : asp = none := q1
      exact ⟨rfl, q2⟩
    · obtain ⟨q1, q2⟩ := hbl (by omega)
      obtain rfl : asp = none := q1
      have k := (hX i hi).2 j hj
      rw [C.addr_add, ← Nat.add_assoc] at k
      exact k
theorem bytes_pop : Try.prog.bytesOf 31 = 40 := by kernel_rfl
set_option maxRecDepth 100000 in
theorem pops_len {H : Type} {enc : TypeId × Value → H} {W : World} {base : Nat} {ad : Option Addr} {la cap : Nat} {d : DataW H} {p : List MemPlace} (h : DataW.Trod enc Try.prog W base (fun _ => true) true 22 (.slice ad la cap) d p) (hw : ∀ n ∈ d.weights Try.prog 22, n ≤ reachBytes) : la ≤ 8796093022208 := by
  obtain ⟨fuel, hf⟩ := h
  rcases open_slice u_sPOp hf with ⟨hcs, hx⟩ | ⟨a, len', cap', m, n, D, Pl, hcs, _, hl, hm, hmm, hx, hel⟩
  · simp [Value.cells] at hcs
    obtain ⟨rfl, rfl, rfl⟩ := hcs
    exact Nat.zero_le _
  · simp [Value.cells] at hcs
    obtain ⟨rfl, rfl, rfl⟩ := hcs
    simp only [Prod.mk.injEq] at hx
    obtain ⟨rfl, rfl⟩ := hx
    have h2 := hw ((((List.range la).map D).length + ((List.range (m - la)).map fun j => D (la + j)).length) * Try.prog.bytesOf 31) (by simp [DataW.weights])
    rw [bytes_pop] at h2
    simp [reachBytes] at h2
    omega
/-- a list of numbers of a kind, as it stands -/
structure Nu (k : IntKind) (B : Int → Prop) (w : World) (ad : Option Addr) (la cap ab ao : Nat) (A : Nat → Int) : Prop where
  len : la ≤ cap
  cap : cap ≤ 9223372036854775807
  at0 : 0 < la → ad = some ⟨ab, ao, none⟩ ∧ ab < w.heap.size
  cell : ∀ i, i < la → w.cell? ⟨ab, ao + i, none⟩ = some (.int k (A i))
  num : ∀ i, B (A i)
theorem Nu.below {k : IntKind} {B : Int → Prop} {w w' : World} {ad : Option Addr} {la cap ab ao : Nat} {A : Nat → Int} (h : Nu k B w ad la cap ab ao A) (hb : Below w.heap.size w w') : Nu k B w' ad la cap ab ao A :=
  ⟨h.len, h.cap, fun q => ⟨(h.at0 q).1, Nat.lt_of_lt_of_le (h.at0 q).2 hb.size⟩, fun i hi => by
    have hlt := (h.at0 (by omega)).2
    rw [World.cell?_of_block (w := w) (hb.block _ hlt)]; exact h.cell i hi, h.num⟩
def Bi (x : Int) : Prop := -9223372036854775808 ≤ x ∧ x ≤ 9223372036854775807
def Bu (x : Int) : Prop := 0 ≤ x ∧ x < 18446744073709551616
def Bb (x : Int) : Prop := 0 ≤ x ∧ x < 256
theorem cells_ints' : Try.prog.cellsOf 3 = 1 := by kernel_rfl
set_option maxRecDepth 100000 in
theorem open_ints {H : Type} {enc : TypeId × Value → H} {W : World} {base : Nat} {r : Reach} {b : Nat} {v : Value} {d : DataW H} {p : List MemPlace}
    (hv : Value.okWide Try.prog W r b 62 v) (h : DataW.Trod enc Try.prog W base (fun _ => true) true 62 v d p) (hlt : ∀ x ∈ p, x.block < W.heap.size) :
    ∃ (ad : Option Addr) (la cap ab ao : Nat) (A : Nat → Int), v = .slice ad la cap ∧ Nu .i64 Bi W ad la cap ab ao A := by
  obtain ⟨ad, la, cap, ar, aa, rfl, hl, hm, hw, hc⟩ := C.open_nums Try.underlying62 Try.underlying3 cells_ints' hv h hlt
  obtain ⟨ab, ao, asp⟩ := aa
  have hsp : 0 < la → asp = none := fun q => by
    have := (hc q).2.2 0 q
    simpa [Addr.add] using World.cell?_spot this
  refine ⟨ad, la, cap, ab, ao, ar, rfl, ⟨hl, hm, fun q => ?_, fun i hi => ?_, fun i => ?_⟩⟩
  · obtain rfl := hsp q
    exact ⟨(hc q).1, (hc q).2.1⟩
  · obtain rfl := hsp (by omega)
    have := (hc (by omega)).2.2 i hi
    rwa [C.addr_add] at this
  · rcases hw i with q | q
    · rw [q]; exact ⟨by decide, by decide⟩
    · exact bounds_i64 q
theorem u_ints9 : Try.prog.underlying 62 = some (.slice 3) := by kernel_rfl
theorem bytes_ints9 : Try.prog.bytesOf 3 = 8 := by kernel_rfl
set_option maxRecDepth 100000 in
theorem ints_len {H : Type} {enc : TypeId × Value → H} {W : World} {base : Nat} {ad : Option Addr} {la cap : Nat} {d : DataW H} {p : List MemPlace} (h : DataW.Trod enc Try.prog W base (fun _ => true) true 62 (.slice ad la cap) d p) (hw : ∀ n ∈ d.weights Try.prog 62, n ≤ reachBytes) : la ≤ 17592186044416 := by
  obtain ⟨fuel, hf⟩ := h
  rcases open_slice u_ints9 hf with ⟨hcs, hx⟩ | ⟨a, len', cap', m, n, D, Pl, hcs, _, hl, hm, hmm, hx, hel⟩
  · simp [Value.cells] at hcs
    obtain ⟨rfl, rfl, rfl⟩ := hcs
    exact Nat.zero_le _
  · simp [Value.cells] at hcs
    obtain ⟨rfl, rfl, rfl⟩ := hcs
    simp only [Prod.mk.injEq] at hx
    obtain ⟨rfl, rfl⟩ := hx
    have h2 := hw ((((List.range la).map D).length + ((List.range (m - la)).map fun j => D (la + j)).length) * Try.prog.bytesOf 3) (by simp [DataW.weights])
    rw [bytes_ints9] at h2
    simp [reachBytes] at h2
    omega
theorem cells_u64s' : Try.prog.cellsOf 29 = 1 := by kernel_rfl
set_option maxRecDepth 100000 in
theorem open_u64s {H : Type} {enc : TypeId × Value → H} {W : World} {base : Nat} {r : Reach} {b : Nat} {v : Value} {d : DataW H} {p : List MemPlace}
    (hv : Value.okWide Try.prog W r b 40 v) (h : DataW.Trod enc Try.prog W base (fun _ => true) true 40 v d p) (hlt : ∀ x ∈ p, x.block < W.heap.size) :
    ∃ (ad : Option Addr) (la cap ab ao : Nat) (A : Nat → Int), v = .slice ad la cap ∧ Nu .u64 Bu W ad la cap ab ao A := by
  obtain ⟨ad, la, cap, ar, aa, rfl, hl, hm, hw, hc⟩ := C.open_nums Try.underlying40 Try.underlying29 cells_u64s' hv h hlt
  obtain ⟨ab, ao, asp⟩ := aa
  have hsp : 0 < la → asp = none := fun q => by
    have := (hc q).2.2 0 q
    simpa [Addr.add] using World.cell?_spot this
  refine ⟨ad, la, cap, ab, ao, ar, rfl, ⟨hl, hm, fun q => ?_, fun i hi => ?_, fun i => ?_⟩⟩
  · obtain rfl := hsp q
    exact ⟨(hc q).1, (hc q).2.1⟩
  · obtain rfl := hsp (by omega)
    have := (hc (by omega)).2.2 i hi
    rwa [C.addr_add] at this
  · rcases hw i with q | q
    · rw [q]; exact ⟨by decide, by decide⟩
    · have := bounds_u64 q; exact ⟨this.1, by omega⟩
theorem u_u64s9 : Try.prog.underlying 40 = some (.slice 29) := by kernel_rfl
theorem bytes_u64s9 : Try.prog.bytesOf 29 = 8 := by kernel_rfl
set_option maxRecDepth 100000 in
theorem u64s_len {H : Type} {enc : TypeId × Value → H} {W : World} {base : Nat} {ad : Option Addr} {la cap : Nat} {d : DataW H} {p : List MemPlace} (h : DataW.Trod enc Try.prog W base (fun _ => true) true 40 (.slice ad la cap) d p) (hw : ∀ n ∈ d.weights Try.prog 40, n ≤ reachBytes) : la ≤ 17592186044416 := by
  obtain ⟨fuel, hf⟩ := h
  rcases open_slice u_u64s9 hf with ⟨hcs, hx⟩ | ⟨a, len', cap', m, n, D, Pl, hcs, _, hl, hm, hmm, hx, hel⟩
  · simp [Value.cells] at hcs
    obtain ⟨rfl, rfl, rfl⟩ := hcs
    exact Nat.zero_le _
  · simp [Value.cells] at hcs
    obtain ⟨rfl, rfl, rfl⟩ := hcs
    simp only [Prod.mk.injEq] at hx
    obtain ⟨rfl, rfl⟩ := hx
    have h2 := hw ((((List.range la).map D).length + ((List.range (m - la)).map fun j => D (la + j)).length) * Try.prog.bytesOf 29) (by simp [DataW.weights])
    rw [bytes_u64s9] at h2
    simp [reachBytes] at h2
    omega
theorem cells_byts' : Try.prog.cellsOf 5 = 1 := by kernel_rfl
set_option maxRecDepth 100000 in
theorem open_byts {H : Type} {enc : TypeId × Value → H} {W : World} {base : Nat} {r : Reach} {b : Nat} {v : Value} {d : DataW H} {p : List MemPlace}
    (hv : Value.okWide Try.prog W r b 26 v) (h : DataW.Trod enc Try.prog W base (fun _ => true) true 26 v d p) (hlt : ∀ x ∈ p, x.block < W.heap.size) :
    ∃ (ad : Option Addr) (la cap ab ao : Nat) (A : Nat → Int), v = .slice ad la cap ∧ Nu .u8 Bb W ad la cap ab ao A := by
  obtain ⟨ad, la, cap, ar, aa, rfl, hl, hm, hw, hc⟩ := C.open_nums Try.underlying26 Try.underlying5 cells_byts' hv h hlt
  obtain ⟨ab, ao, asp⟩ := aa
  have hsp : 0 < la → asp = none := fun q => by
    have := (hc q).2.2 0 q
    simpa [Addr.add] using World.cell?_spot this
  refine ⟨ad, la, cap, ab, ao, ar, rfl, ⟨hl, hm, fun q => ?_, fun i hi => ?_, fun i => ?_⟩⟩
  · obtain rfl := hsp q
    exact ⟨(hc q).1, (hc q).2.1⟩
  · obtain rfl := hsp (by omega)
    have := (hc (by omega)).2.2 i hi
    rwa [C.addr_add] at this
  · rcases hw i with q | q
    · rw [q]; exact ⟨by decide, by decide⟩
    · have := bounds_u8 q; exact ⟨this.1, by omega⟩
theorem u_byts9 : Try.prog.underlying 26 = some (.slice 5) := by kernel_rfl
theorem bytes_byts9 : Try.prog.bytesOf 5 = 1 := by kernel_rfl
set_option maxRecDepth 100000 in
theorem byts_len {H : Type} {enc : TypeId × Value → H} {W : World} {base : Nat} {ad : Option Addr} {la cap : Nat} {d : DataW H} {p : List MemPlace} (h : DataW.Trod enc Try.prog W base (fun _ => true) true 26 (.slice ad la cap) d p) (hw : ∀ n ∈ d.weights Try.prog 26, n ≤ reachBytes) : la ≤ 140737488351232 := by
  obtain ⟨fuel, hf⟩ := h
  rcases open_slice u_byts9 hf with ⟨hcs, hx⟩ | ⟨a, len', cap', m, n, D, Pl, hcs, _, hl, hm, hmm, hx, hel⟩
  · simp [Value.cells] at hcs
    obtain ⟨rfl, rfl, rfl⟩ := hcs
    exact Nat.zero_le _
  · simp [Value.cells] at hcs
    obtain ⟨rfl, rfl, rfl⟩ := hcs
    simp only [Prod.mk.injEq] at hx
    obtain ⟨rfl, rfl⟩ := hx
    have h2 := hw ((((List.range la).map D).length + ((List.range (m - la)).map fun j => D (la + j)).length) * Try.prog.bytesOf 5) (by simp [DataW.weights])
    rw [bytes_byts9] at h2
    simp [reachBytes] at h2
    omega
end Go.Proofs.Ytmpldaenakenlaa
namespace Go.Proofs.Ytmpldaenakenlaa
open Go.RowKit
set_option linter.unusedVariables false

def Lk (n k : Nat) : Array Bool := ((List.range n).map fun j => decide (j < k)).toArray
theorem Lk_size (n k : Nat) : (Lk n k).size = n := by simp [Lk]
theorem Lk_zero (n : Nat) : Array.replicate n false = Lk n 0 := by
  apply Array.ext
  · simp [Lk]
  · intro i h1 h2; simp [Lk]
theorem Lk_get (n k j : Nat) (hj : j < n) : (Lk n k).getD j true = decide (j < k) := by simp [Lk, hj]
theorem Lk_set (n k : Nat) (hk : k < n) : (Lk n k).setIfInBounds k true = Lk n (k + 1) := by
  apply Array.ext
  · simp [Lk]
  · intro i h1 h2
    have hi : i < n := by simpa [Lk] using h2
    rw [Array.getElem_setIfInBounds]
    · split
      · rename_i e; subst e; simp [Lk]
      · rename_i e; simp [Lk]; omega
    · simpa [Lk] using hi
section
variable {P : Program} {ops : Array Oper} {md : Region.Mode} {C : World → Prop}
def wpAnyM (P : Program) (md : Region.Mode) (ops : Array Oper) (C : World → Prop) (z : Nat) (Q : Act → Prop) : Nat → Array Bool → Act → Prop
  | 0, listed, a => listed = Lk ops.size z ∧ Q a
  | fuel + 1, listed, a => Region.ready md ops listed ≠ [] ∧ ∀ i ∈ Region.ready md ops listed, qOp P ops C i (wpAnyM P md ops C z Q fuel (listed.setIfInBounds i true)) a
theorem wpAny_of_mid {z m : Nat} {Q : Act → Prop} {Q' : Exit → Act → World → Prop} (hz : Region.ready md ops (Lk ops.size z) = [z]) (hQ : ∀ a w, C w → Q a → wpOp P ops Q' z (fun a' w' => wpAny P md ops Q' m ((Lk ops.size z).setIfInBounds z true) a' w') a w) : ∀ (fuel : Nat) (listed : Array Bool) (a : Act) (w : World), C w →
    wpAnyM P md ops C z Q fuel listed a → wpAny P md ops Q' (fuel + 1 + m) listed a w
  | 0, listed, a, w, hw, h => by
    obtain ⟨rfl, h3⟩ := h
    rw [show 0 + 1 + m = m + 1 by omega]
    refine ⟨fun h0 => (by rw [hz] at h0; cases h0), fun i hi => ?_⟩
    rw [hz] at hi
    obtain rfl : i = z := by simpa using hi
    exact hQ a w hw h3
  | fuel + 1, listed, a, w, hw, h => by
    rw [show fuel + 1 + 1 + m = (fuel + 1 + m) + 1 by omega]
    exact ⟨fun h0 => absurd h0 h.1, fun i hi => wpOp_of_qOp hw (fun a' w' hw' => wpAny_of_mid hz hQ fuel _ a' w' hw') (h.2 i hi)⟩
theorem wpAnyM_first {z : Nat} {Q : Act → Prop} {i : Nat} {oi : Oper} {v : Value} (hz : Region.ready md ops (Lk ops.size z) = [z]) (hc : covB md ops z = true) (hiz : i < z) (hi : ops[i]? = some oi) (hsel : ∀ (j : Nat) (o : Oper) cs b, ops[j]? = some o → o.op ≠ .select cs b) :
    ∀ (fuel : Nat) (listed : Array Bool) (a : Act), Dn md ops listed →
      (∀ j oj, ops[j]? = some oj → j ≠ i → listed.getD j true = false → (∀ e ∈ oj.after, Region.binds md e = true → e.on ≠ i) → oi.apart ops oj = true) →
      i ∈ Region.ready md ops listed → YieldsIn P ops C oi v a →
      wpAnyM P md ops C z Q fuel (listed.setIfInBounds i true) (a.put oi.dst v) → wpAnyM P md ops C z Q (fuel + 1) listed a := by
  have hzn : ∀ listed : Array Bool, Dn md ops listed → i ∈ Region.ready md ops listed → z ∉ Region.ready md ops listed := fun listed hd hr hz => by
    have h1 := last_ready hc hd hz i hiz
    have h0 := (mem_ready.1 hr).1
    have hl : i < listed.size := by
      rcases Nat.lt_or_ge i listed.size with q | q
      · exact q
      · simp [Array.getElem?_eq_none q] at h1
    simp [hl] at h0 h1
    rw [h0] at h1
    cases h1
  intro fuel
  induction fuel with
  | zero =>
    intro listed a hd _ hr hy H
    refine ⟨fun h => (by rw [h] at hr; cases hr), fun j hj => ?_⟩
    by_cases hji : j = i
    · subst hji; exact hy.qOp hi H
    · exfalso
      have h1 := ready_mono hj hji
      rw [H.1, hz] at h1
      obtain rfl : j = z := by simpa using h1
      exact hzn listed hd hr hj
  | succ fuel ih =>
    intro listed a hd hfree hr hy H
    refine ⟨fun h => (by rw [h] at hr; cases hr), fun j hj => ?_⟩
    by_cases hji : j = i
    · subst hji; exact hy.qOp hi H
    · have h1 := H.2 j (ready_mono hj hji)
      obtain ⟨hjun, oj, hoj, hall⟩ := mem_ready.1 hj
      have hnot : ∀ e ∈ oj.after, Region.binds md e = true → e.on ≠ i := fun e he hb heq => by
        have h1 := hall e he hb
        have h0 := (mem_ready.1 hr).1
        rw [heq] at h1
        rcases Nat.lt_or_ge i listed.size with h' | h'
        · simp [h'] at h0 h1; rw [h0] at h1; cases h1
        · simp [Array.getElem?_eq_none h'] at h1
      have h2 := qOp_put hoj (hfree j oj hoj hji hjun hnot) (fun cs b => hsel i oi cs b hi) (fun cs b => hsel j oj cs b hoj) hy h1
      have hfree' : ∀ k ok, ops[k]? = some ok → k ≠ i → (listed.setIfInBounds j true).getD k true = false →
          (∀ e ∈ ok.after, Region.binds md e = true → e.on ≠ i) → oi.apart ops ok = true := fun k ok hk hki hun hno => by
        refine hfree k ok hk hki ?_ hno
        by_cases hjk : j = k
        · subst hjk; exact hjun
        · rw [getD_set_ne true hjk] at hun; exact hun
      refine qOp_mono (fun a' h3 => ih (listed.setIfInBounds j true) a' (hd.set hj) hfree' (ready_mono hr (Ne.symm hji)) h3.1 ?_) h2
      rw [Array.setIfInBounds_comm _ _ hji]
      exact h3.2
theorem wpAnyM_lex {z m : Nat} {Q : Act → Prop} (hz : Region.ready md ops (Lk ops.size z) = [z]) (hc : covB md ops z = true) (hs : Region.noSelect ops = true) (hzs : z < ops.size) : ∀ (l : List Oper) (k : Nat) (listed : Array Bool) (a : Act), k + l.length = z → (∀ j, j < l.length → l[j]? = ops[k + j]?) → Dn md ops listed →
    listed = Lk ops.size k → Region.lexFrom md ops (l.length + m) k listed = true → wpQuiet P ops C Q l a → wpAnyM P md ops C z Q l.length listed a ∧ Region.lexFrom md ops m z (Lk ops.size z) = true
  | [], k, listed, a, hk, _, hd, hb, hB, h => by
    simp only [List.length_nil, Nat.add_zero] at hk
    subst hk
    simp only [List.length_nil, Nat.zero_add] at hB
    exact ⟨⟨hb, h⟩, by rw [← hb]; exact hB⟩
  | o :: l, k, listed, a, hk, hl, hd, hb, hB, h => by
    have h0 : ops[k]? = some o := by simpa using (hl 0 (by simp)).symm
    simp only [List.length_cons] at hB hk
    rw [show l.length + 1 + m = (l.length + m) + 1 by omega, Region.lexFrom] at hB
    simp only [Bool.and_eq_true] at hB
    obtain ⟨⟨hr, hf⟩, hB'⟩ := hB
    have hr' : k ∈ Region.ready md ops listed := by simpa using hr
    have hst : qOp P ops C k (wpQuiet P ops C Q l) a := by unfold qOp; simp only [h0]; exact h
    obtain ⟨v, hy, hK⟩ := yieldsIn_of_qOp h0 hst
    have ih := wpAnyM_lex hz hc hs hzs l (k + 1) _ (a.put o.dst v) (by omega) (fun j hj => by have := hl (j + 1) (by simp; omega); simpa [Nat.add_assoc, Nat.add_comm 1 j] using this) (hd.set hr') (by rw [hb]; exact Lk_set _ _ (by omega)) hB' hK
    exact ⟨wpAnyM_first hz hc (by omega) h0 (Region.noSelect_spec hs) l.length listed a hd (Region.free_spec h0 hf) hr' hy ih.1, ih.2⟩
/-- the quiet ones, then the one that waits for them, then quiet ones again -/
theorem wp_region_mid {id : Nat} {Q : Exit → Act → World → Prop} {a : Act} {w : World} {L : List Oper} (z : Nat) (hm : P.follows .mixedOrders = true) (hB : Region.lexB .any L.toArray = true) (hc : covB .any L.toArray z = true) (hzs : z < L.length) (hz : Region.ready .any L.toArray (Lk L.length z) = [z]) (hC : C w.drew)
    (h : wpQuiet P L.toArray C (fun a' => ∀ w', C w' → wpOp P L.toArray Q z (fun a2 w2 => wpQuiet P L.toArray (fun w3 => ∃ n, w3 = w2.drewN n) (fun a3 => ∀ w3, (∃ n, w3 = w2.drewN n) → Q .normal a3 w3) (L.drop (z + 1)) a2) a' w') (L.take z) a) : (Code.region id L.toArray true).wp P Q a w := by
  simp only [Region.lexB, Bool.and_eq_true] at hB
  have hsz : L.toArray.size = L.length := by simp
  rw [hsz] at hB
  have hzz : Region.ready .any L.toArray (Lk L.toArray.size z) = [z] := by rw [hsz]; exact hz
  refine wp_region_any hm ?_
  rw [hsz]
  have hdn : Dn .any L.toArray (Array.replicate L.length false) := ⟨by simp, fun k ok hk hl => by
    have : k < L.length := by have := (Array.getElem?_eq_some_iff.1 hk).1; simpa using this
    simp [this] at hl⟩
  have hlen : (L.take z).length = z := by simp; omega
  have hlex := wpAnyM_lex (P := P) (C := C) (m := L.length - z) hzz hc hB.1 (by rw [hsz]; exact hzs) (L.take z) 0 _ a (by omega) (fun j hj => by rw [hlen] at hj; simp [hj]) hdn (by rw [hsz]; exact Lk_zero _) (by rw [hlen, show z + (L.length - z) = L.length by omega]; exact hB.2) h
  obtain ⟨h1, h2⟩ := hlex
  rw [hlen] at h1
  rw [show L.length - z = (L.length - z - 1) + 1 by omega, Region.lexFrom] at h2
  simp only [Bool.and_eq_true] at h2
  have h3 := wpAny_of_mid (m := L.length - z - 1) hzz (fun a' w' hw' hh => wpOp_mono (fun a2 w2 hq => ?_) (hh w' hw')) z _ a _ hC h1
  · rw [show z + 1 + (L.length - z - 1) = L.length by omega] at h3
    exact h3
  · refine wpAny_of_quiet (C := fun w3 => ∃ n, w3 = w2.drewN n) (Q := fun a3 => ∀ w3, (∃ n, w3 = w2.drewN n) → Q .normal a3 w3) (fun _ w3 hw3 hx => hx w3 hw3) _ _ _ _ ⟨0, rfl⟩ ?_
    have := wpAnyQ_lex (C := fun w3 => ∃ n, w3 = w2.drewN n) (md := .any) hB.1 (L.drop (z + 1)) (z + 1) _ a2 (fun j => by simp) (by rw [show (L.drop (z + 1)).length = L.length - z - 1 by simp; omega]; exact h2.2) hq
    rwa [show (L.drop (z + 1)).length = L.length - z - 1 by simp; omega] at this
end
theorem wp_region_mid_dn {P : Program} {id : Nat} {Q : Exit → Act → World → Prop} {a : Act} {w : World} {L : List Oper} (z : Nat) (hm : P.follows .mixedOrders = true) (hB : Region.lexB .any L.toArray = true) (hc : covB .any L.toArray z = true) (hzs : z < L.length) (hz : Region.ready .any L.toArray (Lk L.length z) = [z])
    (h : wpQuiet P L.toArray (fun w' => ∃ n, w' = w.drewN n) (fun a' => ∀ w', (∃ n, w' = w.drewN n) → wpOp P L.toArray Q z (fun a2 w2 => wpQuiet P L.toArray (fun w3 => ∃ n, w3 = w2.drewN n) (fun a3 => ∀ w3, (∃ n, w3 = w2.drewN n) → Q .normal a3 w3) (L.drop (z + 1)) a2) a' w') (L.take z) a) : (Code.region id L.toArray true).wp P Q a w :=
  wp_region_mid (C := fun w' => ∃ n, w' = w.drewN n) z hm hB hc hzs hz ⟨1, rfl⟩ h
end Go.Proofs.Ytmpldaenakenlaa
namespace Go.Proofs.Ytmpldaenakenlaa
open Go.RowKit
open C (Only hid Still ret_bool ret_int)
set_option linter.unusedVariables false
set_option maxRecDepth 100000

structure KK (W w : World) (q : Nat) (h : Int) : Prop where
  a : Ck 77 w W.heap.size h
  b : Ck 45 w q h
  l : W.heap.size < q
  n : Below W.heap.size W w
/-- the program's clock has been read, the document's not yet -/
structure KM (W w : World) (q : Nat) (h g : Int) : Prop where
  a : Ck 77 w W.heap.size g
  b : Ck 45 w q h
  l : W.heap.size < q
  n : Below W.heap.size W w
theorem KK.dn {W w : World} {q : Nat} {h : Int} (H : KK W w q h) (n : Nat) : KK W (w.drewN n) q h := ⟨H.a, H.b, H.l, H.n.trans ((dnB w n).mono H.n.size)⟩
theorem KM.dn {W w : World} {q : Nat} {h g : Int} (H : KM W w q h g) (n : Nat) : KM W (w.drewN n) q h g := ⟨H.a, H.b, H.l, H.n.trans ((dnB w n).mono H.n.size)⟩
section
variable {W w : World} {q : Nat} {h : Int} (o s n : Int) (o0 : 0 ≤ o) (o1 : o < 18446744073709551616) (s0 : -9223372036854775808 ≤ s) (s1 : s ≤ 9223372036854775807) (n0 : 0 ≤ n) (n1 : n < 18446744073709551616)
include o0 o1 s0 s1 n0 n1
theorem KK.read (H : KK W w q h) : Calls Try.prog 26 #[.pointer (some ⟨W.heap.size, 0, none⟩), .int .u64 o, .int .i64 s, .int .u64 n] w fun e w' => e = .returned (.tuple #[.int .u64 (kd h o s n).1, .bool (kd h o s n).2.1]) ∧ KM W w' q h (kd h o s n).2.2 :=
  (k_Read w _ h o s n H.a o0 o1 s0 s1 n0 n1).mono fun e w' hh => ⟨hh.1, hh.2.1, hh.2.2.old H.b (by have := H.l; omega), H.l, hh.2.2.bel (fun x hx => by omega) H.n⟩
theorem KM.read (H : KM W w q h (kd h o s n).2.2) : Calls Try.prog 27 #[.pointer (some ⟨q, 0, none⟩), .int .u64 o, .int .i64 s, .int .u64 n] w fun e w' => e = .returned (.tuple #[.int .u64 (kd h o s n).1, .bool (kd h o s n).2.1]) ∧ KK W w' q (kd h o s n).2.2 :=
  (d_Read w _ h o s n H.b o0 o1 s0 s1 n0 n1).mono fun e w' hh => ⟨hh.1, hh.2.2.old H.a (by have := H.l; omega), hh.2.1, H.l, hh.2.2.bel (fun x hx => by have := H.l; omega) H.n⟩
end
theorem kd_in (h o s n : Int) (h0 : 0 ≤ h) (h1 : h < 18446744073709551616) (n0 : 0 ≤ n) (n1 : n < 18446744073709551616) : 0 ≤ (kd h o s n).2.2 ∧ (kd h o s n).2.2 < 18446744073709551616 := by
  unfold kd
  split
  · exact ⟨by show 0 ≤ n / 4294967296; omega, by show n / 4294967296 < _; omega⟩
  · split <;> exact ⟨h0, h1⟩
set_option maxHeartbeats 8000000 in
theorem w_PlatClocks (W : World) (ad : Option Addr) (la cap ab ao : Nat) (X : Nat → PopV) (hX : Pc W ad la cap ab ao X) (bd : Option Addr) (lb bcap bb bo : Nat) (A : Nat → Int) (hA : Nu .u64 Bu W bd lb bcap bb bo A) : Calls Try.prog 4 #[.slice ad la cap, .slice bd lb bcap] W fun e w' => e = .returned (.bool true) ∧ Below W.heap.size W w' := by
  have hN := k_New W
  have HX := hid hX
  have HA := hid hA
  have hw := l_awake
  have hlen := hX.len
  have hcap := hX.cap
  have hlen2 := hA.len
  have hcap2 := hA.cap
  clear hX hA
  go_enter Try.func4, Try.ntmps4
  go_wp2_with (go_at_call 25; refine hN.mono ?_; rintro e w1 ⟨rfl, hc, hb⟩; have HC := hid hc; have HB := hid hb; clear hc hb hN)
  have HK : Hid (KK W (w1.alloc (.cells #[.int .u64 0] 45)) w1.heap.size 0) := ⟨(Below.heap_alloc w1 _ _ (lt_of_block HC.out)).trans HC.out, heap_alloc_new w1 _, lt_of_block HC.out, HB.out.alloc HB.out.size _⟩
  generalize w1.heap.size = q at *
  go_loopw [7] (fun i wr => ∃ (j : Nat) (h : Int), j ≤ la ∧ i = .int .i64 j ∧ Hid (KK W wr q h) ∧ 0 ≤ h ∧ h < 18446744073709551616) (fun i _ => la - (intOf i).toNat)
  case atStart => exact ⟨0, 0, by omega, rfl, HK, by decide, by decide⟩
  case round =>
    obtain ⟨j, h, hj, rfl, hk, h0, h1⟩ := hrel
    by_cases hlt : j < la
    · obtain ⟨rfl, -⟩ := HX.out.at0 (by omega)
      have hP := HX.out.below hk.out.n
      have x4 : wr.cell? ⟨ab, ao + j * 5 + 4, none⟩ = some (.int .u64 (X j).v) := hP.cell j hlt 4 (by decide)
      have x3 : wr.cell? ⟨ab, ao + j * 5 + 3, none⟩ = some (.int .u64 (X j).of) := hP.cell j hlt 3 (by decide)
      have x1 : wr.cell? ⟨ab, ao + j * 5 + 1, none⟩ = some (.int .i64 (X j).sz) := hP.cell j hlt 1 (by decide)
      obtain ⟨o0, o1⟩ := (hP.num j hlt).of
      obtain ⟨s0, s1⟩ := (hP.num j hlt).sz
      obtain ⟨v0, v1⟩ := (hP.num j hlt).v
      have HY : Hid (∀ w', Below W.heap.size W w' → w'.cell? ⟨ab, ao + j * 5 + 3, none⟩ = some (.int .u64 (X j).of) ∧ w'.cell? ⟨ab, ao + j * 5 + 1, none⟩ = some (.int .i64 (X j).sz)) := fun w' hb => ⟨(HX.out.below hb).cell j hlt 3 (by decide), (HX.out.below hb).cell j hlt 1 (by decide)⟩
      clear hP
      generalize (X j).of = o at *
      generalize (X j).sz = s at *
      generalize (X j).v = vv at *
      have hjl : (j : Int) < la := by omega
      by_cases hlb : j < lb
      · obtain ⟨rfl, -⟩ := HA.out.at0 (by omega)
        have y := (HA.out.below hk.out.n).cell j hlb
        obtain ⟨n0, n1⟩ := (HA.out.num j)
        generalize A j = n at *
        have hjb : (j : Int) < lb := by omega
        clear v0 v1
        go_wp2_with fail
        refine wp_region_mid_dn 12 (by kernel_rfl) (by kernel_rfl) (by kernel_rfl) (by decide) (by kernel_rfl) ?_
        simp only [List.take, List.drop]
        repeat (go_big_quiet_step (fail))
        refine wpQuiet_nil ?_
        intro _ hwq
        obtain ⟨nq, hwq⟩ := hwq
        subst hwq
        refine wpOp_step rfl (fun K hK => ?_)
        go_simp
        refine ((hk.out.dn nq).read o s n o0 o1 s0 s1 n0 n1).mono ?_
        rintro e w2 ⟨rfl, hm⟩
        refine hK _ _ ?_
        clear hK K x1 x3 x4
        have HM := hid hm
        clear hm
        repeat (go_big_quiet_step (fail))
        refine wpQuiet_nil ?_
        intro _ hwq
        obtain ⟨nr, hwq⟩ := hwq
        subst hwq
        obtain ⟨w3, hw3⟩ : ∃ w3, w2.drewN nr = w3 := ⟨_, rfl⟩
        have HM3 := hid (HM.out.dn nr)
        rw [hw3] at HM3
        go_wp2_with fail
        rw [hw3]
        clear hw3 HM
        obtain ⟨x3, x1⟩ := HY.out w3 HM3.out.n
        refine wp_region_mid_dn 12 (by kernel_rfl) (by kernel_rfl) (by kernel_rfl) (by decide) (by kernel_rfl) ?_
        simp only [List.take, List.drop]
        repeat (go_big_quiet_step (fail))
        refine wpQuiet_nil ?_
        intro _ hwq
        obtain ⟨np, hwq⟩ := hwq
        subst hwq
        refine wpOp_step rfl (fun K hK => ?_)
        go_simp
        refine ((HM3.out.dn np).read o s n o0 o1 s0 s1 n0 n1).mono ?_
        rintro e w4 ⟨rfl, hm⟩
        refine hK _ _ ?_
        clear hK K x1 x3
        have HN := hid hm
        clear hm
        repeat (go_big_quiet_step (fail))
        refine wpQuiet_nil ?_
        intro _ hwq
        obtain ⟨nt, hwq⟩ := hwq
        subst hwq
        have HN5 := hid (HN.out.dn nt)
        have hin := kd_in h o s n h0 h1 n0 n1
        obtain ⟨w5, hw5⟩ : ∃ w5, w4.drewN nt = w5 := ⟨_, rfl⟩
        rw [hw5] at HN5
        rw [hw5]
        clear hw5 HN
        generalize (kd h o s n).2.2 = g at *
        generalize (kd h o s n).2.1 = z at *
        generalize (kd h o s n).1 = r at *
        go_wp2
        go_roundw
        case rel => exact ⟨j + 1, g, by omega, by go_num, HN5, hin.1, hin.2⟩
        case measure => simp [intOf]; omega
      · have hjb : ¬ (j : Int) < lb := by omega
        obtain ⟨n0, n1⟩ : 0 ≤ vv ∧ vv < 18446744073709551616 := ⟨v0, v1⟩
        clear v0 v1
        generalize vv = n at *
        go_wp2_with fail
        refine wp_region_mid_dn 12 (by kernel_rfl) (by kernel_rfl) (by kernel_rfl) (by decide) (by kernel_rfl) ?_
        simp only [List.take, List.drop]
        repeat (go_big_quiet_step (fail))
        refine wpQuiet_nil ?_
        intro _ hwq
        obtain ⟨nq, hwq⟩ := hwq
        subst hwq
        refine wpOp_step rfl (fun K hK => ?_)
        go_simp
        refine ((hk.out.dn nq).read o s n o0 o1 s0 s1 n0 n1).mono ?_
        rintro e w2 ⟨rfl, hm⟩
        refine hK _ _ ?_
        clear hK K x1 x3 x4
        have HM := hid hm
        clear hm
        repeat (go_big_quiet_step (fail))
        refine wpQuiet_nil ?_
        intro _ hwq
        obtain ⟨nr, hwq⟩ := hwq
        subst hwq
        obtain ⟨w3, hw3⟩ : ∃ w3, w2.drewN nr = w3 := ⟨_, rfl⟩
        have HM3 := hid (HM.out.dn nr)
        rw [hw3] at HM3
        go_wp2_with fail
        rw [hw3]
        clear hw3 HM
        obtain ⟨x3, x1⟩ := HY.out w3 HM3.out.n
        refine wp_region_mid_dn 12 (by kernel_rfl) (by kernel_rfl) (by kernel_rfl) (by decide) (by kernel_rfl) ?_
        simp only [List.take, List.drop]
        repeat (go_big_quiet_step (fail))
        refine wpQuiet_nil ?_
        intro _ hwq
        obtain ⟨np, hwq⟩ := hwq
        subst hwq
        refine wpOp_step rfl (fun K hK => ?_)
        go_simp
        refine ((HM3.out.dn np).read o s n o0 o1 s0 s1 n0 n1).mono ?_
        rintro e w4 ⟨rfl, hm⟩
        refine hK _ _ ?_
        clear hK K x1 x3
        have HN := hid hm
        clear hm
        repeat (go_big_quiet_step (fail))
        refine wpQuiet_nil ?_
        intro _ hwq
        obtain ⟨nt, hwq⟩ := hwq
        subst hwq
        have HN5 := hid (HN.out.dn nt)
        have hin := kd_in h o s n h0 h1 n0 n1
        obtain ⟨w5, hw5⟩ : ∃ w5, w4.drewN nt = w5 := ⟨_, rfl⟩
        rw [hw5] at HN5
        rw [hw5]
        clear hw5 HN
        generalize (kd h o s n).2.2 = g at *
        generalize (kd h o s n).2.1 = z at *
        generalize (kd h o s n).1 = r at *
        go_wp2
        go_roundw
        case rel => exact ⟨j + 1, g, by omega, by go_num, HN5, hin.1, hin.2⟩
        case measure => simp [intOf]; omega
    · obtain rfl : j = la := by omega
      go_wp2_with (go_at_call 24; refine (hw _).mono ?_; rintro e w2 ⟨rfl, hb⟩; have HB2 := hid hb; clear hb)
      go_ret
      exact ⟨rfl, hk.out.n.trans (HB2.out.mono hk.out.n.size)⟩
end Go.Proofs.Ytmpldaenakenlaa
