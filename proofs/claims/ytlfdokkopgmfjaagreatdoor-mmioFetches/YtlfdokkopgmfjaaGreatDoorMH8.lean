/- A case that is handed in. -/
import Derived.Test.YtlfdokkopgmfjaaGreatDoorMH7
import Derived.Test.YtlfdokkopgmfjaaGreatDoorMC7
import Derived.Test.YtlfdokkopgmfjaaGreatDoorRows
import Derived.Test.YtlfdokkopgmfjaaGreatDoorMB1
import Derived.WalkKit
import Derived.ProofKit
import Derived.LaidMore
import Derived.Lib.LaidTab
import Derived.Stop.LaidErr
import Derived.Stop.Joined
import Derived.OpenShut
namespace Go.Proofs.YtlfdokkopgmfjaaGreatDoor
open Go.ChangeShapes Go.WideShapes Go.ChangeAt Go.RowKit Go.Deep
set_option linter.unusedVariables false
set_option maxRecDepth 100000
theorem open_hartL {H : Type} {enc : TypeId × Value → H} {W : World} {base fuel : Nat} {l : List Value} {x : DataW H × List MemPlace} (hf : DataW.trod enc Tryz.prog W base (fun _ => true) true fuel 27 l = some x) : ∃ a : HV, l = a.cs ∧ HOk a := by
  obtain ⟨xs, n, _, _, hcl, hlen, hfs⟩ := DataW.trod_struct u_hart hf
  have hs : l.toArray.size = 49 := by rw [cells_hart] at hcl; simpa using hcl
  have hl : xs.length = 18 := by rw [hlen]; kernel_rfl
  have hw : ∀ k o, k < 18 → ((Tryz.prog.fieldsOf 27)[k]?).map (fun f => (f.type, f.offset)) = some (22, o) → Wd l.toArray o := by
    intro k o hk hm
    obtain ⟨f, e1, e2, e3⟩ := fldH hm
    have q := hfs k f e1
    rw [e2, e3, co_u64] at q
    obtain ⟨y, hy⟩ : ∃ y, xs[k]? = some y := ⟨xs[k]'(by omega), List.getElem?_eq_getElem (by omega)⟩
    rw [hy] at q
    obtain ⟨z, hz, _, hwf⟩ := DataW.trod_int Tryz.underlying22 q
    obtain ⟨c0, c1⟩ := bounds_u64 hwf
    exact ⟨z, one_of_chunk (by simpa using hz), c0, by omega⟩
  have hb : ∀ k o, k < 18 → ((Tryz.prog.fieldsOf 27)[k]?).map (fun f => (f.type, f.offset)) = some (4, o) → Fg l.toArray o := by
    intro k o hk hm
    obtain ⟨f, e1, e2, e3⟩ := fldH hm
    have q := hfs k f e1
    rw [e2, e3, cells_bool] at q
    obtain ⟨y, hy⟩ : ∃ y, xs[k]? = some y := ⟨xs[k]'(by omega), List.getElem?_eq_getElem (by omega)⟩
    rw [hy] at q
    obtain ⟨z, hz, _⟩ := DataW.trod_bool Tryz.underlying4 q
    exact ⟨z, one_of_chunk (by simpa using hz)⟩
  have hx : ∀ r, r < 32 → Wd l.toArray r := by
    obtain ⟨f, e1, e2, e3⟩ := fldH (k := 0) (o := 0) (t := 25) (by kernel_rfl)
    have q := hfs 0 f e1
    rw [e2, e3, cells_a32] at q
    obtain ⟨y, hy⟩ : ∃ y, xs[0]? = some y := ⟨xs[0]'(by omega), List.getElem?_eq_getElem (by omega)⟩
    rw [hy] at q
    obtain ⟨ys, m, _, _, _, hyl, hys⟩ := DataW.trod_array u_a32 q
    intro r hr
    have q2 := hys r hr
    rw [co_u64, Nat.mul_one] at q2
    obtain ⟨z, hz⟩ : ∃ z, ys[r]? = some z := ⟨ys[r]'(by omega), List.getElem?_eq_getElem (by omega)⟩
    rw [hz] at q2
    obtain ⟨n, hn, _, hwf⟩ := DataW.trod_int Tryz.underlying22 q2
    obtain ⟨c0, c1⟩ := bounds_u64 hwf
    refine ⟨n, one_of_chunk ?_, c0, by omega⟩
    have e : ((l.drop 0).take 32).drop r = ((l.drop r).take (32 - r)) := by
      rw [List.drop_zero, List.drop_take]
    rw [e, List.take_take, show min 1 (32 - r) = 1 by omega] at hn
    simpa using hn
  obtain ⟨a, ha, ok⟩ := hart_of l.toArray hs hx (hw 1 32 (by omega) (by kernel_rfl)) (hb 2 33 (by omega) (by kernel_rfl)) (hb 3 34 (by omega) (by kernel_rfl)) (hb 4 35 (by omega) (by kernel_rfl)) (hb 5 36 (by omega) (by kernel_rfl)) (hb 6 37 (by omega) (by kernel_rfl)) (hb 7 38 (by omega) (by kernel_rfl)) (hb 8 39 (by omega) (by kernel_rfl))
    (hw 9 40 (by omega) (by kernel_rfl)) (hw 10 41 (by omega) (by kernel_rfl)) (hw 11 42 (by omega) (by kernel_rfl)) (hw 12 43 (by omega) (by kernel_rfl)) (hw 13 44 (by omega) (by kernel_rfl)) (hw 14 45 (by omega) (by kernel_rfl)) (hw 15 46 (by omega) (by kernel_rfl)) (hw 16 47 (by omega) (by kernel_rfl)) (hw 17 48 (by omega) (by kernel_rfl))
  refine ⟨a, ?_, ok⟩
  have := congrArg Array.toList ha
  simpa [HV.ca] using this
theorem cells_by : Tryz.prog.cellsOf 5 = 1 := by kernel_rfl
theorem cells_sby : Tryz.prog.cellsOf 23 = 1 := by kernel_rfl
theorem u_sby : Tryz.prog.underlying 23 = some (.slice 5) := by kernel_rfl
theorem open_bytesL {H : Type} {enc : TypeId × Value → H} {W : World} {base fuel : Nat} {cs : List Value} {x : DataW H × List MemPlace} (h : DataW.trod enc Tryz.prog W base (fun _ => true) true fuel 23 cs = some x) (hlt : ∀ p ∈ x.2, p.block < W.heap.size) :
    ∃ (ad : Option Addr) (la cap ab ao : Nat) (A : Nat → Int), cs = [.slice ad la cap] ∧ BA W ad la cap ab ao A := by
  rcases open_slice u_sby h with ⟨hcs, hx⟩ | ⟨a, len, cap, m, n, D, Pl, hcs, _, hl, hm, hmm, hx, hel⟩
  · exact ⟨none, 0, 0, 0, 0, fun _ => 0, hcs, ⟨Nat.le_refl _, by decide, fun _ => ⟨rfl, rfl⟩, fun q => absurd q (by decide), fun i hi => absurd hi (Nat.not_lt_zero i), fun i => ⟨Int.le_refl 0, by decide⟩⟩⟩
  · subst hx
    simp only [if_true] at hmm
    have each : ∀ i, ∃ X : Int, (0 ≤ X ∧ X < 256) ∧ (i < len → W.cell? (a.add i) = some (.int .u8 X)) := fun i => by
      rcases Nat.lt_or_ge i len with hi | hi
      · obtain ⟨cs', h1, h2⟩ := hel i (by omega)
        obtain ⟨z0, r0, _, w0⟩ := DataW.trod_int Tryz.underlying5 h2
        rw [cells_by] at h1
        obtain ⟨_, hlen, hcell⟩ := World.cells?_some h1
        have k0 := hcell 0 (by decide)
        have := bounds_u8 w0
        refine ⟨z0, ⟨this.1, by omega⟩, fun _ => ?_⟩
        subst r0
        simpa [Addr.add] using k0
      · exact ⟨0, ⟨Int.le_refl 0, by decide⟩, fun q => by omega⟩
    obtain ⟨X, hX⟩ := Classical.axiomOfChoice each
    clear each
    have hbl : ∀ h0 : 0 < len, a.spot = none ∧ a.block < W.heap.size := fun h0 => by
      have k0 := (hX 0).2 h0
      refine ⟨by simpa [Addr.add] using World.cell?_spot k0, ?_⟩
      obtain ⟨cs', h1, _⟩ := hel 0 (by omega)
      rw [cells_by] at h1
      have := World.cells?_block h1 (by decide)
      rwa [C.add_block] at this
    obtain ⟨ab, ao, asp⟩ := a
    refine ⟨some ⟨ab, ao, asp⟩, len, cap, ab, ao, X, hcs, ⟨hl, by simpa [maxLen] using hm, fun e => (by cases e), fun h0 => ?_, fun i hi => ?_, fun i => (hX i).1⟩⟩
    · obtain ⟨q1, q2⟩ := hbl h0
      obtain rfl : asp = none := q1
      exact ⟨rfl, q2⟩
    · obtain ⟨q1, q2⟩ := hbl (by omega)
      obtain rfl : asp = none := q1
      have := (hX i).2 hi
      rw [C.addr_add] at this
      exact this
theorem cells_kca : Tryz.prog.cellsOf 29 = 54 := by kernel_rfl
theorem open_kca {H : Type} {enc : TypeId × Value → H} {W : World} {base : Nat} {r : Reach} {b0 : Nat} {v : Value} {d : DataW H} {p : List MemPlace} (hv : Value.okWide Tryz.prog W r b0 29 v) (h : DataW.Trod enc Tryz.prog W base (fun _ => true) true 29 v d p) (hlt : ∀ x ∈ p, x.block < W.heap.size) :
    ∃ (z0 z1 : Int) (ad0 : Option Addr) (la0 cap0 ab0 ao0 : Nat) (A : Nat → Int) (ad : Option Addr) (la cap ab ao : Nat) (X : Nat → Int × Int) (z4 : Int) (a : HV), v = .agg (kca z0 z1 (.slice ad0 la0 cap0) (.slice ad la cap) z4 a) ∧ BA W ad0 la0 cap0 ab0 ao0 A ∧ C.Cl W ad la cap ab ao X ∧ (0 ≤ z0 ∧ z0 < 18446744073709551616) ∧ (-9223372036854775808 ≤ z1 ∧ z1 ≤ 9223372036854775807) ∧ (0 ≤ z4 ∧ z4 < 18446744073709551616) ∧ HOk a := by
  obtain ⟨cs, rfl, hsz⟩ := okWide_struct u_kca hv
  obtain ⟨fuel, hf⟩ := h
  obtain ⟨xs, n, _, hx, hcl, hlen, hfs⟩ := DataW.trod_struct u_kca hf
  simp only [Prod.mk.injEq] at hx
  have hl : xs.length = 6 := by rw [hlen]; kernel_rfl
  obtain ⟨f0, e0, t0, o0⟩ := C.fldOf (T := 29) (k := 0) (t := 22) (o := 0) (by kernel_rfl)
  obtain ⟨f1, e1, t1, o1⟩ := C.fldOf (T := 29) (k := 1) (t := 3) (o := 1) (by kernel_rfl)
  obtain ⟨f2, e2, t2, o2⟩ := C.fldOf (T := 29) (k := 2) (t := 23) (o := 2) (by kernel_rfl)
  obtain ⟨f3, e3, t3, o3⟩ := C.fldOf (T := 29) (k := 3) (t := 24) (o := 3) (by kernel_rfl)
  obtain ⟨f4, e4, t4, o4⟩ := C.fldOf (T := 29) (k := 4) (t := 22) (o := 4) (by kernel_rfl)
  obtain ⟨f5, e5, t5, o5⟩ := C.fldOf (T := 29) (k := 5) (t := 27) (o := 5) (by kernel_rfl)
  have q0 := hfs 0 f0 e0
  have q1 := hfs 1 f1 e1
  have q2 := hfs 2 f2 e2
  have q3 := hfs 3 f3 e3
  have q4 := hfs 4 f4 e4
  have q5 := hfs 5 f5 e5
  rw [t0, o0, C.cells_u, List.getElem?_eq_getElem (by omega)] at q0
  rw [t1, o1, C.cells_i, List.getElem?_eq_getElem (by omega)] at q1
  rw [t2, o2, cells_sby, List.getElem?_eq_getElem (by omega)] at q2
  rw [t3, o3, C.cells_sc, List.getElem?_eq_getElem (by omega)] at q3
  rw [t4, o4, C.cells_u, List.getElem?_eq_getElem (by omega)] at q4
  rw [t5, o5, cells_hart, List.getElem?_eq_getElem (by omega)] at q5
  obtain ⟨z0, r0, _, w0⟩ := DataW.trod_int Tryz.underlying22 q0
  obtain ⟨z1, r1, _, w1⟩ := DataW.trod_int Tryz.underlying3 q1
  obtain ⟨ad0, la0, cap0, ab0, ao0, A, r2, hA⟩ := open_bytesL q2 (fun z hz => hlt z (by rw [hx.2]; exact List.mem_flatMap.2 ⟨_, List.getElem_mem _, hz⟩))
  obtain ⟨ad, la, cap, ab, ao, X, r3, hC⟩ := C.open_cells q3 (fun z hz => hlt z (by rw [hx.2]; exact List.mem_flatMap.2 ⟨_, List.getElem_mem _, hz⟩))
  obtain ⟨z4, r4, _, w4⟩ := DataW.trod_int Tryz.underlying22 q4
  obtain ⟨a, r5, ok⟩ := open_hartL q5
  rw [cells_kca] at hsz
  have b0 := bounds_u64 w0
  have b1 := bounds_i64 w1
  have b4 := bounds_u64 w4
  refine ⟨z0, z1, ad0, la0, cap0, ab0, ao0, A, ad, la, cap, ab, ao, X, z4, a, ?_, hA, hC, ⟨by omega, by omega⟩, ⟨by omega, by omega⟩, ⟨by omega, by omega⟩, ok⟩
  refine congrArg Value.agg ?_
  obtain ⟨l⟩ := cs
  simp only [Value.cells] at r0 r1 r2 r3 r4 r5
  have hl54 : l.length = 54 := by simpa using hsz
  obtain ⟨c0, c1, c2, c3, c4, tl, rfl⟩ : ∃ c0 c1 c2 c3 c4 tl, l = c0 :: c1 :: c2 :: c3 :: c4 :: tl := by
    match l, hl54 with
    | c0 :: c1 :: c2 :: c3 :: c4 :: tl, _ => exact ⟨c0, c1, c2, c3, c4, tl, rfl⟩
  simp at r0 r1 r2 r3 r4 r5 hl54
  have r5' : tl = a.cs := by rw [← r5, List.take_of_length_le (by omega)]
  subst r0 r1 r2 r3 r4 r5'
  rfl
end Go.Proofs.YtlfdokkopgmfjaaGreatDoor
namespace Go.Proofs.YtlfdokkopgmfjaaGreatDoor
open Go.ChangeShapes Go.WideShapes Go.ChangeAt Go.RowKit
set_option linter.unusedVariables false
theorem own : ownKnob Tryz.prog.godebug = none := by kernel_rfl
def laidL : List (String × DataW Unit) := [("citadel/inst.conditions", Rows.laid_citadel_inst_conditions), ("citadel/inst.loads", Rows.laid_citadel_inst_loads), ("citadel/inst.stores", Rows.laid_citadel_inst_stores), ("citadel/inst.widths", Rows.laid_citadel_inst_widths), ("citadel/inst.basics", Rows.laid_citadel_inst_basics), ("citadel/inst.alternates", Rows.laid_citadel_inst_alternates), ("citadel/inst.products", Rows.laid_citadel_inst_products), ("citadel/inst.basicsW", Rows.laid_citadel_inst_basicsW), ("citadel/inst.alternatesW", Rows.laid_citadel_inst_alternatesW), ("citadel/inst.productsW", Rows.laid_citadel_inst_productsW), ("citadel/inst.atomics", Rows.laid_citadel_inst_atomics)]
theorem door_met (os : Os) (args : Array Value) : laidMetH Tryz.prog laidL ((World.doorLaid Tryz.prog 64 os).forCall (fun _ _ => 0) ⟨#[], args, []⟩).memory :=
  laidMetH_of_parts3 (fuel := 8) (laidMet_of_run' 8 (by kernel_rfl) (by kernel_rfl)) (by kernel_rfl) (by kernel_rfl)
theorem tb_of {W : World} {name : String} {g : Nat} {zs : List Int} {t : Int → Int} {len : Int} (hg : Tryz.prog.globalNamed name = some g) (h : Lib.TabIs Tryz.prog W name .i64 zs) (hl : (zs.length : Int) = len) (hp : 0 < zs.length) (ht : ∀ n : Int, t n = zs.getD n.toNat 0) : B.Tb W g t len := by
  have h0 := h.cell hg 0 hp
  refine ⟨?_, fun n n0 n1 => ?_⟩
  · rcases Nat.lt_or_ge g W.heap.size with q | q
    · exact q
    · rw [World.cell?, Array.getElem?_eq_none q] at h0; cases h0
  · rw [ht n]; exact h.cell hg n.toNat (by omega)
theorem G_of {W : World} (h : laidMetH Tryz.prog laidL W) : B.G W := by
  rw [MakeChecks.laidMetH_plain _ _ _ (by kernel_rfl)] at h
  have t0 : Lib.TabIs Tryz.prog W "citadel/inst.conditions" .i64 [1, 2, 0, 0, 3, 4, 5, 6] := Lib.tabIs_of_head (g := 0) (t := 185) (e := 3) (n := 8) (by kernel_rfl) (by kernel_rfl) (by kernel_rfl) (by kernel_rfl) (by kernel_rfl) (by kernel_rfl) h
  have h1 := laidMet.tail h
  have t1 : Lib.TabIs Tryz.prog W "citadel/inst.loads" .i64 [1, 2, 4, 8, 1, 2, 4, 0] := Lib.tabIs_of_head (g := 1) (t := 185) (e := 3) (n := 8) (by kernel_rfl) (by kernel_rfl) (by kernel_rfl) (by kernel_rfl) (by kernel_rfl) (by kernel_rfl) h1
  have h2 := laidMet.tail h1
  have t2 : Lib.TabIs Tryz.prog W "citadel/inst.stores" .i64 [1, 2, 4, 8, 0, 0, 0, 0] := Lib.tabIs_of_head (g := 2) (t := 185) (e := 3) (n := 8) (by kernel_rfl) (by kernel_rfl) (by kernel_rfl) (by kernel_rfl) (by kernel_rfl) (by kernel_rfl) h2
  have h3 := laidMet.tail h2
  have t3 : Lib.TabIs Tryz.prog W "citadel/inst.widths" .i64 [0, 0, 4, 8, 0, 0, 0, 0] := Lib.tabIs_of_head (g := 3) (t := 185) (e := 3) (n := 8) (by kernel_rfl) (by kernel_rfl) (by kernel_rfl) (by kernel_rfl) (by kernel_rfl) (by kernel_rfl) h3
  have h4 := laidMet.tail h3
  have t4 : Lib.TabIs Tryz.prog W "citadel/inst.basics" .i64 [1, 3, 4, 5, 6, 7, 9, 10] := Lib.tabIs_of_head (g := 5) (t := 185) (e := 3) (n := 8) (by kernel_rfl) (by kernel_rfl) (by kernel_rfl) (by kernel_rfl) (by kernel_rfl) (by kernel_rfl) h4
  have h5 := laidMet.tail h4
  have t5 : Lib.TabIs Tryz.prog W "citadel/inst.alternates" .i64 [2, 0, 0, 0, 0, 8, 0, 0] := Lib.tabIs_of_head (g := 6) (t := 185) (e := 3) (n := 8) (by kernel_rfl) (by kernel_rfl) (by kernel_rfl) (by kernel_rfl) (by kernel_rfl) (by kernel_rfl) h5
  have h6 := laidMet.tail h5
  have t6 : Lib.TabIs Tryz.prog W "citadel/inst.products" .i64 [11, 12, 13, 14, 15, 16, 17, 18] := Lib.tabIs_of_head (g := 9) (t := 185) (e := 3) (n := 8) (by kernel_rfl) (by kernel_rfl) (by kernel_rfl) (by kernel_rfl) (by kernel_rfl) (by kernel_rfl) h6
  have h7 := laidMet.tail h6
  have t7 : Lib.TabIs Tryz.prog W "citadel/inst.basicsW" .i64 [19, 21, 0, 0, 0, 22, 0, 0] := Lib.tabIs_of_head (g := 7) (t := 185) (e := 3) (n := 8) (by kernel_rfl) (by kernel_rfl) (by kernel_rfl) (by kernel_rfl) (by kernel_rfl) (by kernel_rfl) h7
  have h8 := laidMet.tail h7
  have t8 : Lib.TabIs Tryz.prog W "citadel/inst.alternatesW" .i64 [20, 0, 0, 0, 0, 23, 0, 0] := Lib.tabIs_of_head (g := 8) (t := 185) (e := 3) (n := 8) (by kernel_rfl) (by kernel_rfl) (by kernel_rfl) (by kernel_rfl) (by kernel_rfl) (by kernel_rfl) h8
  have h9 := laidMet.tail h8
  have t9 : Lib.TabIs Tryz.prog W "citadel/inst.productsW" .i64 [24, 0, 0, 0, 25, 26, 27, 28] := Lib.tabIs_of_head (g := 10) (t := 185) (e := 3) (n := 8) (by kernel_rfl) (by kernel_rfl) (by kernel_rfl) (by kernel_rfl) (by kernel_rfl) (by kernel_rfl) h9
  have h10 := laidMet.tail h9
  have t10 : Lib.TabIs Tryz.prog W "citadel/inst.atomics" .i64 [2, 1, 0, 0, 3, 0, 0, 0, 5, 0, 0, 0, 4, 0, 0, 0, 6, 0, 0, 0, 7, 0, 0, 0, 8, 0, 0, 0, 9, 0, 0, 0] := Lib.tabIs_of_head (g := 4) (t := 188) (e := 3) (n := 32) (by kernel_rfl) (by kernel_rfl) (by kernel_rfl) (by kernel_rfl) (by kernel_rfl) (by kernel_rfl) h10
  exact ⟨tb_of (by kernel_rfl) t0 rfl (by decide) (fun _ => rfl), tb_of (by kernel_rfl) t1 rfl (by decide) (fun _ => rfl), tb_of (by kernel_rfl) t2 rfl (by decide) (fun _ => rfl), tb_of (by kernel_rfl) t3 rfl (by decide) (fun _ => rfl), tb_of (by kernel_rfl) t10 rfl (by decide) (fun _ => rfl), tb_of (by kernel_rfl) t4 rfl (by decide) (fun _ => rfl), tb_of (by kernel_rfl) t5 rfl (by decide) (fun _ => rfl), tb_of (by kernel_rfl) t6 rfl (by decide) (fun _ => rfl), tb_of (by kernel_rfl) t7 rfl (by decide) (fun _ => rfl), tb_of (by kernel_rfl) t8 rfl (by decide) (fun _ => rfl), tb_of (by kernel_rfl) t9 rfl (by decide) (fun _ => rfl)⟩
end Go.Proofs.YtlfdokkopgmfjaaGreatDoor
