/- What is remembered truly is what the table says. -/
import Derived.Test.YtmdconecigenfaaGreatMH3
import Derived.Test.YtmdconecigenfaaGreatMC3
import Derived.OpenShut
import Derived.SizedLaws
import Derived.Deep.Slices
import Derived.Test.YtmdconecigenfaaGreatMC2
import Derived.BigQuiet
import Derived.Handy
import Derived.Maps.OwnOps
import Derived.Deep.RegionWith
import Derived.Defers
import Derived.Laws.Pointers
import Derived.Laws.LoneSync
import Derived.RegionTactic
import Derived.RegionCalls
import Derived.Laws.NewBlocks
import Derived.Test.YtmdconecigenfaaGreatMC4
import Derived.Deep.Cut
namespace Go.Proofs.YtmdconecigenfaaGreat
open Go.RowKit
open C (gst rdm hasB D plc pm al hs lo num pw)
set_option linter.unusedVariables false
set_option maxRecDepth 100000

theorem atF_page {a b : Int} (h : a / 4096 = b / 4096) (k : Nat) (t : Int) : C.atF a k t = C.atF b k t := by unfold C.atF; rw [h]
theorem D_page (R : Int → Int × Int) {a b : Int} (h : a / 4096 = b / 4096) (wrong : Int) : ∀ (k : Nat) (t : Int), D R a wrong k t = D R b wrong k t
  | 0, t => by unfold D; rw [atF_page h]
  | k + 1, t => by unfold D; rw [atF_page h, D_page R h wrong k]
def pmL (l : Nat) : Nat := if l &&& 128 = 128 then l &&& 14 else l &&& 10
theorem pm_lo (e : Int) : pm e = ((pmL (lo e) : Nat) : Int) := by
  unfold pm pmL hs
  by_cases h : lo e &&& 128 = 128
  · simp [h]
  · simp [h]
theorem pmL_w : ∀ l : Fin 256, (bits .and .i64 ((pmL l : Nat) : Int) 4 == 0) = false → l.val &&& 132 = 132 := of_decide_eq_true (by kernel_rfl)
theorem pmL_r : ∀ l : Fin 256, (bits .and .i64 ((pmL l : Nat) : Int) 2 == 0) = false → l.val &&& 2 = 2 := of_decide_eq_true (by kernel_rfl)
theorem al_of {e k : Int} {wt : Bool} (h : al e k = true) (hp : (bits .and .i64 (pm e) (art wt) == 0) = false) : al e (akd wt) = true := by
  have h80 : hs e 80 = true := by unfold al at h; simp at h; exact h.1
  rw [pm_lo] at hp
  unfold al
  rw [h80]
  cases wt
  · have := pmL_r ⟨lo e, C.lo_lt e⟩ hp
    simp [akd, hs, this]
  · have := pmL_w ⟨lo e, C.lo_lt e⟩ hp
    simp [akd, hs, this]
/-- an entry that a device's table says -/
def Te (n : Nat) (f : Nat → Int) (root : Int) (e : E.TV) : Prop := ∃ b k x, b / 4096 = e.p ∧ 0 ≤ b ∧ b < 18446744073709551616 ∧ gst (rdm n f) root b k = (x, e.r, 0) ∧ e.f = x / 4096
theorem te_gst {n : Nat} {f : Nat → Int} (hf : ∀ j, 0 ≤ f j ∧ f j < 256) {root : Int} (h0 : root ≠ 0) (r0 : 0 ≤ root) (r1 : root < 18446744073709551616) {e : E.TV} (he : Te n f root e) {a : Int} (ha : a / 4096 = e.p) (a0 : 0 ≤ a) (a1 : a < 18446744073709551616) {wt : Bool} (hp : (bits .and .i64 e.r (art wt) == 0) = false) : ∃ y, gst (rdm n f) root a (akd wt) = (plf e.f a, y, 0) := by
  obtain ⟨b, k, x, hb, b0, b1, hg, hx⟩ := he
  have hbx := gst_b hf root b k b0 b1 r0 r1 hg
  unfold gst at hg
  rw [if_neg h0] at hg
  revert hg
  split
  · intro hg; simp at hg
  · rename_i h39
    split
    · intro hg; simp at hg; rename_i hz; exact absurd hg.2.2 hz
    · rename_i hz
      split
      · rename_i hal
        intro hg
        simp only [Prod.mk.injEq] at hg
        obtain ⟨g1, g2, -⟩ := hg
        refine ⟨pm (D (rdm n f) b 2 2 root).leaf, ?_⟩
        have hD : D (rdm n f) a 2 2 root = D (rdm n f) b 2 2 root := D_page _ (by rw [ha, hb]) 2 2 root
        rw [← g2] at hp
        unfold gst
        rw [if_neg h0, if_neg (by omega), hD, if_neg hz, if_pos (al_of hal hp)]
        have e1 : plc (D (rdm n f) b 2 2 root) a = plf e.f a := by
          rw [hx, plf_eq x a hbx.1 hbx.2, ← g1]
          unfold plc
          rw [show a / 4096 = b / 4096 by rw [ha, hb]]
          omega
        rw [e1]
      · intro hg; simp at hg
/-- a TLB whose entries all are true -/
def Tr (n : Nat) (f : Nat → Int) (v : UV) (L : List E.TV) : Prop := ∀ e ∈ L, v.root e.v.toNat ≠ 0 ∧ Te n f (v.root e.v.toNat) e
theorem Tr.nil (n : Nat) (f : Nat → Int) (v : UV) : Tr n f v [] := fun e h => by cases h
theorem Tr.sub {n : Nat} {f : Nat → Int} {v : UV} {L L' : List E.TV} (h : Tr n f v L) (hs : ∀ e ∈ L', e ∈ L) : Tr n f v L' := fun e he => h e (hs e he)
theorem fl_sub {L : List E.TV} {d : Int} : ∀ e ∈ E.fl L d, e ∈ L := fun e h => (List.mem_filter.1 h).1
theorem fp_sub {L : List E.TV} {d p : Int} : ∀ e ∈ E.fp L d p, e ∈ L := fun e h => (List.mem_filter.1 h).1
theorem pu_sub {room : Nat} {L : List E.TV} {x : E.TV} : ∀ e ∈ E.pu room L x, e ∈ L ∨ e = x := by
  intro e h
  unfold E.pu at h
  rcases List.mem_append.1 h with q | q
  · left
    split at q
    · unfold E.ev at q
      split at q
      · cases q
      · rename_i y M hm
        have := fp_sub _ q
        rw [← hm] at this
        exact fp_sub _ this
    · exact fp_sub _ q
  · right; simpa using q
theorem lk_mem {L : List E.TV} {d p : Int} {e : E.TV} (h : E.lk L d p = (e, true)) : e ∈ L ∧ e.v = d ∧ e.p = p := by
  unfold E.lk at h
  cases q : L.find? (fun x => x.here d p) with
  | none => rw [q] at h; cases h
  | some x =>
    rw [q] at h
    cases h
    have h1 := List.find?_some q
    simp [E.TV.here] at h1
    exact ⟨List.mem_of_find?_eq_some q, h1.1, h1.2⟩
/-- what an access comes to by its table alone -/
def acN (n : Nat) (f : Nat → Int) (root : Int) (a s : Int) (wt : Bool) : Int × Int :=
  if whole a s = false then (4, 0) else if root = 0 then (1, 0) else
  if (gst (rdm n f) root a (akd wt)).2.2 = 0 then (if hasB 0 n (plf ((gst (rdm n f) root a (akd wt)).1 / 4096) a) s = true then (0, plf ((gst (rdm n f) root a (akd wt)).1 / 4096) a) else (3, 0)) else (2, 0)
theorem acF_true {n : Nat} {f : Nat → Int} (hf : ∀ j, 0 ≤ f j ∧ f j < 256) {v : UV} (hr : ∀ j, 0 ≤ v.root j ∧ v.root j < 18446744073709551616) {room : Nat} {L : List E.TV} (hT : Tr n f v L) {d a s : Int} {wt : Bool} (a0 : 0 ≤ a) (a1 : a < 18446744073709551616) {k p : Int} {L' : List E.TV} (h : acF n f v room L d a s wt = (k, p, L')) :
    acN n f (v.root d.toNat) a s wt = (k, p) ∧ Tr n f v L' := by
  unfold acF at h
  unfold acN
  cases e1 : whole a s
  · rw [if_pos e1] at h; cases h; exact ⟨rfl, hT⟩
  · rw [if_neg (by rw [e1]; decide)] at h
    rw [if_neg (by decide)]
    by_cases e2 : v.root d.toNat = 0
    · rw [if_pos e2] at h; cases h; rw [if_pos e2]; exact ⟨rfl, hT⟩
    · rw [if_neg e2] at h
      rw [if_neg e2]
      obtain ⟨e, ok, hl⟩ : ∃ e ok, E.lk L d (a / 4096) = (e, ok) := ⟨_, _, rfl⟩
      by_cases hh : ok = true ∧ (bits .and .i64 e.r (art wt) == 0) = false
      · obtain ⟨rfl, hp⟩ := hh
        obtain ⟨m1, m2, m3⟩ := lk_mem hl
        rw [fnd_hit hl hp] at h
        obtain ⟨y, hy⟩ := te_gst hf e2 (hr _).1 (hr _).2 (by have := (hT e m1).2; rwa [m2] at this) m3.symm a0 a1 hp
        have hb := plf_b e.f a
        have e3 : plf (plf e.f a / 4096) a = plf e.f a := by
          rw [plf_eq _ a hb.1 hb.2]
          unfold plf
          rw [wrap_u64, wrap_u64]
          omega
        rw [hy]
        simp only [if_true, e3]
        cases e4 : hasB 0 n (plf e.f a) s
        · simp only [e4] at h; cases h; exact ⟨rfl, hT⟩
        · simp only [e4] at h; cases h; exact ⟨rfl, hT⟩
      · obtain ⟨x, y, z, hg⟩ : ∃ x y z, gst (rdm n f) (v.root d.toNat) a (akd wt) = (x, y, z) := ⟨_, _, _, rfl⟩
        have hm := fnd_miss (room := room) hl hh hg
        rw [hg]
        by_cases hz : z = 0
        · rw [hm.1 hz] at h
          have hT' : Tr n f v (E.pu room L ⟨d, a / 4096, x / 4096, y⟩) := fun e he => by
            rcases pu_sub e he with q | rfl
            · exact hT e q
            · exact ⟨e2, a, akd wt, x, rfl, a0, a1, by rw [hg, hz], rfl⟩
          simp only [hz, if_true]
          cases e4 : hasB 0 n (plf (x / 4096) a) s
          · simp only [e4] at h; cases h; exact ⟨rfl, hT'⟩
          · simp only [e4] at h; cases h; exact ⟨rfl, hT'⟩
        · rw [hm.2 hz] at h
          cases h
          simp only [hz, if_false]
          exact ⟨trivial, hT⟩
end Go.Proofs.YtmdconecigenfaaGreat
namespace Go.Proofs.YtmdconecigenfaaGreat
open Go.ChangeShapes Go.WideShapes Go.ChangeAt Go.RowKit Go.Deep
set_option linter.unusedVariables false

structure OpV where
  kind : Int
  dev : Int
  size : Int
  addr : Int
  data : Int
  write : Bool
  guest : Int
  irq : Int
def OpV.cs (x : OpV) : List Value := [.int .i64 x.kind, .int .i64 x.dev, .int .i64 x.size, .int .u64 x.addr, .int .u64 x.data, .bool x.write, .int .i64 x.guest, .int .i64 x.irq]
structure OpB (x : OpV) : Prop where
  kind : -9223372036854775808 ≤ x.kind ∧ x.kind ≤ 9223372036854775807
  dev : -9223372036854775808 ≤ x.dev ∧ x.dev ≤ 9223372036854775807
  size : -9223372036854775808 ≤ x.size ∧ x.size ≤ 9223372036854775807
  addr : 0 ≤ x.addr ∧ x.addr < 18446744073709551616
  data : 0 ≤ x.data ∧ x.data < 18446744073709551616
structure Sc (w : World) (ad : Option Addr) (la cap ab ao : Nat) (X : Nat → OpV) : Prop where
  len : la ≤ cap
  cap : cap ≤ 9223372036854775807
  at0 : 0 < la → ad = some ⟨ab, ao, none⟩ ∧ ab < w.heap.size
  cell : ∀ i, i < la → ∀ j, j < 8 → w.cell? ⟨ab, ao + i * 8 + j, none⟩ = (X i).cs[j]?
  num : ∀ i, i < la → OpB (X i)
theorem Sc.below {w w' : World} {ad : Option Addr} {la cap ab ao : Nat} {X : Nat → OpV} (h : Sc w ad la cap ab ao X) (hb : Below w.heap.size w w') : Sc w' ad la cap ab ao X :=
  ⟨h.len, h.cap, fun q => ⟨(h.at0 q).1, Nat.lt_of_lt_of_le (h.at0 q).2 hb.size⟩, fun i hi j hj => by
    have hlt := (h.at0 (by omega)).2
    have e : ∀ o, w'.cell? ⟨ab, o, none⟩ = w.cell? ⟨ab, o, none⟩ := fun o => World.cell?_of_block (w := w) (hb.block _ hlt)
    rw [e]; exact h.cell i hi j hj, h.num⟩
theorem Sc.cells {w : World} {ad : Option Addr} {la cap ab ao : Nat} {X : Nat → OpV} (h : Sc w ad la cap ab ao X) (i : Nat) (hi : i < la) : w.cell? ⟨ab, ao + i * 8, none⟩ = some (.int .i64 (X i).kind) ∧ w.cell? ⟨ab, ao + i * 8 + 1, none⟩ = some (.int .i64 (X i).dev) ∧ w.cell? ⟨ab, ao + i * 8 + 2, none⟩ = some (.int .i64 (X i).size) ∧ w.cell? ⟨ab, ao + i * 8 + 3, none⟩ = some (.int .u64 (X i).addr) ∧ w.cell? ⟨ab, ao + i * 8 + 4, none⟩ = some (.int .u64 (X i).data) ∧ w.cell? ⟨ab, ao + i * 8 + 5, none⟩ = some (.bool (X i).write) ∧ w.cell? ⟨ab, ao + i * 8 + 6, none⟩ = some (.int .i64 (X i).guest) ∧ w.cell? ⟨ab, ao + i * 8 + 7, none⟩ = some (.int .i64 (X i).irq) :=
  ⟨h.cell i hi 0 (by decide), h.cell i hi 1 (by decide), h.cell i hi 2 (by decide), h.cell i hi 3 (by decide), h.cell i hi 4 (by decide), h.cell i hi 5 (by decide), h.cell i hi 6 (by decide), h.cell i hi 7 (by decide)⟩
theorem under_op : Tryz.prog.underlying 79 = some (.struct (Tryz.prog.fieldsOf 79)) := by kernel_rfl
theorem under_msi : Tryz.prog.underlying 50 = some (.struct (Tryz.prog.fieldsOf 50)) := by kernel_rfl
theorem cells_op : Tryz.prog.cellsOf 79 = 8 := by kernel_rfl
theorem cells_msi : Tryz.prog.cellsOf 50 = 2 := by kernel_rfl
theorem cells_i8 : Tryz.prog.cellsOf 3 = 1 := by kernel_rfl
theorem cells_u8 : Tryz.prog.cellsOf 47 = 1 := by kernel_rfl
theorem cells_b8 : Tryz.prog.cellsOf 4 = 1 := by kernel_rfl
theorem addr_two (a : Addr) (i j : Nat) : (a.add i).add j = a.add (i + j) := by
  unfold Addr.add
  by_cases hi : i = 0
  · subst hi; simp
  · by_cases hj : j = 0
    · subst hj; simp
    · have : ¬ i + j = 0 := by omega
      simp [hi, hj, Nat.add_assoc]
theorem fld8 {T k : Nat} {t : TypeId} {o : Nat} (h : ((Tryz.prog.fieldsOf T)[k]?).map (fun f => (f.type, f.offset)) = some (t, o)) : ∃ f, (Tryz.prog.fieldsOf T)[k]? = some f ∧ f.type = t ∧ f.offset = o := by
  cases hq : (Tryz.prog.fieldsOf T)[k]? with
  | none => rw [hq] at h; cases h
  | some f => rw [hq] at h; simp at h; exact ⟨f, rfl, h.1, h.2⟩
set_option maxRecDepth 100000 in
theorem open_msi {H : Type} {enc : TypeId × Value → H} {W : World} {base fuel : Nat} {cs : List Value} {x : DataW H × List MemPlace} (h : DataW.trod enc Tryz.prog W base (fun _ => true) true fuel 50 cs = some x) : ∃ g i : Int, cs = [.int .i64 g, .int .i64 i] := by
  obtain ⟨xs, n, _, rfl, hcl, hlen, hfs⟩ := DataW.trod_struct under_msi h
  have hl : xs.length = 2 := by rw [hlen]; kernel_rfl
  rw [cells_msi] at hcl
  obtain ⟨f0, e0, t0, o0⟩ := fld8 (T := 50) (k := 0) (t := 3) (o := 0) (by kernel_rfl)
  obtain ⟨f1, e1, t1, o1⟩ := fld8 (T := 50) (k := 1) (t := 3) (o := 1) (by kernel_rfl)
  have q0 := hfs 0 f0 e0
  have q1 := hfs 1 f1 e1
  rw [t0, o0, cells_i8, List.getElem?_eq_getElem (by omega)] at q0
  rw [t1, o1, cells_i8, List.getElem?_eq_getElem (by omega)] at q1
  obtain ⟨z0, r0, _, w0⟩ := DataW.trod_int Tryz.underlying3 q0
  obtain ⟨z1, r1, _, w1⟩ := DataW.trod_int Tryz.underlying3 q1
  obtain ⟨c0, c1, rfl⟩ : ∃ c0 c1, cs = [c0, c1] := by
    match cs, hcl with
    | [c0, c1], _ => exact ⟨c0, c1, rfl⟩
  simp at r0 r1
  subst r0 r1
  exact ⟨z0, z1, rfl⟩
set_option maxRecDepth 100000 in
theorem open_op {H : Type} {enc : TypeId × Value → H} {W : World} {base fuel : Nat} {cs : List Value} {x : DataW H × List MemPlace} (h : DataW.trod enc Tryz.prog W base (fun _ => true) true fuel 79 cs = some x) :
    ∃ X : OpV, cs = X.cs ∧ OpB X := by
  obtain ⟨xs, n, _, rfl, hcl, hlen, hfs⟩ := DataW.trod_struct under_op h
  have hl : xs.length = 7 := by rw [hlen]; kernel_rfl
  rw [cells_op] at hcl
  obtain ⟨f0, e0, t0, o0⟩ := fld8 (T := 79) (k := 0) (t := 3) (o := 0) (by kernel_rfl)
  have q0 := hfs 0 f0 e0
  rw [t0, o0, cells_i8, List.getElem?_eq_getElem (by omega)] at q0
  obtain ⟨z0, r0, _, w0⟩ := DataW.trod_int Tryz.underlying3 q0
  obtain ⟨f1, e1, t1, o1⟩ := fld8 (T := 79) (k := 1) (t := 3) (o := 1) (by kernel_rfl)
  have q1 := hfs 1 f1 e1
  rw [t1, o1, cells_i8, List.getElem?_eq_getElem (by omega)] at q1
  obtain ⟨z1, r1, _, w1⟩ := DataW.trod_int Tryz.underlying3 q1
  obtain ⟨f2, e2, t2, o2⟩ := fld8 (T := 79) (k := 2) (t := 3) (o := 2) (by kernel_rfl)
  have q2 := hfs 2 f2 e2
  rw [t2, o2, cells_i8, List.getElem?_eq_getElem (by omega)] at q2
  obtain ⟨z2, r2, _, w2⟩ := DataW.trod_int Tryz.underlying3 q2
  obtain ⟨f3, e3, t3, o3⟩ := fld8 (T := 79) (k := 3) (t := 47) (o := 3) (by kernel_rfl)
  have q3 := hfs 3 f3 e3
  rw [t3, o3, cells_u8, List.getElem?_eq_getElem (by omega)] at q3
  obtain ⟨z3, r3, _, w3⟩ := DataW.trod_int Tryz.underlying47 q3
  obtain ⟨f4, e4, t4, o4⟩ := fld8 (T := 79) (k := 4) (t := 47) (o := 4) (by kernel_rfl)
  have q4 := hfs 4 f4 e4
  rw [t4, o4, cells_u8, List.getElem?_eq_getElem (by omega)] at q4
  obtain ⟨z4, r4, _, w4⟩ := DataW.trod_int Tryz.underlying47 q4
  obtain ⟨f5, e5, t5, o5⟩ := fld8 (T := 79) (k := 5) (t := 4) (o := 5) (by kernel_rfl)
  have q5 := hfs 5 f5 e5
  rw [t5, o5, cells_b8, List.getElem?_eq_getElem (by omega)] at q5
  obtain ⟨z5, r5, _⟩ := DataW.trod_bool Tryz.underlying4 q5
  obtain ⟨f6, e6, t6, o6⟩ := fld8 (T := 79) (k := 6) (t := 50) (o := 6) (by kernel_rfl)
  have q6 := hfs 6 f6 e6
  rw [t6, o6, cells_msi, List.getElem?_eq_getElem (by omega)] at q6
  obtain ⟨g, i, r6⟩ := open_msi q6
  obtain ⟨c0, c1, c2, c3, c4, c5, c6, c7, rfl⟩ : ∃ c0 c1 c2 c3 c4 c5 c6 c7, cs = [c0, c1, c2, c3, c4, c5, c6, c7] := by
    match cs, hcl with
    | [c0, c1, c2, c3, c4, c5, c6, c7], _ => exact ⟨c0, c1, c2, c3, c4, c5, c6, c7, rfl⟩
  simp at r0 r1 r2 r3 r4 r5 r6
  obtain ⟨r6, r7⟩ := r6
  subst r0 r1 r2 r3 r4 r5 r6 r7
  have b3 := bounds_u64 w3
  have b4 := bounds_u64 w4
  exact ⟨⟨z0, z1, z2, z3, z4, z5, g, i⟩, rfl, ⟨bounds_i64 w0, bounds_i64 w1, bounds_i64 w2, ⟨b3.1, by show z3 < _; omega⟩, ⟨b4.1, by show z4 < _; omega⟩⟩⟩
end Go.Proofs.YtmdconecigenfaaGreat
namespace Go.Proofs.YtmdconecigenfaaGreat
open Go.ChangeShapes Go.WideShapes Go.ChangeAt Go.RowKit Go.Deep
set_option linter.unusedVariables false

structure EOpV where
  kind : Int
  size : Int
  off : Int
  v : Int
  x : OpV
def EOpV.cs (x : EOpV) : List Value := [.int .i64 x.kind, .int .i64 x.size, .int .u64 x.off, .int .u64 x.v, .int .i64 x.x.kind, .int .i64 x.x.dev, .int .i64 x.x.size, .int .u64 x.x.addr, .int .u64 x.x.data, .bool x.x.write, .int .i64 x.x.guest, .int .i64 x.x.irq]
structure EOpB (x : EOpV) : Prop where
  kind : -9223372036854775808 ≤ x.kind ∧ x.kind ≤ 9223372036854775807
  size : -9223372036854775808 ≤ x.size ∧ x.size ≤ 9223372036854775807
  off : 0 ≤ x.off ∧ x.off < 18446744073709551616
  v : 0 ≤ x.v ∧ x.v < 18446744073709551616
  x : OpB x.x
structure Ec (w : World) (ad : Option Addr) (la cap ab ao : Nat) (X : Nat → EOpV) : Prop where
  len : la ≤ cap
  cap : cap ≤ 9223372036854775807
  at0 : 0 < la → ad = some ⟨ab, ao, none⟩ ∧ ab < w.heap.size
  cell : ∀ i, i < la → ∀ j, j < 12 → w.cell? ⟨ab, ao + i * 12 + j, none⟩ = (X i).cs[j]?
  num : ∀ i, i < la → EOpB (X i)
theorem Ec.below {w w' : World} {ad : Option Addr} {la cap ab ao : Nat} {X : Nat → EOpV} (h : Ec w ad la cap ab ao X) (hb : Below w.heap.size w w') : Ec w' ad la cap ab ao X :=
  ⟨h.len, h.cap, fun q => ⟨(h.at0 q).1, Nat.lt_of_lt_of_le (h.at0 q).2 hb.size⟩, fun i hi j hj => by
    have hlt := (h.at0 (by omega)).2
    have e : ∀ o, w'.cell? ⟨ab, o, none⟩ = w.cell? ⟨ab, o, none⟩ := fun o => World.cell?_of_block (w := w) (hb.block _ hlt)
    rw [e]; exact h.cell i hi j hj, h.num⟩
theorem under_eop : Tryz.prog.underlying 81 = some (.struct (Tryz.prog.fieldsOf 81)) := by kernel_rfl
theorem cells_eop : Tryz.prog.cellsOf 81 = 12 := by kernel_rfl
theorem u_sEOp : Tryz.prog.underlying 23 = some (.slice 81) := by kernel_rfl
set_option maxRecDepth 100000 in
theorem open_eop {H : Type} {enc : TypeId × Value → H} {W : World} {base fuel : Nat} {cs : List Value} {x : DataW H × List MemPlace} (h : DataW.trod enc Tryz.prog W base (fun _ => true) true fuel 81 cs = some x) :
    ∃ X : EOpV, cs = X.cs ∧ EOpB X := by
  obtain ⟨xs, n, _, rfl, hcl, hlen, hfs⟩ := DataW.trod_struct under_eop h
  have hl : xs.length = 5 := by rw [hlen]; kernel_rfl
  rw [cells_eop] at hcl
  obtain ⟨f0, e0, t0, o0⟩ := fld8 (T := 81) (k := 0) (t := 3) (o := 0) (by kernel_rfl)
  have q0 := hfs 0 f0 e0
  rw [t0, o0, cells_i8, List.getElem?_eq_getElem (by omega)] at q0
  obtain ⟨z0, r0, _, w0⟩ := DataW.trod_int Tryz.underlying3 q0
  obtain ⟨f1, e1, t1, o1⟩ := fld8 (T := 81) (k := 1) (t := 3) (o := 1) (by kernel_rfl)
  have q1 := hfs 1 f1 e1
  rw [t1, o1, cells_i8, List.getElem?_eq_getElem (by omega)] at q1
  obtain ⟨z1, r1, _, w1⟩ := DataW.trod_int Tryz.underlying3 q1
  obtain ⟨f2, e2, t2, o2⟩ := fld8 (T := 81) (k := 2) (t := 47) (o := 2) (by kernel_rfl)
  have q2 := hfs 2 f2 e2
  rw [t2, o2, cells_u8, List.getElem?_eq_getElem (by omega)] at q2
  obtain ⟨z2, r2, _, w2⟩ := DataW.trod_int Tryz.underlying47 q2
  obtain ⟨f3, e3, t3, o3⟩ := fld8 (T := 81) (k := 3) (t := 47) (o := 3) (by kernel_rfl)
  have q3 := hfs 3 f3 e3
  rw [t3, o3, cells_u8, List.getElem?_eq_getElem (by omega)] at q3
  obtain ⟨z3, r3, _, w3⟩ := DataW.trod_int Tryz.underlying47 q3
  obtain ⟨f4, e4, t4, o4⟩ := fld8 (T := 81) (k := 4) (t := 79) (o := 4) (by kernel_rfl)
  have q4 := hfs 4 f4 e4
  rw [t4, o4, cells_op, List.getElem?_eq_getElem (by omega)] at q4
  obtain ⟨X, r4, b4⟩ := open_op q4
  obtain ⟨c0, c1, c2, c3, c4, c5, c6, c7, c8, c9, c10, c11, rfl⟩ : ∃ c0 c1 c2 c3 c4 c5 c6 c7 c8 c9 c10 c11, cs = [c0, c1, c2, c3, c4, c5, c6, c7, c8, c9, c10, c11] := by
    match cs, hcl with
    | [c0, c1, c2, c3, c4, c5, c6, c7, c8, c9, c10, c11], _ => exact ⟨c0, c1, c2, c3, c4, c5, c6, c7, c8, c9, c10, c11, rfl⟩
  simp [OpV.cs] at r0 r1 r2 r3 r4
  obtain ⟨g0, g1, g2, g3, g4, g5, g6, g7⟩ := r4
  subst r0 r1 r2 r3 g0 g1 g2 g3 g4 g5 g6 g7
  have b2 := bounds_u64 w2
  have b3 := bounds_u64 w3
  exact ⟨⟨z0, z1, z2, z3, X⟩, rfl, ⟨bounds_i64 w0, bounds_i64 w1, ⟨b2.1, by show z2 < _; omega⟩, ⟨b3.1, by show z3 < _; omega⟩, b4⟩⟩
set_option maxRecDepth 100000 in
/-- a script, as it stands -/
theorem open_eops {H : Type} {enc : TypeId × Value → H} {W : World} {base : Nat} {r : Reach} {b : Nat} {v : Value} {d : DataW H} {p : List MemPlace}
    (hv : Value.okWide Tryz.prog W r b 23 v) (h : DataW.Trod enc Tryz.prog W base (fun _ => true) true 23 v d p) (hlt : ∀ x ∈ p, x.block < W.heap.size) :
    ∃ (ad : Option Addr) (la cap ab ao : Nat) (X : Nat → EOpV), v = .slice ad la cap ∧ Ec W ad la cap ab ao X := by
  obtain ⟨a0, len, cap, rfl⟩ := okWide_slice u_sEOp hv
  obtain ⟨fuel, hf⟩ := h
  rcases open_slice u_sEOp hf with ⟨hcs, hx⟩ | ⟨a, len', cap', m, n, D, Pl, hcs, _, hl, hm, hmm, hx, hel⟩
  · simp [Value.cells] at hcs
    obtain ⟨rfl, rfl, rfl⟩ := hcs
    exact ⟨none, 0, 0, 0, 0, fun _ => ⟨0, 0, 0, 0, 0, 0, 0, 0, 0, false, 0, 0⟩, rfl, ⟨Nat.le_refl _, by decide, fun q => absurd q (by decide), fun i hi => absurd hi (Nat.not_lt_zero i), fun i hi => absurd hi (Nat.not_lt_zero i)⟩⟩
  · simp [Value.cells] at hcs
    obtain ⟨rfl, rfl, rfl⟩ := hcs
    simp only [if_true] at hmm
    have each : ∀ i, ∃ X : EOpV, i < len → EOpB X ∧ ∀ j, j < 12 → W.cell? (a.add (i * 12 + j)) = X.cs[j]? := fun i => by
      rcases Nat.lt_or_ge i len with hi | hi
      · obtain ⟨cs', h1, h2⟩ := hel i (by omega)
        obtain ⟨X, rfl, b0⟩ := open_eop h2
        rw [cells_eop] at h1
        obtain ⟨_, hlen, hcell⟩ := World.cells?_some h1
        refine ⟨X, fun _ => ⟨b0, fun j hj => ?_⟩⟩
        have := hcell j hj
        rw [addr_two] at this
        exact this
      · exact ⟨⟨0, 0, 0, 0, 0, 0, 0, 0, 0, false, 0, 0⟩, fun q => by omega⟩
    obtain ⟨X, hX⟩ := Classical.axiomOfChoice each
    clear each
    have hbl : ∀ h0 : 0 < len, a.spot = none ∧ a.block < W.heap.size := fun h0 => by
      have k0 := (hX 0 h0).2 0 (by decide)
      refine ⟨by simpa [Addr.add] using World.cell?_spot k0, ?_⟩
      obtain ⟨cs', h1, _⟩ := hel 0 (by omega)
      rw [cells_eop] at h1
      have := World.cells?_block h1 (by decide)
      simpa [Addr.add] using this
    obtain ⟨ab, ao, asp⟩ := a
    refine ⟨some ⟨ab, ao, asp⟩, len, cap, ab, ao, X, rfl, ⟨hl, by simpa [maxLen] using hm, fun h0 => ?_, fun i hi j hj => ?_, fun i hi => (hX i hi).1⟩⟩
    · obtain ⟨q1, q2⟩ := hbl h0
      obtain rfl : asp = none := q1
      exact ⟨rfl, q2⟩
    · obtain ⟨q1, q2⟩ := hbl (by omega)
      obtain rfl : asp = none := q1
      have k := (hX i hi).2 j hj
      rw [C.addr_add, ← Nat.add_assoc] at k
      exact k
theorem bytes_eop : Tryz.prog.bytesOf 81 = 96 := by kernel_rfl
end Go.Proofs.YtmdconecigenfaaGreat
namespace Go.Proofs.YtmdconecigenfaaGreat
open Go.RowKit Go.ChangeMaps Go.MapKept
open C (Only hid Mem Still ret_bool)
set_option linter.unusedVariables false
set_option maxRecDepth 100000

/-- an engine: its device, memory, gate; src, dst, len, status, msi, data, and what was copied -/
structure EV where
  dev : Int
  m : Nat
  g : Value
  r : Nat → Int
def EV.cells (v : EV) (d s : Int) (k : Value) : Array Value := #[.int .i64 v.dev, .pointer (some ⟨v.m, 0, none⟩), v.g, .int .u64 (v.r 0), .int .u64 (v.r 1), .int .u64 (v.r 2), .int .u64 (v.r 3), .int .u64 (v.r 4), .int .u64 (v.r 5), .int .u64 (v.r 6), .int .u32 d, .int .i32 s, .int .u32 0, k]
/-- its table -/
def eR (e : Nat) : Nat → Value
  | 0 => .agg #[.func (.func 107) #[.pointer (some ⟨e, 3, none⟩)] #[], .func (.func 108) #[.pointer (some ⟨e, 3, none⟩)] #[]]
  | 1 => .agg #[.func (.func 107) #[.pointer (some ⟨e, 4, none⟩)] #[], .func (.func 108) #[.pointer (some ⟨e, 4, none⟩)] #[]]
  | 2 => .agg #[.func (.func 107) #[.pointer (some ⟨e, 5, none⟩)] #[], .func (.func 108) #[.pointer (some ⟨e, 5, none⟩)] #[]]
  | 3 => .agg #[.func (.func 109) #[.pointer (some ⟨e, 0, none⟩)] #[], .func (.func 110) #[.pointer (some ⟨e, 0, none⟩)] #[]]
  | 4 => .agg #[.func (.func 107) #[.pointer (some ⟨e, 6, none⟩)] #[], .func (.func 111) #[.pointer (some ⟨e, 0, none⟩)] #[]]
  | 5 => .agg #[.func (.func 107) #[.pointer (some ⟨e, 7, none⟩)] #[], .func (.func 108) #[.pointer (some ⟨e, 7, none⟩)] #[]]
  | _ => .agg #[.func (.func 107) #[.pointer (some ⟨e, 8, none⟩)] #[], .func (.func 108) #[.pointer (some ⟨e, 8, none⟩)] #[]]
/-- the table: the entries that were laid (b), and no others, in whatever order -/
def TabP (e : Nat) (es : Array MapEntry) (b : Nat → Bool) : Prop := (∀ x, x ∈ es.toList → ∃ i, i < 7 ∧ b i = true ∧ x.key = .int .u64 (8 * (i : Int)) ∧ x.val = eR e i) ∧ ∀ i, i < 7 → b i = true → ∃ x, x ∈ es.toList ∧ x.key = .int .u64 (8 * (i : Int))
def Tab (w : World) (M e : Nat) : Prop := ∃ es c, w.heap[M]? = some (.map es c) ∧ TabP e es (fun _ => true)
theorem TabP.keys {e : Nat} {es : Array MapEntry} {b : Nat → Bool} (h : TabP e es b) : ∀ x ∈ es.toList, IsKey (.int .u64) x.key := fun x hx => by
  obtain ⟨i, -, -, h, -⟩ := h.1 x hx
  rw [h]; simp [IsKey]
theorem TabP.find {e : Nat} {es : Array MapEntry} {b : Nat → Bool} (h : TabP e es b) (i : Nat) (hi : i < 7) (hb : b i = true) : ∃ j, Instr.findNow (.int .u64) (.int .u64 (8 * (i : Int))) es.toList 0 = some (some (j, eR e i)) := by
  rcases findNow_spec (d := .int .u64) (k := .int .u64 (8 * (i : Int))) (by simp [IsKey]) es.toList 0 h.keys with ⟨-, h2⟩ | ⟨j, x, h1, h2, h3⟩
  · obtain ⟨x, hx, hk⟩ := h.2 i hi hb
    exact absurd hk (h2 x hx)
  · obtain ⟨i', -, -, hk, hv⟩ := h.1 x (List.mem_of_getElem? h2)
    rw [h3] at hk
    injection hk with _ hk
    obtain rfl : i = i' := by omega
    exact ⟨_, by rw [h1, hv]⟩
theorem TabP.miss {e : Nat} {es : Array MapEntry} {b : Nat → Bool} (h : TabP e es b) (k : Int) (hk : ∀ i : Nat, i < 7 → b i = true → k ≠ 8 * (i : Int)) : Instr.findNow (.int .u64) (.int .u64 k) es.toList 0 = some none := by
  rcases findNow_spec (d := .int .u64) (k := .int .u64 k) (by simp [IsKey]) es.toList 0 h.keys with ⟨h1, -⟩ | ⟨j, x, h1, h2, h3⟩
  · exact h1
  · obtain ⟨i', p, q, hh, hv⟩ := h.1 x (List.mem_of_getElem? h2)
    rw [h3] at hh
    injection hh with _ hh
    exact absurd hh (hk i' p q)
theorem TabP.push {e : Nat} {es : Array MapEntry} {b b' : Nat → Bool} (h : TabP e es b) (i : Nat) (hi : i < 7) (k : Int) (hk : k = 8 * (i : Int)) (v : Value) (hv : v = eR e i) (c : Nat) (hb : ∀ j, b' j = if j = i then true else b j) : TabP e (es.push ⟨.int .u64 k, v, c⟩) b' := by
  subst hk; subst hv
  refine ⟨fun x hx => ?_, fun j hj q => ?_⟩
  · rw [Array.toList_push, List.mem_append] at hx
    rcases hx with hx | hx
    · obtain ⟨j, h1, h2, h3, h4⟩ := h.1 x hx
      exact ⟨j, h1, by rw [hb]; split; rfl; exact h2, h3, h4⟩
    · obtain rfl : x = ⟨.int .u64 (8 * (i : Int)), eR e i, c⟩ := by simpa using hx
      exact ⟨i, hi, by rw [hb, if_pos rfl], rfl, rfl⟩
  · by_cases e1 : j = i
    · subst e1; exact ⟨⟨.int .u64 (8 * (j : Int)), eR e j, c⟩, by simp, rfl⟩
    · rw [hb, if_neg e1] at q
      obtain ⟨x, h1, h2⟩ := h.2 j hj q
      exact ⟨x, by rw [Array.toList_push]; exact List.mem_append_left _ h1, h2⟩
theorem TabP.nil (e : Nat) (b : Nat → Bool) (hb : ∀ j, b j = false) : TabP e #[] b := ⟨fun x hx => by simp at hx, fun i _ q => by rw [hb] at q; cases q⟩
def Eg (w : World) (e : Nat) (v : EV) : Prop := w.heap[e]? = some (.cells (v.cells 0 0 (.map none)) 119 (0, 0)) ∨ ∃ M, w.heap[e]? = some (.cells (v.cells 1 0 (.map (some M))) 119 (0, 0)) ∧ Tab w M e
theorem Eg.blk {w : World} {e : Nat} {v : EV} (h : Eg w e v) : ∃ d k, w.heap[e]? = some (.cells (v.cells d 0 k) 119 (0, 0)) := by
  rcases h with h | ⟨M, h, _⟩
  · exact ⟨_, _, h⟩
  · exact ⟨_, _, h⟩
theorem Eg.lt {w : World} {e : Nat} {v : EV} (h : Eg w e v) : e < w.heap.size := by obtain ⟨d, k, h⟩ := h.blk; exact lt_of_block h
theorem Eg.z {w : World} {e : Nat} {v : EV} (h : Eg w e v) (k : Nat) : w.frozen? ⟨e, k, none⟩ = false := by obtain ⟨d, x, h⟩ := h.blk; exact frozen_of_row _ _ k _ _ h
theorem Eg.c0 {w : World} {e : Nat} {v : EV} (h : Eg w e v) : w.cell? ⟨e, 0, none⟩ = some (.int .i64 v.dev) := by obtain ⟨d, x, h⟩ := h.blk; exact cell_of_row w e 0 _ _ _ h
theorem Eg.c1 {w : World} {e : Nat} {v : EV} (h : Eg w e v) : w.cell? ⟨e, 1, none⟩ = some (.pointer (some ⟨v.m, 0, none⟩)) := by obtain ⟨d, x, h⟩ := h.blk; exact cell_of_row w e 1 _ _ _ h
theorem Eg.c2 {w : World} {e : Nat} {v : EV} (h : Eg w e v) : w.cell? ⟨e, 2, none⟩ = some v.g := by obtain ⟨d, x, h⟩ := h.blk; exact cell_of_row w e 2 _ _ _ h
theorem Eg.c3 {w : World} {e : Nat} {v : EV} (h : Eg w e v) : w.cell? ⟨e, 3, none⟩ = some (.int .u64 (v.r 0)) := by obtain ⟨d, x, h⟩ := h.blk; exact cell_of_row w e 3 _ _ _ h
theorem Eg.c4 {w : World} {e : Nat} {v : EV} (h : Eg w e v) : w.cell? ⟨e, 4, none⟩ = some (.int .u64 (v.r 1)) := by obtain ⟨d, x, h⟩ := h.blk; exact cell_of_row w e 4 _ _ _ h
theorem Eg.c5 {w : World} {e : Nat} {v : EV} (h : Eg w e v) : w.cell? ⟨e, 5, none⟩ = some (.int .u64 (v.r 2)) := by obtain ⟨d, x, h⟩ := h.blk; exact cell_of_row w e 5 _ _ _ h
theorem Eg.c6 {w : World} {e : Nat} {v : EV} (h : Eg w e v) : w.cell? ⟨e, 6, none⟩ = some (.int .u64 (v.r 3)) := by obtain ⟨d, x, h⟩ := h.blk; exact cell_of_row w e 6 _ _ _ h
theorem Eg.c7 {w : World} {e : Nat} {v : EV} (h : Eg w e v) : w.cell? ⟨e, 7, none⟩ = some (.int .u64 (v.r 4)) := by obtain ⟨d, x, h⟩ := h.blk; exact cell_of_row w e 7 _ _ _ h
theorem Eg.c8 {w : World} {e : Nat} {v : EV} (h : Eg w e v) : w.cell? ⟨e, 8, none⟩ = some (.int .u64 (v.r 5)) := by obtain ⟨d, x, h⟩ := h.blk; exact cell_of_row w e 8 _ _ _ h
theorem Eg.c9 {w : World} {e : Nat} {v : EV} (h : Eg w e v) : w.cell? ⟨e, 9, none⟩ = some (.int .u64 (v.r 6)) := by obtain ⟨d, x, h⟩ := h.blk; exact cell_of_row w e 9 _ _ _ h
/-- no table is among what turns: cells alone -/
def CellsOnly (w : World) (T : Nat → Prop) : Prop := ∀ k, T k → ∃ c t f, w.heap[k]? = some (.cells c t f)
theorem Eg.only {w w' : World} {e : Nat} {v : EV} (h : Eg w e v) {T : Nat → Prop} (ho : Only T w w') (hc : ¬ T e) (hT : CellsOnly w T) : Eg w' e v := by
  rcases h with h | ⟨M, h, k⟩
  · exact .inl (ho.old h hc)
  · obtain ⟨es, n, k, kk⟩ := k
    refine .inr ⟨M, ho.old h hc, es, n, ho.old k fun q => ?_, kk⟩
    obtain ⟨a, b, d, e⟩ := hT M q
    rw [k] at e
    cases e
theorem Eg.below {w w' : World} {e : Nat} {v : EV} (h : Eg w e v) (hb : Below w.heap.size w w') : Eg w' e v :=
  h.only (T := fun _ => False) (.ofBelow hb) (fun q => q) (fun _ q => q.elim)
/-- another number in a place -/
def eu (r : Nat → Int) (k : Nat) (x : Int) : Nat → Int := fun j => if j = k then x else r j
def EV.set (v : EV) (k : Nat) (x : Int) : EV := ⟨v.dev, v.m, v.g, eu v.r k x⟩
theorem setCell_row (w : World) (g k : Nat) (cs cs' : Array Value) (t : TypeId) (v : Value) (hg : w.heap[g]? = some (.cells cs t (0, 0))) (he : cs.setIfInBounds k v = cs') : (w.setCell ⟨g, k, none⟩ v).heap[g]? = some (.cells cs' t (0, 0)) := by
  rw [setCell_eq_setRow w g k cs t (0, 0) v hg, he]
  exact setRow_heap w g cs _ t _ hg
theorem setCell_other_block (w : World) (e k : Nat) (x : Value) (M : Nat) (h : M ≠ e) : (w.setCell ⟨e, k, none⟩ x).heap[M]? = w.heap[M]? := by
  unfold World.setCell
  simp only [Array.getElem?_modify]
  rw [if_neg (fun q => h q.symm)]
theorem Eg.s0 {w : World} {e : Nat} {v : EV} (h : Eg w e v) (x : Int) : Eg (w.setCell ⟨e, 3, none⟩ (.int .u64 x)) e (v.set 0 x) := by
  rcases h with h | ⟨M, h, k⟩
  · exact .inl (setCell_row w e 3 _ ((v.set 0 x).cells 0 0 (.map none)) 119 _ h rfl)
  · obtain ⟨es, n, k, kk⟩ := k
    have hm : M ≠ e := fun q => by subst q; rw [h] at k; cases k
    exact .inr ⟨M, setCell_row w e 3 _ ((v.set 0 x).cells 1 0 (.map (some M))) 119 _ h rfl, es, n, (setCell_other_block w e _ _ M hm).trans k, kk⟩
theorem Eg.s1 {w : World} {e : Nat} {v : EV} (h : Eg w e v) (x : Int) : Eg (w.setCell ⟨e, 4, none⟩ (.int .u64 x)) e (v.set 1 x) := by
  rcases h with h | ⟨M, h, k⟩
  · exact .inl (setCell_row w e 4 _ ((v.set 1 x).cells 0 0 (.map none)) 119 _ h rfl)
  · obtain ⟨es, n, k, kk⟩ := k
    have hm : M ≠ e := fun q => by subst q; rw [h] at k; cases k
    exact .inr ⟨M, setCell_row w e 4 _ ((v.set 1 x).cells 1 0 (.map (some M))) 119 _ h rfl, es, n, (setCell_other_block w e _ _ M hm).trans k, kk⟩
theorem Eg.s2 {w : World} {e : Nat} {v : EV} (h : Eg w e v) (x : Int) : Eg (w.setCell ⟨e, 5, none⟩ (.int .u64 x)) e (v.set 2 x) := by
  rcases h with h | ⟨M, h, k⟩
  · exact .inl (setCell_row w e 5 _ ((v.set 2 x).cells 0 0 (.map none)) 119 _ h rfl)
  · obtain ⟨es, n, k, kk⟩ := k
    have hm : M ≠ e := fun q => by subst q; rw [h] at k; cases k
    exact .inr ⟨M, setCell_row w e 5 _ ((v.set 2 x).cells 1 0 (.map (some M))) 119 _ h rfl, es, n, (setCell_other_block w e _ _ M hm).trans k, kk⟩
theorem Eg.s3 {w : World} {e : Nat} {v : EV} (h : Eg w e v) (x : Int) : Eg (w.setCell ⟨e, 6, none⟩ (.int .u64 x)) e (v.set 3 x) := by
  rcases h with h | ⟨M, h, k⟩
  · exact .inl (setCell_row w e 6 _ ((v.set 3 x).cells 0 0 (.map none)) 119 _ h rfl)
  · obtain ⟨es, n, k, kk⟩ := k
    have hm : M ≠ e := fun q => by subst q; rw [h] at k; cases k
    exact .inr ⟨M, setCell_row w e 6 _ ((v.set 3 x).cells 1 0 (.map (some M))) 119 _ h rfl, es, n, (setCell_other_block w e _ _ M hm).trans k, kk⟩
theorem Eg.s4 {w : World} {e : Nat} {v : EV} (h : Eg w e v) (x : Int) : Eg (w.setCell ⟨e, 7, none⟩ (.int .u64 x)) e (v.set 4 x) := by
  rcases h with h | ⟨M, h, k⟩
  · exact .inl (setCell_row w e 7 _ ((v.set 4 x).cells 0 0 (.map none)) 119 _ h rfl)
  · obtain ⟨es, n, k, kk⟩ := k
    have hm : M ≠ e := fun q => by subst q; rw [h] at k; cases k
    exact .inr ⟨M, setCell_row w e 7 _ ((v.set 4 x).cells 1 0 (.map (some M))) 119 _ h rfl, es, n, (setCell_other_block w e _ _ M hm).trans k, kk⟩
theorem Eg.s5 {w : World} {e : Nat} {v : EV} (h : Eg w e v) (x : Int) : Eg (w.setCell ⟨e, 8, none⟩ (.int .u64 x)) e (v.set 5 x) := by
  rcases h with h | ⟨M, h, k⟩
  · exact .inl (setCell_row w e 8 _ ((v.set 5 x).cells 0 0 (.map none)) 119 _ h rfl)
  · obtain ⟨es, n, k, kk⟩ := k
    have hm : M ≠ e := fun q => by subst q; rw [h] at k; cases k
    exact .inr ⟨M, setCell_row w e 8 _ ((v.set 5 x).cells 1 0 (.map (some M))) 119 _ h rfl, es, n, (setCell_other_block w e _ _ M hm).trans k, kk⟩
theorem Eg.s6 {w : World} {e : Nat} {v : EV} (h : Eg w e v) (x : Int) : Eg (w.setCell ⟨e, 9, none⟩ (.int .u64 x)) e (v.set 6 x) := by
  rcases h with h | ⟨M, h, k⟩
  · exact .inl (setCell_row w e 9 _ ((v.set 6 x).cells 0 0 (.map none)) 119 _ h rfl)
  · obtain ⟨es, n, k, kk⟩ := k
    have hm : M ≠ e := fun q => by subst q; rw [h] at k; cases k
    exact .inr ⟨M, setCell_row w e 9 _ ((v.set 6 x).cells 1 0 (.map (some M))) 119 _ h rfl, es, n, (setCell_other_block w e _ _ M hm).trans k, kk⟩
theorem only_e (w : World) (e k : Nat) (x : Value) : Only (· = e) w (w.setCell ⟨e, k, none⟩ x) := C.Only.setCell (S := (· = e)) (Only.refl w) (p := ⟨e, k, none⟩) (.inl rfl) x
theorem cells_e {w : World} {e : Nat} {v : EV} (h : Eg w e v) : CellsOnly w (· = e) := fun k q => by subst q; obtain ⟨d, x, h⟩ := h.blk; exact ⟨_, _, _, h⟩
theorem x_Busy (w : World) (e : Nat) (v : EV) (h : Eg w e v) : Calls Tryz.prog 21 #[.pointer (some ⟨e, 0, none⟩)] w fun x w' => x = .returned (.bool (v.r 3 == 1)) ∧ w' = w := by
  have k6 := h.c6
  clear h
  go_enter Tryz.func21, Tryz.ntmps21
  go_wp2
  go_ret
  exact ⟨rfl, rfl⟩
end Go.Proofs.YtmdconecigenfaaGreat
namespace Go.Proofs.YtmdconecigenfaaGreat
open Go.RowKit
open C (Only hid)
set_option linter.unusedVariables false
set_option maxRecDepth 100000

/-- no two operations have one slot -/
def ndB (ops : Array Oper) : Bool := (List.range ops.size).all fun j => (List.range ops.size).all fun k => j == k || (match ops[j]?, ops[k]? with | some o, some p => o.dst.isNone || o.dst != p.dst | _, _ => true)
theorem ndB_spec {ops : Array Oper} (h : ndB ops = true) {j k : Nat} {o p : Oper} {d : Nat} (hj : ops[j]? = some o) (hk : ops[k]? = some p) (ho : o.dst = some d) (hp : p.dst = some d) : j = k := by
  unfold ndB at h
  have hjl : j < ops.size := (Array.getElem?_eq_some_iff.1 hj).1
  have hkl : k < ops.size := (Array.getElem?_eq_some_iff.1 hk).1
  have := List.all_eq_true.1 (List.all_eq_true.1 h j (by simpa using hjl)) k (by simpa using hkl)
  simp only [hj, hk, ho, hp] at this
  simpa using this
structure FrQ (ops : Array Oper) (vt : Nat → Value) (t0 : Array Value) (listed : Array Bool) (a : Act) : Prop where
  df : a.defers = []
  sz : a.tmps.size = t0.size
  ls : listed.size = ops.size
  keep : ∀ d, (ops.toList.all fun o => o.dst != some d) = true → a.tmps[d]? = t0[d]?
  val : ∀ j o d, ops[j]? = some o → o.dst = some d → listed.getD j false = true → a.tmps[d]? = some (vt d)
section
variable {ops : Array Oper} {vt : Nat → Value} {t0 : Array Value} {listed : Array Bool} {a : Act}
theorem FrQ.start (hs : listed = Array.replicate ops.size false) : FrQ ops vt t0 listed ⟨t0, []⟩ := by
  subst hs
  refine ⟨rfl, rfl, by simp, fun _ _ => rfl, fun j o d hj _ hl => ?_⟩
  have hjl : j < ops.size := (Array.getElem?_eq_some_iff.1 hj).1
  simp [hjl] at hl
theorem getD_set (l : Array Bool) (j k : Nat) (hj : j < l.size) : (l.setIfInBounds j true).getD k false = if k = j then true else l.getD k false := by
  by_cases e : k = j
  · subst e; simp [hj]
  · rw [if_neg e]
    simp only [Array.getD_eq_getD_getElem?, Array.getElem?_setIfInBounds]
    rw [if_neg (fun q => e q.symm)]
theorem FrQ.put (h : FrQ ops vt t0 listed a) (hn : ndB ops = true) {j : Nat} {o : Oper} {d : Nat} {v : Value} (ho : ops[j]? = some o) (hd : o.dst = some d) (hv : v = vt d) (hdl : d < t0.size) : FrQ ops vt t0 (listed.setIfInBounds j true) (a.put o.dst v) := by
  have hjl : j < listed.size := by rw [h.ls]; exact (Array.getElem?_eq_some_iff.1 ho).1
  subst hv
  rw [hd]
  refine ⟨h.df, by simp [Act.put, h.sz], by simp [h.ls], fun k hk => ?_, fun i p k hi hp hl => ?_⟩
  · have : k ≠ d := fun q => by
      subst q
      have := List.all_eq_true.1 hk o (by have := Array.mem_of_getElem? ho; exact Array.mem_toList_iff.2 this)
      simp [hd] at this
    simp only [Act.put, Array.getElem?_setIfInBounds]
    rw [if_neg (fun q => this q.symm)]
    exact h.keep k hk
  · rw [getD_set _ _ _ hjl] at hl
    simp only [Act.put, Array.getElem?_setIfInBounds]
    by_cases e : d = k
    · subst e
      rw [if_pos rfl, if_pos (by rw [h.sz]; exact hdl)]
    · rw [if_neg e]
      have : i ≠ j := fun q => by subst q; rw [ho] at hi; cases hi; rw [hd] at hp; exact e (Option.some.inj hp)
      rw [if_neg this] at hl
      exact h.val i p k hi hp hl
theorem FrQ.skip (h : FrQ ops vt t0 listed a) {j : Nat} {o : Oper} (ho : ops[j]? = some o) (hd : o.dst = none) (v : Value) : FrQ ops vt t0 (listed.setIfInBounds j true) (a.put o.dst v) := by
  have hjl : j < listed.size := by rw [h.ls]; exact (Array.getElem?_eq_some_iff.1 ho).1
  rw [hd]
  refine ⟨h.df, h.sz, by simp [h.ls], h.keep, fun i p k hi hp hl => ?_⟩
  rw [getD_set _ _ _ hjl] at hl
  have : i ≠ j := fun q => by subst q; rw [ho] at hi; cases hi; rw [hd] at hp; cases hp
  rw [if_neg this] at hl
  exact h.val i p k hi hp hl
theorem FrQ.ev (h : FrQ ops vt t0 listed a) {i : Nat} {o : Oper} {d : Nat} (hi : ops[i]? = some o) (hd : o.dst = some d) (hl : listed.getD i false = true) : a.tmps[d]?.getD undef = vt d := by
  simp only [h.val i o d hi hd hl, Option.getD_some]
theorem FrQ.base (h : FrQ ops vt t0 listed a) (d : Nat) (hd : (ops.toList.all fun o => o.dst != some d) = true) {v : Value} (hv : t0[d]? = some v) : a.tmps[d]?.getD undef = v := by
  simp only [h.keep d hd, hv, Option.getD_some]
end
/-- what an operation waits for has been done -/
theorem he_all {listed : Array Bool} {after : Array Edge} (he : ∀ e ∈ after, Region.binds .any e = true → listed.getD e.on false = true) (n : Nat) (hc : ((List.range n).all fun i => after.any fun e => e.on == i && Region.binds .any e) = true) (i : Nat) (hi : i < n) : listed.getD i false = true := by
  have := List.all_eq_true.1 hc i (by simpa using hi)
  obtain ⟨e, h1, h2⟩ := Array.any_eq_true'.1 this
  simp only [Bool.and_eq_true, beq_iff_eq] at h2
  rw [← h2.1]
  exact he e h1 h2.2
theorem wp_q {P : Program} {ops : Array Oper} {Q : Exit → Act → World → Prop} {i : Nat} {o : Oper} {K : Act → World → Prop} {a : Act} {w w' : World} {v : Value} (ho : ops[i]? = some o) (hg : o.guard = none) (hr : (execOp a.eval o).run P w = .ok (.value v) w') (h : K (a.put o.dst v) w') : wpOp P ops Q i K a w := by
  refine wpOp_step ho fun K' hK => ?_
  rw [if_pos (by simp [Region.wanted, hg])]
  unfold Oper.wp
  rw [hr]
  exact hK _ _ h
theorem wp_s {P : Program} {ops : Array Oper} {Q : Exit → Act → World → Prop} {i : Nat} {o : Oper} {K : Act → World → Prop} {a : Act} {w w' : World} (ho : ops[i]? = some o) (hg : o.guard = none) (hr : (execOp a.eval o).run P w = .ok .skip w') (h : K (a.put o.dst undef) w') : wpOp P ops Q i K a w := by
  refine wpOp_step ho fun K' hK => ?_
  rw [if_pos (by simp [Region.wanted, hg])]
  unfold Oper.wp
  rw [hr]
  exact hK _ _ h
theorem wpAny_fq {P : Program} {ops : Array Oper} {Q : Exit → Act → World → Prop} {t0 : Array Value} {w : World} (vt : Nat → Value) (V : Array Bool → World → Prop)
    (step : ∀ listed a w, FrQ ops vt t0 listed a ∧ V listed w → ∀ i ∈ Region.ready .any ops listed, wpOp P ops Q i (fun a' w' => FrQ ops vt t0 (listed.setIfInBounds i true) a' ∧ V (listed.setIfInBounds i true) w') a w)
    (fin : ∀ listed a w, FrQ ops vt t0 listed a ∧ V listed w → Region.ready .any ops listed = [] → Q .normal a w) (start : V (Array.replicate ops.size false) w) :
    wpAny P .any ops Q ops.size (Array.replicate ops.size false) ⟨t0, []⟩ w :=
  C.wpAny_inv (fun listed fr wr => FrQ ops vt t0 listed fr ∧ V listed wr) step fin _ _ _ _ (by simp) ⟨FrQ.start rfl, start⟩
end Go.Proofs.YtmdconecigenfaaGreat
