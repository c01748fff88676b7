/- The document's New; a device beside the document's. -/
import Derived.Test.YtnfbnbiiejaldaaGreatMH2
import Derived.Test.YtnfbnbiiejaldaaGreatMH3
import Derived.Test.YtnfbnbiiejaldaaGreatMC5
import Derived.Test.YtnfbnbiiejaldaaGreatCPFB
namespace Go.Proofs.YtnfbnbiiejaldaaGreat
open Go.RowKit
open C (Only hid Still ret_bool ret_int TwB Mem RMem row)
set_option linter.unusedVariables false
set_option maxRecDepth 100000

theorem own_src {w : World} {g cap : Nat} {l : List Int} (h : w.ownsRow 0 5 1 (.slice (some ⟨g, 0, none⟩) l.length cap) l.length (bys l)) : ∀ j u, (bys l)[j]? = some u → w.cell? ((⟨g, 0, none⟩ : Addr).add j) = some u := fun j u hu => h.cells (g := g) rfl j u hu
def z14 : Nat → Value := fun k => if k = 4 then .slice none 0 0 else if k = 20 ∨ k = 21 then .pointer none else .int .u64 0
/-- the copy of a disk, behind append -/
structure AC (w : World) (dl : List Int) (v : Value) (w' : World) : Prop where
  own : w'.ownsRow 0 5 1 v dl.length (bys dl)
  bel : Below w.heap.size w w'
  new : ∀ k, Ug v k → w.heap.size ≤ k
set_option maxHeartbeats 2000000 in
theorem d_New0 (w : World) (kd : Int) (hk : kd = 1 ∨ kd = 2 ∨ kd = 3) (u u2 : Value) :
    Calls Tryz.prog 40 #[.int .i64 kd, .slice none 0 0] w fun r w' => ∃ p ra dk, r = .returned (.tuple #[.pointer (some ⟨p, 0, none⟩), .int .i64 0]) ∧ RX w' p ra (ds0 kd u u2) dk (.slice none 0 0) (.slice none 0 0) (.slice none 0 0) ∧ AC w [] dk w' ∧ w.heap.size ≤ p ∧ (∀ i, i < 2 → w.heap.size ≤ ra i) := by
  have HRs := hid (fun (w1 : World) (p : Nat) (dk : Value) (x : Nat → Value) (h : w1.heap[p]? = some (.cells (rcs0 kd dk (.slice none 0 0) (.slice none 0 0) x) 89 (0, 0))) => d_reset w1 p kd dk (.slice none 0 0) (.slice none 0 0) x h u u2)
  have HFN : Hid (∀ (dk : Value) (w1 w2 : World) (n1 : Nat), AC w [] dk w1 → n1 = w1.heap.size → ∀ ra, RX w2 n1 ra (ds0 kd u u2) dk (.slice none 0 0) (.slice none 0 0) (.slice none 0 0) → ra = nra (w1.alloc (.cells (rcs0 kd dk (.slice none 0 0) (.slice none 0 0) (z14)) 89)) → Only (· = n1) (w1.alloc (.cells (rcs0 kd dk (.slice none 0 0) (.slice none 0 0) (z14)) 89)) w2 → ∃ p ra dk', (Ending.returned (.tuple #[.pointer (some ⟨n1, 0, none⟩), .int .i64 0]) : Ending) = .returned (.tuple #[.pointer (some ⟨p, 0, none⟩), .int .i64 0]) ∧ RX w2 p ra (ds0 kd u u2) dk' (.slice none 0 0) (.slice none 0 0) (.slice none 0 0) ∧ AC w [] dk' w2 ∧ w.heap.size ≤ p ∧ (∀ i, i < 2 → w.heap.size ≤ ra i)) := fun dk w1 w2 n1 ha hn ra hr hra ho => by
    have hs := ha.bel.size
    have b1 : Below w.heap.size w (w1.alloc (.cells (rcs0 kd dk (.slice none 0 0) (.slice none 0 0) (z14)) 89)) := ha.bel.alloc hs _
    have ho' : Only (· = n1) w1 w2 := (Only.ofBelow ((Below.refl w1.heap.size w1).alloc (Nat.le_refl _) _)).trans ho
    refine ⟨n1, ra, dk, rfl, hr, ⟨own_only ha.own ho' fun k hk z => ?_, ha.bel.trans (ho'.below _ hs fun k hk => by omega), ha.new⟩, by omega, fun i hi => by rw [hra]; simp [nra]; omega⟩
    obtain ⟨cur, hc⟩ := own_typ ha.own hk
    have := lt_of_block hc
    omega
  obtain ⟨i0, hi, hz0, hz1, hz2⟩ := info_parts info_u8
  have HON := hid (own_nil w 5 1)
  have HAC : Hid (AC w [] (.slice none 0 0) w) := ⟨own_nil _ _ _, Below.refl _ _, fun k hk => by cases hk⟩
  have hrs := HRs.out (w.alloc (.cells (rcs0 kd (.slice none 0 0) (.slice none 0 0) (.slice none 0 0) z14) 89)) w.heap.size (.slice none 0 0) z14 (heap_alloc_new w _)
  clear HRs
  rcases hk with rfl | rfl | rfl
  all_goals
    go_enter Tryz.func40, Tryz.ntmps40
    go_wp2_with (first
      | (at_builtin; refine wpList_append_own_none rfl _ _ 22 rfl 0 5 i0 1 u_su8 hi (.slice none 0 0) 0 [] rfl HON.out rfl ?_)
      | (go_at_call 74; refine hrs.mono ?_; rintro r w2 ⟨rfl, k1, k2⟩; have K := hid (HFN.out _ _ _ _ HAC.out rfl _ k1 rfl k2); clear k1 k2))
    go_returns
    exact K.out
end Go.Proofs.YtnfbnbiiejaldaaGreat
namespace Go.Proofs.YtnfbnbiiejaldaaGreat
open Go.RowKit
open C (Only hid Still ret_bool ret_int TwB Mem RMem row)
set_option linter.unusedVariables false
set_option maxRecDepth 100000

theorem cl_nilD (w : World) : C.Cl w none 0 0 0 0 (fun _ => (0, 0)) where
  len := Nat.le_refl _
  cap := by decide
  at0 := fun h => absurd h (by decide)
  cell := fun i hi => absurd hi (by omega)
  num := fun i hi => absurd hi (by omega)
theorem l_MemoryD (w : World) : Calls Tryz.prog 38 #[.int .u64 2147483648, .int .i64 3, .slice none 0 0] w fun e w' => ∃ p r U, e = .returned (.tuple #[.agg #[.pointer (some ⟨p, 0, none⟩), .pointer (some ⟨r, 0, none⟩)], .bool true]) ∧ TwB w' U p r 2147483648 3 (fun _ => 0) ∧ Below w.heap.size w w' ∧ ∀ k, U k → w.heap.size ≤ k :=
  C.c_MemoryB w 2147483648 (by decide) (by decide) (by decide) 3 (by decide) (by decide) none 0 0 0 0 _ (cl_nilD w)
/-- the law's own: both devices, both memories; B: where the memories' blocks end -/
structure LN (W w : World) (B e p mm rr n : Nat) (qb rq ra : Nat → Nat) (U : Nat → Prop) (d : DS) (dk se fr wt : Value) (f : Nat → Int) : Prop where
  dx : DY w e n qb rq d
  rx : RX w p ra d dk se fr wt
  tw : TwB w U mm rr 2147483648 3 f
  bel : Below W.heap.size W w
  ub : ∀ k, U k → W.heap.size ≤ k ∧ k < B
  wb : W.heap.size ≤ B
  db : ∀ k, DF e n qb rq k → B ≤ k
  pb : B ≤ p
  rb : B ≤ ra 0 ∧ B ≤ ra 1
theorem u_two14 : Tryz.prog.underlying 31 = some (.struct (Tryz.prog.fieldsOf 31)) := by kernel_rfl
theorem s_two14 : (Tryz.prog.info? 31).map (·.size) = some 4 := by kernel_rfl
set_option maxHeartbeats 2000000 in
theorem l_New0 (w : World) (kd : Int) (hk : kd = 1 ∨ kd = 2 ∨ kd = 3) : Calls Tryz.prog 12 #[.int .i64 kd, .slice none 0 0] w fun r w' => ∃ e p mm rr B qb rq ra U u dk dk2, r = .returned (.tuple #[.agg #[.pointer (some ⟨e, 0, none⟩), .pointer (some ⟨p, 0, none⟩), .pointer (some ⟨mm, 0, none⟩), .pointer (some ⟨rr, 0, none⟩)], .bool true]) ∧ LN w w' B e p mm rr (nqs kd) qb rq ra U (ds0 kd u dk) dk2 (.slice none 0 0) (.slice none 0 0) (.slice none 0 0) (fun _ => 0) ∧ w'.ownsRow 0 5 1 dk 0 [] := by
  obtain ⟨wa, hwa⟩ : ∃ wa, wa = w.alloc (.cells #[.pointer none, .pointer none, .pointer none, .pointer none] 31) := ⟨_, rfl⟩
  have HBa : Hid (Below w.heap.size w wa) := by rw [hwa]; exact (Below.refl _ _).alloc (Nat.le_refl _) _
  have HAa : Hid (wa.heap[w.heap.size]? = some (.cells #[.pointer none, .pointer none, .pointer none, .pointer none] 31 (0, 0))) := by rw [hwa]; exact heap_alloc_new w _
  have hM := l_MemoryD wa
  have HCB := hid (fun (w1 : World) => C.c_CopyBytes w1 none 0 0 (fun _ => 0) ⟨0, 0, none⟩ (by decide) (fun _ => ⟨rfl, rfl⟩) (fun z => absurd z (by decide)))
  have HN := hid (fun (w1 : World) (v : Value) (h : w1.ownsRow 0 5 1 v 0 (bys [])) => k_DNew w1 kd hk v [] h (by decide) (by decide) (.inr rfl))
  have HD := hid (fun (w1 : World) (u u2 : Value) => d_New0 w1 kd hk u u2)
  have HBB : Hid (∀ (w1 w3 w4 w5 : World) (mm rr : Nat) (U : Nat → Prop), TwB w1 U mm rr 2147483648 3 (fun _ => 0) → Below wa.heap.size wa w1 → Below (w1.alloc (.cells #[.pointer (some ⟨mm, 0, none⟩), .pointer (some ⟨rr, 0, none⟩)] 29)).heap.size (w1.alloc (.cells #[.pointer (some ⟨mm, 0, none⟩), .pointer (some ⟨rr, 0, none⟩)] 29)) w3 → Below w3.heap.size w3 w4 → Below w4.heap.size w4 w5 → w5.heap[w1.heap.size]? = some (.cells #[.pointer (some ⟨mm, 0, none⟩), .pointer (some ⟨rr, 0, none⟩)] 29 (0, 0)) ∧ w5.heap[w.heap.size]? = some (.cells #[.pointer none, .pointer none, .pointer none, .pointer none] 31 (0, 0)) ∧ TwB w5 U mm rr 2147483648 3 (fun _ => 0) ∧ Below w.heap.size w w5 ∧ w1.heap.size < w3.heap.size ∧ w3.heap.size ≤ w4.heap.size ∧ w.heap.size < w1.heap.size) := fun w1 w3 w4 w5 mm rr U ht h1 h2 h3 h4 => by
    have a2 := (Below.refl w1.heap.size w1).alloc (Nat.le_refl _) (.cells #[.pointer (some ⟨mm, 0, none⟩), .pointer (some ⟨rr, 0, none⟩)] 29)
    have n2 := heap_alloc_new w1 (.cells #[.pointer (some ⟨mm, 0, none⟩), .pointer (some ⟨rr, 0, none⟩)] 29)
    have s2 : (w1.alloc (.cells #[.pointer (some ⟨mm, 0, none⟩), .pointer (some ⟨rr, 0, none⟩)] 29)).heap.size = w1.heap.size + 1 := by simp
    have hb := h2.trans ((h3.mono h2.size).trans (h4.mono (Nat.le_trans h2.size h3.size)))
    have hb5 : Below w1.heap.size w1 w5 := a2.trans (hb.mono a2.size)
    have z2 := h2.size
    have lw := lt_of_block HAa.out
    refine ⟨(hb.block _ (by omega)).trans n2, (hb5.block _ (by have := h1.size; omega)).trans ((h1.block _ lw).trans HAa.out), ht.below hb5, HBa.out.trans ((h1.mono HBa.out.size).trans (hb5.mono (Nat.le_trans HBa.out.size h1.size))), by omega, h3.size, by have := h1.size; omega⟩
  have hkx := hid hk
  have HWA := hid hwa
  clear hwa hk
  go_enter Tryz.func12, Tryz.ntmps12
  go_upto_region 1 with fail
  refine wp_at (w0 := wa) HWA.out.symm ?_
  clear HWA
  go_wp2_with (first
    | (go_at_call 38; refine hM.mono ?_; rintro e w1 ⟨mm, rr, U, rfl, q1, q2, q3⟩; have T1 := hid q1; have B1 := hid q2; have U1 := hid q3; clear q1 q2 q3)
    | (go_at_call 34; refine (HCB.out _).mono ?_; rintro e w3 ⟨v3, rfl, q1, q2⟩; have V3 := hid q1; have B3 := hid q2; have hN := HN.out w3 v3 ⟨q1.1, q1.2.imp id fun ⟨g', cap', cur', z1, z2, z3⟩ => ⟨g', cap', cur', z1, Nat.zero_le _, z3⟩⟩; clear q1 q2)
    | (go_at_call 39; refine hN.mono ?_; rintro r w4 ⟨e, u, dk, M, b, rfl, q1⟩; have N4 := hid q1; have hD := HD.out w4 u dk; clear q1)
    | (go_at_call 40; refine hD.mono ?_; rintro r w5 ⟨p, ra, dk2, rfl, q1, q2, q3, q4⟩; have R5 := hid q1; have A5 := hid q2; have P5 := hid q3; have Q5 := hid q4; have hbb := HBB.out w1 w3 w4 w5 mm rr U T1.out B1.out B3.out N4.out.bel A5.out.bel; obtain ⟨x1, x2, x3⟩ := hbb; have X3 := hid x3; have X1 := hid x1; have X2 := hid x2; have k0 := cell_of_row w5 w1.heap.size 0 _ _ _ x1; have k1 := cell_of_row w5 w1.heap.size 1 _ _ _ x1; have l0 := cell_of_row w5 w.heap.size 0 _ _ _ x2; have l1 := cell_of_row w5 w.heap.size 1 _ _ _ x2; have l2 := cell_of_row w5 w.heap.size 2 _ _ _ x2; have l3 := cell_of_row w5 w.heap.size 3 _ _ _ x2; have y0 := frozen_of_row w5 w.heap.size 0 _ _ x2; have y1 := frozen_of_row w5 w.heap.size 1 _ _ x2; have y2 := frozen_of_row w5 w.heap.size 2 _ _ x2; have y3 := frozen_of_row w5 w.heap.size 3 _ _ x2; clear q1 q2 q3 q4 x1 x2 x3))
  have b0 := setRowB w5 w.heap.size 0 _ _ _ (.pointer (some ⟨e, 0, none⟩)) X2.out rfl
  have b1 := setRowB _ w.heap.size 1 _ _ _ (.pointer (some ⟨p, 0, none⟩)) b0 rfl
  have b2 := setRowB _ w.heap.size 2 _ _ _ (.pointer (some ⟨mm, 0, none⟩)) b1 rfl
  have b3 := setRowB _ w.heap.size 3 _ #[.pointer (some ⟨e, 0, none⟩), .pointer (some ⟨p, 0, none⟩), .pointer (some ⟨mm, 0, none⟩), .pointer (some ⟨rr, 0, none⟩)] _ (.pointer (some ⟨rr, 0, none⟩)) b2 rfl
  have B3' := hid b3
  clear b0 b1 b2 b3
  refine bodyPost_ret_by (results_pair (fn := Tryz.f12) rfl _ _ w.heap.size 31 #[.pointer (some ⟨e, 0, none⟩), .pointer (some ⟨p, 0, none⟩), .pointer (some ⟨mm, 0, none⟩), .pointer (some ⟨rr, 0, none⟩)] (0, 0) _ (by rfl) B3'.out u_two14 rfl s_two14 _ (by rfl)) (by rfl) ?_
  obtain ⟨qb, rq, hq, hqn⟩ := N4.out.qs
  obtain ⟨w6, hw6⟩ : ∃ w6, w6 = (((w5.setCell ⟨w.heap.size, 0, none⟩ (.pointer (some ⟨e, 0, none⟩))).setCell ⟨w.heap.size, 1, none⟩ (.pointer (some ⟨p, 0, none⟩))).setCell ⟨w.heap.size, 2, none⟩ (.pointer (some ⟨mm, 0, none⟩))).setCell ⟨w.heap.size, 3, none⟩ (.pointer (some ⟨rr, 0, none⟩)) := ⟨_, rfl⟩
  have ho : Only (· = w.heap.size) w5 w6 := by
    rw [hw6]
    exact (((only_c w5 w.heap.size 0 (.pointer (some ⟨e, 0, none⟩))).setCell (p := ⟨w.heap.size, 1, none⟩) (.inl rfl) (.pointer (some ⟨p, 0, none⟩))).setCell (p := ⟨w.heap.size, 2, none⟩) (.inl rfl) (.pointer (some ⟨mm, 0, none⟩))).setCell (p := ⟨w.heap.size, 3, none⟩) (.inl rfl) (.pointer (some ⟨rr, 0, none⟩))
  rw [← hw6]
  clear hw6
  obtain ⟨t1, t2, t3, t4, t5⟩ := X3.out
  have hx4 : DX w4 e (nqs kd) qb rq (nv kd u dk) (fun _ => s0) (fun _ => q0) := ⟨N4.out.dvv, hq, nv_ok hkx.out, fun _ _ => s0_ok, fun _ _ => q0_ok⟩
  have hx6 : DX w6 e (nqs kd) qb rq (nv kd u dk) (fun _ => s0) (fun _ => q0) := (hx4.below A5.out.bel).only ho fun k hk => by subst hk; exact ⟨_, _, _, X2.out, by decide, by decide, by decide, by decide, by decide⟩
  refine ⟨e, p, mm, rr, w3.heap.size, qb, rq, ra, U, u, dk, dk2, rfl, ⟨hx6, ?_, t1.only ho fun k hk z => ?_, t2.trans (ho.below _ t2.size fun k hk => by omega), fun k hk => ⟨?_, ?_⟩, by omega, fun k hk => ?_, by have := P5.out; omega, ⟨by have := Q5.out 0 (by decide); omega, by have := Q5.out 1 (by decide); omega⟩⟩, ?_⟩
  · obtain ⟨r1, r2, r3, r4⟩ := R5.out
    exact ⟨ho.old r1 (ty_ne r1 X2.out (by decide)), r2.only ho (ty_ne r2 X2.out (by decide)), r3.only ho (ty_ne r3 X2.out (by decide)), r4⟩
  · have := U1.out k hk
    have := HBa.out.size
    have := lt_of_block HAa.out
    omega
  · have := U1.out k hk
    have := HBa.out.size
    omega
  · have := T1.out.lt hk
    omega
  · rcases hk with rfl | ⟨i, hi, rfl | rfl⟩
    · exact N4.out.eb
    · exact (hqn i hi).1
    · exact (hqn i hi).2
  · refine own_only (own_only N4.out.disk (T := fun _ => False) (.ofBelow A5.out.bel) (fun _ _ z => z)) ho fun k hk z => ?_
    obtain ⟨cur, hc⟩ := own_typ (own_only N4.out.disk (T := fun _ => False) (.ofBelow A5.out.bel) (fun _ _ z => z)) hk
    exact ty_ne hc X2.out (by decide) z
end Go.Proofs.YtnfbnbiiejaldaaGreat
namespace Go.Proofs.YtnfbnbiiejaldaaGreat
open Go.RowKit
open C (Only hid Still ret_bool ret_int TwB Mem RMem row)
set_option linter.unusedVariables false
set_option maxRecDepth 100000

theorem wrD_dk (n : Nat) (d : DS) (off : Int) (x : Nat) : (wrD n d off x).v.dk = d.v.dk := by
  unfold wrD
  repeat' split
  all_goals rfl
theorem k_Irq (w : World) (e : Nat) (v : DV) (h : Dv w e v) : Calls Tryz.prog 28 #[.pointer (some ⟨e, 0, none⟩)] w fun r w' => r = .returned (.bool (v.it != 0)) ∧ w' = w := by
  have c7 := h.c7
  clear h
  go_enter Tryz.func28, Tryz.ntmps28
  go_wp2
  go_ret
  exact ⟨rfl, rfl⟩
/-- the law's own: the device -/
structure FE (W w : World) (tb e p mm rr n : Nat) (qb rq : Nat → Nat) (d : DS) : Prop where
  tb : w.heap[tb]? = some (.cells #[.pointer (some ⟨e, 0, none⟩), .pointer (some ⟨p, 0, none⟩), .pointer (some ⟨mm, 0, none⟩), .pointer (some ⟨rr, 0, none⟩)] 31 (0, 0))
  dx : DY w e n qb rq d
  bel : Below W.heap.size W w
  db : ∀ k, DF e n qb rq k → W.heap.size ≤ k
  dk : ∃ ad c, d.v.dk = .slice ad 0 c
section
variable {W w : World} {tb e p mm rr n : Nat} {qb rq : Nat → Nat} {d : DS}
theorem FE.cs (h : FE W w tb e p mm rr n qb rq d) : w.cell? ⟨tb, 0, none⟩ = some (.pointer (some ⟨e, 0, none⟩)) ∧ w.cell? ⟨tb, 2, none⟩ = some (.pointer (some ⟨mm, 0, none⟩)) := ⟨cell_of_row w tb 0 _ _ _ h.tb, cell_of_row w tb 2 _ _ _ h.tb⟩
theorem FE.wr (h : FE W w tb e p mm rr n qb rq d) (g : Value) (off val : Int) (x : Nat) (x1 : x < 4294967296) (hv : IntKind.u32.wrap val = (x : Int)) (o0 : 0 ≤ off) (o1 : off < 18446744073709551616) (hR : isReg off 4 = true) (hk : off ≠ 80) (d' : DS) (hd : d' = wrD n d off x) :
    Calls Tryz.prog 26 #[.pointer (some ⟨e, 0, none⟩), g, .int .u64 off, .int .i64 4, .int .u64 val] w fun r w' => r = .returned (.bool true) ∧ FE W w' tb e p mm rr n qb rq d' := by
  subst hd
  refine (k_Wr (g := g) h.dx x1 hv off o0 o1 hR hk).mono ?_
  rintro r w' ⟨rfl, k1, k2⟩
  refine ⟨rfl, ⟨k2.old h.tb fun z => ?_, k1, h.bel.trans (k2.below _ h.bel.size h.db), h.db, ?_⟩⟩
  · obtain ⟨c, t, f, h1, h2⟩ := DX.types h.dx tb z
    rw [h.tb] at h1
    injection h1 with h1
    injection h1 with _ h1
    subst h1
    rcases h2 with h2 | h2 | h2 <;> exact absurd h2 (by decide)
  · rw [wrD_dk]; exact h.dk
theorem FE.rd (h : FE W w tb e p mm rr n qb rq d) (off : Int) (o0 : 0 ≤ off) (o1 : off < 18446744073709551616) (hR : isReg off 4 = true) (y : Int) (hy : tlF d.v n d.q 0 off = y) :
    Calls Tryz.prog 36 #[.pointer (some ⟨e, 0, none⟩), .int .u64 off, .int .i64 4] w fun r w' => r = .returned (.tuple #[.int .u64 y, .bool true]) ∧ w' = w := by
  obtain ⟨ad, c, hd⟩ := h.dk
  have h' : DX w e n qb rq d.v d.s d.q := h.dx
  refine (k_DRead h'.dv h'.ok h'.qs ad 0 c hd (by decide) off 4 o0 o1).mono ?_
  rintro r w' ⟨rfl, rfl⟩
  rw [hR]
  exact ⟨by rw [← hy]; rfl, rfl⟩
theorem FE.irq (h : FE W w tb e p mm rr n qb rq d) (y : Int) (hy : d.v.it = y) : Calls Tryz.prog 28 #[.pointer (some ⟨e, 0, none⟩)] w fun r w' => r = .returned (.bool (y != 0)) ∧ w' = w := by
  have h' : DX w e n qb rq d.v d.s d.q := h.dx
  rw [← hy]
  exact k_Irq w e d.v h'.dv
end
/-- made -/
theorem FE.of {W w : World} {B e p mm rr n : Nat} {qb rq ra : Nat → Nat} {U : Nat → Prop} {d : DS} {dk se fr wt : Value} {f : Nat → Int} (h : LN W w B e p mm rr n qb rq ra U d dk se fr wt f) {W0 : World} (h0 : Below W0.heap.size W0 W) (hd : ∃ ad c, d.v.dk = .slice ad 0 c) : FE W0 (w.alloc (.cells #[.pointer (some ⟨e, 0, none⟩), .pointer (some ⟨p, 0, none⟩), .pointer (some ⟨mm, 0, none⟩), .pointer (some ⟨rr, 0, none⟩)] 31)) w.heap.size e p mm rr n qb rq d := by
  have hb := h0.trans (h.bel.mono h0.size)
  exact ⟨heap_alloc_new w _, DX.below h.dx ((Below.refl _ _).alloc (Nat.le_refl _) _), hb.alloc hb.size _, fun k hk => Nat.le_trans h0.size (Nat.le_trans h.wb (h.db k hk)), hd⟩
theorem nu64 : ∀ k : Fin 256, bits BinOp.andNot IntKind.u64 (k.val : Int) 64 = ((k.val - k.val / 64 % 2 * 64 : Nat) : Int) := by decide +kernel
theorem nu8 : ∀ k : Fin 256, bits BinOp.andNot IntKind.u64 (k.val : Int) 8 = ((k.val - k.val / 8 % 2 * 8 : Nat) : Int) := by decide +kernel
theorem fe_facts (n : Nat) (kd : Int) (u dk : Value) (lo hi st : Nat) (d0 d1 d2 d3 d4 d5 d6 d7 d8 : DS) (h0 : d0 = ds0 kd u dk) (h1 : d1 = wrD n d0 20 1) (h2 : d2 = wrD n d1 20 0) (h3 : d3 = wrD n d2 36 0) (h4 : d4 = wrD n d3 32 lo) (h5 : d5 = wrD n d4 36 1) (h6 : d6 = wrD n d5 32 hi) (h7 : d7 = wrD n d6 112 st) (h8 : d8 = wrD n d7 112 0) :
    tlF d1.v n d1.q 0 16 = 1 ∧ tlF d2.v n d2.q 0 16 = 0 ∧ tlF d7.v n d7.q 0 112 = (if st = 0 then 0 else (st2 st (decide (lo = 0) && decide (hi = 1)) : Int)) ∧ tlF d8.v n d8.q 0 112 = 0 ∧ d8.v.it = 0 := by
  have a1 : d1.v.so = 1 := by rw [h1, h0]; simp [wrD, DS.v']
  have a2 : d2.v.so = 0 := by rw [h2]; simp [wrD, DS.v']
  have b0 : d0.v.st = 0 ∧ d0.v.a0 = 0 ∧ d0.v.a1 = 0 := by rw [h0]; exact ⟨rfl, rfl, rfl⟩
  have b2 : d2.v.st = 0 ∧ d2.v.a0 = 0 ∧ d2.v.a1 = 0 := by rw [h2, h1]; simp [wrD, DS.v', b0]
  have b3 : d3.v.st = 0 ∧ d3.v.a0 = 0 ∧ d3.v.a1 = 0 ∧ d3.v.sa = 0 := by rw [h3]; simp [wrD, DS.v', b2]
  have b4 : d4.v.st = 0 ∧ d4.v.a0 = lo ∧ d4.v.a1 = 0 := by rw [h4]; simp [wrD, DS.v', b3]
  have b5 : d5.v.st = 0 ∧ d5.v.a0 = lo ∧ d5.v.a1 = 0 ∧ d5.v.sa = 1 := by rw [h5]; simp [wrD, DS.v', b4]
  have b6 : d6.v.st = 0 ∧ d6.v.a0 = lo ∧ d6.v.a1 = hi := by rw [h6]; simp [wrD, DS.v', b5]
  have f6 : ftr d6.v = (decide (lo = 0) && decide (hi = 1)) := by
    unfold ftr
    rw [b6.2.1, b6.2.2]
    congr 1 <;> (congr 1; apply propext; omega)
  have b7 : d7.v.st = (if st = 0 then 0 else (st2 st (decide (lo = 0) && decide (hi = 1)) : Int)) := by
    rw [h7]
    by_cases z : st = 0
    · subst z; simp [wrD, DV.rst]
    · simp only [wrD, z, DS.v', if_false, if_true]
      simp [b6.1, f6, stF]
  have b8 : d8.v.st = 0 ∧ d8.v.it = 0 := by rw [h8]; simp [wrD, DV.rst]
  refine ⟨?_, ?_, ?_, ?_, b8.2⟩
  · simp [tlF, a1]
  · simp [tlF, a2]
  · rw [← b7]; simp [tlF]
  · simp [tlF, b8.1]
set_option maxHeartbeats 4000000 in
theorem w_VirtdevFeatures (w : World) (kind : Int) (k0 : -9223372036854775808 ≤ kind) (k1 : kind ≤ 9223372036854775807) (low : Int) (l0 : 0 ≤ low) (l1 : low < 18446744073709551616) (high : Int) (h0 : 0 ≤ high) (h1 : high < 18446744073709551616) (status : Int) (s0' : 0 ≤ status) (s1' : status < 18446744073709551616) :
    Calls Tryz.prog 7 #[.int .i64 kind, .int .u64 low, .int .u64 high, .int .u64 status] w fun r w' => r = .returned (.bool true) ∧ Below w.heap.size w w' := by
  have hp0 := C.c_Place kind 3 (by decide) (by decide) k0 k1
  have m0 := Int.emod_nonneg kind (show (3 : Int) ≠ 0 by decide)
  have m1 := Int.emod_lt_of_pos kind (show (0 : Int) < 3 by decide)
  obtain ⟨lo, hlo⟩ : ∃ lo : Nat, (lo : Int) = low % 4294967296 := ⟨(low % 4294967296).toNat, by omega⟩
  obtain ⟨hi, hhi⟩ : ∃ hi : Nat, (hi : Int) = high % 4294967296 := ⟨(high % 4294967296).toNat, by omega⟩
  obtain ⟨st, hst⟩ : ∃ st : Nat, (st : Int) = status % 4294967296 := ⟨(status % 4294967296).toNat, by omega⟩
  have wl : IntKind.u32.wrap low = (lo : Int) := by rw [IntKind.wrap_u32, hlo]
  have wh : IntKind.u32.wrap high = (hi : Int) := by rw [IntKind.wrap_u32, hhi]
  have ws : IntKind.u32.wrap status = (st : Int) := by rw [IntKind.wrap_u32, hst]
  have bl : lo < 4294967296 := by omega
  have bh : hi < 4294967296 := by omega
  have bs : st < 4294967296 := by omega
  have e1 : low.tmod 4294967296 = (lo : Int) := by rw [Int.tmod_eq_emod_of_nonneg l0, hlo]
  have e2 : high.tmod 4294967296 = (hi : Int) := by rw [Int.tmod_eq_emod_of_nonneg h0, hhi]
  have e3 : status.tmod 4294967296 = (st : Int) := by rw [Int.tmod_eq_emod_of_nonneg s0', hst]
  obtain ⟨s6, hs6⟩ : ∃ s6 : Nat, s6 = st % 256 := ⟨_, rfl⟩
  have e4 : status.tmod 256 = (s6 : Int) := by rw [Int.tmod_eq_emod_of_nonneg s0']; omega
  have e5 : bits BinOp.andNot IntKind.u64 (s6 : Int) 64 = (st1 st : Int) := by
    rw [hs6]
    exact (nu64 ⟨st % 256, by omega⟩).trans (by show ((st % 256 - st % 256 / 64 % 2 * 64 : Nat) : Int) = (st1 st : Int); unfold st1; omega)
  have e6 : bits BinOp.andNot IntKind.u64 (st1 st : Int) 8 = (st2 st false : Int) := nu8 ⟨st1 st, (st1_b st).1⟩
  have HNw := hid (fun (w1 : World) (kd : Int) (hk : kd = 1 ∨ kd = 2 ∨ kd = 3) => l_New0 w1 kd hk)
  have hA := l_awake
  have b6 : s6 < 256 := by omega
  clear hs6 hlo hhi hst k0 k1 l0 l1 h0 h1 s0' s1'
  obtain ⟨kx, hkx⟩ : ∃ kx, kx = kind % 3 := ⟨_, rfl⟩
  rw [← hkx] at hp0 m0 m1
  clear hkx
  have hkc : kx = 0 ∨ kx = 1 ∨ kx = 2 := by omega
  clear m0 m1
  rcases hkc with rfl | rfl | rfl
  · skip
    have HB0 := hid ((Below.refl w.heap.size w).alloc (Nat.le_refl _) (.cells #[.int .i64 1, .int .i64 2, .int .i64 3] 3))
    have hn := HNw.out (w.alloc (.cells #[.int .i64 1, .int .i64 2, .int .i64 3] 3)) 1 (by decide)
    clear HNw
    go_enter Tryz.func7, Tryz.ntmps7
    go_upto_region 4 with (first
      | (go_at_call 20; refine (hp0 _).mono ?_; rintro e' w' ⟨rfl, hw⟩; obtain rfl := hw.symm)
      | (go_at_call 12; refine hn.mono ?_; rintro r w2 ⟨e, p, mm, rr, B, qb, rq, ra, U, u, dk, dk2, rfl, q1, q2⟩; obtain ⟨da, dc', hdk⟩ := own_form q2; have F0 := hid (FE.of q1 HB0.out ⟨da, dc', hdk⟩); clear q1 q2))
    obtain ⟨w3, hw3⟩ : ∃ w3, w3 = w2.alloc (.cells #[.pointer (some ⟨e, 0, none⟩), .pointer (some ⟨p, 0, none⟩), .pointer (some ⟨mm, 0, none⟩), .pointer (some ⟨rr, 0, none⟩)] 31) := ⟨_, rfl⟩
    refine wp_at (w0 := w3) hw3.symm ?_
    rw [← hw3] at F0
    clear hw3
    generalize w2.heap.size = tb at *
    obtain ⟨d0, h0⟩ : ∃ d, d = ds0 1 u dk := ⟨_, rfl⟩
    rw [← h0] at F0
    obtain ⟨d1, h1⟩ : ∃ d, d = wrD (nqs 1) d0 20 1 := ⟨_, rfl⟩
    obtain ⟨d2, h2⟩ : ∃ d, d = wrD (nqs 1) d1 20 0 := ⟨_, rfl⟩
    obtain ⟨d3, h3⟩ : ∃ d, d = wrD (nqs 1) d2 36 0 := ⟨_, rfl⟩
    obtain ⟨d4, h4⟩ : ∃ d, d = wrD (nqs 1) d3 32 lo := ⟨_, rfl⟩
    obtain ⟨d5, h5⟩ : ∃ d, d = wrD (nqs 1) d4 36 1 := ⟨_, rfl⟩
    obtain ⟨d6, h6⟩ : ∃ d, d = wrD (nqs 1) d5 32 hi := ⟨_, rfl⟩
    obtain ⟨d7, h7⟩ : ∃ d, d = wrD (nqs 1) d6 112 st := ⟨_, rfl⟩
    obtain ⟨d8, h8⟩ : ∃ d, d = wrD (nqs 1) d7 112 0 := ⟨_, rfl⟩
    obtain ⟨y1, y2, y7, y8, y9⟩ := fe_facts (nqs 1) 1 u dk lo hi st d0 d1 d2 d3 d4 d5 d6 d7 d8 h0 h1 h2 h3 h4 h5 h6 h7 h8
    obtain ⟨S, hS⟩ : ∃ S : Int, S = (if st = 0 then 0 else (st2 st (decide (lo = 0) && decide (hi = 1)) : Int)) := ⟨_, rfl⟩
    rw [← hS] at y7
    have H1 := hid h1
    have H2 := hid h2
    have H3 := hid h3
    have H4 := hid h4
    have H5 := hid h5
    have H6 := hid h6
    have H7 := hid h7
    have H8 := hid h8
    have Y1 := hid y1
    have Y2 := hid y2
    have Y7 := hid y7
    have Y8 := hid y8
    have Y9 := hid y9
    have HS := hid hS
    have E5 := hid e5
    have E6 := hid e6
    obtain ⟨ca0, cb0⟩ := F0.out.cs
    clear h0 h1 h2 h3 h4 h5 h6 h7 h8 y1 y2 y7 y8 y9 hS e5 e6
    go_upto_region 14 with (first
      | (go_at_call 26; (with_reducible refine (F0.out.wr _ 20 1 1 (by decide) (by decide) (by decide) (by decide) (by decide) (by decide) d1 H1.out).mono ?_); rintro r v1 ⟨rfl, q⟩; have F1 := hid q; obtain ⟨ca1, cb1⟩ := q.cs; clear F0 q)
      | (go_at_call 26; (with_reducible refine (F1.out.wr _ 20 0 0 (by decide) (by decide) (by decide) (by decide) (by decide) (by decide) d2 H2.out).mono ?_); rintro r v2 ⟨rfl, q⟩; have F2 := hid q; obtain ⟨ca2, cb2⟩ := q.cs; clear F1 q)
      | (go_at_call 26; (with_reducible refine (F2.out.wr _ 36 0 0 (by decide) (by decide) (by decide) (by decide) (by decide) (by decide) d3 H3.out).mono ?_); rintro r v3 ⟨rfl, q⟩; have F3 := hid q; obtain ⟨ca3, cb3⟩ := q.cs; clear F2 q)
      | (go_at_call 26; (with_reducible refine (F3.out.wr _ 32 low lo bl wl (by decide) (by decide) (by decide) (by decide) d4 H4.out).mono ?_); rintro r v4 ⟨rfl, q⟩; have F4 := hid q; obtain ⟨ca4, cb4⟩ := q.cs; clear F3 q)
      | (go_at_call 26; (with_reducible refine (F4.out.wr _ 36 1 1 (by decide) (by decide) (by decide) (by decide) (by decide) (by decide) d5 H5.out).mono ?_); rintro r v5 ⟨rfl, q⟩; have F5 := hid q; obtain ⟨ca5, cb5⟩ := q.cs; clear F4 q)
      | (go_at_call 26; (with_reducible refine (F5.out.wr _ 32 high hi bh wh (by decide) (by decide) (by decide) (by decide) d6 H6.out).mono ?_); rintro r v6 ⟨rfl, q⟩; have F6 := hid q; obtain ⟨ca6, cb6⟩ := q.cs; clear F5 q)
      | (go_at_call 26; (with_reducible refine (F6.out.wr _ 112 status st bs ws (by decide) (by decide) (by decide) (by decide) d7 H7.out).mono ?_); rintro r v7 ⟨rfl, q⟩; have F7 := hid q; obtain ⟨ca7, cb7⟩ := q.cs; clear F6 q)
      | (go_at_call 36; (with_reducible refine (F1.out.rd 16 (by decide) (by decide) (by decide) 1 Y1.out).mono ?_); rintro r w' ⟨rfl, hw⟩; obtain rfl := hw.symm)
      | (go_at_call 36; (with_reducible refine (F2.out.rd 16 (by decide) (by decide) (by decide) 0 Y2.out).mono ?_); rintro r w' ⟨rfl, hw⟩; obtain rfl := hw.symm)
      | (go_at_call 36; (with_reducible refine (F7.out.rd 112 (by decide) (by decide) (by decide) S Y7.out).mono ?_); rintro r w' ⟨rfl, hw⟩; obtain rfl := hw.symm))
    have g64 : bits BinOp.andNot IntKind.u64 (s6 : Int) 64 = (st1 st : Int) := E5.out
    have g8 : bits BinOp.andNot IntKind.u64 (st1 st : Int) 8 = (st2 st false : Int) := E6.out
    have w256 : IntKind.u64.wrap (s6 : Int) = (s6 : Int) := by rw [IntKind.wrap_u64]; omega
    have wst : IntKind.u64.wrap (st : Int) = (st : Int) := by rw [IntKind.wrap_u64]; omega
    have wlo : IntKind.u64.wrap (lo : Int) = (lo : Int) := by rw [IntKind.wrap_u64]; omega
    have whi : IntKind.u64.wrap (hi : Int) = (hi : Int) := by rw [IntKind.wrap_u64]; omega
    clear Y1 Y2 Y7
    by_cases z : st = 0
    · by_cases zl : lo = 0
      · by_cases zh : hi = 1
        · have h9 : S = 0 := by rw [HS.out, if_pos z]
          subst h9
          have b1 : ((st : Int) == 0) = true := by simp [z]
          have c1 : ((lo : Int) != 0) = false := by simp [zl]
          have c2 : ((hi : Int) != 1) = false := by simp [zh]
          clear HS E5 E6 z zl zh
          go_wp2_with (first
            | (go_at_call 26; (with_reducible refine (F7.out.wr _ 112 0 0 (by decide) (by decide) (by decide) (by decide) (by decide) (by decide) d8 H8.out).mono ?_); rintro r v8 ⟨rfl, q⟩; have F8 := hid q; obtain ⟨ca8, cb8⟩ := q.cs; clear F7 q)
            | (go_at_call 36; (with_reducible refine (F8.out.rd 112 (by decide) (by decide) (by decide) 0 Y8.out).mono ?_); rintro r w' ⟨rfl, hw⟩; obtain rfl := hw.symm)
            | (go_at_call 28; refine (F8.out.irq 0 Y9.out).mono ?_; rintro r w' ⟨rfl, hw⟩; obtain rfl := hw.symm)
            | (go_at_call 13; refine (hA _).mono ?_; rintro r v9 ⟨rfl, q1⟩; have B9 := hid q1; clear q1))
          go_ret
          exact ⟨rfl, F8.out.bel.trans (B9.out.mono F8.out.bel.size)⟩
        · have h9 : S = 0 := by rw [HS.out, if_pos z]
          subst h9
          have b1 : ((st : Int) == 0) = true := by simp [z]
          have c1 : ((lo : Int) != 0) = false := by simp [zl]
          have c2 : ((hi : Int) != 1) = true := by simp; omega
          clear HS E5 E6 z zl zh
          go_wp2_with (first
            | (go_at_call 26; (with_reducible refine (F7.out.wr _ 112 0 0 (by decide) (by decide) (by decide) (by decide) (by decide) (by decide) d8 H8.out).mono ?_); rintro r v8 ⟨rfl, q⟩; have F8 := hid q; obtain ⟨ca8, cb8⟩ := q.cs; clear F7 q)
            | (go_at_call 36; (with_reducible refine (F8.out.rd 112 (by decide) (by decide) (by decide) 0 Y8.out).mono ?_); rintro r w' ⟨rfl, hw⟩; obtain rfl := hw.symm)
            | (go_at_call 28; refine (F8.out.irq 0 Y9.out).mono ?_; rintro r w' ⟨rfl, hw⟩; obtain rfl := hw.symm)
            | (go_at_call 13; refine (hA _).mono ?_; rintro r v9 ⟨rfl, q1⟩; have B9 := hid q1; clear q1))
          go_ret
          exact ⟨rfl, F8.out.bel.trans (B9.out.mono F8.out.bel.size)⟩
      · by_cases zh : hi = 1
        · have h9 : S = 0 := by rw [HS.out, if_pos z]
          subst h9
          have b1 : ((st : Int) == 0) = true := by simp [z]
          have c1 : ((lo : Int) != 0) = true := by simp [zl]
          have c2 : ((hi : Int) != 1) = false := by simp [zh]
          clear HS E5 E6 z zl zh
          go_wp2_with (first
            | (go_at_call 26; (with_reducible refine (F7.out.wr _ 112 0 0 (by decide) (by decide) (by decide) (by decide) (by decide) (by decide) d8 H8.out).mono ?_); rintro r v8 ⟨rfl, q⟩; have F8 := hid q; obtain ⟨ca8, cb8⟩ := q.cs; clear F7 q)
            | (go_at_call 36; (with_reducible refine (F8.out.rd 112 (by decide) (by decide) (by decide) 0 Y8.out).mono ?_); rintro r w' ⟨rfl, hw⟩; obtain rfl := hw.symm)
            | (go_at_call 28; refine (F8.out.irq 0 Y9.out).mono ?_; rintro r w' ⟨rfl, hw⟩; obtain rfl := hw.symm)
            | (go_at_call 13; refine (hA _).mono ?_; rintro r v9 ⟨rfl, q1⟩; have B9 := hid q1; clear q1))
          go_ret
          exact ⟨rfl, F8.out.bel.trans (B9.out.mono F8.out.bel.size)⟩
        · have h9 : S = 0 := by rw [HS.out, if_pos z]
          subst h9
          have b1 : ((st : Int) == 0) = true := by simp [z]
          have c1 : ((lo : Int) != 0) = true := by simp [zl]
          have c2 : ((hi : Int) != 1) = true := by simp; omega
          clear HS E5 E6 z zl zh
          go_wp2_with (first
            | (go_at_call 26; (with_reducible refine (F7.out.wr _ 112 0 0 (by decide) (by decide) (by decide) (by decide) (by decide) (by decide) d8 H8.out).mono ?_); rintro r v8 ⟨rfl, q⟩; have F8 := hid q; obtain ⟨ca8, cb8⟩ := q.cs; clear F7 q)
            | (go_at_call 36; (with_reducible refine (F8.out.rd 112 (by decide) (by decide) (by decide) 0 Y8.out).mono ?_); rintro r w' ⟨rfl, hw⟩; obtain rfl := hw.symm)
            | (go_at_call 28; refine (F8.out.irq 0 Y9.out).mono ?_; rintro r w' ⟨rfl, hw⟩; obtain rfl := hw.symm)
            | (go_at_call 13; refine (hA _).mono ?_; rintro r v9 ⟨rfl, q1⟩; have B9 := hid q1; clear q1))
          go_ret
          exact ⟨rfl, F8.out.bel.trans (B9.out.mono F8.out.bel.size)⟩
    · by_cases zl : lo = 0
      · by_cases zh : hi = 1
        · have h9 : S = ((st1 st : Nat) : Int) := by rw [HS.out, if_neg z, show (decide (lo = 0) && decide (hi = 1)) = true from by simp [zl, zh]]; rfl
          subst h9
          have b1 : ((st : Int) == 0) = false := by simp [z]
          have c1 : ((lo : Int) != 0) = false := by simp [zl]
          have c2 : ((hi : Int) != 1) = false := by simp [zh]
          clear HS E5 E6 z zl zh
          go_wp2_with (first
            | (go_at_call 26; (with_reducible refine (F7.out.wr _ 112 0 0 (by decide) (by decide) (by decide) (by decide) (by decide) (by decide) d8 H8.out).mono ?_); rintro r v8 ⟨rfl, q⟩; have F8 := hid q; obtain ⟨ca8, cb8⟩ := q.cs; clear F7 q)
            | (go_at_call 36; (with_reducible refine (F8.out.rd 112 (by decide) (by decide) (by decide) 0 Y8.out).mono ?_); rintro r w' ⟨rfl, hw⟩; obtain rfl := hw.symm)
            | (go_at_call 28; refine (F8.out.irq 0 Y9.out).mono ?_; rintro r w' ⟨rfl, hw⟩; obtain rfl := hw.symm)
            | (go_at_call 13; refine (hA _).mono ?_; rintro r v9 ⟨rfl, q1⟩; have B9 := hid q1; clear q1))
          go_ret
          exact ⟨rfl, F8.out.bel.trans (B9.out.mono F8.out.bel.size)⟩
        · have h9 : S = ((st2 st false : Nat) : Int) := by rw [HS.out, if_neg z, show (decide (lo = 0) && decide (hi = 1)) = false from by simp [zl, zh]]
          subst h9
          have b1 : ((st : Int) == 0) = false := by simp [z]
          have c1 : ((lo : Int) != 0) = false := by simp [zl]
          have c2 : ((hi : Int) != 1) = true := by simp; omega
          clear HS E5 E6 z zl zh
          go_wp2_with (first
            | (go_at_call 26; (with_reducible refine (F7.out.wr _ 112 0 0 (by decide) (by decide) (by decide) (by decide) (by decide) (by decide) d8 H8.out).mono ?_); rintro r v8 ⟨rfl, q⟩; have F8 := hid q; obtain ⟨ca8, cb8⟩ := q.cs; clear F7 q)
            | (go_at_call 36; (with_reducible refine (F8.out.rd 112 (by decide) (by decide) (by decide) 0 Y8.out).mono ?_); rintro r w' ⟨rfl, hw⟩; obtain rfl := hw.symm)
            | (go_at_call 28; refine (F8.out.irq 0 Y9.out).mono ?_; rintro r w' ⟨rfl, hw⟩; obtain rfl := hw.symm)
            | (go_at_call 13; refine (hA _).mono ?_; rintro r v9 ⟨rfl, q1⟩; have B9 := hid q1; clear q1))
          go_ret
          exact ⟨rfl, F8.out.bel.trans (B9.out.mono F8.out.bel.size)⟩
      · by_cases zh : hi = 1
        · have h9 : S = ((st2 st false : Nat) : Int) := by rw [HS.out, if_neg z, show (decide (lo = 0) && decide (hi = 1)) = false from by simp [zl, zh]]
          subst h9
          have b1 : ((st : Int) == 0) = false := by simp [z]
          have c1 : ((lo : Int) != 0) = true := by simp [zl]
          have c2 : ((hi : Int) != 1) = false := by simp [zh]
          clear HS E5 E6 z zl zh
          go_wp2_with (first
            | (go_at_call 26; (with_reducible refine (F7.out.wr _ 112 0 0 (by decide) (by decide) (by decide) (by decide) (by decide) (by decide) d8 H8.out).mono ?_); rintro r v8 ⟨rfl, q⟩; have F8 := hid q; obtain ⟨ca8, cb8⟩ := q.cs; clear F7 q)
            | (go_at_call 36; (with_reducible refine (F8.out.rd 112 (by decide) (by decide) (by decide) 0 Y8.out).mono ?_); rintro r w' ⟨rfl, hw⟩; obtain rfl := hw.symm)
            | (go_at_call 28; refine (F8.out.irq 0 Y9.out).mono ?_; rintro r w' ⟨rfl, hw⟩; obtain rfl := hw.symm)
            | (go_at_call 13; refine (hA _).mono ?_; rintro r v9 ⟨rfl, q1⟩; have B9 := hid q1; clear q1))
          go_ret
          exact ⟨rfl, F8.out.bel.trans (B9.out.mono F8.out.bel.size)⟩
        · have h9 : S = ((st2 st false : Nat) : Int) := by rw [HS.out, if_neg z, show (decide (lo = 0) && decide (hi = 1)) = false from by simp [zl, zh]]
          subst h9
          have b1 : ((st : Int) == 0) = false := by simp [z]
          have c1 : ((lo : Int) != 0) = true := by simp [zl]
          have c2 : ((hi : Int) != 1) = true := by simp; omega
          clear HS E5 E6 z zl zh
          go_wp2_with (first
            | (go_at_call 26; (with_reducible refine (F7.out.wr _ 112 0 0 (by decide) (by decide) (by decide) (by decide) (by decide) (by decide) d8 H8.out).mono ?_); rintro r v8 ⟨rfl, q⟩; have F8 := hid q; obtain ⟨ca8, cb8⟩ := q.cs; clear F7 q)
            | (go_at_call 36; (with_reducible refine (F8.out.rd 112 (by decide) (by decide) (by decide) 0 Y8.out).mono ?_); rintro r w' ⟨rfl, hw⟩; obtain rfl := hw.symm)
            | (go_at_call 28; refine (F8.out.irq 0 Y9.out).mono ?_; rintro r w' ⟨rfl, hw⟩; obtain rfl := hw.symm)
            | (go_at_call 13; refine (hA _).mono ?_; rintro r v9 ⟨rfl, q1⟩; have B9 := hid q1; clear q1))
          go_ret
          exact ⟨rfl, F8.out.bel.trans (B9.out.mono F8.out.bel.size)⟩
  · skip
    have HB0 := hid ((Below.refl w.heap.size w).alloc (Nat.le_refl _) (.cells #[.int .i64 1, .int .i64 2, .int .i64 3] 3))
    have hn := HNw.out (w.alloc (.cells #[.int .i64 1, .int .i64 2, .int .i64 3] 3)) 2 (by decide)
    clear HNw
    go_enter Tryz.func7, Tryz.ntmps7
    go_upto_region 4 with (first
      | (go_at_call 20; refine (hp0 _).mono ?_; rintro e' w' ⟨rfl, hw⟩; obtain rfl := hw.symm)
      | (go_at_call 12; refine hn.mono ?_; rintro r w2 ⟨e, p, mm, rr, B, qb, rq, ra, U, u, dk, dk2, rfl, q1, q2⟩; obtain ⟨da, dc', hdk⟩ := own_form q2; have F0 := hid (FE.of q1 HB0.out ⟨da, dc', hdk⟩); clear q1 q2))
    obtain ⟨w3, hw3⟩ : ∃ w3, w3 = w2.alloc (.cells #[.pointer (some ⟨e, 0, none⟩), .pointer (some ⟨p, 0, none⟩), .pointer (some ⟨mm, 0, none⟩), .pointer (some ⟨rr, 0, none⟩)] 31) := ⟨_, rfl⟩
    refine wp_at (w0 := w3) hw3.symm ?_
    rw [← hw3] at F0
    clear hw3
    generalize w2.heap.size = tb at *
    obtain ⟨d0, h0⟩ : ∃ d, d = ds0 2 u dk := ⟨_, rfl⟩
    rw [← h0] at F0
    obtain ⟨d1, h1⟩ : ∃ d, d = wrD (nqs 2) d0 20 1 := ⟨_, rfl⟩
    obtain ⟨d2, h2⟩ : ∃ d, d = wrD (nqs 2) d1 20 0 := ⟨_, rfl⟩
    obtain ⟨d3, h3⟩ : ∃ d, d = wrD (nqs 2) d2 36 0 := ⟨_, rfl⟩
    obtain ⟨d4, h4⟩ : ∃ d, d = wrD (nqs 2) d3 32 lo := ⟨_, rfl⟩
    obtain ⟨d5, h5⟩ : ∃ d, d = wrD (nqs 2) d4 36 1 := ⟨_, rfl⟩
    obtain ⟨d6, h6⟩ : ∃ d, d = wrD (nqs 2) d5 32 hi := ⟨_, rfl⟩
    obtain ⟨d7, h7⟩ : ∃ d, d = wrD (nqs 2) d6 112 st := ⟨_, rfl⟩
    obtain ⟨d8, h8⟩ : ∃ d, d = wrD (nqs 2) d7 112 0 := ⟨_, rfl⟩
    obtain ⟨y1, y2, y7, y8, y9⟩ := fe_facts (nqs 2) 2 u dk lo hi st d0 d1 d2 d3 d4 d5 d6 d7 d8 h0 h1 h2 h3 h4 h5 h6 h7 h8
    obtain ⟨S, hS⟩ : ∃ S : Int, S = (if st = 0 then 0 else (st2 st (decide (lo = 0) && decide (hi = 1)) : Int)) := ⟨_, rfl⟩
    rw [← hS] at y7
    have H1 := hid h1
    have H2 := hid h2
    have H3 := hid h3
    have H4 := hid h4
    have H5 := hid h5
    have H6 := hid h6
    have H7 := hid h7
    have H8 := hid h8
    have Y1 := hid y1
    have Y2 := hid y2
    have Y7 := hid y7
    have Y8 := hid y8
    have Y9 := hid y9
    have HS := hid hS
    have E5 := hid e5
    have E6 := hid e6
    obtain ⟨ca0, cb0⟩ := F0.out.cs
    clear h0 h1 h2 h3 h4 h5 h6 h7 h8 y1 y2 y7 y8 y9 hS e5 e6
    go_upto_region 14 with (first
      | (go_at_call 26; (with_reducible refine (F0.out.wr _ 20 1 1 (by decide) (by decide) (by decide) (by decide) (by decide) (by decide) d1 H1.out).mono ?_); rintro r v1 ⟨rfl, q⟩; have F1 := hid q; obtain ⟨ca1, cb1⟩ := q.cs; clear F0 q)
      | (go_at_call 26; (with_reducible refine (F1.out.wr _ 20 0 0 (by decide) (by decide) (by decide) (by decide) (by decide) (by decide) d2 H2.out).mono ?_); rintro r v2 ⟨rfl, q⟩; have F2 := hid q; obtain ⟨ca2, cb2⟩ := q.cs; clear F1 q)
      | (go_at_call 26; (with_reducible refine (F2.out.wr _ 36 0 0 (by decide) (by decide) (by decide) (by decide) (by decide) (by decide) d3 H3.out).mono ?_); rintro r v3 ⟨rfl, q⟩; have F3 := hid q; obtain ⟨ca3, cb3⟩ := q.cs; clear F2 q)
      | (go_at_call 26; (with_reducible refine (F3.out.wr _ 32 low lo bl wl (by decide) (by decide) (by decide) (by decide) d4 H4.out).mono ?_); rintro r v4 ⟨rfl, q⟩; have F4 := hid q; obtain ⟨ca4, cb4⟩ := q.cs; clear F3 q)
      | (go_at_call 26; (with_reducible refine (F4.out.wr _ 36 1 1 (by decide) (by decide) (by decide) (by decide) (by decide) (by decide) d5 H5.out).mono ?_); rintro r v5 ⟨rfl, q⟩; have F5 := hid q; obtain ⟨ca5, cb5⟩ := q.cs; clear F4 q)
      | (go_at_call 26; (with_reducible refine (F5.out.wr _ 32 high hi bh wh (by decide) (by decide) (by decide) (by decide) d6 H6.out).mono ?_); rintro r v6 ⟨rfl, q⟩; have F6 := hid q; obtain ⟨ca6, cb6⟩ := q.cs; clear F5 q)
      | (go_at_call 26; (with_reducible refine (F6.out.wr _ 112 status st bs ws (by decide) (by decide) (by decide) (by decide) d7 H7.out).mono ?_); rintro r v7 ⟨rfl, q⟩; have F7 := hid q; obtain ⟨ca7, cb7⟩ := q.cs; clear F6 q)
      | (go_at_call 36; (with_reducible refine (F1.out.rd 16 (by decide) (by decide) (by decide) 1 Y1.out).mono ?_); rintro r w' ⟨rfl, hw⟩; obtain rfl := hw.symm)
      | (go_at_call 36; (with_reducible refine (F2.out.rd 16 (by decide) (by decide) (by decide) 0 Y2.out).mono ?_); rintro r w' ⟨rfl, hw⟩; obtain rfl := hw.symm)
      | (go_at_call 36; (with_reducible refine (F7.out.rd 112 (by decide) (by decide) (by decide) S Y7.out).mono ?_); rintro r w' ⟨rfl, hw⟩; obtain rfl := hw.symm))
    have g64 : bits BinOp.andNot IntKind.u64 (s6 : Int) 64 = (st1 st : Int) := E5.out
    have g8 : bits BinOp.andNot IntKind.u64 (st1 st : Int) 8 = (st2 st false : Int) := E6.out
    have w256 : IntKind.u64.wrap (s6 : Int) = (s6 : Int) := by rw [IntKind.wrap_u64]; omega
    have wst : IntKind.u64.wrap (st : Int) = (st : Int) := by rw [IntKind.wrap_u64]; omega
    have wlo : IntKind.u64.wrap (lo : Int) = (lo : Int) := by rw [IntKind.wrap_u64]; omega
    have whi : IntKind.u64.wrap (hi : Int) = (hi : Int) := by rw [IntKind.wrap_u64]; omega
    clear Y1 Y2 Y7
    by_cases z : st = 0
    · by_cases zl : lo = 0
      · by_cases zh : hi = 1
        · have h9 : S = 0 := by rw [HS.out, if_pos z]
          subst h9
          have b1 : ((st : Int) == 0) = true := by simp [z]
          have c1 : ((lo : Int) != 0) = false := by simp [zl]
          have c2 : ((hi : Int) != 1) = false := by simp [zh]
          clear HS E5 E6 z zl zh
          go_wp2_with (first
            | (go_at_call 26; (with_reducible refine (F7.out.wr _ 112 0 0 (by decide) (by decide) (by decide) (by decide) (by decide) (by decide) d8 H8.out).mono ?_); rintro r v8 ⟨rfl, q⟩; have F8 := hid q; obtain ⟨ca8, cb8⟩ := q.cs; clear F7 q)
            | (go_at_call 36; (with_reducible refine (F8.out.rd 112 (by decide) (by decide) (by decide) 0 Y8.out).mono ?_); rintro r w' ⟨rfl, hw⟩; obtain rfl := hw.symm)
            | (go_at_call 28; refine (F8.out.irq 0 Y9.out).mono ?_; rintro r w' ⟨rfl, hw⟩; obtain rfl := hw.symm)
            | (go_at_call 13; refine (hA _).mono ?_; rintro r v9 ⟨rfl, q1⟩; have B9 := hid q1; clear q1))
          go_ret
          exact ⟨rfl, F8.out.bel.trans (B9.out.mono F8.out.bel.size)⟩
        · have h9 : S = 0 := by rw [HS.out, if_pos z]
          subst h9
          have b1 : ((st : Int) == 0) = true := by simp [z]
          have c1 : ((lo : Int) != 0) = false := by simp [zl]
          have c2 : ((hi : Int) != 1) = true := by simp; omega
          clear HS E5 E6 z zl zh
          go_wp2_with (first
            | (go_at_call 26; (with_reducible refine (F7.out.wr _ 112 0 0 (by decide) (by decide) (by decide) (by decide) (by decide) (by decide) d8 H8.out).mono ?_); rintro r v8 ⟨rfl, q⟩; have F8 := hid q; obtain ⟨ca8, cb8⟩ := q.cs; clear F7 q)
            | (go_at_call 36; (with_reducible refine (F8.out.rd 112 (by decide) (by decide) (by decide) 0 Y8.out).mono ?_); rintro r w' ⟨rfl, hw⟩; obtain rfl := hw.symm)
            | (go_at_call 28; refine (F8.out.irq 0 Y9.out).mono ?_; rintro r w' ⟨rfl, hw⟩; obtain rfl := hw.symm)
            | (go_at_call 13; refine (hA _).mono ?_; rintro r v9 ⟨rfl, q1⟩; have B9 := hid q1; clear q1))
          go_ret
          exact ⟨rfl, F8.out.bel.trans (B9.out.mono F8.out.bel.size)⟩
      · by_cases zh : hi = 1
        · have h9 : S = 0 := by rw [HS.out, if_pos z]
          subst h9
          have b1 : ((st : Int) == 0) = true := by simp [z]
          have c1 : ((lo : Int) != 0) = true := by simp [zl]
          have c2 : ((hi : Int) != 1) = false := by simp [zh]
          clear HS E5 E6 z zl zh
          go_wp2_with (first
            | (go_at_call 26; (with_reducible refine (F7.out.wr _ 112 0 0 (by decide) (by decide) (by decide) (by decide) (by decide) (by decide) d8 H8.out).mono ?_); rintro r v8 ⟨rfl, q⟩; have F8 := hid q; obtain ⟨ca8, cb8⟩ := q.cs; clear F7 q)
            | (go_at_call 36; (with_reducible refine (F8.out.rd 112 (by decide) (by decide) (by decide) 0 Y8.out).mono ?_); rintro r w' ⟨rfl, hw⟩; obtain rfl := hw.symm)
            | (go_at_call 28; refine (F8.out.irq 0 Y9.out).mono ?_; rintro r w' ⟨rfl, hw⟩; obtain rfl := hw.symm)
            | (go_at_call 13; refine (hA _).mono ?_; rintro r v9 ⟨rfl, q1⟩; have B9 := hid q1; clear q1))
          go_ret
          exact ⟨rfl, F8.out.bel.trans (B9.out.mono F8.out.bel.size)⟩
        · have h9 : S = 0 := by rw [HS.out, if_pos z]
          subst h9
          have b1 : ((st : Int) == 0) = true := by simp [z]
          have c1 : ((lo : Int) != 0) = true := by simp [zl]
          have c2 : ((hi : Int) != 1) = true := by simp; omega
          clear HS E5 E6 z zl zh
          go_wp2_with (first
            | (go_at_call 26; (with_reducible refine (F7.out.wr _ 112 0 0 (by decide) (by decide) (by decide) (by decide) (by decide) (by decide) d8 H8.out).mono ?_); rintro r v8 ⟨rfl, q⟩; have F8 := hid q; obtain ⟨ca8, cb8⟩ := q.cs; clear F7 q)
            | (go_at_call 36; (with_reducible refine (F8.out.rd 112 (by decide) (by decide) (by decide) 0 Y8.out).mono ?_); rintro r w' ⟨rfl, hw⟩; obtain rfl := hw.symm)
            | (go_at_call 28; refine (F8.out.irq 0 Y9.out).mono ?_; rintro r w' ⟨rfl, hw⟩; obtain rfl := hw.symm)
            | (go_at_call 13; refine (hA _).mono ?_; rintro r v9 ⟨rfl, q1⟩; have B9 := hid q1; clear q1))
          go_ret
          exact ⟨rfl, F8.out.bel.trans (B9.out.mono F8.out.bel.size)⟩
    · by_cases zl : lo = 0
      · by_cases zh : hi = 1
        · have h9 : S = ((st1 st : Nat) : Int) := by rw [HS.out, if_neg z, show (decide (lo = 0) && decide (hi = 1)) = true from by simp [zl, zh]]; rfl
          subst h9
          have b1 : ((st : Int) == 0) = false := by simp [z]
          have c1 : ((lo : Int) != 0) = false := by simp [zl]
          have c2 : ((hi : Int) != 1) = false := by simp [zh]
          clear HS E5 E6 z zl zh
          go_wp2_with (first
            | (go_at_call 26; (with_reducible refine (F7.out.wr _ 112 0 0 (by decide) (by decide) (by decide) (by decide) (by decide) (by decide) d8 H8.out).mono ?_); rintro r v8 ⟨rfl, q⟩; have F8 := hid q; obtain ⟨ca8, cb8⟩ := q.cs; clear F7 q)
            | (go_at_call 36; (with_reducible refine (F8.out.rd 112 (by decide) (by decide) (by decide) 0 Y8.out).mono ?_); rintro r w' ⟨rfl, hw⟩; obtain rfl := hw.symm)
            | (go_at_call 28; refine (F8.out.irq 0 Y9.out).mono ?_; rintro r w' ⟨rfl, hw⟩; obtain rfl := hw.symm)
            | (go_at_call 13; refine (hA _).mono ?_; rintro r v9 ⟨rfl, q1⟩; have B9 := hid q1; clear q1))
          go_ret
          exact ⟨rfl, F8.out.bel.trans (B9.out.mono F8.out.bel.size)⟩
        · have h9 : S = ((st2 st false : Nat) : Int) := by rw [HS.out, if_neg z, show (decide (lo = 0) && decide (hi = 1)) = false from by simp [zl, zh]]
          subst h9
          have b1 : ((st : Int) == 0) = false := by simp [z]
          have c1 : ((lo : Int) != 0) = false := by simp [zl]
          have c2 : ((hi : Int) != 1) = true := by simp; omega
          clear HS E5 E6 z zl zh
          go_wp2_with (first
            | (go_at_call 26; (with_reducible refine (F7.out.wr _ 112 0 0 (by decide) (by decide) (by decide) (by decide) (by decide) (by decide) d8 H8.out).mono ?_); rintro r v8 ⟨rfl, q⟩; have F8 := hid q; obtain ⟨ca8, cb8⟩ := q.cs; clear F7 q)
            | (go_at_call 36; (with_reducible refine (F8.out.rd 112 (by decide) (by decide) (by decide) 0 Y8.out).mono ?_); rintro r w' ⟨rfl, hw⟩; obtain rfl := hw.symm)
            | (go_at_call 28; refine (F8.out.irq 0 Y9.out).mono ?_; rintro r w' ⟨rfl, hw⟩; obtain rfl := hw.symm)
            | (go_at_call 13; refine (hA _).mono ?_; rintro r v9 ⟨rfl, q1⟩; have B9 := hid q1; clear q1))
          go_ret
          exact ⟨rfl, F8.out.bel.trans (B9.out.mono F8.out.bel.size)⟩
      · by_cases zh : hi = 1
        · have h9 : S = ((st2 st false : Nat) : Int) := by rw [HS.out, if_neg z, show (decide (lo = 0) && decide (hi = 1)) = false from by simp [zl, zh]]
          subst h9
          have b1 : ((st : Int) == 0) = false := by simp [z]
          have c1 : ((lo : Int) != 0) = true := by simp [zl]
          have c2 : ((hi : Int) != 1) = false := by simp [zh]
          clear HS E5 E6 z zl zh
          go_wp2_with (first
            | (go_at_call 26; (with_reducible refine (F7.out.wr _ 112 0 0 (by decide) (by decide) (by decide) (by decide) (by decide) (by decide) d8 H8.out).mono ?_); rintro r v8 ⟨rfl, q⟩; have F8 := hid q; obtain ⟨ca8, cb8⟩ := q.cs; clear F7 q)
            | (go_at_call 36; (with_reducible refine (F8.out.rd 112 (by decide) (by decide) (by decide) 0 Y8.out).mono ?_); rintro r w' ⟨rfl, hw⟩; obtain rfl := hw.symm)
            | (go_at_call 28; refine (F8.out.irq 0 Y9.out).mono ?_; rintro r w' ⟨rfl, hw⟩; obtain rfl := hw.symm)
            | (go_at_call 13; refine (hA _).mono ?_; rintro r v9 ⟨rfl, q1⟩; have B9 := hid q1; clear q1))
          go_ret
          exact ⟨rfl, F8.out.bel.trans (B9.out.mono F8.out.bel.size)⟩
        · have h9 : S = ((st2 st false : Nat) : Int) := by rw [HS.out, if_neg z, show (decide (lo = 0) && decide (hi = 1)) = false from by simp [zl, zh]]
          subst h9
          have b1 : ((st : Int) == 0) = false := by simp [z]
          have c1 : ((lo : Int) != 0) = true := by simp [zl]
          have c2 : ((hi : Int) != 1) = true := by simp; omega
          clear HS E5 E6 z zl zh
          go_wp2_with (first
            | (go_at_call 26; (with_reducible refine (F7.out.wr _ 112 0 0 (by decide) (by decide) (by decide) (by decide) (by decide) (by decide) d8 H8.out).mono ?_); rintro r v8 ⟨rfl, q⟩; have F8 := hid q; obtain ⟨ca8, cb8⟩ := q.cs; clear F7 q)
            | (go_at_call 36; (with_reducible refine (F8.out.rd 112 (by decide) (by decide) (by decide) 0 Y8.out).mono ?_); rintro r w' ⟨rfl, hw⟩; obtain rfl := hw.symm)
            | (go_at_call 28; refine (F8.out.irq 0 Y9.out).mono ?_; rintro r w' ⟨rfl, hw⟩; obtain rfl := hw.symm)
            | (go_at_call 13; refine (hA _).mono ?_; rintro r v9 ⟨rfl, q1⟩; have B9 := hid q1; clear q1))
          go_ret
          exact ⟨rfl, F8.out.bel.trans (B9.out.mono F8.out.bel.size)⟩
  · skip
    have HB0 := hid ((Below.refl w.heap.size w).alloc (Nat.le_refl _) (.cells #[.int .i64 1, .int .i64 2, .int .i64 3] 3))
    have hn := HNw.out (w.alloc (.cells #[.int .i64 1, .int .i64 2, .int .i64 3] 3)) 3 (by decide)
    clear HNw
    go_enter Tryz.func7, Tryz.ntmps7
    go_upto_region 4 with (first
      | (go_at_call 20; refine (hp0 _).mono ?_; rintro e' w' ⟨rfl, hw⟩; obtain rfl := hw.symm)
      | (go_at_call 12; refine hn.mono ?_; rintro r w2 ⟨e, p, mm, rr, B, qb, rq, ra, U, u, dk, dk2, rfl, q1, q2⟩; obtain ⟨da, dc', hdk⟩ := own_form q2; have F0 := hid (FE.of q1 HB0.out ⟨da, dc', hdk⟩); clear q1 q2))
    obtain ⟨w3, hw3⟩ : ∃ w3, w3 = w2.alloc (.cells #[.pointer (some ⟨e, 0, none⟩), .pointer (some ⟨p, 0, none⟩), .pointer (some ⟨mm, 0, none⟩), .pointer (some ⟨rr, 0, none⟩)] 31) := ⟨_, rfl⟩
    refine wp_at (w0 := w3) hw3.symm ?_
    rw [← hw3] at F0
    clear hw3
    generalize w2.heap.size = tb at *
    obtain ⟨d0, h0⟩ : ∃ d, d = ds0 3 u dk := ⟨_, rfl⟩
    rw [← h0] at F0
    obtain ⟨d1, h1⟩ : ∃ d, d = wrD (nqs 3) d0 20 1 := ⟨_, rfl⟩
    obtain ⟨d2, h2⟩ : ∃ d, d = wrD (nqs 3) d1 20 0 := ⟨_, rfl⟩
    obtain ⟨d3, h3⟩ : ∃ d, d = wrD (nqs 3) d2 36 0 := ⟨_, rfl⟩
    obtain ⟨d4, h4⟩ : ∃ d, d = wrD (nqs 3) d3 32 lo := ⟨_, rfl⟩
    obtain ⟨d5, h5⟩ : ∃ d, d = wrD (nqs 3) d4 36 1 := ⟨_, rfl⟩
    obtain ⟨d6, h6⟩ : ∃ d, d = wrD (nqs 3) d5 32 hi := ⟨_, rfl⟩
    obtain ⟨d7, h7⟩ : ∃ d, d = wrD (nqs 3) d6 112 st := ⟨_, rfl⟩
    obtain ⟨d8, h8⟩ : ∃ d, d = wrD (nqs 3) d7 112 0 := ⟨_, rfl⟩
    obtain ⟨y1, y2, y7, y8, y9⟩ := fe_facts (nqs 3) 3 u dk lo hi st d0 d1 d2 d3 d4 d5 d6 d7 d8 h0 h1 h2 h3 h4 h5 h6 h7 h8
    obtain ⟨S, hS⟩ : ∃ S : Int, S = (if st = 0 then 0 else (st2 st (decide (lo = 0) && decide (hi = 1)) : Int)) := ⟨_, rfl⟩
    rw [← hS] at y7
    have H1 := hid h1
    have H2 := hid h2
    have H3 := hid h3
    have H4 := hid h4
    have H5 := hid h5
    have H6 := hid h6
    have H7 := hid h7
    have H8 := hid h8
    have Y1 := hid y1
    have Y2 := hid y2
    have Y7 := hid y7
    have Y8 := hid y8
    have Y9 := hid y9
    have HS := hid hS
    have E5 := hid e5
    have E6 := hid e6
    obtain ⟨ca0, cb0⟩ := F0.out.cs
    clear h0 h1 h2 h3 h4 h5 h6 h7 h8 y1 y2 y7 y8 y9 hS e5 e6
    go_upto_region 14 with (first
      | (go_at_call 26; (with_reducible refine (F0.out.wr _ 20 1 1 (by decide) (by decide) (by decide) (by decide) (by decide) (by decide) d1 H1.out).mono ?_); rintro r v1 ⟨rfl, q⟩; have F1 := hid q; obtain ⟨ca1, cb1⟩ := q.cs; clear F0 q)
      | (go_at_call 26; (with_reducible refine (F1.out.wr _ 20 0 0 (by decide) (by decide) (by decide) (by decide) (by decide) (by decide) d2 H2.out).mono ?_); rintro r v2 ⟨rfl, q⟩; have F2 := hid q; obtain ⟨ca2, cb2⟩ := q.cs; clear F1 q)
      | (go_at_call 26; (with_reducible refine (F2.out.wr _ 36 0 0 (by decide) (by decide) (by decide) (by decide) (by decide) (by decide) d3 H3.out).mono ?_); rintro r v3 ⟨rfl, q⟩; have F3 := hid q; obtain ⟨ca3, cb3⟩ := q.cs; clear F2 q)
      | (go_at_call 26; (with_reducible refine (F3.out.wr _ 32 low lo bl wl (by decide) (by decide) (by decide) (by decide) d4 H4.out).mono ?_); rintro r v4 ⟨rfl, q⟩; have F4 := hid q; obtain ⟨ca4, cb4⟩ := q.cs; clear F3 q)
      | (go_at_call 26; (with_reducible refine (F4.out.wr _ 36 1 1 (by decide) (by decide) (by decide) (by decide) (by decide) (by decide) d5 H5.out).mono ?_); rintro r v5 ⟨rfl, q⟩; have F5 := hid q; obtain ⟨ca5, cb5⟩ := q.cs; clear F4 q)
      | (go_at_call 26; (with_reducible refine (F5.out.wr _ 32 high hi bh wh (by decide) (by decide) (by decide) (by decide) d6 H6.out).mono ?_); rintro r v6 ⟨rfl, q⟩; have F6 := hid q; obtain ⟨ca6, cb6⟩ := q.cs; clear F5 q)
      | (go_at_call 26; (with_reducible refine (F6.out.wr _ 112 status st bs ws (by decide) (by decide) (by decide) (by decide) d7 H7.out).mono ?_); rintro r v7 ⟨rfl, q⟩; have F7 := hid q; obtain ⟨ca7, cb7⟩ := q.cs; clear F6 q)
      | (go_at_call 36; (with_reducible refine (F1.out.rd 16 (by decide) (by decide) (by decide) 1 Y1.out).mono ?_); rintro r w' ⟨rfl, hw⟩; obtain rfl := hw.symm)
      | (go_at_call 36; (with_reducible refine (F2.out.rd 16 (by decide) (by decide) (by decide) 0 Y2.out).mono ?_); rintro r w' ⟨rfl, hw⟩; obtain rfl := hw.symm)
      | (go_at_call 36; (with_reducible refine (F7.out.rd 112 (by decide) (by decide) (by decide) S Y7.out).mono ?_); rintro r w' ⟨rfl, hw⟩; obtain rfl := hw.symm))
    have g64 : bits BinOp.andNot IntKind.u64 (s6 : Int) 64 = (st1 st : Int) := E5.out
    have g8 : bits BinOp.andNot IntKind.u64 (st1 st : Int) 8 = (st2 st false : Int) := E6.out
    have w256 : IntKind.u64.wrap (s6 : Int) = (s6 : Int) := by rw [IntKind.wrap_u64]; omega
    have wst : IntKind.u64.wrap (st : Int) = (st : Int) := by rw [IntKind.wrap_u64]; omega
    have wlo : IntKind.u64.wrap (lo : Int) = (lo : Int) := by rw [IntKind.wrap_u64]; omega
    have whi : IntKind.u64.wrap (hi : Int) = (hi : Int) := by rw [IntKind.wrap_u64]; omega
    clear Y1 Y2 Y7
    by_cases z : st = 0
    · by_cases zl : lo = 0
      · by_cases zh : hi = 1
        · have h9 : S = 0 := by rw [HS.out, if_pos z]
          subst h9
          have b1 : ((st : Int) == 0) = true := by simp [z]
          have c1 : ((lo : Int) != 0) = false := by simp [zl]
          have c2 : ((hi : Int) != 1) = false := by simp [zh]
          clear HS E5 E6 z zl zh
          go_wp2_with (first
            | (go_at_call 26; (with_reducible refine (F7.out.wr _ 112 0 0 (by decide) (by decide) (by decide) (by decide) (by decide) (by decide) d8 H8.out).mono ?_); rintro r v8 ⟨rfl, q⟩; have F8 := hid q; obtain ⟨ca8, cb8⟩ := q.cs; clear F7 q)
            | (go_at_call 36; (with_reducible refine (F8.out.rd 112 (by decide) (by decide) (by decide) 0 Y8.out).mono ?_); rintro r w' ⟨rfl, hw⟩; obtain rfl := hw.symm)
            | (go_at_call 28; refine (F8.out.irq 0 Y9.out).mono ?_; rintro r w' ⟨rfl, hw⟩; obtain rfl := hw.symm)
            | (go_at_call 13; refine (hA _).mono ?_; rintro r v9 ⟨rfl, q1⟩; have B9 := hid q1; clear q1))
          go_ret
          exact ⟨rfl, F8.out.bel.trans (B9.out.mono F8.out.bel.size)⟩
        · have h9 : S = 0 := by rw [HS.out, if_pos z]
          subst h9
          have b1 : ((st : Int) == 0) = true := by simp [z]
          have c1 : ((lo : Int) != 0) = false := by simp [zl]
          have c2 : ((hi : Int) != 1) = true := by simp; omega
          clear HS E5 E6 z zl zh
          go_wp2_with (first
            | (go_at_call 26; (with_reducible refine (F7.out.wr _ 112 0 0 (by decide) (by decide) (by decide) (by decide) (by decide) (by decide) d8 H8.out).mono ?_); rintro r v8 ⟨rfl, q⟩; have F8 := hid q; obtain ⟨ca8, cb8⟩ := q.cs; clear F7 q)
            | (go_at_call 36; (with_reducible refine (F8.out.rd 112 (by decide) (by decide) (by decide) 0 Y8.out).mono ?_); rintro r w' ⟨rfl, hw⟩; obtain rfl := hw.symm)
            | (go_at_call 28; refine (F8.out.irq 0 Y9.out).mono ?_; rintro r w' ⟨rfl, hw⟩; obtain rfl := hw.symm)
            | (go_at_call 13; refine (hA _).mono ?_; rintro r v9 ⟨rfl, q1⟩; have B9 := hid q1; clear q1))
          go_ret
          exact ⟨rfl, F8.out.bel.trans (B9.out.mono F8.out.bel.size)⟩
      · by_cases zh : hi = 1
        · have h9 : S = 0 := by rw [HS.out, if_pos z]
          subst h9
          have b1 : ((st : Int) == 0) = true := by simp [z]
          have c1 : ((lo : Int) != 0) = true := by simp [zl]
          have c2 : ((hi : Int) != 1) = false := by simp [zh]
          clear HS E5 E6 z zl zh
          go_wp2_with (first
            | (go_at_call 26; (with_reducible refine (F7.out.wr _ 112 0 0 (by decide) (by decide) (by decide) (by decide) (by decide) (by decide) d8 H8.out).mono ?_); rintro r v8 ⟨rfl, q⟩; have F8 := hid q; obtain ⟨ca8, cb8⟩ := q.cs; clear F7 q)
            | (go_at_call 36; (with_reducible refine (F8.out.rd 112 (by decide) (by decide) (by decide) 0 Y8.out).mono ?_); rintro r w' ⟨rfl, hw⟩; obtain rfl := hw.symm)
            | (go_at_call 28; refine (F8.out.irq 0 Y9.out).mono ?_; rintro r w' ⟨rfl, hw⟩; obtain rfl := hw.symm)
            | (go_at_call 13; refine (hA _).mono ?_; rintro r v9 ⟨rfl, q1⟩; have B9 := hid q1; clear q1))
          go_ret
          exact ⟨rfl, F8.out.bel.trans (B9.out.mono F8.out.bel.size)⟩
        · have h9 : S = 0 := by rw [HS.out, if_pos z]
          subst h9
          have b1 : ((st : Int) == 0) = true := by simp [z]
          have c1 : ((lo : Int) != 0) = true := by simp [zl]
          have c2 : ((hi : Int) != 1) = true := by simp; omega
          clear HS E5 E6 z zl zh
          go_wp2_with (first
            | (go_at_call 26; (with_reducible refine (F7.out.wr _ 112 0 0 (by decide) (by decide) (by decide) (by decide) (by decide) (by decide) d8 H8.out).mono ?_); rintro r v8 ⟨rfl, q⟩; have F8 := hid q; obtain ⟨ca8, cb8⟩ := q.cs; clear F7 q)
            | (go_at_call 36; (with_reducible refine (F8.out.rd 112 (by decide) (by decide) (by decide) 0 Y8.out).mono ?_); rintro r w' ⟨rfl, hw⟩; obtain rfl := hw.symm)
            | (go_at_call 28; refine (F8.out.irq 0 Y9.out).mono ?_; rintro r w' ⟨rfl, hw⟩; obtain rfl := hw.symm)
            | (go_at_call 13; refine (hA _).mono ?_; rintro r v9 ⟨rfl, q1⟩; have B9 := hid q1; clear q1))
          go_ret
          exact ⟨rfl, F8.out.bel.trans (B9.out.mono F8.out.bel.size)⟩
    · by_cases zl : lo = 0
      · by_cases zh : hi = 1
        · have h9 : S = ((st1 st : Nat) : Int) := by rw [HS.out, if_neg z, show (decide (lo = 0) && decide (hi = 1)) = true from by simp [zl, zh]]; rfl
          subst h9
          have b1 : ((st : Int) == 0) = false := by simp [z]
          have c1 : ((lo : Int) != 0) = false := by simp [zl]
          have c2 : ((hi : Int) != 1) = false := by simp [zh]
          clear HS E5 E6 z zl zh
          go_wp2_with (first
            | (go_at_call 26; (with_reducible refine (F7.out.wr _ 112 0 0 (by decide) (by decide) (by decide) (by decide) (by decide) (by decide) d8 H8.out).mono ?_); rintro r v8 ⟨rfl, q⟩; have F8 := hid q; obtain ⟨ca8, cb8⟩ := q.cs; clear F7 q)
            | (go_at_call 36; (with_reducible refine (F8.out.rd 112 (by decide) (by decide) (by decide) 0 Y8.out).mono ?_); rintro r w' ⟨rfl, hw⟩; obtain rfl := hw.symm)
            | (go_at_call 28; refine (F8.out.irq 0 Y9.out).mono ?_; rintro r w' ⟨rfl, hw⟩; obtain rfl := hw.symm)
            | (go_at_call 13; refine (hA _).mono ?_; rintro r v9 ⟨rfl, q1⟩; have B9 := hid q1; clear q1))
          go_ret
          exact ⟨rfl, F8.out.bel.trans (B9.out.mono F8.out.bel.size)⟩
        · have h9 : S = ((st2 st false : Nat) : Int) := by rw [HS.out, if_neg z, show (decide (lo = 0) && decide (hi = 1)) = false from by simp [zl, zh]]
          subst h9
          have b1 : ((st : Int) == 0) = false := by simp [z]
          have c1 : ((lo : Int) != 0) = false := by simp [zl]
          have c2 : ((hi : Int) != 1) = true := by simp; omega
          clear HS E5 E6 z zl zh
          go_wp2_with (first
            | (go_at_call 26; (with_reducible refine (F7.out.wr _ 112 0 0 (by decide) (by decide) (by decide) (by decide) (by decide) (by decide) d8 H8.out).mono ?_); rintro r v8 ⟨rfl, q⟩; have F8 := hid q; obtain ⟨ca8, cb8⟩ := q.cs; clear F7 q)
            | (go_at_call 36; (with_reducible refine (F8.out.rd 112 (by decide) (by decide) (by decide) 0 Y8.out).mono ?_); rintro r w' ⟨rfl, hw⟩; obtain rfl := hw.symm)
            | (go_at_call 28; refine (F8.out.irq 0 Y9.out).mono ?_; rintro r w' ⟨rfl, hw⟩; obtain rfl := hw.symm)
            | (go_at_call 13; refine (hA _).mono ?_; rintro r v9 ⟨rfl, q1⟩; have B9 := hid q1; clear q1))
          go_ret
          exact ⟨rfl, F8.out.bel.trans (B9.out.mono F8.out.bel.size)⟩
      · by_cases zh : hi = 1
        · have h9 : S = ((st2 st false : Nat) : Int) := by rw [HS.out, if_neg z, show (decide (lo = 0) && decide (hi = 1)) = false from by simp [zl, zh]]
          subst h9
          have b1 : ((st : Int) == 0) = false := by simp [z]
          have c1 : ((lo : Int) != 0) = true := by simp [zl]
          have c2 : ((hi : Int) != 1) = false := by simp [zh]
          clear HS E5 E6 z zl zh
          go_wp2_with (first
            | (go_at_call 26; (with_reducible refine (F7.out.wr _ 112 0 0 (by decide) (by decide) (by decide) (by decide) (by decide) (by decide) d8 H8.out).mono ?_); rintro r v8 ⟨rfl, q⟩; have F8 := hid q; obtain ⟨ca8, cb8⟩ := q.cs; clear F7 q)
            | (go_at_call 36; (with_reducible refine (F8.out.rd 112 (by decide) (by decide) (by decide) 0 Y8.out).mono ?_); rintro r w' ⟨rfl, hw⟩; obtain rfl := hw.symm)
            | (go_at_call 28; refine (F8.out.irq 0 Y9.out).mono ?_; rintro r w' ⟨rfl, hw⟩; obtain rfl := hw.symm)
            | (go_at_call 13; refine (hA _).mono ?_; rintro r v9 ⟨rfl, q1⟩; have B9 := hid q1; clear q1))
          go_ret
          exact ⟨rfl, F8.out.bel.trans (B9.out.mono F8.out.bel.size)⟩
        · have h9 : S = ((st2 st false : Nat) : Int) := by rw [HS.out, if_neg z, show (decide (lo = 0) && decide (hi = 1)) = false from by simp [zl, zh]]
          subst h9
          have b1 : ((st : Int) == 0) = false := by simp [z]
          have c1 : ((lo : Int) != 0) = true := by simp [zl]
          have c2 : ((hi : Int) != 1) = true := by simp; omega
          clear HS E5 E6 z zl zh
          go_wp2_with (first
            | (go_at_call 26; (with_reducible refine (F7.out.wr _ 112 0 0 (by decide) (by decide) (by decide) (by decide) (by decide) (by decide) d8 H8.out).mono ?_); rintro r v8 ⟨rfl, q⟩; have F8 := hid q; obtain ⟨ca8, cb8⟩ := q.cs; clear F7 q)
            | (go_at_call 36; (with_reducible refine (F8.out.rd 112 (by decide) (by decide) (by decide) 0 Y8.out).mono ?_); rintro r w' ⟨rfl, hw⟩; obtain rfl := hw.symm)
            | (go_at_call 28; refine (F8.out.irq 0 Y9.out).mono ?_; rintro r w' ⟨rfl, hw⟩; obtain rfl := hw.symm)
            | (go_at_call 13; refine (hA _).mono ?_; rintro r v9 ⟨rfl, q1⟩; have B9 := hid q1; clear q1))
          go_ret
          exact ⟨rfl, F8.out.bel.trans (B9.out.mono F8.out.bel.size)⟩
end Go.Proofs.YtnfbnbiiejaldaaGreat
