/- Plan: the document's. -/
import Derived.Test.YtkmknjiepegodaaDoorMH4
import Derived.BigRegion
namespace Go.Proofs.YtkmknjiepegodaaDoor
open Go.RowKit
set_option linter.unusedVariables false
set_option maxRecDepth 100000

set_option maxHeartbeats 1000000 in
theorem d_Plan (h : HV) (ok : HOk h) (a : Int) (h0 : 0 ≤ a) (h1 : a < 4294967296) (long : Int) (w : World) : Calls Tryd.prog 6 #[h.v, .int .u32 a, .int .i64 long] w fun e w' => e = .returned (.tuple #[(plF (ordH h) (B.D a).1 long).1.v, .bool (plF (ordH h) (B.D a).1 long).2]) ∧ Below w.heap.size w w' := by
  have HO : Hid (∀ u, Calls Tryd.prog 18 #[h.v] u fun e w' => e = .returned (ordH h).v ∧ Below u.heap.size u w') := fun u => r_Order h ok u
  have HD : Hid (∀ u, Calls Tryd.prog 19 #[.int .u32 a] u fun e w' => e = .returned (.tuple #[(B.D a).1.v, .bool (B.D a).2]) ∧ Below u.heap.size u w') := fun u => B.r_Decode a h0 h1 u
  have HB : Hid ((B.D a).1.kind = 6 ∨ (B.D a).1.kind = 7 → (B.D a).2 = true ∧ (0 ≤ (B.D a).1.rs1 ∧ (B.D a).1.rs1 < 32) ∧ (0 ≤ (B.D a).1.rs2 ∧ (B.D a).1.rs2 < 32)) := D_b a h0 h1
  have OO := hid (ordOk ok)
  clear ok h0 h1
  obtain ⟨i, hi⟩ : ∃ i, i = (B.D a).1 := ⟨_, rfl⟩
  obtain ⟨b, hb⟩ : ∃ b, b = (B.D a).2 := ⟨_, rfl⟩
  rw [← hi, ← hb] at HD HB
  rw [← hi]
  clear hi hb
  obtain ⟨o, ho⟩ : ∃ o, o = ordH h := ⟨_, rfl⟩
  rw [← ho] at HO OO ⊢
  clear ho
  go_enter Tryd.func6, Tryd.ntmps6
  go_upto_region 3 with (first
    | ((with_reducible refine wpL_loadH (x := .tmp 3) w.heap.size ?_ h ?_ ?_); rfl; exact heap2 _ _ _)
    | (go_at_call 18; refine (HO.out _).mono ?_; rintro e w1 ⟨rfl, hb⟩; have HB1 := hid hb; clear hb)
    | ((with_reducible refine wpL_storeH (x := .tmp 3) (y := .tmp 12) w.heap.size ?_ o ?_ h.ca ?_ rfl ?_); rfl; rfl; exact (HB1.out.block _ (by simp; omega)).trans (heap2 _ _ _))
    | (go_at_call 19; refine (HD.out _).mono ?_; rintro e w2 ⟨rfl, hb⟩; have HB2 := hid hb; clear hb))
  obtain ⟨g, hg⟩ : ∃ g, g = w2.heap.size := ⟨_, rfl⟩
  obtain ⟨wa, hwa⟩ : ∃ wa, wa = w2.alloc (.cells (iCa i) 40) := ⟨_, rfl⟩
  rw [← hg, ← hwa]
  have s1 : w.heap.size + 2 ≤ w1.heap.size := by have := HB1.out.size; simp at this; omega
  have s2 : w1.heap.size ≤ w2.heap.size := by have := HB2.out.size; simp [World.setRow] at this; omega
  have HWB : Hid (Below w.heap.size w wa) := by
    show Below _ _ _
    rw [hwa]
    have b1 : Below w.heap.size w w1 := (below2 _ _).trans (HB1.out.mono (by simp; omega))
    exact (((below_setRow b1 (Nat.le_refl _) _).trans (HB2.out.mono (by simp [World.setRow]; omega)))).alloc (by omega) _
  have P0 : Hid (wa.heap[w.heap.size]? = some (.cells o.ca 25 (0, 0))) := by show _ = _; rw [hwa, heap_alloc_old _ _ (by omega)]; exact (HB2.out.block _ (by simp [World.setRow]; omega)).trans (heap_setRow _ _ _ _ _ ((HB1.out.block _ (by simp; omega)).trans (heap2 _ _ _)))
  have P1 : Hid (wa.heap[w.heap.size + 1]? = some (.cells (⟨false, false, 0, 0, 0, 0, 0⟩ : AV).ca 30 (0, 0))) := by show _ = _; rw [hwa, heap_alloc_old _ _ (by omega)]; exact (HB2.out.block _ (by simp [World.setRow]; omega)).trans ((setRow_other _ _ _ _ (by omega)).trans ((HB1.out.block _ (by simp)).trans (heap2' _ _ _)))
  have P2 : Hid (wa.heap[g]? = some (.cells (iCa i) 40 (0, 0))) := by show _ = _; rw [hwa, hg]; exact heap_alloc_new _ _
  have HGL : Hid (w.heap.size + 2 ≤ g ∧ wa.heap.size = g + 1) := by show _ ∧ _; rw [hwa, hg]; simp; omega
  clear hwa hg HB1 HB2 s1 s2
  have i0 : wa.cell? ⟨g, 0, none⟩ = some (.int .i64 i.kind) := cell_of_row _ _ 0 _ _ _ P2.out
  have i2 : wa.cell? ⟨g, 2, none⟩ = some (.int .i64 i.rd) := cell_of_row _ _ 2 _ _ _ P2.out
  have i3 : wa.cell? ⟨g, 3, none⟩ = some (.int .i64 i.rs1) := cell_of_row _ _ 3 _ _ _ P2.out
  have i4 : wa.cell? ⟨g, 4, none⟩ = some (.int .i64 i.rs2) := cell_of_row _ _ 4 _ _ _ P2.out
  have i5 : wa.cell? ⟨g, 5, none⟩ = some (.int .i64 i.imm) := cell_of_row _ _ 5 _ _ _ P2.out
  have i6 : wa.cell? ⟨g, 6, none⟩ = some (.int .i64 i.size) := cell_of_row _ _ 6 _ _ _ P2.out
  have i7 : wa.cell? ⟨g, 7, none⟩ = some (.bool i.sg) := cell_of_row _ _ 7 _ _ _ P2.out
  by_cases h6 : i.kind = 6
  · obtain ⟨rfl, ⟨q0, q1⟩, ⟨q2, q3⟩⟩ := HB.out (.inl h6)
    rw [h6] at i0
    have xr := row_cellH P0.out i.rs1.toNat (v := .int .u64 (o.x i.rs1.toNat)) (by simp only [HV.ca, List.getElem?_toArray]; exact hv_x o _ (by omega))
    go_upto_region 5 with (fail)
    obtain ⟨n, hn⟩ : ∃ n, n = wa.heap.size := ⟨_, rfl⟩
    have ag : ∀ k : Nat, k < g + 1 → ∀ f, (wa.alloc (.cells #[.bool false, .bool false, .int .i64 0, .int .i64 0, .int .i64 0, .int .u64 0, .int .u64 0] 30)).cell? ⟨k, f, none⟩ = wa.cell? ⟨k, f, none⟩ := fun k hk f => by
      simp only [World.cell?]
      rw [heap_alloc_old _ _ (by have := HGL.out; omega)]
    have z3 := (ag g (by omega) 3).trans i3
    have z5 := (ag g (by omega) 5).trans i5
    have z6 := (ag g (by omega) 6).trans i6
    have zr := (ag w.heap.size (by have := HGL.out; omega) i.rs1.toNat).trans xr
    clear ag hn
    go_region
    clear z3 z5 z6 zr i0 i2 i3 i4 i5 i6 i7 xr
    obtain ⟨av, hav⟩ : ∃ av, av = IntKind.u64.wrap (o.x i.rs1.toNat + IntKind.u64.wrap i.imm) := ⟨_, rfl⟩
    rw [← hav]
    have HAV : Hid (av = adr o i.rs1 i.imm) := hav
    clear hav
    obtain ⟨n, hn⟩ : ∃ n, n = wa.heap.size := ⟨_, rfl⟩
    rw [← hn]
    obtain ⟨wb, hwb⟩ : ∃ wb, wb = (wa.alloc (.cells (⟨false, false, i.size, 0, long, av, 0⟩ : AV).ca 30)).drew := ⟨_, rfl⟩
    rw [← hwb]
    have hgl := HGL.out
    have Q0 : Hid (wb.heap[w.heap.size]? = some (.cells o.ca 25 (0, 0))) := by show _ = _; rw [hwb]; exact (heap_alloc_old _ _ (by omega)).trans P0.out
    have Q1 : Hid (wb.heap[w.heap.size + 1]? = some (.cells (⟨false, false, 0, 0, 0, 0, 0⟩ : AV).ca 30 (0, 0))) := by show _ = _; rw [hwb]; exact (heap_alloc_old _ _ (by omega)).trans P1.out
    have Q2 : Hid (wb.heap[g]? = some (.cells (iCa i) 40 (0, 0))) := by show _ = _; rw [hwb]; exact (heap_alloc_old _ _ (by omega)).trans P2.out
    have QN : Hid (wb.heap[n]? = some (.cells (⟨false, false, i.size, 0, long, av, 0⟩ : AV).ca 30 (0, 0))) := by show _ = _; rw [hwb, hn]; exact heap_alloc_new _ _
    have HWC : Hid (Below w.heap.size w wb) := by show Below _ _ _; rw [hwb]; exact (HWB.out.alloc (by omega) _).drew
    have HNE : Hid (w.heap.size + 2 ≤ g ∧ n = g + 1) := by show _ ∧ _; omega
    clear hwb hn hgl HGL P0 P1 P2 HWB
    have i0 : wb.cell? ⟨g, 0, none⟩ = some (.int .i64 6) := by rw [← h6]; exact cell_of_row _ _ 0 _ _ _ Q2.out
    have i2 : wb.cell? ⟨g, 2, none⟩ = some (.int .i64 i.rd) := cell_of_row _ _ 2 _ _ _ Q2.out
    have i4 : wb.cell? ⟨g, 4, none⟩ = some (.int .i64 i.rs2) := cell_of_row _ _ 4 _ _ _ Q2.out
    have i6 : wb.cell? ⟨g, 6, none⟩ = some (.int .i64 i.size) := cell_of_row _ _ 6 _ _ _ Q2.out
    have i7 : wb.cell? ⟨g, 7, none⟩ = some (.bool i.sg) := cell_of_row _ _ 7 _ _ _ Q2.out
    have nf := row_fz QN.out
    have n0 : wb.cell? ⟨n, 0, none⟩ = some (.bool false) := cell_of_row _ _ 0 _ _ _ QN.out
    have n1 : wb.cell? ⟨n, 1, none⟩ = some (.bool false) := cell_of_row _ _ 1 _ _ _ QN.out
    have n3 : wb.cell? ⟨n, 3, none⟩ = some (.int .i64 0) := cell_of_row _ _ 3 _ _ _ QN.out
    have n6 : wb.cell? ⟨n, 6, none⟩ = some (.int .u64 0) := cell_of_row _ _ 6 _ _ _ QN.out
    have ngg : ¬ g = n := by have := HNE.out; omega
    have hp : plF o i long = (⟨false, i.sg, i.size, i.rd, long, av, 0⟩, true) := by unfold plF; rw [if_pos h6, HAV.out]
    go_upto_region 12 with (fail)
    obtain ⟨wc, hwc⟩ : ∃ wc, wc = (wb.setCell ⟨n, 1, none⟩ (.bool i.sg)).setCell ⟨n, 3, none⟩ (.int .i64 i.rd) := ⟨_, rfl⟩
    rw [← hwc]
    have QC : Hid (wc.heap[n]? = some (.cells (⟨false, i.sg, i.size, i.rd, long, av, 0⟩ : AV).ca 30 (0, 0))) := by show _ = _; rw [hwc]; exact row_set (row_set QN.out 1 _) 3 _
    have QD : Hid (wc.heap[w.heap.size + 1]? = some (.cells (⟨false, false, 0, 0, 0, 0, 0⟩ : AV).ca 30 (0, 0))) := by show _ = _; have hne := HNE.out; rw [hwc, Below.heap_setCell _ _ _ _ (by show w.heap.size + 1 ≠ n; omega), Below.heap_setCell _ _ _ _ (by show w.heap.size + 1 ≠ n; omega)]; exact Q1.out
    have HWD : Hid (Below w.heap.size w wc) := by show Below _ _ _; have hne := HNE.out; rw [hwc]; exact (HWC.out.setCell (p := ⟨n, _, none⟩) (by show w.heap.size ≤ n; omega) _).setCell (p := ⟨n, _, none⟩) (by show w.heap.size ≤ n; omega) _
    clear hwc nf n0 n1 n3 n6 i0 i2 i4 i6 i7 ngg
    go_wp2_with (first
      | ((with_reducible refine wpL_load_sub (x := .tmp 10) n 0 30 (⟨false, i.sg, i.size, i.rd, long, av, 0⟩ : AV).ca (⟨false, i.sg, i.size, i.rd, long, av, 0⟩ : AV).ca (.struct (Tryd.prog.fieldsOf 30)) ?_ QC.out ?_ u_acc ?_ ?_ ?_); rfl; exact sub_self (⟨false, i.sg, i.size, i.rd, long, av, 0⟩ : AV).ca; rfl; exact s_acc)
      | ((with_reducible refine wpL_store_sub (x := .tmp 6) (y := .tmp 64) (w.heap.size + 1) 0 30 (⟨false, false, 0, 0, 0, 0, 0⟩ : AV).ca (⟨false, i.sg, i.size, i.rd, long, av, 0⟩ : AV).ca (⟨false, i.sg, i.size, i.rd, long, av, 0⟩ : AV).ca ?_ ?_ QD.out ?_ ?_ ?_ ?_ ?_); rfl; rfl; rfl; exact (Nat.le_refl 7); (simp [Value.oneCell']); exact s_acc))
    exact bodyPost_ret (ret_acc2 Tryd.results6 (w.heap.size + 1) (⟨false, i.sg, i.size, i.rd, long, av, 0⟩ : AV) true rfl rfl (setRow_heap _ _ _ _ _ _ QD.out)) rfl ⟨rfl, below_setRow HWD.out (by omega) _⟩
  by_cases h7 : i.kind = 7
  · obtain ⟨rfl, ⟨q0, q1⟩, ⟨q2, q3⟩⟩ := HB.out (.inr h7)
    rw [h7] at i0
    have xr := row_cellH P0.out i.rs1.toNat (v := .int .u64 (o.x i.rs1.toNat)) (by simp only [HV.ca, List.getElem?_toArray]; exact hv_x o _ (by omega))
    go_upto_region 5 with (fail)
    obtain ⟨n, hn⟩ : ∃ n, n = wa.heap.size := ⟨_, rfl⟩
    have ag : ∀ k : Nat, k < g + 1 → ∀ f, (wa.alloc (.cells #[.bool false, .bool false, .int .i64 0, .int .i64 0, .int .i64 0, .int .u64 0, .int .u64 0] 30)).cell? ⟨k, f, none⟩ = wa.cell? ⟨k, f, none⟩ := fun k hk f => by
      simp only [World.cell?]
      rw [heap_alloc_old _ _ (by have := HGL.out; omega)]
    have z3 := (ag g (by omega) 3).trans i3
    have z5 := (ag g (by omega) 5).trans i5
    have z6 := (ag g (by omega) 6).trans i6
    have zr := (ag w.heap.size (by have := HGL.out; omega) i.rs1.toNat).trans xr
    clear ag hn
    go_region
    clear z3 z5 z6 zr i0 i2 i3 i4 i5 i6 i7 xr
    obtain ⟨av, hav⟩ : ∃ av, av = IntKind.u64.wrap (o.x i.rs1.toNat + IntKind.u64.wrap i.imm) := ⟨_, rfl⟩
    rw [← hav]
    have HAV : Hid (av = adr o i.rs1 i.imm) := hav
    clear hav
    obtain ⟨n, hn⟩ : ∃ n, n = wa.heap.size := ⟨_, rfl⟩
    rw [← hn]
    obtain ⟨wb, hwb⟩ : ∃ wb, wb = (wa.alloc (.cells (⟨false, false, i.size, 0, long, av, 0⟩ : AV).ca 30)).drew := ⟨_, rfl⟩
    rw [← hwb]
    have hgl := HGL.out
    have Q0 : Hid (wb.heap[w.heap.size]? = some (.cells o.ca 25 (0, 0))) := by show _ = _; rw [hwb]; exact (heap_alloc_old _ _ (by omega)).trans P0.out
    have Q1 : Hid (wb.heap[w.heap.size + 1]? = some (.cells (⟨false, false, 0, 0, 0, 0, 0⟩ : AV).ca 30 (0, 0))) := by show _ = _; rw [hwb]; exact (heap_alloc_old _ _ (by omega)).trans P1.out
    have Q2 : Hid (wb.heap[g]? = some (.cells (iCa i) 40 (0, 0))) := by show _ = _; rw [hwb]; exact (heap_alloc_old _ _ (by omega)).trans P2.out
    have QN : Hid (wb.heap[n]? = some (.cells (⟨false, false, i.size, 0, long, av, 0⟩ : AV).ca 30 (0, 0))) := by show _ = _; rw [hwb, hn]; exact heap_alloc_new _ _
    have HWC : Hid (Below w.heap.size w wb) := by show Below _ _ _; rw [hwb]; exact (HWB.out.alloc (by omega) _).drew
    have HNE : Hid (w.heap.size + 2 ≤ g ∧ n = g + 1) := by show _ ∧ _; omega
    clear hwb hn hgl HGL P0 P1 P2 HWB
    have i0 : wb.cell? ⟨g, 0, none⟩ = some (.int .i64 7) := by rw [← h7]; exact cell_of_row _ _ 0 _ _ _ Q2.out
    have i2 : wb.cell? ⟨g, 2, none⟩ = some (.int .i64 i.rd) := cell_of_row _ _ 2 _ _ _ Q2.out
    have i4 : wb.cell? ⟨g, 4, none⟩ = some (.int .i64 i.rs2) := cell_of_row _ _ 4 _ _ _ Q2.out
    have i6 : wb.cell? ⟨g, 6, none⟩ = some (.int .i64 i.size) := cell_of_row _ _ 6 _ _ _ Q2.out
    have i7 : wb.cell? ⟨g, 7, none⟩ = some (.bool i.sg) := cell_of_row _ _ 7 _ _ _ Q2.out
    have nf := row_fz QN.out
    have n0 : wb.cell? ⟨n, 0, none⟩ = some (.bool false) := cell_of_row _ _ 0 _ _ _ QN.out
    have n1 : wb.cell? ⟨n, 1, none⟩ = some (.bool false) := cell_of_row _ _ 1 _ _ _ QN.out
    have n3 : wb.cell? ⟨n, 3, none⟩ = some (.int .i64 0) := cell_of_row _ _ 3 _ _ _ QN.out
    have n6 : wb.cell? ⟨n, 6, none⟩ = some (.int .u64 0) := cell_of_row _ _ 6 _ _ _ QN.out
    have ngg : ¬ g = n := by have := HNE.out; omega
    have hp : plF o i long = (⟨true, false, i.size, 0, long, av, A.ext (o.x i.rs2.toNat) i.size false⟩, true) := by unfold plF; rw [if_neg h6, if_pos h7, HAV.out]
    obtain ⟨vx, hvx⟩ : ∃ vx, vx = A.ext (o.x i.rs2.toNat) i.size false := ⟨_, rfl⟩
    have HX : Hid (∀ u, Calls Tryd.prog 20 #[.int .u64 (o.x i.rs2.toNat), .int .i64 i.size, .bool false] u fun e w' => e = .returned (.int .u64 vx) ∧ w' = u) := fun u => by rw [hvx]; exact A.r_Extend _ i.size false (OO.out.x _).1 (by have := (OO.out.x i.rs2.toNat).2; omega) u
    rw [← hvx] at hp
    clear hvx
    have HPP := hid hp
    clear hp
    go_upto_region 8 with (fail)
    obtain ⟨wc, hwc⟩ : ∃ wc, wc = wb.setCell ⟨n, 0, none⟩ (.bool true) := ⟨_, rfl⟩
    rw [← hwc]
    have hne := HNE.out
    have R0 : Hid (wc.heap[w.heap.size]? = some (.cells o.ca 25 (0, 0))) := by show _ = _; rw [hwc, Below.heap_setCell _ _ _ _ (by show w.heap.size ≠ n; omega)]; exact Q0.out
    have R1 : Hid (wc.heap[w.heap.size + 1]? = some (.cells (⟨false, false, 0, 0, 0, 0, 0⟩ : AV).ca 30 (0, 0))) := by show _ = _; rw [hwc, Below.heap_setCell _ _ _ _ (by show w.heap.size + 1 ≠ n; omega)]; exact Q1.out
    have R2 : Hid (wc.heap[g]? = some (.cells (iCa i) 40 (0, 0))) := by show _ = _; rw [hwc, Below.heap_setCell _ _ _ _ (by show g ≠ n; omega)]; exact Q2.out
    have RN : Hid (wc.heap[n]? = some (.cells (⟨true, false, i.size, 0, long, av, 0⟩ : AV).ca 30 (0, 0))) := by show _ = _; rw [hwc]; exact row_set QN.out 0 _
    have HWR : Hid (Below w.heap.size w wc) := by show Below _ _ _; rw [hwc]; exact HWC.out.setCell (p := ⟨n, _, none⟩) (by show w.heap.size ≤ n; omega) _
    clear hwc nf n0 n1 n3 n6 i0 i2 i4 i6 i7 ngg hne Q0 Q1 Q2 QN HWC
    have j4 : wc.cell? ⟨g, 4, none⟩ = some (.int .i64 i.rs2) := cell_of_row _ _ 4 _ _ _ R2.out
    have j6 : wc.cell? ⟨g, 6, none⟩ = some (.int .i64 i.size) := cell_of_row _ _ 6 _ _ _ R2.out
    have xr := row_cellH R0.out i.rs2.toNat (v := .int .u64 (o.x i.rs2.toNat)) (by simp only [HV.ca, List.getElem?_toArray]; exact hv_x o _ (by omega))
    have m6 : wc.cell? ⟨n, 6, none⟩ = some (.int .u64 0) := cell_of_row _ _ 6 _ _ _ RN.out
    have mf := row_fz RN.out 6
    refine wp_region_last_lit (by simp) (by kernel_rfl) (by kernel_rfl) (by kernel_rfl) ?_
    simp only [List.dropLast, List.getLast]
    repeat (go_big_quiet_step (first | (go_at_call 20; with_reducible exact Calls.quiet_of_same (HX.out _))))
    refine wpQuiet_nil ?_
    intro _ hwq
    obtain ⟨nq, hwq⟩ := hwq
    subst hwq
    go_upto_region 9 with (fail)
    obtain ⟨wd, hwd⟩ : ∃ wd, wd = (wc.drewN nq).setCell ⟨n, 6, none⟩ (.int .u64 vx) := ⟨_, rfl⟩
    rw [← hwd]
    have hne := HNE.out
    have QC : Hid (wd.heap[n]? = some (.cells (⟨true, false, i.size, 0, long, av, vx⟩ : AV).ca 30 (0, 0))) := by show _ = _; rw [hwd]; exact row_set RN.out 6 _
    have QD : Hid (wd.heap[w.heap.size + 1]? = some (.cells (⟨false, false, 0, 0, 0, 0, 0⟩ : AV).ca 30 (0, 0))) := by show _ = _; rw [hwd, Below.heap_setCell _ _ _ _ (by show w.heap.size + 1 ≠ n; omega)]; exact R1.out
    have HWD : Hid (Below w.heap.size w wd) := by show Below _ _ _; rw [hwd]; exact (below_dn HWR.out nq).setCell (p := ⟨n, _, none⟩) (by show w.heap.size ≤ n; omega) _
    clear hwd j4 j6 xr m6 mf hne
    have hp := HPP.out
    go_wp2_with (first
      | ((with_reducible refine wpL_load_sub (x := .tmp 10) n 0 30 (⟨true, false, i.size, 0, long, av, vx⟩ : AV).ca (⟨true, false, i.size, 0, long, av, vx⟩ : AV).ca (.struct (Tryd.prog.fieldsOf 30)) ?_ QC.out ?_ u_acc ?_ ?_ ?_); rfl; exact sub_self (⟨true, false, i.size, 0, long, av, vx⟩ : AV).ca; rfl; exact s_acc)
      | ((with_reducible refine wpL_store_sub (x := .tmp 6) (y := .tmp 57) (w.heap.size + 1) 0 30 (⟨false, false, 0, 0, 0, 0, 0⟩ : AV).ca (⟨true, false, i.size, 0, long, av, vx⟩ : AV).ca (⟨true, false, i.size, 0, long, av, vx⟩ : AV).ca ?_ ?_ QD.out ?_ ?_ ?_ ?_ ?_); rfl; rfl; rfl; exact (Nat.le_refl 7); (simp [Value.oneCell']); exact s_acc))
    exact bodyPost_ret (ret_acc2 Tryd.results6 (w.heap.size + 1) (⟨true, false, i.size, 0, long, av, vx⟩ : AV) true rfl rfl (setRow_heap _ _ _ _ _ _ QD.out)) rfl ⟨rfl, below_setRow HWD.out (by omega) _⟩
  have hp : plF o i long = (⟨false, false, 0, 0, 0, 0, 0⟩, false) := by unfold plF; rw [if_neg h6, if_neg h7]
  have b6 : (i.kind != 6) = true := by simpa using h6
  have b7 : (i.kind != 7) = true := by simpa using h7
  clear h6 h7
  cases b
  · go_wp2_with (first
      | ((with_reducible refine wpL_store_sub (x := .tmp 6) (y := .tmp 30) (w.heap.size + 1) 0 30 (⟨false, false, 0, 0, 0, 0, 0⟩ : AV).ca (⟨false, false, 0, 0, 0, 0, 0⟩ : AV).ca (⟨false, false, 0, 0, 0, 0, 0⟩ : AV).ca ?_ ?_ P1.out ?_ ?_ ?_ ?_ ?_); rfl; rfl; rfl; exact (Nat.le_refl 7); (simp [Value.oneCell']); exact s_acc))
    exact bodyPost_ret (ret_acc2 Tryd.results6 (w.heap.size + 1) ⟨false, false, 0, 0, 0, 0, 0⟩ false rfl rfl (setRow_heap _ _ _ _ _ _ P1.out)) rfl ⟨by first | rfl | rw [hp], below_setRow HWB.out (by omega) _⟩
  · go_wp2_with (first
      | ((with_reducible refine wpL_store_sub (x := .tmp 6) (y := .tmp 30) (w.heap.size + 1) 0 30 (⟨false, false, 0, 0, 0, 0, 0⟩ : AV).ca (⟨false, false, 0, 0, 0, 0, 0⟩ : AV).ca (⟨false, false, 0, 0, 0, 0, 0⟩ : AV).ca ?_ ?_ P1.out ?_ ?_ ?_ ?_ ?_); rfl; rfl; rfl; exact (Nat.le_refl 7); (simp [Value.oneCell']); exact s_acc))
    exact bodyPost_ret (ret_acc2 Tryd.results6 (w.heap.size + 1) ⟨false, false, 0, 0, 0, 0, 0⟩ false rfl rfl (setRow_heap _ _ _ _ _ _ P1.out)) rfl ⟨by first | rfl | rw [hp], below_setRow HWB.out (by omega) _⟩
end Go.Proofs.YtkmknjiepegodaaDoor
