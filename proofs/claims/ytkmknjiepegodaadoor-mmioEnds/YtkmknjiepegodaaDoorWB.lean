/- Finish: the program's and the document's. -/
import Derived.Test.YtkmknjiepegodaaDoorWA
namespace Go.Proofs.YtkmknjiepegodaaDoor
open Go.RowKit
set_option linter.unusedVariables false
set_option maxRecDepth 100000

def finA (o : HV) (a : AV) : HV := { o with pc := IntKind.u64.wrap (o.pc + IntKind.u64.wrap a.len) }
def finB (o : HV) (a : AV) (v : Int) : HV := if a.store = false ∧ 0 < a.reg ∧ a.reg < 32 then { o with x := upd o.x a.reg.toNat (A.ext v a.size a.sg) } else o
/-- the hart behind it -/
def finH (h : HV) (a : AV) (v : Int) : HV := ordH (finB (finA (ordH h) a) a v)
theorem finA_ok {o : HV} (k : HOk o) (a : AV) : HOk (finA o a) := ⟨k.x, wrap_b _, k.stvec, k.sscr, k.sepc, k.scause, k.stval, k.sie, k.sip, k.satp, k.resv⟩
theorem ext_b (v n : Int) (s : Bool) (h : 0 ≤ v ∧ v < 18446744073709551616) : 0 ≤ A.ext v n s ∧ A.ext v n s < 18446744073709551616 := by
  cases s
  · show 0 ≤ A.exz v n ∧ A.exz v n < _
    unfold A.exz
    split; omega
    split; omega
    split; omega
    exact h
  · show 0 ≤ A.exs v n ∧ A.exs v n < _
    unfold A.exs
    split; omega
    split; omega
    split; omega
    exact h
theorem finB_ok {o : HV} (k : HOk o) (a : AV) (v : Int) (h : 0 ≤ v ∧ v < 18446744073709551616) : HOk (finB o a v) := by
  unfold finB
  split
  · exact ⟨fun r => by show 0 ≤ upd o.x _ _ r ∧ upd o.x _ _ r < _; unfold upd; split; exact ext_b _ _ _ h; exact k.x r, k.pc, k.stvec, k.sscr, k.sepc, k.scause, k.stval, k.sie, k.sip, k.satp, k.resv⟩
  · exact k
theorem ca_setx (p : HV) {r : Nat} (v : Int) (h : r < 32) : p.ca.setIfInBounds r (.int .u64 v) = ({ p with x := upd p.x r v } : HV).ca := by
  simp only [HV.ca, List.setIfInBounds_toArray]
  rw [hv_set p v r h]
set_option maxHeartbeats 1000000 in
theorem k_Finish (h : HV) (ok : HOk h) (a : AV) (oa : AOk a) (v : Int) (v0 : 0 ≤ v ∧ v < 18446744073709551616) (w : World) : Calls Tryd.prog 10 #[h.v, a.v, .int .u64 v] w fun e w' => e = .returned (finH h a v).v ∧ Below w.heap.size w w' := by
  have OK := hid ok
  have OA := hid oa
  have V0 := hid v0
  clear ok oa v0
  go_enter Tryd.func10, Tryd.ntmps10
  go_upto_region 2 with (first
    | ((with_reducible refine wpList_new (z := .agg HV.zero.ca) HV.zero.ca ?_ ?_ ?_); rfl; exact z_hart)
    | ((with_reducible refine wpL_loadH (x := .tmp 3) w.heap.size ?_ h ?_ ?_); rfl; exact heap3 _ _ _ _)
    | (go_at_call 16; refine (k_inOrder h OK.out _).mono ?_; rintro e w1 ⟨rfl, hb⟩; have HB1 := hid hb; clear hb)
    | ((with_reducible refine wpL_storeH (x := .tmp 3) (y := .tmp 8) w.heap.size ?_ (ordH h) ?_ h.ca ?_ rfl ?_); rfl; rfl; exact (HB1.out.block _ (by simp; omega)).trans (heap3 _ _ _ _)))
  have HP : Hid (w1.heap[w.heap.size]? = some (.cells h.ca 25 (0, 0))) := (HB1.out.block _ (by simp; omega)).trans (heap3 _ _ _ _)
  have HA : Hid (w1.heap[w.heap.size + 1]? = some (.cells a.ca 30 (0, 0))) := (HB1.out.block _ (by simp)).trans (heap3' _ _ _ _)
  have HQ : Hid (w1.heap[w.heap.size + 2]? = some (.cells HV.zero.ca 25 (0, 0))) := (HB1.out.block _ (by simp)).trans (heap3'' _ _ _ _)
  have HB0 : Hid (Below w.heap.size w w1) := (below3 _ _ _).trans (HB1.out.mono (by simp; omega))
  obtain ⟨o, ho⟩ : ∃ o, o = ordH h := ⟨_, rfl⟩
  have OO : Hid (HOk o) := by show HOk o; rw [ho]; exact ordOk OK.out
  have HO := hid ho
  clear OK
  obtain ⟨wa, hwa⟩ : ∃ wa, wa = w1.setRow w.heap.size o.ca := ⟨_, rfl⟩
  rw [← ho, ← hwa]
  clear ho
  have HR : Hid (wa.heap[w.heap.size]? = some (.cells o.ca 25 (0, 0))) := by show _ = _; rw [hwa]; exact heap_setRow _ _ _ _ _ HP.out
  have HA2 : Hid (wa.heap[w.heap.size + 1]? = some (.cells a.ca 30 (0, 0))) := by show _ = _; rw [hwa, setRow_other _ _ _ _ (by omega)]; exact HA.out
  have HZ : Hid (wa.heap[w.heap.size + 2]? = some (.cells HV.zero.ca 25 (0, 0))) := by show _ = _; rw [hwa, setRow_other _ _ _ _ (by omega)]; exact HQ.out
  have HW : Hid (Below w.heap.size w wa) := by show Below _ _ _; rw [hwa]; exact below_setRow HB0.out (Nat.le_refl _) _
  clear hwa HP HQ HB0 HB1 HA
  have x32 := row_cellH HR.out 32 (v := .int .u64 o.pc) (by simp [HV.ca, HV.cs])
  have f32 := row_fz HR.out 32
  have a4 : wa.cell? ⟨w.heap.size + 1, 4, none⟩ = some (.int .i64 a.len) := cell_of_row _ _ 4 _ _ _ HA2.out
  go_upto_region 3 with (fail)
  obtain ⟨wb, hwb⟩ : ∃ wb, wb = wa.setCell ⟨w.heap.size, 32, none⟩ (.int .u64 (IntKind.u64.wrap (o.pc + IntKind.u64.wrap a.len))) := ⟨_, rfl⟩
  rw [← hwb]
  obtain ⟨p, hp⟩ : ∃ p, p = finA o a := ⟨_, rfl⟩
  have HPP := hid hp
  have OP : Hid (HOk p) := by show HOk p; rw [hp]; exact finA_ok OO.out a
  have HR2 : Hid (wb.heap[w.heap.size]? = some (.cells p.ca 25 (0, 0))) := by show _ = _; rw [hwb, hp]; exact row_set HR.out 32 _
  have HA3 : Hid (wb.heap[w.heap.size + 1]? = some (.cells a.ca 30 (0, 0))) := by show _ = _; rw [hwb, Below.heap_setCell _ _ _ _ (by show w.heap.size + 1 ≠ w.heap.size; omega)]; exact HA2.out
  have HZ2 : Hid (wb.heap[w.heap.size + 2]? = some (.cells HV.zero.ca 25 (0, 0))) := by show _ = _; rw [hwb, Below.heap_setCell _ _ _ _ (by show w.heap.size + 2 ≠ w.heap.size; omega)]; exact HZ.out
  have HW2 : Hid (Below w.heap.size w wb) := by show Below _ _ _; rw [hwb]; exact HW.out.setCell (p := ⟨w.heap.size, _, none⟩) (Nat.le_refl _) _
  clear hwb hp x32 f32 a4 HR HA2 HZ HW OO
  have a0 : wb.cell? ⟨w.heap.size + 1, 0, none⟩ = some (.bool a.store) := cell_of_row _ _ 0 _ _ _ HA3.out
  have a1 : wb.cell? ⟨w.heap.size + 1, 1, none⟩ = some (.bool a.sg) := cell_of_row _ _ 1 _ _ _ HA3.out
  have a2 : wb.cell? ⟨w.heap.size + 1, 2, none⟩ = some (.int .i64 a.size) := cell_of_row _ _ 2 _ _ _ HA3.out
  have a3 : wb.cell? ⟨w.heap.size + 1, 3, none⟩ = some (.int .i64 a.reg) := cell_of_row _ _ 3 _ _ _ HA3.out
  by_cases c : a.store = false ∧ 0 < a.reg ∧ a.reg < 32
  · have HC := hid c
    obtain ⟨c0, c1, c2⟩ := c
    rw [c0] at a0
    have d1 : 1 ≤ a.reg := by omega
    have d2 : a.reg ≤ 31 := by omega
    have xr := row_cellH HR2.out a.reg.toNat (v := .int .u64 (p.x a.reg.toNat)) (by simp only [HV.ca, List.getElem?_toArray]; exact hv_x p _ (by omega))
    have fr := row_fz HR2.out a.reg.toNat
    go_upto_region 4 with (fail)
    refine wp_region_last_lit (by simp) (by kernel_rfl) (by kernel_rfl) (by kernel_rfl) ?_
    simp only [List.dropLast, List.getLast]
    repeat (go_big_quiet_step (first | (go_at_call 22; with_reducible exact Calls.quiet_of_same (A.m_Extend v a.size a.sg V0.out.1 (by have := V0.out.2; omega) _))))
    refine wpQuiet_nil ?_
    intro _ hwq
    obtain ⟨nq, hwq⟩ := hwq
    subst hwq
    go_upto_region 5 with (fail)
    obtain ⟨wc, hwc⟩ : ∃ wc, wc = (wb.drewN nq).setCell ⟨w.heap.size, a.reg.toNat, none⟩ (.int .u64 (A.ext v a.size a.sg)) := ⟨_, rfl⟩
    rw [← hwc]
    obtain ⟨q, hq⟩ : ∃ q : HV, q = finB p a v := ⟨_, rfl⟩
    have OQ : Hid (HOk q) := by show HOk q; rw [hq]; exact finB_ok OP.out a v V0.out
    have HR3 : Hid (wc.heap[w.heap.size]? = some (.cells q.ca 25 (0, 0))) := by show _ = _; rw [hwc, hq]; unfold finB; rw [if_pos HC.out, ← ca_setx p _ (by omega)]; exact row_set HR2.out _ _
    have HZ3 : Hid (wc.heap[w.heap.size + 2]? = some (.cells HV.zero.ca 25 (0, 0))) := by show _ = _; rw [hwc, Below.heap_setCell _ _ _ _ (by show w.heap.size + 2 ≠ w.heap.size; omega)]; exact HZ2.out
    have HW3 : Hid (Below w.heap.size w wc) := by show Below _ _ _; rw [hwc]; exact (below_dn HW2.out _).setCell (p := ⟨w.heap.size, _, none⟩) (Nat.le_refl _) _
    have HQ := hid hq
    clear hwc hq a0 a1 a2 a3 xr fr HR2 HA3 HZ2 HW2 c0 c1 c2 d1 d2
    go_wp2_with (first
      | ((with_reducible refine wpL_loadH (x := .tmp 3) w.heap.size ?_ q ?_ ?_); rfl; exact HR3.out)
      | (go_at_call 16; refine (k_inOrder q OQ.out _).mono ?_; rintro e w2 ⟨rfl, hb⟩; have HB2 := hid hb; clear hb)
      | ((with_reducible refine wpL_storeH (x := .tmp 6) (y := .tmp 40) (w.heap.size + 1 + 1) ?_ (ordH q) ?_ HV.zero.ca ?_ rfl ?_); rfl; rfl; exact (HB2.out.block _ (lt_of_row HZ3.out)).trans HZ3.out))
    refine bodyPost_ret (ret_row Tryd.results10 (w.heap.size + 2) (ordH q) rfl (heap_setRow _ _ _ _ _ ((HB2.out.block _ (lt_of_row HZ3.out)).trans HZ3.out))) rfl ⟨by unfold finH; rw [← HO.out, ← HPP.out, ← HQ.out], below_setRow (bT HW3.out HB2.out) (by omega) _⟩
  · obtain ⟨q, hq⟩ : ∃ q : HV, q = p := ⟨_, rfl⟩
    have HQ : Hid (q = finB p a v) := by show _ = _; rw [hq]; unfold finB; rw [if_neg c]
    subst hq
    have OQ := OP
    have HR3 := HR2
    have HZ3 := HZ2
    have HW3 := HW2
    have goal5 : a.store = true ∨ a.store = false ∧ a.reg ≤ 0 ∨ a.store = false ∧ 0 < a.reg ∧ 32 ≤ a.reg := by
      cases hs : a.store
      · by_cases g : 0 < a.reg
        · exact .inr (.inr ⟨rfl, g, by by_cases g2 : a.reg < 32; exact absurd ⟨hs, g, g2⟩ c; omega⟩)
        · exact .inr (.inl ⟨rfl, by omega⟩)
      · exact .inl rfl
    clear c
    rcases goal5 with c0 | ⟨c0, c1⟩ | ⟨c0, c1, c2⟩
    · rw [c0] at a0
      go_upto_region 5 with (fail)
      clear a0 a1 a2 a3 c0
      go_wp2_with (first
        | ((with_reducible refine wpL_loadH (x := .tmp 3) w.heap.size ?_ q ?_ ?_); rfl; exact HR3.out)
        | (go_at_call 16; refine (k_inOrder q OQ.out _).mono ?_; rintro e w2 ⟨rfl, hb⟩; have HB2 := hid hb; clear hb)
        | ((with_reducible refine wpL_storeH (x := .tmp 6) (y := .tmp 40) (w.heap.size + 1 + 1) ?_ (ordH q) ?_ HV.zero.ca ?_ rfl ?_); rfl; rfl; exact (HB2.out.block _ (lt_of_row HZ3.out)).trans HZ3.out))
      refine bodyPost_ret (ret_row Tryd.results10 (w.heap.size + 2) (ordH q) rfl (heap_setRow _ _ _ _ _ ((HB2.out.block _ (lt_of_row HZ3.out)).trans HZ3.out))) rfl ⟨by unfold finH; rw [← HO.out, ← HPP.out, ← HQ.out], below_setRow (bT HW3.out HB2.out) (by omega) _⟩
    · rw [c0] at a0
      have d1 : ¬ 1 ≤ a.reg := by omega
      have d2 : ¬ 0 < a.reg := by omega
      go_upto_region 5 with (fail)
      clear a0 a1 a2 a3 c0 c1 d1 d2
      go_wp2_with (first
        | ((with_reducible refine wpL_loadH (x := .tmp 3) w.heap.size ?_ q ?_ ?_); rfl; exact HR3.out)
        | (go_at_call 16; refine (k_inOrder q OQ.out _).mono ?_; rintro e w2 ⟨rfl, hb⟩; have HB2 := hid hb; clear hb)
        | ((with_reducible refine wpL_storeH (x := .tmp 6) (y := .tmp 40) (w.heap.size + 1 + 1) ?_ (ordH q) ?_ HV.zero.ca ?_ rfl ?_); rfl; rfl; exact (HB2.out.block _ (lt_of_row HZ3.out)).trans HZ3.out))
      refine bodyPost_ret (ret_row Tryd.results10 (w.heap.size + 2) (ordH q) rfl (heap_setRow _ _ _ _ _ ((HB2.out.block _ (lt_of_row HZ3.out)).trans HZ3.out))) rfl ⟨by unfold finH; rw [← HO.out, ← HPP.out, ← HQ.out], below_setRow (bT HW3.out HB2.out) (by omega) _⟩
    · rw [c0] at a0
      have d1 : 1 ≤ a.reg := by omega
      have d2 : ¬ a.reg ≤ 31 := by omega
      have d3 : ¬ a.reg < 32 := by omega
      go_upto_region 5 with (fail)
      clear a0 a1 a2 a3 c0 c1 c2 d1 d2 d3
      go_wp2_with (first
        | ((with_reducible refine wpL_loadH (x := .tmp 3) w.heap.size ?_ q ?_ ?_); rfl; exact HR3.out)
        | (go_at_call 16; refine (k_inOrder q OQ.out _).mono ?_; rintro e w2 ⟨rfl, hb⟩; have HB2 := hid hb; clear hb)
        | ((with_reducible refine wpL_storeH (x := .tmp 6) (y := .tmp 40) (w.heap.size + 1 + 1) ?_ (ordH q) ?_ HV.zero.ca ?_ rfl ?_); rfl; rfl; exact (HB2.out.block _ (lt_of_row HZ3.out)).trans HZ3.out))
      refine bodyPost_ret (ret_row Tryd.results10 (w.heap.size + 2) (ordH q) rfl (heap_setRow _ _ _ _ _ ((HB2.out.block _ (lt_of_row HZ3.out)).trans HZ3.out))) rfl ⟨by unfold finH; rw [← HO.out, ← HPP.out, ← HQ.out], below_setRow (bT HW3.out HB2.out) (by omega) _⟩
set_option maxHeartbeats 1000000 in
theorem d_Finish (h : HV) (ok : HOk h) (a : AV) (oa : AOk a) (v : Int) (v0 : 0 ≤ v ∧ v < 18446744073709551616) (w : World) : Calls Tryd.prog 11 #[h.v, a.v, .int .u64 v] w fun e w' => e = .returned (finH h a v).v ∧ Below w.heap.size w w' := by
  have OK := hid ok
  have OA := hid oa
  have V0 := hid v0
  clear ok oa v0
  go_enter Tryd.func11, Tryd.ntmps11
  go_upto_region 2 with (first
    | ((with_reducible refine wpList_new (z := .agg HV.zero.ca) HV.zero.ca ?_ ?_ ?_); rfl; exact z_hart)
    | ((with_reducible refine wpL_loadH (x := .tmp 3) w.heap.size ?_ h ?_ ?_); rfl; exact heap3 _ _ _ _)
    | (go_at_call 18; refine (r_Order h OK.out _).mono ?_; rintro e w1 ⟨rfl, hb⟩; have HB1 := hid hb; clear hb)
    | ((with_reducible refine wpL_storeH (x := .tmp 3) (y := .tmp 8) w.heap.size ?_ (ordH h) ?_ h.ca ?_ rfl ?_); rfl; rfl; exact (HB1.out.block _ (by simp; omega)).trans (heap3 _ _ _ _)))
  have HP : Hid (w1.heap[w.heap.size]? = some (.cells h.ca 25 (0, 0))) := (HB1.out.block _ (by simp; omega)).trans (heap3 _ _ _ _)
  have HA : Hid (w1.heap[w.heap.size + 1]? = some (.cells a.ca 30 (0, 0))) := (HB1.out.block _ (by simp)).trans (heap3' _ _ _ _)
  have HQ : Hid (w1.heap[w.heap.size + 2]? = some (.cells HV.zero.ca 25 (0, 0))) := (HB1.out.block _ (by simp)).trans (heap3'' _ _ _ _)
  have HB0 : Hid (Below w.heap.size w w1) := (below3 _ _ _).trans (HB1.out.mono (by simp; omega))
  obtain ⟨o, ho⟩ : ∃ o, o = ordH h := ⟨_, rfl⟩
  have OO : Hid (HOk o) := by show HOk o; rw [ho]; exact ordOk OK.out
  have HO := hid ho
  clear OK
  obtain ⟨wa, hwa⟩ : ∃ wa, wa = w1.setRow w.heap.size o.ca := ⟨_, rfl⟩
  rw [← ho, ← hwa]
  clear ho
  have HR : Hid (wa.heap[w.heap.size]? = some (.cells o.ca 25 (0, 0))) := by show _ = _; rw [hwa]; exact heap_setRow _ _ _ _ _ HP.out
  have HA2 : Hid (wa.heap[w.heap.size + 1]? = some (.cells a.ca 30 (0, 0))) := by show _ = _; rw [hwa, setRow_other _ _ _ _ (by omega)]; exact HA.out
  have HZ : Hid (wa.heap[w.heap.size + 2]? = some (.cells HV.zero.ca 25 (0, 0))) := by show _ = _; rw [hwa, setRow_other _ _ _ _ (by omega)]; exact HQ.out
  have HW : Hid (Below w.heap.size w wa) := by show Below _ _ _; rw [hwa]; exact below_setRow HB0.out (Nat.le_refl _) _
  clear hwa HP HQ HB0 HB1 HA
  have x32 := row_cellH HR.out 32 (v := .int .u64 o.pc) (by simp [HV.ca, HV.cs])
  have f32 := row_fz HR.out 32
  have a4 : wa.cell? ⟨w.heap.size + 1, 4, none⟩ = some (.int .i64 a.len) := cell_of_row _ _ 4 _ _ _ HA2.out
  go_upto_region 3 with (fail)
  obtain ⟨wb, hwb⟩ : ∃ wb, wb = wa.setCell ⟨w.heap.size, 32, none⟩ (.int .u64 (IntKind.u64.wrap (o.pc + IntKind.u64.wrap a.len))) := ⟨_, rfl⟩
  rw [← hwb]
  obtain ⟨p, hp⟩ : ∃ p, p = finA o a := ⟨_, rfl⟩
  have HPP := hid hp
  have OP : Hid (HOk p) := by show HOk p; rw [hp]; exact finA_ok OO.out a
  have HR2 : Hid (wb.heap[w.heap.size]? = some (.cells p.ca 25 (0, 0))) := by show _ = _; rw [hwb, hp]; exact row_set HR.out 32 _
  have HA3 : Hid (wb.heap[w.heap.size + 1]? = some (.cells a.ca 30 (0, 0))) := by show _ = _; rw [hwb, Below.heap_setCell _ _ _ _ (by show w.heap.size + 1 ≠ w.heap.size; omega)]; exact HA2.out
  have HZ2 : Hid (wb.heap[w.heap.size + 2]? = some (.cells HV.zero.ca 25 (0, 0))) := by show _ = _; rw [hwb, Below.heap_setCell _ _ _ _ (by show w.heap.size + 2 ≠ w.heap.size; omega)]; exact HZ.out
  have HW2 : Hid (Below w.heap.size w wb) := by show Below _ _ _; rw [hwb]; exact HW.out.setCell (p := ⟨w.heap.size, _, none⟩) (Nat.le_refl _) _
  clear hwb hp x32 f32 a4 HR HA2 HZ HW OO
  have a0 : wb.cell? ⟨w.heap.size + 1, 0, none⟩ = some (.bool a.store) := cell_of_row _ _ 0 _ _ _ HA3.out
  have a1 : wb.cell? ⟨w.heap.size + 1, 1, none⟩ = some (.bool a.sg) := cell_of_row _ _ 1 _ _ _ HA3.out
  have a2 : wb.cell? ⟨w.heap.size + 1, 2, none⟩ = some (.int .i64 a.size) := cell_of_row _ _ 2 _ _ _ HA3.out
  have a3 : wb.cell? ⟨w.heap.size + 1, 3, none⟩ = some (.int .i64 a.reg) := cell_of_row _ _ 3 _ _ _ HA3.out
  by_cases c : a.store = false ∧ 0 < a.reg ∧ a.reg < 32
  · have HC := hid c
    obtain ⟨c0, c1, c2⟩ := c
    rw [c0] at a0
    have d1 : 1 ≤ a.reg := by omega
    have d2 : a.reg ≤ 31 := by omega
    have xr := row_cellH HR2.out a.reg.toNat (v := .int .u64 (p.x a.reg.toNat)) (by simp only [HV.ca, List.getElem?_toArray]; exact hv_x p _ (by omega))
    have fr := row_fz HR2.out a.reg.toNat
    go_upto_region 4 with (fail)
    refine wp_region_last_lit (by simp) (by kernel_rfl) (by kernel_rfl) (by kernel_rfl) ?_
    simp only [List.dropLast, List.getLast]
    repeat (go_big_quiet_step (first | (go_at_call 20; with_reducible exact Calls.quiet_of_same (A.r_Extend v a.size a.sg V0.out.1 (by have := V0.out.2; omega) _))))
    refine wpQuiet_nil ?_
    intro _ hwq
    obtain ⟨nq, hwq⟩ := hwq
    subst hwq
    go_upto_region 5 with (fail)
    obtain ⟨wc, hwc⟩ : ∃ wc, wc = (wb.drewN nq).setCell ⟨w.heap.size, a.reg.toNat, none⟩ (.int .u64 (A.ext v a.size a.sg)) := ⟨_, rfl⟩
    rw [← hwc]
    obtain ⟨q, hq⟩ : ∃ q : HV, q = finB p a v := ⟨_, rfl⟩
    have OQ : Hid (HOk q) := by show HOk q; rw [hq]; exact finB_ok OP.out a v V0.out
    have HR3 : Hid (wc.heap[w.heap.size]? = some (.cells q.ca 25 (0, 0))) := by show _ = _; rw [hwc, hq]; unfold finB; rw [if_pos HC.out, ← ca_setx p _ (by omega)]; exact row_set HR2.out _ _
    have HZ3 : Hid (wc.heap[w.heap.size + 2]? = some (.cells HV.zero.ca 25 (0, 0))) := by show _ = _; rw [hwc, Below.heap_setCell _ _ _ _ (by show w.heap.size + 2 ≠ w.heap.size; omega)]; exact HZ2.out
    have HW3 : Hid (Below w.heap.size w wc) := by show Below _ _ _; rw [hwc]; exact (below_dn HW2.out _).setCell (p := ⟨w.heap.size, _, none⟩) (Nat.le_refl _) _
    have HQ := hid hq
    clear hwc hq a0 a1 a2 a3 xr fr HR2 HA3 HZ2 HW2 c0 c1 c2 d1 d2
    go_wp2_with (first
      | ((with_reducible refine wpL_loadH (x := .tmp 3) w.heap.size ?_ q ?_ ?_); rfl; exact HR3.out)
      | (go_at_call 18; refine (r_Order q OQ.out _).mono ?_; rintro e w2 ⟨rfl, hb⟩; have HB2 := hid hb; clear hb)
      | ((with_reducible refine wpL_storeH (x := .tmp 6) (y := .tmp 40) (w.heap.size + 1 + 1) ?_ (ordH q) ?_ HV.zero.ca ?_ rfl ?_); rfl; rfl; exact (HB2.out.block _ (lt_of_row HZ3.out)).trans HZ3.out))
    refine bodyPost_ret (ret_row Tryd.results11 (w.heap.size + 2) (ordH q) rfl (heap_setRow _ _ _ _ _ ((HB2.out.block _ (lt_of_row HZ3.out)).trans HZ3.out))) rfl ⟨by unfold finH; rw [← HO.out, ← HPP.out, ← HQ.out], below_setRow (bT HW3.out HB2.out) (by omega) _⟩
  · obtain ⟨q, hq⟩ : ∃ q : HV, q = p := ⟨_, rfl⟩
    have HQ : Hid (q = finB p a v) := by show _ = _; rw [hq]; unfold finB; rw [if_neg c]
    subst hq
    have OQ := OP
    have HR3 := HR2
    have HZ3 := HZ2
    have HW3 := HW2
    have goal5 : a.store = true ∨ a.store = false ∧ a.reg ≤ 0 ∨ a.store = false ∧ 0 < a.reg ∧ 32 ≤ a.reg := by
      cases hs : a.store
      · by_cases g : 0 < a.reg
        · exact .inr (.inr ⟨rfl, g, by by_cases g2 : a.reg < 32; exact absurd ⟨hs, g, g2⟩ c; omega⟩)
        · exact .inr (.inl ⟨rfl, by omega⟩)
      · exact .inl rfl
    clear c
    rcases goal5 with c0 | ⟨c0, c1⟩ | ⟨c0, c1, c2⟩
    · rw [c0] at a0
      go_upto_region 5 with (fail)
      clear a0 a1 a2 a3 c0
      go_wp2_with (first
        | ((with_reducible refine wpL_loadH (x := .tmp 3) w.heap.size ?_ q ?_ ?_); rfl; exact HR3.out)
        | (go_at_call 18; refine (r_Order q OQ.out _).mono ?_; rintro e w2 ⟨rfl, hb⟩; have HB2 := hid hb; clear hb)
        | ((with_reducible refine wpL_storeH (x := .tmp 6) (y := .tmp 40) (w.heap.size + 1 + 1) ?_ (ordH q) ?_ HV.zero.ca ?_ rfl ?_); rfl; rfl; exact (HB2.out.block _ (lt_of_row HZ3.out)).trans HZ3.out))
      refine bodyPost_ret (ret_row Tryd.results11 (w.heap.size + 2) (ordH q) rfl (heap_setRow _ _ _ _ _ ((HB2.out.block _ (lt_of_row HZ3.out)).trans HZ3.out))) rfl ⟨by unfold finH; rw [← HO.out, ← HPP.out, ← HQ.out], below_setRow (bT HW3.out HB2.out) (by omega) _⟩
    · rw [c0] at a0
      have d1 : ¬ 1 ≤ a.reg := by omega
      have d2 : ¬ 0 < a.reg := by omega
      go_upto_region 5 with (fail)
      clear a0 a1 a2 a3 c0 c1 d1 d2
      go_wp2_with (first
        | ((with_reducible refine wpL_loadH (x := .tmp 3) w.heap.size ?_ q ?_ ?_); rfl; exact HR3.out)
        | (go_at_call 18; refine (r_Order q OQ.out _).mono ?_; rintro e w2 ⟨rfl, hb⟩; have HB2 := hid hb; clear hb)
        | ((with_reducible refine wpL_storeH (x := .tmp 6) (y := .tmp 40) (w.heap.size + 1 + 1) ?_ (ordH q) ?_ HV.zero.ca ?_ rfl ?_); rfl; rfl; exact (HB2.out.block _ (lt_of_row HZ3.out)).trans HZ3.out))
      refine bodyPost_ret (ret_row Tryd.results11 (w.heap.size + 2) (ordH q) rfl (heap_setRow _ _ _ _ _ ((HB2.out.block _ (lt_of_row HZ3.out)).trans HZ3.out))) rfl ⟨by unfold finH; rw [← HO.out, ← HPP.out, ← HQ.out], below_setRow (bT HW3.out HB2.out) (by omega) _⟩
    · rw [c0] at a0
      have d1 : 1 ≤ a.reg := by omega
      have d2 : ¬ a.reg ≤ 31 := by omega
      have d3 : ¬ a.reg < 32 := by omega
      go_upto_region 5 with (fail)
      clear a0 a1 a2 a3 c0 c1 c2 d1 d2 d3
      go_wp2_with (first
        | ((with_reducible refine wpL_loadH (x := .tmp 3) w.heap.size ?_ q ?_ ?_); rfl; exact HR3.out)
        | (go_at_call 18; refine (r_Order q OQ.out _).mono ?_; rintro e w2 ⟨rfl, hb⟩; have HB2 := hid hb; clear hb)
        | ((with_reducible refine wpL_storeH (x := .tmp 6) (y := .tmp 40) (w.heap.size + 1 + 1) ?_ (ordH q) ?_ HV.zero.ca ?_ rfl ?_); rfl; rfl; exact (HB2.out.block _ (lt_of_row HZ3.out)).trans HZ3.out))
      refine bodyPost_ret (ret_row Tryd.results11 (w.heap.size + 2) (ordH q) rfl (heap_setRow _ _ _ _ _ ((HB2.out.block _ (lt_of_row HZ3.out)).trans HZ3.out))) rfl ⟨by unfold finH; rw [← HO.out, ← HPP.out, ← HQ.out], below_setRow (bT HW3.out HB2.out) (by omega) _⟩
end Go.Proofs.YtkmknjiepegodaaDoor
