/- Refuse of the document's, Match of both. -/
import Derived.Test.YtkmknjiepegodaaDoorWC
namespace Go.Proofs.YtkmknjiepegodaaDoor
open Go.RowKit
set_option linter.unusedVariables false
set_option maxRecDepth 100000

set_option maxHeartbeats 1000000 in
theorem d_Refuse (h : HV) (ok : HOk h) (e : EV) (hv : 0 ≤ e.va ∧ e.va < 18446744073709551616) (w : World) : Calls Tryd.prog 13 #[h.v, e.v] w fun r w' => r = .returned (trapH h (cz e.access) e.va).v ∧ Below w.heap.size w w' := by
  have HT : Hid (∀ u, Calls Tryd.prog 25 #[h.v, .int .u64 (cz e.access), .int .u64 e.va] u fun r w' => r = .returned (trapH h (cz e.access) e.va).v ∧ Below u.heap.size u w') := fun u => r_Trap h ok _ _ (cz_b _).1 (cz_b _).2 hv.1 hv.2 u
  clear ok hv
  obtain ⟨t, ht⟩ : ∃ t, t = trapH h (cz e.access) e.va := ⟨_, rfl⟩
  rw [← ht] at HT ⊢
  clear ht
  have H0 : Hid ((((w.alloc (.cells h.ca 25)).alloc (.cells (eCa e) 28)).alloc (.cells HV.zero.ca 25)).heap[w.heap.size]? = some (.cells h.ca 25 (0, 0))) := heap3 _ _ _ _
  have H2 : Hid ((((w.alloc (.cells h.ca 25)).alloc (.cells (eCa e) 28)).alloc (.cells HV.zero.ca 25)).heap[w.heap.size + 2]? = some (.cells HV.zero.ca 25 (0, 0))) := heap3'' _ _ _ _
  have H1 : Hid ((((w.alloc (.cells h.ca 25)).alloc (.cells (eCa e) 28)).alloc (.cells HV.zero.ca 25)).heap[w.heap.size + 1]? = some (.cells (eCa e) 28 (0, 0))) := heap3' _ _ _ _
  have HB : Hid (Below w.heap.size w (((w.alloc (.cells h.ca 25)).alloc (.cells (eCa e) 28)).alloc (.cells HV.zero.ca 25))) := below3 _ _ _
  obtain ⟨wa, hwa⟩ : ∃ wa, wa = ((w.alloc (.cells h.ca 25)).alloc (.cells (eCa e) 28)).alloc (.cells HV.zero.ca 25) := ⟨_, rfl⟩
  rw [← hwa] at H0 H1 H2 HB
  have HWA := hid hwa
  clear hwa
  have e1 : wa.cell? ⟨w.heap.size + 1, 1, none⟩ = some (.int .i64 e.access) := cell_of_row _ _ 1 _ _ _ H1.out
  have e2 : wa.cell? ⟨w.heap.size + 1, 2, none⟩ = some (.int .u64 e.va) := cell_of_row _ _ 2 _ _ _ H1.out
  by_cases h1 : e.access = 1
  · have hc : cz e.access = 1 := by unfold cz; rw [if_pos h1]
    rw [hc] at HT
    rw [h1] at e1
    clear hc h1
    go_enter Tryd.func13, Tryd.ntmps13
    go_upto_region 1 with (first
      | ((with_reducible refine wpList_new (z := .agg HV.zero.ca) HV.zero.ca ?_ ?_ ?_); rfl; exact z_hart))
    have hwa := HWA.out
    rw [← hwa]
    clear hwa
    go_wp2_with (first
      | ((with_reducible refine wpL_loadH (x := .tmp 2) w.heap.size ?_ h ?_ ?_); rfl; exact H0.out)
      | (go_at_call 25; refine (HT.out _).mono ?_; rintro e w1 ⟨rfl, hb⟩; have HB1 := hid hb; clear hb)
      | ((with_reducible refine wpL_storeH (x := .tmp 4) (y := .tmp 16) (w.heap.size + 1 + 1) ?_ t ?_ HV.zero.ca ?_ rfl ?_); rfl; rfl; exact (HB1.out.block _ (lt_of_row H2.out)).trans H2.out))
    refine bodyPost_ret (ret_row Tryd.results13 (w.heap.size + 2) t rfl (heap_setRow _ _ _ _ _ ((HB1.out.block _ (lt_of_row H2.out)).trans H2.out))) rfl ⟨rfl, below_setRow (bT HB.out HB1.out) (by omega) _⟩
  by_cases h2 : e.access = 2
  · have hc : cz e.access = 5 := by unfold cz; rw [if_neg h1, if_pos h2]
    rw [hc] at HT
    rw [h2] at e1
    clear hc h1 h2
    go_enter Tryd.func13, Tryd.ntmps13
    go_upto_region 1 with (first
      | ((with_reducible refine wpList_new (z := .agg HV.zero.ca) HV.zero.ca ?_ ?_ ?_); rfl; exact z_hart))
    have hwa := HWA.out
    rw [← hwa]
    clear hwa
    go_wp2_with (first
      | ((with_reducible refine wpL_loadH (x := .tmp 2) w.heap.size ?_ h ?_ ?_); rfl; exact H0.out)
      | (go_at_call 25; refine (HT.out _).mono ?_; rintro e w1 ⟨rfl, hb⟩; have HB1 := hid hb; clear hb)
      | ((with_reducible refine wpL_storeH (x := .tmp 4) (y := .tmp 16) (w.heap.size + 1 + 1) ?_ t ?_ HV.zero.ca ?_ rfl ?_); rfl; rfl; exact (HB1.out.block _ (lt_of_row H2.out)).trans H2.out))
    refine bodyPost_ret (ret_row Tryd.results13 (w.heap.size + 2) t rfl (heap_setRow _ _ _ _ _ ((HB1.out.block _ (lt_of_row H2.out)).trans H2.out))) rfl ⟨rfl, below_setRow (bT HB.out HB1.out) (by omega) _⟩
  have hc : cz e.access = 7 := by unfold cz; rw [if_neg h1, if_neg h2]
  rw [hc] at HT
  have b1 : (e.access == 1) = false := by simpa using h1
  have b2 : (e.access == 2) = false := by simpa using h2
  clear hc h1 h2
  go_enter Tryd.func13, Tryd.ntmps13
  go_upto_region 1 with (first
    | ((with_reducible refine wpList_new (z := .agg HV.zero.ca) HV.zero.ca ?_ ?_ ?_); rfl; exact z_hart))
  have hwa := HWA.out
  rw [← hwa]
  clear hwa
  go_wp2_with (first
    | ((with_reducible refine wpL_loadH (x := .tmp 2) w.heap.size ?_ h ?_ ?_); rfl; exact H0.out)
    | (go_at_call 25; refine (HT.out _).mono ?_; rintro e w1 ⟨rfl, hb⟩; have HB1 := hid hb; clear hb)
    | ((with_reducible refine wpL_storeH (x := .tmp 4) (y := .tmp 16) (w.heap.size + 1 + 1) ?_ t ?_ HV.zero.ca ?_ rfl ?_); rfl; rfl; exact (HB1.out.block _ (lt_of_row H2.out)).trans H2.out))
  refine bodyPost_ret (ret_row Tryd.results13 (w.heap.size + 2) t rfl (heap_setRow _ _ _ _ _ ((HB1.out.block _ (lt_of_row H2.out)).trans H2.out))) rfl ⟨rfl, below_setRow (bT HB.out HB1.out) (by omega) _⟩
theorem sub_self (cs : Array Value) : ∀ j v, cs.toList[j]? = some v → cs[0 + j]? = some v := fun j v h => by rw [Nat.zero_add, ← Array.getElem?_toList]; exact h
/-- by what access a load or a store comes to a fault -/
def acI (b : Bool) : Int := if b = true then 3 else 2
theorem k_accessOf (a : AV) (w : World) : Calls Tryd.prog 21 #[a.v] w fun e w' => e = .returned (.int .i64 (acI a.store)) ∧ Below w.heap.size w w' := by
  obtain ⟨st, sg, sz, rg, ln, va, vl⟩ := a
  cases st
  · go_enter Tryd.func21, Tryd.ntmps21
    go_wp2
    go_ret
    exact ⟨rfl, (Below.refl _ _).alloc (Nat.le_refl _) _⟩
  · go_enter Tryd.func21, Tryd.ntmps21
    go_wp2
    go_ret
    exact ⟨rfl, (Below.refl _ _).alloc (Nat.le_refl _) _⟩
/-- what went wrong is that -/
def mt (a : AV) (e : EV) : Bool := ((e.kind == 3) && !e.walk) && (e.access == acI a.store) && (e.va == a.va)
set_option maxHeartbeats 1000000 in
theorem k_Match (a : AV) (e : EV) (w : World) : Calls Tryd.prog 7 #[a.v, e.v] w fun r w' => r = .returned (.bool (mt a e)) ∧ Below w.heap.size w w' := by
  have HC : Hid (∀ u, Calls Tryd.prog 21 #[a.v] u fun r w' => r = .returned (.int .i64 (acI a.store)) ∧ Below u.heap.size u w') := fun u => k_accessOf a u
  have HM : Hid (mt a e = (((e.kind == 3) && !e.walk) && (e.access == acI a.store) && (e.va == a.va))) := rfl
  skip
  go_enter Tryd.func7, Tryd.ntmps7
  go_upto_region 1 with (fail)
  obtain ⟨wa, hwa⟩ : ∃ wa, wa = (w.alloc (.cells a.ca 30)).alloc (.cells (eCa e) 28) := ⟨_, rfl⟩
  rw [← hwa]
  have HWB : Hid (Below w.heap.size w wa) := by show Below _ _ _; rw [hwa]; exact below2 _ _
  have H0 : Hid (∀ w', (∃ x : WB wa, w' = x.w) → w'.heap[w.heap.size]? = some (.cells a.ca 30 (0, 0))) := fun w' ⟨x, hx⟩ => by rw [hx]; exact (x.h.block _ (by rw [hwa]; simp; omega)).trans (by rw [hwa]; exact heap2 _ _ _)
  have H1 : Hid (∀ w', (∃ x : WB wa, w' = x.w) → w'.heap[w.heap.size + 1]? = some (.cells (eCa e) 28 (0, 0))) := fun w' ⟨x, hx⟩ => by rw [hx]; exact (x.h.block _ (by rw [hwa]; simp)).trans (by rw [hwa]; exact heap2' _ _ _)
  have HSZ : Hid (w.heap.size ≤ wa.heap.size) := by show _ ≤ _; rw [hwa]; simp; omega
  clear hwa
  cases q1 : (e.kind == 3)
  · refine wp_region_wb (by kernel_rfl) (by kernel_rfl) ?_
    repeat
      first
        | ((with_reducible refine wpQuiet_load_sub w.heap.size 0 30 a.ca a.ca (Tryd.prog.fieldsOf 30) ?_ ?_ H0.out ?_ u_acc ?_ ?_); rfl; (first | exact wd_n | exact wd_s rfl); exact sub_self a.ca; exact s_acc)
        | ((with_reducible refine wpQuiet_load_one w.heap.size 5 30 a.ca (.int .u64 a.va) ?_ ?_ ?_ H0.out ?_ ?_); rfl; (first | exact wd_n | exact wd_s rfl); exact fun _ h => lv_u64 h; rfl)
        | ((with_reducible refine wpQuiet_load_one (w.heap.size + 1) 0 28 (eCa e) (.int .i64 e.kind) ?_ ?_ ?_ H1.out ?_ ?_); rfl; (first | exact wd_n | exact wd_s rfl); exact fun _ h => lv_int h; rfl)
        | ((with_reducible refine wpQuiet_load_one (w.heap.size + 1) 1 28 (eCa e) (.int .i64 e.access) ?_ ?_ ?_ H1.out ?_ ?_); rfl; (first | exact wd_n | exact wd_s rfl); exact fun _ h => lv_int h; rfl)
        | ((with_reducible refine wpQuiet_load_one (w.heap.size + 1) 2 28 (eCa e) (.int .u64 e.va) ?_ ?_ ?_ H1.out ?_ ?_); rfl; (first | exact wd_n | exact wd_s rfl); exact fun _ h => lv_u64 h; rfl)
        | ((with_reducible refine wpQuiet_load_one (w.heap.size + 1) 4 28 (eCa e) (.bool e.walk) ?_ ?_ ?_ H1.out ?_ ?_); rfl; (first | exact wd_n | exact wd_s rfl); exact fun _ h => lv_bool h; rfl)
        | (refine wpQuiet_step (fun K hK => ?_)
           go_simp
           first
             | (refine hK _ ?_; clear hK K)
             | (refine ⟨_, fun _ => rfl, hK _ ?_⟩; clear hK K)
             | (refine ⟨.int .i64 (acI a.store), fun x => ?_, hK _ ?_⟩
                · (go_at_call 21; exact Calls.wb x (HC.out x.w))
                clear hK K))
    refine wpQuiet_nil ?_
    intro _ hx
    obtain ⟨x, rfl⟩ := hx
    go_wp2
    go_ret
    exact ⟨by rw [HM.out]; simp [*], HWB.out.trans (x.h.mono HSZ.out)⟩
  cases q4 : e.walk
  rotate_left
  · refine wp_region_wb (by kernel_rfl) (by kernel_rfl) ?_
    repeat
      first
        | ((with_reducible refine wpQuiet_load_sub w.heap.size 0 30 a.ca a.ca (Tryd.prog.fieldsOf 30) ?_ ?_ H0.out ?_ u_acc ?_ ?_); rfl; (first | exact wd_n | exact wd_s rfl); exact sub_self a.ca; exact s_acc)
        | ((with_reducible refine wpQuiet_load_one w.heap.size 5 30 a.ca (.int .u64 a.va) ?_ ?_ ?_ H0.out ?_ ?_); rfl; (first | exact wd_n | exact wd_s rfl); exact fun _ h => lv_u64 h; rfl)
        | ((with_reducible refine wpQuiet_load_one (w.heap.size + 1) 0 28 (eCa e) (.int .i64 e.kind) ?_ ?_ ?_ H1.out ?_ ?_); rfl; (first | exact wd_n | exact wd_s rfl); exact fun _ h => lv_int h; rfl)
        | ((with_reducible refine wpQuiet_load_one (w.heap.size + 1) 1 28 (eCa e) (.int .i64 e.access) ?_ ?_ ?_ H1.out ?_ ?_); rfl; (first | exact wd_n | exact wd_s rfl); exact fun _ h => lv_int h; rfl)
        | ((with_reducible refine wpQuiet_load_one (w.heap.size + 1) 2 28 (eCa e) (.int .u64 e.va) ?_ ?_ ?_ H1.out ?_ ?_); rfl; (first | exact wd_n | exact wd_s rfl); exact fun _ h => lv_u64 h; rfl)
        | ((with_reducible refine wpQuiet_load_one (w.heap.size + 1) 4 28 (eCa e) (.bool e.walk) ?_ ?_ ?_ H1.out ?_ ?_); rfl; (first | exact wd_n | exact wd_s rfl); exact fun _ h => lv_bool h; rfl)
        | (refine wpQuiet_step (fun K hK => ?_)
           go_simp
           first
             | (refine hK _ ?_; clear hK K)
             | (refine ⟨_, fun _ => rfl, hK _ ?_⟩; clear hK K)
             | (refine ⟨.int .i64 (acI a.store), fun x => ?_, hK _ ?_⟩
                · (go_at_call 21; exact Calls.wb x (HC.out x.w))
                clear hK K))
    refine wpQuiet_nil ?_
    intro _ hx
    obtain ⟨x, rfl⟩ := hx
    go_wp2
    go_ret
    exact ⟨by rw [HM.out]; simp [*], HWB.out.trans (x.h.mono HSZ.out)⟩
  cases q2 : (e.access == acI a.store)
  · refine wp_region_wb (by kernel_rfl) (by kernel_rfl) ?_
    repeat
      first
        | ((with_reducible refine wpQuiet_load_sub w.heap.size 0 30 a.ca a.ca (Tryd.prog.fieldsOf 30) ?_ ?_ H0.out ?_ u_acc ?_ ?_); rfl; (first | exact wd_n | exact wd_s rfl); exact sub_self a.ca; exact s_acc)
        | ((with_reducible refine wpQuiet_load_one w.heap.size 5 30 a.ca (.int .u64 a.va) ?_ ?_ ?_ H0.out ?_ ?_); rfl; (first | exact wd_n | exact wd_s rfl); exact fun _ h => lv_u64 h; rfl)
        | ((with_reducible refine wpQuiet_load_one (w.heap.size + 1) 0 28 (eCa e) (.int .i64 e.kind) ?_ ?_ ?_ H1.out ?_ ?_); rfl; (first | exact wd_n | exact wd_s rfl); exact fun _ h => lv_int h; rfl)
        | ((with_reducible refine wpQuiet_load_one (w.heap.size + 1) 1 28 (eCa e) (.int .i64 e.access) ?_ ?_ ?_ H1.out ?_ ?_); rfl; (first | exact wd_n | exact wd_s rfl); exact fun _ h => lv_int h; rfl)
        | ((with_reducible refine wpQuiet_load_one (w.heap.size + 1) 2 28 (eCa e) (.int .u64 e.va) ?_ ?_ ?_ H1.out ?_ ?_); rfl; (first | exact wd_n | exact wd_s rfl); exact fun _ h => lv_u64 h; rfl)
        | ((with_reducible refine wpQuiet_load_one (w.heap.size + 1) 4 28 (eCa e) (.bool e.walk) ?_ ?_ ?_ H1.out ?_ ?_); rfl; (first | exact wd_n | exact wd_s rfl); exact fun _ h => lv_bool h; rfl)
        | (refine wpQuiet_step (fun K hK => ?_)
           go_simp
           first
             | (refine hK _ ?_; clear hK K)
             | (refine ⟨_, fun _ => rfl, hK _ ?_⟩; clear hK K)
             | (refine ⟨.int .i64 (acI a.store), fun x => ?_, hK _ ?_⟩
                · (go_at_call 21; exact Calls.wb x (HC.out x.w))
                clear hK K))
    refine wpQuiet_nil ?_
    intro _ hx
    obtain ⟨x, rfl⟩ := hx
    go_wp2
    go_ret
    exact ⟨by rw [HM.out]; simp [*], HWB.out.trans (x.h.mono HSZ.out)⟩
  cases q3 : (e.va == a.va)
  · refine wp_region_wb (by kernel_rfl) (by kernel_rfl) ?_
    repeat
      first
        | ((with_reducible refine wpQuiet_load_sub w.heap.size 0 30 a.ca a.ca (Tryd.prog.fieldsOf 30) ?_ ?_ H0.out ?_ u_acc ?_ ?_); rfl; (first | exact wd_n | exact wd_s rfl); exact sub_self a.ca; exact s_acc)
        | ((with_reducible refine wpQuiet_load_one w.heap.size 5 30 a.ca (.int .u64 a.va) ?_ ?_ ?_ H0.out ?_ ?_); rfl; (first | exact wd_n | exact wd_s rfl); exact fun _ h => lv_u64 h; rfl)
        | ((with_reducible refine wpQuiet_load_one (w.heap.size + 1) 0 28 (eCa e) (.int .i64 e.kind) ?_ ?_ ?_ H1.out ?_ ?_); rfl; (first | exact wd_n | exact wd_s rfl); exact fun _ h => lv_int h; rfl)
        | ((with_reducible refine wpQuiet_load_one (w.heap.size + 1) 1 28 (eCa e) (.int .i64 e.access) ?_ ?_ ?_ H1.out ?_ ?_); rfl; (first | exact wd_n | exact wd_s rfl); exact fun _ h => lv_int h; rfl)
        | ((with_reducible refine wpQuiet_load_one (w.heap.size + 1) 2 28 (eCa e) (.int .u64 e.va) ?_ ?_ ?_ H1.out ?_ ?_); rfl; (first | exact wd_n | exact wd_s rfl); exact fun _ h => lv_u64 h; rfl)
        | ((with_reducible refine wpQuiet_load_one (w.heap.size + 1) 4 28 (eCa e) (.bool e.walk) ?_ ?_ ?_ H1.out ?_ ?_); rfl; (first | exact wd_n | exact wd_s rfl); exact fun _ h => lv_bool h; rfl)
        | (refine wpQuiet_step (fun K hK => ?_)
           go_simp
           first
             | (refine hK _ ?_; clear hK K)
             | (refine ⟨_, fun _ => rfl, hK _ ?_⟩; clear hK K)
             | (refine ⟨.int .i64 (acI a.store), fun x => ?_, hK _ ?_⟩
                · (go_at_call 21; exact Calls.wb x (HC.out x.w))
                clear hK K))
    refine wpQuiet_nil ?_
    intro _ hx
    obtain ⟨x, rfl⟩ := hx
    go_wp2
    go_ret
    exact ⟨by rw [HM.out]; simp [*], HWB.out.trans (x.h.mono HSZ.out)⟩
  · refine wp_region_wb (by kernel_rfl) (by kernel_rfl) ?_
    repeat
      first
        | ((with_reducible refine wpQuiet_load_sub w.heap.size 0 30 a.ca a.ca (Tryd.prog.fieldsOf 30) ?_ ?_ H0.out ?_ u_acc ?_ ?_); rfl; (first | exact wd_n | exact wd_s rfl); exact sub_self a.ca; exact s_acc)
        | ((with_reducible refine wpQuiet_load_one w.heap.size 5 30 a.ca (.int .u64 a.va) ?_ ?_ ?_ H0.out ?_ ?_); rfl; (first | exact wd_n | exact wd_s rfl); exact fun _ h => lv_u64 h; rfl)
        | ((with_reducible refine wpQuiet_load_one (w.heap.size + 1) 0 28 (eCa e) (.int .i64 e.kind) ?_ ?_ ?_ H1.out ?_ ?_); rfl; (first | exact wd_n | exact wd_s rfl); exact fun _ h => lv_int h; rfl)
        | ((with_reducible refine wpQuiet_load_one (w.heap.size + 1) 1 28 (eCa e) (.int .i64 e.access) ?_ ?_ ?_ H1.out ?_ ?_); rfl; (first | exact wd_n | exact wd_s rfl); exact fun _ h => lv_int h; rfl)
        | ((with_reducible refine wpQuiet_load_one (w.heap.size + 1) 2 28 (eCa e) (.int .u64 e.va) ?_ ?_ ?_ H1.out ?_ ?_); rfl; (first | exact wd_n | exact wd_s rfl); exact fun _ h => lv_u64 h; rfl)
        | ((with_reducible refine wpQuiet_load_one (w.heap.size + 1) 4 28 (eCa e) (.bool e.walk) ?_ ?_ ?_ H1.out ?_ ?_); rfl; (first | exact wd_n | exact wd_s rfl); exact fun _ h => lv_bool h; rfl)
        | (refine wpQuiet_step (fun K hK => ?_)
           go_simp
           first
             | (refine hK _ ?_; clear hK K)
             | (refine ⟨_, fun _ => rfl, hK _ ?_⟩; clear hK K)
             | (refine ⟨.int .i64 (acI a.store), fun x => ?_, hK _ ?_⟩
                · (go_at_call 21; exact Calls.wb x (HC.out x.w))
                clear hK K))
    refine wpQuiet_nil ?_
    intro _ hx
    obtain ⟨x, rfl⟩ := hx
    go_wp2
    go_ret
    exact ⟨by rw [HM.out]; simp [*], HWB.out.trans (x.h.mono HSZ.out)⟩
end Go.Proofs.YtkmknjiepegodaaDoor
