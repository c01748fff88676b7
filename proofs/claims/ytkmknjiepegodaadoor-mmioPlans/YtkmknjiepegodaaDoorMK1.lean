/- The walk of MmioPlans. -/
import Derived.Test.YtkmknjiepegodaaDoorMH5
import Derived.Test.YtkmknjiepegodaaDoorHZ
import Derived.Test.YtkmknjiepegodaaDoorCards
import Derived.Test.YtkmknjiepegodaaDoorTie
import Derived.SevenTiedAt
namespace Go.Proofs.YtkmknjiepegodaaDoor
open Go.RowKit
set_option linter.unusedVariables false
set_option maxRecDepth 100000

set_option maxHeartbeats 2000000 in
theorem w_MmioPlans (h : HV) (a long : Int) (e : EV) (ok : HOk h) (h0 : 0 ≤ a ∧ a < 4294967296) (hv : 0 ≤ e.va ∧ e.va < 18446744073709551616) (w : World) (hG : B.G w) :
    Calls Tryd.prog 3 #[h.v, .int .u32 a, .int .i64 long, e.v] w fun r w' => r = .returned (.bool true) ∧ Below w.heap.size w w' := by
  have HP : Hid (∀ u, B.G u → Calls Tryd.prog 5 #[h.v, .int .u32 a, .int .i64 long] u fun e w' => e = .returned (.tuple #[(plF (ordH h) (B.D a).1 long).1.v, .bool (plF (ordH h) (B.D a).1 long).2]) ∧ Below u.heap.size u w') := fun u hg => k_Plan h ok a h0.1 h0.2 long u hg
  have HD : Hid (∀ u, Calls Tryd.prog 6 #[h.v, .int .u32 a, .int .i64 long] u fun e w' => e = .returned (.tuple #[(plF (ordH h) (B.D a).1 long).1.v, .bool (plF (ordH h) (B.D a).1 long).2]) ∧ Below u.heap.size u w') := fun u => d_Plan h ok a h0.1 h0.2 long u
  obtain ⟨p, hp⟩ : ∃ p, p = plF (ordH h) (B.D a).1 long := ⟨_, rfl⟩
  rw [← hp] at HP HD
  clear hp ok h0 hv
  obtain ⟨p, b⟩ := p
  have heq := run_eqA p
  have HM : Hid (∀ u, Calls Tryd.prog 7 #[p.v, e.v] u fun r w' => r = .returned (.bool (mt p e)) ∧ Below u.heap.size u w') := fun u => k_Match p e u
  have HN : Hid (∀ u, Calls Tryd.prog 8 #[p.v, e.v] u fun r w' => r = .returned (.bool (mt p e)) ∧ Below u.heap.size u w') := fun u => d_Match p e u
  generalize mt p e = m at *
  have HG := hid hG
  clear hG
  have HGA : Hid (B.G ((w.alloc (.cells h.ca 25)).alloc (.cells (eCa e) 28))) := (HG.out.alloc _).alloc _
  go_enter Tryd.func3, Tryd.ntmps3
  go_upto_region 2 with (first
    | ((with_reducible refine wpL_loadH (x := .tmp 4) w.heap.size ?_ h ?_ ?_); rfl; exact heap2 _ _ _)
    | (go_at_call 5; refine (HP.out _ HGA.out).mono ?_; rintro r w1 ⟨rfl, hb⟩; have HB1 := hid hb; clear hb))
  obtain ⟨g, hg⟩ : ∃ g, g = w1.heap.size := ⟨_, rfl⟩
  obtain ⟨wa, hwa⟩ : ∃ wa, wa = w1.alloc (.cells p.ca 30) := ⟨_, rfl⟩
  rw [← hg, ← hwa]
  have s1 : w.heap.size + 2 ≤ w1.heap.size := by have := HB1.out.size; simp at this; omega
  have HWB : Hid (Below w.heap.size w wa) := by show Below _ _ _; rw [hwa]; exact ((below2 _ _).trans (HB1.out.mono (by simp; omega))).alloc (by omega) _
  have P0 : Hid (wa.heap[w.heap.size]? = some (.cells h.ca 25 (0, 0))) := by show _ = _; rw [hwa, heap_alloc_old _ _ (by omega)]; exact (HB1.out.block _ (by simp; omega)).trans (heap2 _ _ _)
  have P1 : Hid (wa.heap[w.heap.size + 1]? = some (.cells (eCa e) 28 (0, 0))) := by show _ = _; rw [hwa, heap_alloc_old _ _ (by omega)]; exact (HB1.out.block _ (by simp)).trans (heap2' _ _ _)
  have P2 : Hid (wa.heap[g]? = some (.cells p.ca 30 (0, 0))) := by show _ = _; rw [hwa, hg]; exact heap_alloc_new _ _
  clear hwa hg HB1 s1 HGA HP
  go_upto_region 3 with (first
    | ((with_reducible refine wpL_loadH (x := .tmp 4) w.heap.size ?_ h ?_ ?_); rfl; exact P0.out)
    | (go_at_call 6; refine (HD.out _).mono ?_; rintro r w2 ⟨rfl, hb⟩; have HB2 := hid hb; clear hb))
  obtain ⟨k, hk⟩ : ∃ k, k = w2.heap.size := ⟨_, rfl⟩
  obtain ⟨wb, hwb⟩ : ∃ wb, wb = w2.alloc (.cells p.ca 30) := ⟨_, rfl⟩
  rw [← hk, ← hwb]
  have t1 : w.heap.size + 1 < wa.heap.size := lt_of_row P1.out
  have t2 : g < wa.heap.size := lt_of_row P2.out
  have t3 := HB2.out.size
  have HWC : Hid (Below w.heap.size w wb) := by show Below _ _ _; rw [hwb]; exact (bT HWB.out HB2.out).alloc (by omega) _
  have Q1 : Hid (wb.heap[w.heap.size + 1]? = some (.cells (eCa e) 28 (0, 0))) := by show _ = _; rw [hwb, heap_alloc_old _ _ (by omega)]; exact (HB2.out.block _ t1).trans P1.out
  have Q2 : Hid (wb.heap[g]? = some (.cells p.ca 30 (0, 0))) := by show _ = _; rw [hwb, heap_alloc_old _ _ (by omega)]; exact (HB2.out.block _ t2).trans P2.out
  have Q3 : Hid (wb.heap[k]? = some (.cells p.ca 30 (0, 0))) := by show _ = _; rw [hwb, hk]; exact heap_alloc_new _ _
  clear hwb hk HB2 HWB P0 P1 P2 t1 t2 t3 HD
  go_upto_region 5 with (first
    | ((with_reducible refine wpL_load_sub (x := .tmp 9) g 0 30 p.ca p.ca (.struct (Tryd.prog.fieldsOf 30)) ?_ Q2.out ?_ u_acc ?_ ?_ ?_); rfl; exact sub_self p.ca; rfl; exact s_acc)
    | ((with_reducible refine wpL_load_sub (x := .tmp 11) k 0 30 p.ca p.ca (.struct (Tryd.prog.fieldsOf 30)) ?_ Q3.out ?_ u_acc ?_ ?_ ?_); rfl; exact sub_self p.ca; rfl; exact s_acc))
  have H1 : Hid (∀ w', (∃ x : WB wb, w' = x.w) → w'.heap[w.heap.size + 1]? = some (.cells (eCa e) 28 (0, 0))) := fun w' ⟨x, hx⟩ => by rw [hx]; exact (x.h.block _ (lt_of_row Q1.out)).trans Q1.out
  have H2 : Hid (∀ w', (∃ x : WB wb, w' = x.w) → w'.heap[g]? = some (.cells p.ca 30 (0, 0))) := fun w' ⟨x, hx⟩ => by rw [hx]; exact (x.h.block _ (lt_of_row Q2.out)).trans Q2.out
  have HGX : Hid (∀ x : WB wb, B.G x.w) := fun x => (HG.out.below HWC.out).below x.h
  refine wp_region_wb (by kernel_rfl) (by kernel_rfl) ?_
  repeat
    first
      | ((with_reducible refine wpQuiet_load_sub g 0 30 p.ca p.ca (Tryd.prog.fieldsOf 30) ?_ ?_ H2.out ?_ u_acc ?_ ?_); rfl; exact wd_n; exact sub_self p.ca; exact s_acc)
      | ((with_reducible refine wpQuiet_load_sub (w.heap.size + 1) 0 28 (eCa e) (eCa e) (Tryd.prog.fieldsOf 28) ?_ ?_ H1.out ?_ u_event ?_ ?_); rfl; exact wd_n; exact sub_self (eCa e); exact s_event)
      | (refine wpQuiet_step (fun K hK => ?_)
         go_simp
         first
           | (refine hK _ ?_; clear hK K)
           | (refine ⟨_, fun _ => rfl, hK _ ?_⟩; clear hK K)
           | (refine ⟨.bool m, fun x => ?_, hK _ ?_⟩
              · first
                  | (go_at_call 7; exact Calls.wb x (HM.out x.w))
                  | (go_at_call 8; exact Calls.wb x (HN.out x.w))
              clear hK K)
           | (refine ⟨.bool true, fun x => ?_, hK _ ?_⟩
              · (go_at_call 9; exact Calls.wb x (m_awake x.w (HGX.out x)))
              clear hK K))
  refine wpQuiet_nil ?_
  intro _ hx
  obtain ⟨x, rfl⟩ := hx
  go_wp2
  go_ret
  exact ⟨rfl, bT HWC.out x.h⟩
end Go.Proofs.YtkmknjiepegodaaDoor
namespace Go.Proofs.YtkmknjiepegodaaDoor
open Go.ChangeShapes Go.WideShapes Go.ChangeAt Go.RowKit
set_option linter.unusedVariables false
set_option maxRecDepth 100000

theorem mmioPlans_k10 : (Rows.mmioPlansRow.inPlace == Tryd.prog.inPlace 3) = true := by kernel_rfl
theorem mmioPlans_k11 : (Rows.mmioPlansRow.unfollowed == Tryd.prog.unfollowed 3) = true := by kernel_rfl
theorem mmioPlans_k12 : (Rows.mmioPlansRow.recurses == Tryd.prog.recurses 3) = true := by kernel_rfl
theorem mmioPlans_k13 : (Rows.mmioPlansRow.named == Tryd.prog.varsNamed 3) = true := by kernel_rfl
theorem mmioPlans_closed : joinedFacts Tryd.prog 3 Tryd.f3 Rows.mmioPlansSpec Rows.mmioPlansRow = true := by
  unfold joinedFacts
  rw [mmioPlans_k10, mmioPlans_k11, mmioPlans_k12, mmioPlans_k13]
  kernel_rfl
end Go.Proofs.YtkmknjiepegodaaDoor
namespace Go.Proofs.YtkmknjiepegodaaDoor
open Go.ChangeShapes Go.WideShapes Go.ChangeAt Go.RowKit
set_option linter.unusedVariables false
set_option maxRecDepth 100000

theorem mmioPlans_go : false = Rows.mmioPlansRow.goesBy Tryd.pinned.checked.prog := by kernel_rfl
theorem mmioPlans_fn : Tryd.pinned.checked.prog.funcNamed "citadel/citadellaw15.MmioPlans" = some 3 := by kernel_rfl
theorem mmioPlans_inst : Tryd.f3.isInstance Tryd.pinned.checked.prog Rows.mmioPlansRow.origin Rows.mmioPlansRow.targs := of_decide_eq_true (by kernel_rfl)
end Go.Proofs.YtkmknjiepegodaaDoor
