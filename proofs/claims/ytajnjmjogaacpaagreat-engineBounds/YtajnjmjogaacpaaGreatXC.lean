/- The table of an engine, made once. -/
import Derived.Test.YtajnjmjogaacpaaGreatXB
namespace Go.Proofs.YtajnjmjogaacpaaGreat
open Go.RowKit Go.ChangeMaps Go.MapKept
open C (Only hid)
set_option linter.unusedVariables false
set_option maxRecDepth 100000

theorem x_lay (w : World) (e : Nat) (v : EV) (d s : Int) (h : w.heap[e]? = some (.cells (v.cells d s (.map none)) 102 (0, 0))) :
    Calls Tryz.prog 40 #[.pointer (some ⟨e, 0, none⟩)] w fun r w' => r = .returned (.tuple #[]) ∧ ∃ M, w'.heap[e]? = some (.cells (v.cells d s (.map (some M))) 102 (0, 0)) ∧ Tab w' M e ∧ Only (· = e) w w' := by
  have hlt := lt_of_block h
  refine (x_lay0 w e (cell_of_row w e 13 _ _ _ h) (frozen_of_row w e 13 _ _ h) hlt).mono ?_
  rintro r w' ⟨rfl, es, c, hT, rfl⟩
  have h1 : (w.drew.alloc (.map es c)).heap[e]? = some (.cells (v.cells d s (.map none)) 102 (0, 0)) := (heap_alloc_old _ _ (by simpa using hlt)).trans h
  refine ⟨rfl, w.heap.size, setCell_row _ e 13 _ (v.cells d s (.map (some w.heap.size))) 102 _ h1 rfl, ⟨es, c, ?_, hT⟩, ?_⟩
  · refine (setCell_other_block _ e 13 _ w.heap.size (by omega)).trans ?_
    exact heap_alloc_new w.drew _
  · exact (((Only.refl (S := (· = e)) w).drew.alloc _).setCell (.inl rfl) _)
theorem k_disable (w : World) : (callFunc 90 #[]).run Tryz.prog w = .ok (.value (.tuple #[])) w := run_call_mark0 Tryz.func90 (by kernel_rfl) (by kernel_rfl) (by kernel_rfl) .disable (by kernel_rfl) w
theorem k_enable (w : World) : (callFunc 92 #[]).run Tryz.prog w = .ok (.value (.tuple #[])) w := run_call_mark0 Tryz.func92 (by kernel_rfl) (by kernel_rfl) (by kernel_rfl) .enable (by kernel_rfl) w
theorem k_acquire (a : Addr) (w : World) : (callFunc 93 #[.pointer (some a)]).run Tryz.prog w = .ok (.value (.tuple #[])) w := run_call_marked Tryz.func93 (by kernel_rfl) (by kernel_rfl) (by kernel_rfl) .acquire (by kernel_rfl) a w
theorem k_release (a : Addr) (w : World) : (callFunc 95 #[.pointer (some a)]).run Tryz.prog w = .ok (.value (.tuple #[])) w := run_call_marked Tryz.func95 (by kernel_rfl) (by kernel_rfl) (by kernel_rfl) .releaseMerge (by kernel_rfl) a w
theorem k_stored (a : Addr) (x : Value) (u : FrameMode) (w : World) (hc : w.cell? a = some x) (hz : w.frozen? a = false) :
    CallsD Tryz.prog 70 #[.pointer (some a), .bool true] u w fun e u' w' => u' = u ∧ (e = .returned (.tuple #[]) ∧ w' = w.drew.setCell a (.int .u32 1)) := by
  have hc' : w.drew.cell? a = some x := by go_simp
  have hz' : w.drew.frozen? a = false := by go_simp
  have hst := run_call_store (P := Tryz.prog) Tryz.func81 (by kernel_rfl) (by kernel_rfl) (by kernel_rfl) (by kernel_rfl) (k := .u32) (y := 1) hc' hz'
  go_enter_d Tryz.func70, Tryz.ntmps70
  go_wp2
  go_region_calls
  all_goals (go_end0; exact ⟨rfl, rfl⟩)
theorem k_unlock (a : Addr) (u : FrameMode) (w : World) (hc : w.cell? a = some (.int .i32 1)) (hz : w.frozen? a = false) :
    CallsD Tryz.prog 69 #[.pointer (some a)] u w fun e u' w' => u' = u ∧ (e = .returned (.tuple #[]) ∧ w' = w.setCell a (.int .i32 0)) := by
  have hd := k_disable
  have he := k_enable
  have hr := k_release
  have hadd := run_call_add (P := Tryz.prog) Tryz.func96 (by kernel_rfl) (by kernel_rfl) (by kernel_rfl) .i32 (by kernel_rfl) (y := -1) (s := 0) hc hz (by simp [go_sem]; rfl)
  have hcv := run_convert_to_unsafe (P := Tryz.prog) (src := 200) (dst := 204) Tryz.underlying200 Tryz.underlying204 (by kernel_rfl) hc
  go_enter_d Tryz.func69, Tryz.ntmps69
  go_wp2
  go_end0
  go_wp2
  all_goals (go_end0; exact ⟨rfl, rfl⟩)
theorem k_lock (a : Addr) (w : World) (hc : w.cell? a = some (.int .i32 0)) (hz : w.frozen? a = false) :
    Calls Tryz.prog 68 #[.pointer (some a)] w fun e w' => e = .returned (.tuple #[]) ∧ w' = w.setCell a (.int .i32 1) := by
  have hd := k_disable
  have he := k_enable
  have ha := k_acquire
  have hcas := run_call_cas_hit (P := Tryz.prog) Tryz.func91 (by kernel_rfl) (by kernel_rfl) (by kernel_rfl) .i32 (by kernel_rfl) (y := 1) hc hz
  have hc' : (w.setCell a (.int .i32 1)).cell? a = some (.int .i32 1) := World.cell?_setCell_same w a _ hc
  have hcv := run_convert_to_unsafe (P := Tryz.prog) (src := 200) (dst := 204) Tryz.underlying200 Tryz.underlying204 (by kernel_rfl) hc'
  go_enter Tryz.func68, Tryz.ntmps68
  go_wp2
  first | go_end0 | (simp only [Exit.inBlock, Exit.then]; refine bodyPost_ret (results_none rfl _ _ _) rfl ?_) | refine bodyPost_ret (results_none rfl _ _ _) rfl ?_
  go_wp2
  all_goals (go_end0; exact ⟨rfl, rfl⟩)
set_option maxRecDepth 100000 in
set_option maxHeartbeats 1600000 in
theorem k_slow (c : Nat) (w : World) (v : EV) (h : w.heap[c]? = some (.cells (v.cells 0 0 (.map none)) 102 (0, 0))) :
    Calls Tryz.prog 52 #[.pointer (some ⟨c, 10, none⟩), .func (.func 40) #[.pointer (some ⟨c, 0, none⟩)] #[]] w fun e w' => e = .returned (.tuple #[]) ∧
      (∃ M, w'.heap[c]? = some (.cells (v.cells 1 0 (.map (some M))) 102 (0, 0)) ∧ Tab w' M c) ∧ Only (· = c) w w' := by
  have hlt := lt_of_block h
  have h0 : w.cell? ⟨c, 10, none⟩ = some (.int .u32 0) := cell_of_row w c 10 _ _ _ h
  have h1 : w.cell? ⟨c, 11, none⟩ = some (.int .i32 0) := cell_of_row w c 11 _ _ _ h
  have fz : ∀ k, w.frozen? ⟨c, k, none⟩ = false := fun k => by simp [World.frozen?, h]
  have e1 := setCell_row w c 11 _ (v.cells 0 1 (.map none)) 102 (.int .i32 1) h rfl
  have ho1 : Only (· = c) w (w.setCell ⟨c, 11, none⟩ (.int .i32 1)) := only_e w c 11 _
  have hl := run_call_load (P := Tryz.prog) Tryz.func67 (by kernel_rfl) (by kernel_rfl) (by kernel_rfl) .u32 (by kernel_rfl) (w := w.setCell ⟨c, 11, none⟩ (.int .i32 1)) (a := ⟨c, 10, none⟩) (x := 0) ((World.cell?_setCell_other _ ⟨c, 11, none⟩ ⟨c, 10, none⟩ _ (by simp)).trans h0)
  have hnot : ∀ (x : Bool) (w : World), (Op.unary .not (.bool x)).run Tryz.prog w = .ok (.bool (!x)) w := fun _ _ => rfl
  have E1 := hid e1
  have O1 := hid ho1
  clear e1 ho1
  go_enter_defers Tryz.func52, Tryz.ntmps52
  go_wp2_with (first
    | (go_at_call 68; refine (k_lock ⟨c, 11, none⟩ _ h1 (fz _)).mono ?_; rintro e w' ⟨rfl, rfl⟩)
    | (go_at_call 40; refine (x_lay _ c v 0 1 E1.out).mono ?_; rintro e w2 ⟨rfl, M, m1, m2, m3⟩; have E2 := hid m1; have T2 := hid m2; have O2 := hid m3; clear m1 m2 m3)
    | (go_at_call 51; go_in))
  refine leaves_cons (f := 70) (args := #[.pointer (some ⟨c, 10, none⟩), .bool true]) (by simp) (by simp [go_sem]) ?_
  have g0 : w2.cell? ⟨c, 10, none⟩ = some (.int .u32 0) := cell_of_row w2 c 10 _ _ _ E2.out
  have g1 : w2.cell? ⟨c, 11, none⟩ = some (.int .i32 1) := cell_of_row w2 c 11 _ _ _ E2.out
  have z0 : ∀ k, w2.frozen? ⟨c, k, none⟩ = false := fun k => frozen_of_row w2 c k _ _ E2.out
  refine (k_stored ⟨c, 10, none⟩ (.int .u32 0) .returning _ g0 (z0 _)).mono ?_
  rintro e u' w'' ⟨rfl, rfl, rfl⟩
  refine leaves_cons (f := 69) (args := #[.pointer (some ⟨c, 11, none⟩)]) (by simp [settle]) (by simp [go_sem]) ?_
  refine (k_unlock ⟨c, 11, none⟩ _ _ ?_ (by simp [z0])).mono ?_
  · exact (World.cell?_setCell_other _ ⟨c, 10, none⟩ ⟨c, 11, none⟩ _ (by simp)).trans g1
  rintro e u' w'' ⟨rfl, rfl, rfl⟩
  have e4 := setCell_row w2.drew c 10 _ (v.cells 1 1 (.map (some M))) 102 (.int .u32 1) E2.out rfl
  have e5 := setCell_row _ c 11 _ (v.cells 1 0 (.map (some M))) 102 (.int .i32 0) e4 rfl
  have hM : Tab ((w2.drew.setCell ⟨c, 10, none⟩ (.int .u32 1)).setCell ⟨c, 11, none⟩ (.int .i32 0)) M c := by
    obtain ⟨es, n, q1, q2⟩ := T2.out
    have hne : M ≠ c := fun q => by subst q; rw [E2.out] at q1; cases q1
    exact ⟨es, n, (setCell_other_block _ c 11 _ M hne).trans ((setCell_other_block _ c 10 _ M hne).trans q1), q2⟩
  have hO : Only (· = c) w ((w2.drew.setCell ⟨c, 10, none⟩ (.int .u32 1)).setCell ⟨c, 11, none⟩ (.int .i32 0)) := ((O1.out.trans O2.out).drew.trans (only_e _ _ _ _)).trans (only_e _ _ _ _)
  simp [Leaves, settle, results, Tryz.results52]
  exact ⟨⟨M, e5, hM⟩, hO⟩
theorem k_Do (c : Nat) (w : World) (v : EV) (h : Eg w c v) :
    Calls Tryz.prog 39 #[.pointer (some ⟨c, 10, none⟩), .func (.func 40) #[.pointer (some ⟨c, 0, none⟩)] #[]] w fun e w' => e = .returned (.tuple #[]) ∧
      (∃ M, w'.heap[c]? = some (.cells (v.cells 1 0 (.map (some M))) 102 (0, 0)) ∧ Tab w' M c) ∧ Only (· = c) w w' := by
  have hnot : ∀ (x : Bool) (w : World), (Op.unary .not (.bool x)).run Tryz.prog w = .ok (.bool (!x)) w := fun _ _ => rfl
  rcases h with h | ⟨M, h, hM⟩
  · have h0 : w.cell? ⟨c, 10, none⟩ = some (.int .u32 0) := cell_of_row w c 10 _ _ _ h
    have hl := run_call_load (P := Tryz.prog) Tryz.func67 (by kernel_rfl) (by kernel_rfl) (by kernel_rfl) .u32 (by kernel_rfl) h0
    go_enter Tryz.func39, Tryz.ntmps39
    go_wp2_with (first
      | (go_at_call 52; refine (k_slow c _ v h).mono ?_; rintro e w' ⟨rfl, hE, hO⟩)
      | (go_at_call 51; go_in))
    go_end0
    exact ⟨rfl, hE, hO⟩
  · have h0 : w.cell? ⟨c, 10, none⟩ = some (.int .u32 1) := cell_of_row w c 10 _ _ _ h
    have hl := run_call_load (P := Tryz.prog) Tryz.func67 (by kernel_rfl) (by kernel_rfl) (by kernel_rfl) .u32 (by kernel_rfl) h0
    have HM := hid hM
    go_enter Tryz.func39, Tryz.ntmps39
    go_wp2
    go_end0
    exact ⟨rfl, ⟨M, h, HM.out⟩, .refl w⟩
end Go.Proofs.YtajnjmjogaacpaaGreat
