/- The flags of sstatus. -/
import Derived.Test.YtooagjndelbegaaGreatDoorMH1
import Derived.Deep.QuietTactic
import Derived.BigQuiet
namespace Go.Proofs.YtooagjndelbegaaGreatDoor
open Go.RowKit
set_option linter.unusedVariables false
set_option maxRecDepth 100000

def flg (t : Bool) (n : Int) : Int := if t = true then n else 0
def stF (o : HV) : Int := bits .or .u64 (bits .or .u64 (bits .or .u64 (bits .or .u64 (bits .or .u64 (flg o.on 2) (flg o.spie 32)) (flg o.spp 256)) (flg o.sum 262144)) (flg o.mxr 524288)) 8589934592
def stP (o : HV) : Int := bits .or .u64 (bits .or .u64 (bits .or .u64 (bits .or .u64 (bits .or .u64 8589934592 (flg o.on 2)) (flg o.spie 32)) (flg o.spp 256)) (flg o.sum 262144)) (flg o.mxr 524288)
theorem st_P (o : HV) : stP o = stF o := by
  unfold stP stF
  cases o.on <;> cases o.spie <;> cases o.spp <;> cases o.sum <;> cases o.mxr <;> rfl
theorem st_b (o : HV) : 0 ≤ stF o ∧ stF o < 18446744073709551616 := by
  unfold stF
  cases o.on <;> cases o.spie <;> cases o.spp <;> cases o.sum <;> cases o.mxr <;> decide
theorem heap1 (w : World) (o : Obj) : (w.alloc o).heap[w.heap.size]? = some o := heap_alloc_new w o
theorem fl_1 (t : Bool) (w : World) : Calls Tryz.prog 49 #[.bool t, .int .u64 1] w fun e w' => e = .returned (.int .u64 (flg t 2)) ∧ w' = w := by
  cases t
  · go_enter Tryz.func49, Tryz.ntmps49
    go_wp2
    go_ret
    exact ⟨rfl, rfl⟩
  · go_enter Tryz.func49, Tryz.ntmps49
    go_wp2
    go_ret
    exact ⟨rfl, rfl⟩
theorem fb_1 (t : Bool) (w : World) : Calls Tryz.prog 91 #[.bool t, .int .u64 2] w fun e w' => e = .returned (.int .u64 (flg t 2)) ∧ w' = w := by
  cases t
  · go_enter Tryz.func91, Tryz.ntmps91
    go_wp2
    go_ret
    exact ⟨rfl, rfl⟩
  · go_enter Tryz.func91, Tryz.ntmps91
    go_wp2
    go_ret
    exact ⟨rfl, rfl⟩
theorem fl_5 (t : Bool) (w : World) : Calls Tryz.prog 49 #[.bool t, .int .u64 5] w fun e w' => e = .returned (.int .u64 (flg t 32)) ∧ w' = w := by
  cases t
  · go_enter Tryz.func49, Tryz.ntmps49
    go_wp2
    go_ret
    exact ⟨rfl, rfl⟩
  · go_enter Tryz.func49, Tryz.ntmps49
    go_wp2
    go_ret
    exact ⟨rfl, rfl⟩
theorem fb_5 (t : Bool) (w : World) : Calls Tryz.prog 91 #[.bool t, .int .u64 32] w fun e w' => e = .returned (.int .u64 (flg t 32)) ∧ w' = w := by
  cases t
  · go_enter Tryz.func91, Tryz.ntmps91
    go_wp2
    go_ret
    exact ⟨rfl, rfl⟩
  · go_enter Tryz.func91, Tryz.ntmps91
    go_wp2
    go_ret
    exact ⟨rfl, rfl⟩
theorem fl_8 (t : Bool) (w : World) : Calls Tryz.prog 49 #[.bool t, .int .u64 8] w fun e w' => e = .returned (.int .u64 (flg t 256)) ∧ w' = w := by
  cases t
  · go_enter Tryz.func49, Tryz.ntmps49
    go_wp2
    go_ret
    exact ⟨rfl, rfl⟩
  · go_enter Tryz.func49, Tryz.ntmps49
    go_wp2
    go_ret
    exact ⟨rfl, rfl⟩
theorem fb_8 (t : Bool) (w : World) : Calls Tryz.prog 91 #[.bool t, .int .u64 256] w fun e w' => e = .returned (.int .u64 (flg t 256)) ∧ w' = w := by
  cases t
  · go_enter Tryz.func91, Tryz.ntmps91
    go_wp2
    go_ret
    exact ⟨rfl, rfl⟩
  · go_enter Tryz.func91, Tryz.ntmps91
    go_wp2
    go_ret
    exact ⟨rfl, rfl⟩
theorem fl_18 (t : Bool) (w : World) : Calls Tryz.prog 49 #[.bool t, .int .u64 18] w fun e w' => e = .returned (.int .u64 (flg t 262144)) ∧ w' = w := by
  cases t
  · go_enter Tryz.func49, Tryz.ntmps49
    go_wp2
    go_ret
    exact ⟨rfl, rfl⟩
  · go_enter Tryz.func49, Tryz.ntmps49
    go_wp2
    go_ret
    exact ⟨rfl, rfl⟩
theorem fb_18 (t : Bool) (w : World) : Calls Tryz.prog 91 #[.bool t, .int .u64 262144] w fun e w' => e = .returned (.int .u64 (flg t 262144)) ∧ w' = w := by
  cases t
  · go_enter Tryz.func91, Tryz.ntmps91
    go_wp2
    go_ret
    exact ⟨rfl, rfl⟩
  · go_enter Tryz.func91, Tryz.ntmps91
    go_wp2
    go_ret
    exact ⟨rfl, rfl⟩
theorem fl_19 (t : Bool) (w : World) : Calls Tryz.prog 49 #[.bool t, .int .u64 19] w fun e w' => e = .returned (.int .u64 (flg t 524288)) ∧ w' = w := by
  cases t
  · go_enter Tryz.func49, Tryz.ntmps49
    go_wp2
    go_ret
    exact ⟨rfl, rfl⟩
  · go_enter Tryz.func49, Tryz.ntmps49
    go_wp2
    go_ret
    exact ⟨rfl, rfl⟩
theorem fb_19 (t : Bool) (w : World) : Calls Tryz.prog 91 #[.bool t, .int .u64 524288] w fun e w' => e = .returned (.int .u64 (flg t 524288)) ∧ w' = w := by
  cases t
  · go_enter Tryz.func91, Tryz.ntmps91
    go_wp2
    go_ret
    exact ⟨rfl, rfl⟩
  · go_enter Tryz.func91, Tryz.ntmps91
    go_wp2
    go_ret
    exact ⟨rfl, rfl⟩
set_option maxHeartbeats 1000000 in
theorem m_status (h : HV) (w : World) : Calls Tryz.prog 48 #[h.v] w fun e w' => e = .returned (.int .u64 (stF h)) ∧ Below w.heap.size w w' := by
  rw [← st_P]
  have HR : Hid ((w.alloc (.cells h.ca 28)).heap[w.heap.size]? = some (.cells h.ca 28 (0, 0))) := heap1 _ _
  have x34 := row_cellH HR.out 34 (v := .bool h.on) (by simp [HV.ca, HV.cs])
  have x35 := row_cellH HR.out 35 (v := .bool h.spie) (by simp [HV.ca, HV.cs])
  have x36 := row_cellH HR.out 36 (v := .bool h.spp) (by simp [HV.ca, HV.cs])
  have x37 := row_cellH HR.out 37 (v := .bool h.sum) (by simp [HV.ca, HV.cs])
  have x38 := row_cellH HR.out 38 (v := .bool h.mxr) (by simp [HV.ca, HV.cs])
  go_enter Tryz.func48, Tryz.ntmps48
  go_wp2_with fail
  go_quiet (first | (go_at_call 91; with_reducible exact Calls.quiet_of_same (fb_1 h.on _)) | (go_at_call 91; with_reducible exact Calls.quiet_of_same (fb_5 h.spie _)) | (go_at_call 91; with_reducible exact Calls.quiet_of_same (fb_8 h.spp _)) | (go_at_call 91; with_reducible exact Calls.quiet_of_same (fb_18 h.sum _)) | (go_at_call 91; with_reducible exact Calls.quiet_of_same (fb_19 h.mxr _)))
  go_wp2_with fail
  go_ret
  exact ⟨rfl, ((Below.refl _ _).alloc (Nat.le_refl _) _).trans ⟨rfl, rfl, rfl, Nat.le_refl _, fun _ _ => rfl⟩⟩
end Go.Proofs.YtooagjndelbegaaGreatDoor
namespace Go.Proofs.YtooagjndelbegaaGreatDoor
open Go.RowKit
set_option linter.unusedVariables false
set_option maxRecDepth 100000

set_option maxHeartbeats 1000000 in
theorem rd_now (h : HV) (ok : HOk h) (csr now : Int) (w : World) (hc : csr = 3073) : Calls Tryz.prog 21 #[h.v, .int .i64 csr, .int .u64 now] w fun e w' => e = .returned (.tuple #[.int .u64 (now), .bool true]) ∧ Below w.heap.size w w' := by
  have OK := hid ok
  clear ok
  go_enter Tryz.func21, Tryz.ntmps21
  go_upto_region 2 with (first
    | ((with_reducible refine wpL_loadH (x := .tmp 3) w.heap.size ?_ h ?_ ?_); rfl; exact heap1 _ _)
    | (go_at_call 38; refine (r_Order h OK.out _).mono ?_; rintro e w1 ⟨rfl, hb⟩; have HB1 := hid hb; clear hb)
    | ((with_reducible refine wpL_storeH (x := .tmp 3) (y := .tmp 9) w.heap.size ?_ (ordH h) ?_ h.ca ?_ rfl ?_); rfl; rfl; exact (HB1.out.block _ (by simp)).trans (heap1 _ _)))
  have HP : Hid (w1.heap[w.heap.size]? = some (.cells h.ca 28 (0, 0))) := (HB1.out.block _ (by simp)).trans (heap1 _ _)
  have HB0 : Hid (Below w.heap.size w w1) := ((Below.refl _ _).alloc (Nat.le_refl _) _).trans (HB1.out.mono (by simp))
  obtain ⟨o, ho⟩ : ∃ o, o = ordH h := ⟨_, rfl⟩
  rw [← ho]
  skip
  have HO := hid ho
  clear ho
  obtain ⟨wa, hwa⟩ : ∃ wa, wa = w1.setRow w.heap.size o.ca := ⟨_, rfl⟩
  have HR : Hid (wa.heap[w.heap.size]? = some (.cells o.ca 28 (0, 0))) := by show _ = _; rw [hwa]; exact heap_setRow _ _ _ _ _ HP.out
  have HW : Hid (Below w.heap.size w wa) := by show Below _ _ _; rw [hwa]; exact below_setRow HB0.out (Nat.le_refl _) _
  rw [← hwa]
  clear hwa HP HB0 HB1
  go_wp2_with fail
  go_ret2
  exact ⟨rfl, HW.out⟩
set_option maxHeartbeats 1000000 in
theorem rd_user (h : HV) (ok : HOk h) (csr now : Int) (w : World) (hc : csr ≠ 3073) (hu : (ordH h).user = true) : Calls Tryz.prog 21 #[h.v, .int .i64 csr, .int .u64 now] w fun e w' => e = .returned (.tuple #[.int .u64 (0), .bool false]) ∧ Below w.heap.size w w' := by
  have OK := hid ok
  clear ok
  go_enter Tryz.func21, Tryz.ntmps21
  go_upto_region 2 with (first
    | ((with_reducible refine wpL_loadH (x := .tmp 3) w.heap.size ?_ h ?_ ?_); rfl; exact heap1 _ _)
    | (go_at_call 38; refine (r_Order h OK.out _).mono ?_; rintro e w1 ⟨rfl, hb⟩; have HB1 := hid hb; clear hb)
    | ((with_reducible refine wpL_storeH (x := .tmp 3) (y := .tmp 9) w.heap.size ?_ (ordH h) ?_ h.ca ?_ rfl ?_); rfl; rfl; exact (HB1.out.block _ (by simp)).trans (heap1 _ _)))
  have HP : Hid (w1.heap[w.heap.size]? = some (.cells h.ca 28 (0, 0))) := (HB1.out.block _ (by simp)).trans (heap1 _ _)
  have HB0 : Hid (Below w.heap.size w w1) := ((Below.refl _ _).alloc (Nat.le_refl _) _).trans (HB1.out.mono (by simp))
  obtain ⟨o, ho⟩ : ∃ o, o = ordH h := ⟨_, rfl⟩
  rw [← ho]
  rw [← ho] at hu
  have HO := hid ho
  clear ho
  obtain ⟨wa, hwa⟩ : ∃ wa, wa = w1.setRow w.heap.size o.ca := ⟨_, rfl⟩
  have HR : Hid (wa.heap[w.heap.size]? = some (.cells o.ca 28 (0, 0))) := by show _ = _; rw [hwa]; exact heap_setRow _ _ _ _ _ HP.out
  have HW : Hid (Below w.heap.size w wa) := by show Below _ _ _; rw [hwa]; exact below_setRow HB0.out (Nat.le_refl _) _
  rw [← hwa]
  clear hwa HP HB0 HB1
  have x33 := row_cellH HR.out 33 (v := .bool o.user) (by simp [HV.ca, HV.cs])
  go_wp2_with fail
  go_ret2
  exact ⟨rfl, HW.out⟩
set_option maxHeartbeats 1000000 in
theorem rd_104 (h : HV) (ok : HOk h) (csr now : Int) (w : World) (hc : csr = 260) (hu : (ordH h).user = false) : Calls Tryz.prog 21 #[h.v, .int .i64 csr, .int .u64 now] w fun e w' => e = .returned (.tuple #[.int .u64 ((ordH h).sie), .bool true]) ∧ Below w.heap.size w w' := by
  have OK := hid ok
  clear ok
  go_enter Tryz.func21, Tryz.ntmps21
  go_upto_region 2 with (first
    | ((with_reducible refine wpL_loadH (x := .tmp 3) w.heap.size ?_ h ?_ ?_); rfl; exact heap1 _ _)
    | (go_at_call 38; refine (r_Order h OK.out _).mono ?_; rintro e w1 ⟨rfl, hb⟩; have HB1 := hid hb; clear hb)
    | ((with_reducible refine wpL_storeH (x := .tmp 3) (y := .tmp 9) w.heap.size ?_ (ordH h) ?_ h.ca ?_ rfl ?_); rfl; rfl; exact (HB1.out.block _ (by simp)).trans (heap1 _ _)))
  have HP : Hid (w1.heap[w.heap.size]? = some (.cells h.ca 28 (0, 0))) := (HB1.out.block _ (by simp)).trans (heap1 _ _)
  have HB0 : Hid (Below w.heap.size w w1) := ((Below.refl _ _).alloc (Nat.le_refl _) _).trans (HB1.out.mono (by simp))
  obtain ⟨o, ho⟩ : ∃ o, o = ordH h := ⟨_, rfl⟩
  rw [← ho]
  rw [← ho] at hu
  have HO := hid ho
  clear ho
  obtain ⟨wa, hwa⟩ : ∃ wa, wa = w1.setRow w.heap.size o.ca := ⟨_, rfl⟩
  have HR : Hid (wa.heap[w.heap.size]? = some (.cells o.ca 28 (0, 0))) := by show _ = _; rw [hwa]; exact heap_setRow _ _ _ _ _ HP.out
  have HW : Hid (Below w.heap.size w wa) := by show Below _ _ _; rw [hwa]; exact below_setRow HB0.out (Nat.le_refl _) _
  rw [← hwa]
  clear hwa HP HB0 HB1
  have x33 := row_cellH HR.out 33 (v := .bool o.user) (by simp [HV.ca, HV.cs])
  have x45 := row_cellH HR.out 45 (v := .int .u64 o.sie) (by simp [HV.ca, HV.cs])
  go_wp2_with fail
  go_ret2
  exact ⟨by rw [← HO.out]; rfl, HW.out⟩
set_option maxHeartbeats 1000000 in
theorem rd_105 (h : HV) (ok : HOk h) (csr now : Int) (w : World) (hc : csr = 261) (hu : (ordH h).user = false) : Calls Tryz.prog 21 #[h.v, .int .i64 csr, .int .u64 now] w fun e w' => e = .returned (.tuple #[.int .u64 ((ordH h).stvec), .bool true]) ∧ Below w.heap.size w w' := by
  have OK := hid ok
  clear ok
  go_enter Tryz.func21, Tryz.ntmps21
  go_upto_region 2 with (first
    | ((with_reducible refine wpL_loadH (x := .tmp 3) w.heap.size ?_ h ?_ ?_); rfl; exact heap1 _ _)
    | (go_at_call 38; refine (r_Order h OK.out _).mono ?_; rintro e w1 ⟨rfl, hb⟩; have HB1 := hid hb; clear hb)
    | ((with_reducible refine wpL_storeH (x := .tmp 3) (y := .tmp 9) w.heap.size ?_ (ordH h) ?_ h.ca ?_ rfl ?_); rfl; rfl; exact (HB1.out.block _ (by simp)).trans (heap1 _ _)))
  have HP : Hid (w1.heap[w.heap.size]? = some (.cells h.ca 28 (0, 0))) := (HB1.out.block _ (by simp)).trans (heap1 _ _)
  have HB0 : Hid (Below w.heap.size w w1) := ((Below.refl _ _).alloc (Nat.le_refl _) _).trans (HB1.out.mono (by simp))
  obtain ⟨o, ho⟩ : ∃ o, o = ordH h := ⟨_, rfl⟩
  rw [← ho]
  rw [← ho] at hu
  have HO := hid ho
  clear ho
  obtain ⟨wa, hwa⟩ : ∃ wa, wa = w1.setRow w.heap.size o.ca := ⟨_, rfl⟩
  have HR : Hid (wa.heap[w.heap.size]? = some (.cells o.ca 28 (0, 0))) := by show _ = _; rw [hwa]; exact heap_setRow _ _ _ _ _ HP.out
  have HW : Hid (Below w.heap.size w wa) := by show Below _ _ _; rw [hwa]; exact below_setRow HB0.out (Nat.le_refl _) _
  rw [← hwa]
  clear hwa HP HB0 HB1
  have x33 := row_cellH HR.out 33 (v := .bool o.user) (by simp [HV.ca, HV.cs])
  have x40 := row_cellH HR.out 40 (v := .int .u64 o.stvec) (by simp [HV.ca, HV.cs])
  go_wp2_with fail
  go_ret2
  exact ⟨by rw [← HO.out]; rfl, HW.out⟩
set_option maxHeartbeats 1000000 in
theorem rd_140 (h : HV) (ok : HOk h) (csr now : Int) (w : World) (hc : csr = 320) (hu : (ordH h).user = false) : Calls Tryz.prog 21 #[h.v, .int .i64 csr, .int .u64 now] w fun e w' => e = .returned (.tuple #[.int .u64 ((ordH h).sscr), .bool true]) ∧ Below w.heap.size w w' := by
  have OK := hid ok
  clear ok
  go_enter Tryz.func21, Tryz.ntmps21
  go_upto_region 2 with (first
    | ((with_reducible refine wpL_loadH (x := .tmp 3) w.heap.size ?_ h ?_ ?_); rfl; exact heap1 _ _)
    | (go_at_call 38; refine (r_Order h OK.out _).mono ?_; rintro e w1 ⟨rfl, hb⟩; have HB1 := hid hb; clear hb)
    | ((with_reducible refine wpL_storeH (x := .tmp 3) (y := .tmp 9) w.heap.size ?_ (ordH h) ?_ h.ca ?_ rfl ?_); rfl; rfl; exact (HB1.out.block _ (by simp)).trans (heap1 _ _)))
  have HP : Hid (w1.heap[w.heap.size]? = some (.cells h.ca 28 (0, 0))) := (HB1.out.block _ (by simp)).trans (heap1 _ _)
  have HB0 : Hid (Below w.heap.size w w1) := ((Below.refl _ _).alloc (Nat.le_refl _) _).trans (HB1.out.mono (by simp))
  obtain ⟨o, ho⟩ : ∃ o, o = ordH h := ⟨_, rfl⟩
  rw [← ho]
  rw [← ho] at hu
  have HO := hid ho
  clear ho
  obtain ⟨wa, hwa⟩ : ∃ wa, wa = w1.setRow w.heap.size o.ca := ⟨_, rfl⟩
  have HR : Hid (wa.heap[w.heap.size]? = some (.cells o.ca 28 (0, 0))) := by show _ = _; rw [hwa]; exact heap_setRow _ _ _ _ _ HP.out
  have HW : Hid (Below w.heap.size w wa) := by show Below _ _ _; rw [hwa]; exact below_setRow HB0.out (Nat.le_refl _) _
  rw [← hwa]
  clear hwa HP HB0 HB1
  have x33 := row_cellH HR.out 33 (v := .bool o.user) (by simp [HV.ca, HV.cs])
  have x41 := row_cellH HR.out 41 (v := .int .u64 o.sscr) (by simp [HV.ca, HV.cs])
  go_wp2_with fail
  go_ret2
  exact ⟨by rw [← HO.out]; rfl, HW.out⟩
set_option maxHeartbeats 1000000 in
theorem rd_141 (h : HV) (ok : HOk h) (csr now : Int) (w : World) (hc : csr = 321) (hu : (ordH h).user = false) : Calls Tryz.prog 21 #[h.v, .int .i64 csr, .int .u64 now] w fun e w' => e = .returned (.tuple #[.int .u64 ((ordH h).sepc), .bool true]) ∧ Below w.heap.size w w' := by
  have OK := hid ok
  clear ok
  go_enter Tryz.func21, Tryz.ntmps21
  go_upto_region 2 with (first
    | ((with_reducible refine wpL_loadH (x := .tmp 3) w.heap.size ?_ h ?_ ?_); rfl; exact heap1 _ _)
    | (go_at_call 38; refine (r_Order h OK.out _).mono ?_; rintro e w1 ⟨rfl, hb⟩; have HB1 := hid hb; clear hb)
    | ((with_reducible refine wpL_storeH (x := .tmp 3) (y := .tmp 9) w.heap.size ?_ (ordH h) ?_ h.ca ?_ rfl ?_); rfl; rfl; exact (HB1.out.block _ (by simp)).trans (heap1 _ _)))
  have HP : Hid (w1.heap[w.heap.size]? = some (.cells h.ca 28 (0, 0))) := (HB1.out.block _ (by simp)).trans (heap1 _ _)
  have HB0 : Hid (Below w.heap.size w w1) := ((Below.refl _ _).alloc (Nat.le_refl _) _).trans (HB1.out.mono (by simp))
  obtain ⟨o, ho⟩ : ∃ o, o = ordH h := ⟨_, rfl⟩
  rw [← ho]
  rw [← ho] at hu
  have HO := hid ho
  clear ho
  obtain ⟨wa, hwa⟩ : ∃ wa, wa = w1.setRow w.heap.size o.ca := ⟨_, rfl⟩
  have HR : Hid (wa.heap[w.heap.size]? = some (.cells o.ca 28 (0, 0))) := by show _ = _; rw [hwa]; exact heap_setRow _ _ _ _ _ HP.out
  have HW : Hid (Below w.heap.size w wa) := by show Below _ _ _; rw [hwa]; exact below_setRow HB0.out (Nat.le_refl _) _
  rw [← hwa]
  clear hwa HP HB0 HB1
  have x33 := row_cellH HR.out 33 (v := .bool o.user) (by simp [HV.ca, HV.cs])
  have x42 := row_cellH HR.out 42 (v := .int .u64 o.sepc) (by simp [HV.ca, HV.cs])
  go_wp2_with fail
  go_ret2
  exact ⟨by rw [← HO.out]; rfl, HW.out⟩
set_option maxHeartbeats 1000000 in
theorem rd_142 (h : HV) (ok : HOk h) (csr now : Int) (w : World) (hc : csr = 322) (hu : (ordH h).user = false) : Calls Tryz.prog 21 #[h.v, .int .i64 csr, .int .u64 now] w fun e w' => e = .returned (.tuple #[.int .u64 ((ordH h).scause), .bool true]) ∧ Below w.heap.size w w' := by
  have OK := hid ok
  clear ok
  go_enter Tryz.func21, Tryz.ntmps21
  go_upto_region 2 with (first
    | ((with_reducible refine wpL_loadH (x := .tmp 3) w.heap.size ?_ h ?_ ?_); rfl; exact heap1 _ _)
    | (go_at_call 38; refine (r_Order h OK.out _).mono ?_; rintro e w1 ⟨rfl, hb⟩; have HB1 := hid hb; clear hb)
    | ((with_reducible refine wpL_storeH (x := .tmp 3) (y := .tmp 9) w.heap.size ?_ (ordH h) ?_ h.ca ?_ rfl ?_); rfl; rfl; exact (HB1.out.block _ (by simp)).trans (heap1 _ _)))
  have HP : Hid (w1.heap[w.heap.size]? = some (.cells h.ca 28 (0, 0))) := (HB1.out.block _ (by simp)).trans (heap1 _ _)
  have HB0 : Hid (Below w.heap.size w w1) := ((Below.refl _ _).alloc (Nat.le_refl _) _).trans (HB1.out.mono (by simp))
  obtain ⟨o, ho⟩ : ∃ o, o = ordH h := ⟨_, rfl⟩
  rw [← ho]
  rw [← ho] at hu
  have HO := hid ho
  clear ho
  obtain ⟨wa, hwa⟩ : ∃ wa, wa = w1.setRow w.heap.size o.ca := ⟨_, rfl⟩
  have HR : Hid (wa.heap[w.heap.size]? = some (.cells o.ca 28 (0, 0))) := by show _ = _; rw [hwa]; exact heap_setRow _ _ _ _ _ HP.out
  have HW : Hid (Below w.heap.size w wa) := by show Below _ _ _; rw [hwa]; exact below_setRow HB0.out (Nat.le_refl _) _
  rw [← hwa]
  clear hwa HP HB0 HB1
  have x33 := row_cellH HR.out 33 (v := .bool o.user) (by simp [HV.ca, HV.cs])
  have x43 := row_cellH HR.out 43 (v := .int .u64 o.scause) (by simp [HV.ca, HV.cs])
  go_wp2_with fail
  go_ret2
  exact ⟨by rw [← HO.out]; rfl, HW.out⟩
set_option maxHeartbeats 1000000 in
theorem rd_143 (h : HV) (ok : HOk h) (csr now : Int) (w : World) (hc : csr = 323) (hu : (ordH h).user = false) : Calls Tryz.prog 21 #[h.v, .int .i64 csr, .int .u64 now] w fun e w' => e = .returned (.tuple #[.int .u64 ((ordH h).stval), .bool true]) ∧ Below w.heap.size w w' := by
  have OK := hid ok
  clear ok
  go_enter Tryz.func21, Tryz.ntmps21
  go_upto_region 2 with (first
    | ((with_reducible refine wpL_loadH (x := .tmp 3) w.heap.size ?_ h ?_ ?_); rfl; exact heap1 _ _)
    | (go_at_call 38; refine (r_Order h OK.out _).mono ?_; rintro e w1 ⟨rfl, hb⟩; have HB1 := hid hb; clear hb)
    | ((with_reducible refine wpL_storeH (x := .tmp 3) (y := .tmp 9) w.heap.size ?_ (ordH h) ?_ h.ca ?_ rfl ?_); rfl; rfl; exact (HB1.out.block _ (by simp)).trans (heap1 _ _)))
  have HP : Hid (w1.heap[w.heap.size]? = some (.cells h.ca 28 (0, 0))) := (HB1.out.block _ (by simp)).trans (heap1 _ _)
  have HB0 : Hid (Below w.heap.size w w1) := ((Below.refl _ _).alloc (Nat.le_refl _) _).trans (HB1.out.mono (by simp))
  obtain ⟨o, ho⟩ : ∃ o, o = ordH h := ⟨_, rfl⟩
  rw [← ho]
  rw [← ho] at hu
  have HO := hid ho
  clear ho
  obtain ⟨wa, hwa⟩ : ∃ wa, wa = w1.setRow w.heap.size o.ca := ⟨_, rfl⟩
  have HR : Hid (wa.heap[w.heap.size]? = some (.cells o.ca 28 (0, 0))) := by show _ = _; rw [hwa]; exact heap_setRow _ _ _ _ _ HP.out
  have HW : Hid (Below w.heap.size w wa) := by show Below _ _ _; rw [hwa]; exact below_setRow HB0.out (Nat.le_refl _) _
  rw [← hwa]
  clear hwa HP HB0 HB1
  have x33 := row_cellH HR.out 33 (v := .bool o.user) (by simp [HV.ca, HV.cs])
  have x44 := row_cellH HR.out 44 (v := .int .u64 o.stval) (by simp [HV.ca, HV.cs])
  go_wp2_with fail
  go_ret2
  exact ⟨by rw [← HO.out]; rfl, HW.out⟩
set_option maxHeartbeats 1000000 in
theorem rd_144 (h : HV) (ok : HOk h) (csr now : Int) (w : World) (hc : csr = 324) (hu : (ordH h).user = false) : Calls Tryz.prog 21 #[h.v, .int .i64 csr, .int .u64 now] w fun e w' => e = .returned (.tuple #[.int .u64 ((ordH h).sip), .bool true]) ∧ Below w.heap.size w w' := by
  have OK := hid ok
  clear ok
  go_enter Tryz.func21, Tryz.ntmps21
  go_upto_region 2 with (first
    | ((with_reducible refine wpL_loadH (x := .tmp 3) w.heap.size ?_ h ?_ ?_); rfl; exact heap1 _ _)
    | (go_at_call 38; refine (r_Order h OK.out _).mono ?_; rintro e w1 ⟨rfl, hb⟩; have HB1 := hid hb; clear hb)
    | ((with_reducible refine wpL_storeH (x := .tmp 3) (y := .tmp 9) w.heap.size ?_ (ordH h) ?_ h.ca ?_ rfl ?_); rfl; rfl; exact (HB1.out.block _ (by simp)).trans (heap1 _ _)))
  have HP : Hid (w1.heap[w.heap.size]? = some (.cells h.ca 28 (0, 0))) := (HB1.out.block _ (by simp)).trans (heap1 _ _)
  have HB0 : Hid (Below w.heap.size w w1) := ((Below.refl _ _).alloc (Nat.le_refl _) _).trans (HB1.out.mono (by simp))
  obtain ⟨o, ho⟩ : ∃ o, o = ordH h := ⟨_, rfl⟩
  rw [← ho]
  rw [← ho] at hu
  have HO := hid ho
  clear ho
  obtain ⟨wa, hwa⟩ : ∃ wa, wa = w1.setRow w.heap.size o.ca := ⟨_, rfl⟩
  have HR : Hid (wa.heap[w.heap.size]? = some (.cells o.ca 28 (0, 0))) := by show _ = _; rw [hwa]; exact heap_setRow _ _ _ _ _ HP.out
  have HW : Hid (Below w.heap.size w wa) := by show Below _ _ _; rw [hwa]; exact below_setRow HB0.out (Nat.le_refl _) _
  rw [← hwa]
  clear hwa HP HB0 HB1
  have x33 := row_cellH HR.out 33 (v := .bool o.user) (by simp [HV.ca, HV.cs])
  have x46 := row_cellH HR.out 46 (v := .int .u64 o.sip) (by simp [HV.ca, HV.cs])
  go_wp2_with fail
  go_ret2
  exact ⟨by rw [← HO.out]; rfl, HW.out⟩
set_option maxHeartbeats 1000000 in
theorem rd_180 (h : HV) (ok : HOk h) (csr now : Int) (w : World) (hc : csr = 384) (hu : (ordH h).user = false) : Calls Tryz.prog 21 #[h.v, .int .i64 csr, .int .u64 now] w fun e w' => e = .returned (.tuple #[.int .u64 ((ordH h).satp), .bool true]) ∧ Below w.heap.size w w' := by
  have OK := hid ok
  clear ok
  go_enter Tryz.func21, Tryz.ntmps21
  go_upto_region 2 with (first
    | ((with_reducible refine wpL_loadH (x := .tmp 3) w.heap.size ?_ h ?_ ?_); rfl; exact heap1 _ _)
    | (go_at_call 38; refine (r_Order h OK.out _).mono ?_; rintro e w1 ⟨rfl, hb⟩; have HB1 := hid hb; clear hb)
    | ((with_reducible refine wpL_storeH (x := .tmp 3) (y := .tmp 9) w.heap.size ?_ (ordH h) ?_ h.ca ?_ rfl ?_); rfl; rfl; exact (HB1.out.block _ (by simp)).trans (heap1 _ _)))
  have HP : Hid (w1.heap[w.heap.size]? = some (.cells h.ca 28 (0, 0))) := (HB1.out.block _ (by simp)).trans (heap1 _ _)
  have HB0 : Hid (Below w.heap.size w w1) := ((Below.refl _ _).alloc (Nat.le_refl _) _).trans (HB1.out.mono (by simp))
  obtain ⟨o, ho⟩ : ∃ o, o = ordH h := ⟨_, rfl⟩
  rw [← ho]
  rw [← ho] at hu
  have HO := hid ho
  clear ho
  obtain ⟨wa, hwa⟩ : ∃ wa, wa = w1.setRow w.heap.size o.ca := ⟨_, rfl⟩
  have HR : Hid (wa.heap[w.heap.size]? = some (.cells o.ca 28 (0, 0))) := by show _ = _; rw [hwa]; exact heap_setRow _ _ _ _ _ HP.out
  have HW : Hid (Below w.heap.size w wa) := by show Below _ _ _; rw [hwa]; exact below_setRow HB0.out (Nat.le_refl _) _
  rw [← hwa]
  clear hwa HP HB0 HB1
  have x33 := row_cellH HR.out 33 (v := .bool o.user) (by simp [HV.ca, HV.cs])
  have x47 := row_cellH HR.out 47 (v := .int .u64 o.satp) (by simp [HV.ca, HV.cs])
  go_wp2_with fail
  go_ret2
  exact ⟨by rw [← HO.out]; rfl, HW.out⟩
set_option maxHeartbeats 1000000 in
theorem rd_no (h : HV) (ok : HOk h) (csr now : Int) (w : World) (n0 : csr ≠ 3073) (n1 : csr ≠ 256) (n260 : csr ≠ 260) (n261 : csr ≠ 261) (n320 : csr ≠ 320) (n321 : csr ≠ 321) (n322 : csr ≠ 322) (n323 : csr ≠ 323) (n324 : csr ≠ 324) (n384 : csr ≠ 384) (hu : (ordH h).user = false) : Calls Tryz.prog 21 #[h.v, .int .i64 csr, .int .u64 now] w fun e w' => e = .returned (.tuple #[.int .u64 (0), .bool false]) ∧ Below w.heap.size w w' := by
  have OK := hid ok
  clear ok
  go_enter Tryz.func21, Tryz.ntmps21
  go_upto_region 2 with (first
    | ((with_reducible refine wpL_loadH (x := .tmp 3) w.heap.size ?_ h ?_ ?_); rfl; exact heap1 _ _)
    | (go_at_call 38; refine (r_Order h OK.out _).mono ?_; rintro e w1 ⟨rfl, hb⟩; have HB1 := hid hb; clear hb)
    | ((with_reducible refine wpL_storeH (x := .tmp 3) (y := .tmp 9) w.heap.size ?_ (ordH h) ?_ h.ca ?_ rfl ?_); rfl; rfl; exact (HB1.out.block _ (by simp)).trans (heap1 _ _)))
  have HP : Hid (w1.heap[w.heap.size]? = some (.cells h.ca 28 (0, 0))) := (HB1.out.block _ (by simp)).trans (heap1 _ _)
  have HB0 : Hid (Below w.heap.size w w1) := ((Below.refl _ _).alloc (Nat.le_refl _) _).trans (HB1.out.mono (by simp))
  obtain ⟨o, ho⟩ : ∃ o, o = ordH h := ⟨_, rfl⟩
  rw [← ho]
  rw [← ho] at hu
  have HO := hid ho
  clear ho
  obtain ⟨wa, hwa⟩ : ∃ wa, wa = w1.setRow w.heap.size o.ca := ⟨_, rfl⟩
  have HR : Hid (wa.heap[w.heap.size]? = some (.cells o.ca 28 (0, 0))) := by show _ = _; rw [hwa]; exact heap_setRow _ _ _ _ _ HP.out
  have HW : Hid (Below w.heap.size w wa) := by show Below _ _ _; rw [hwa]; exact below_setRow HB0.out (Nat.le_refl _) _
  rw [← hwa]
  clear hwa HP HB0 HB1
  have x33 := row_cellH HR.out 33 (v := .bool o.user) (by simp [HV.ca, HV.cs])
  go_wp2_with fail
  go_ret2
  exact ⟨rfl, HW.out⟩
set_option maxHeartbeats 1000000 in
theorem rd_st (h : HV) (ok : HOk h) (csr now : Int) (w : World) (hc : csr = 256) (hu : (ordH h).user = false) : Calls Tryz.prog 21 #[h.v, .int .i64 csr, .int .u64 now] w fun e w' => e = .returned (.tuple #[.int .u64 (stF (ordH h)), .bool true]) ∧ Below w.heap.size w w' := by
  have OK := hid ok
  clear ok
  go_enter Tryz.func21, Tryz.ntmps21
  go_upto_region 2 with (first
    | ((with_reducible refine wpL_loadH (x := .tmp 3) w.heap.size ?_ h ?_ ?_); rfl; exact heap1 _ _)
    | (go_at_call 38; refine (r_Order h OK.out _).mono ?_; rintro e w1 ⟨rfl, hb⟩; have HB1 := hid hb; clear hb)
    | ((with_reducible refine wpL_storeH (x := .tmp 3) (y := .tmp 9) w.heap.size ?_ (ordH h) ?_ h.ca ?_ rfl ?_); rfl; rfl; exact (HB1.out.block _ (by simp)).trans (heap1 _ _)))
  have HP : Hid (w1.heap[w.heap.size]? = some (.cells h.ca 28 (0, 0))) := (HB1.out.block _ (by simp)).trans (heap1 _ _)
  have HB0 : Hid (Below w.heap.size w w1) := ((Below.refl _ _).alloc (Nat.le_refl _) _).trans (HB1.out.mono (by simp))
  obtain ⟨o, ho⟩ : ∃ o, o = ordH h := ⟨_, rfl⟩
  rw [← ho]
  rw [← ho] at hu
  have HO := hid ho
  clear ho
  obtain ⟨wa, hwa⟩ : ∃ wa, wa = w1.setRow w.heap.size o.ca := ⟨_, rfl⟩
  have HR : Hid (wa.heap[w.heap.size]? = some (.cells o.ca 28 (0, 0))) := by show _ = _; rw [hwa]; exact heap_setRow _ _ _ _ _ HP.out
  have HW : Hid (Below w.heap.size w wa) := by show Below _ _ _; rw [hwa]; exact below_setRow HB0.out (Nat.le_refl _) _
  rw [← hwa]
  clear hwa HP HB0 HB1
  have x33 := row_cellH HR.out 33 (v := .bool o.user) (by simp [HV.ca, HV.cs])
  have x34 := row_cellH HR.out 34 (v := .bool o.on) (by simp [HV.ca, HV.cs])
  have x35 := row_cellH HR.out 35 (v := .bool o.spie) (by simp [HV.ca, HV.cs])
  have x36 := row_cellH HR.out 36 (v := .bool o.spp) (by simp [HV.ca, HV.cs])
  have x37 := row_cellH HR.out 37 (v := .bool o.sum) (by simp [HV.ca, HV.cs])
  have x38 := row_cellH HR.out 38 (v := .bool o.mxr) (by simp [HV.ca, HV.cs])
  go_wp2_with fail
  go_quiet (first | (go_at_call 49; with_reducible exact Calls.quiet_of_same (fl_1 o.on _)) | (go_at_call 49; with_reducible exact Calls.quiet_of_same (fl_5 o.spie _)) | (go_at_call 49; with_reducible exact Calls.quiet_of_same (fl_8 o.spp _)) | (go_at_call 49; with_reducible exact Calls.quiet_of_same (fl_18 o.sum _)) | (go_at_call 49; with_reducible exact Calls.quiet_of_same (fl_19 o.mxr _)))
  go_wp2_with fail
  go_ret2
  exact ⟨by rw [← HO.out]; rfl, HW.out.trans ⟨rfl, rfl, rfl, Nat.le_refl _, fun _ _ => rfl⟩⟩
end Go.Proofs.YtooagjndelbegaaGreatDoor
namespace Go.Proofs.YtooagjndelbegaaGreatDoor
open Go.RowKit
set_option linter.unusedVariables false
set_option maxRecDepth 100000

set_option maxHeartbeats 1000000 in
theorem md_now (h : HV) (ok : HOk h) (csr now : Int) (w : World) (hc : csr = 3073) : Calls Tryz.prog 20 #[h.v, .int .i64 csr, .int .u64 now] w fun e w' => e = .returned (.tuple #[.int .u64 (now), .bool true]) ∧ Below w.heap.size w w' := by
  clear ok
  skip
  go_enter Tryz.func20, Tryz.ntmps20
  go_wp2_with fail
  go_ret2
  exact ⟨rfl, (Below.refl _ _).alloc (Nat.le_refl _) _⟩
set_option maxHeartbeats 1000000 in
theorem md_user (h : HV) (ok : HOk h) (csr now : Int) (w : World) (hc : csr ≠ 3073) (hu : (ordH h).user = true) : Calls Tryz.prog 20 #[h.v, .int .i64 csr, .int .u64 now] w fun e w' => e = .returned (.tuple #[.int .u64 (0), .bool false]) ∧ Below w.heap.size w w' := by
  clear ok
  replace hu : h.user = true := hu
  have x33 := row_cellH (heap1 w (.cells h.ca 28)) 33 (v := .bool h.user) (by simp [HV.ca, HV.cs])
  go_enter Tryz.func20, Tryz.ntmps20
  go_wp2_with fail
  go_ret2
  exact ⟨rfl, (Below.refl _ _).alloc (Nat.le_refl _) _⟩
set_option maxHeartbeats 1000000 in
theorem md_104 (h : HV) (ok : HOk h) (csr now : Int) (w : World) (hc : csr = 260) (hu : (ordH h).user = false) : Calls Tryz.prog 20 #[h.v, .int .i64 csr, .int .u64 now] w fun e w' => e = .returned (.tuple #[.int .u64 ((ordH h).sie), .bool true]) ∧ Below w.heap.size w w' := by
  have OK := hid ok
  clear ok
  have hv : h.user = false := hu
  have HU := hid hu
  clear hu
  have x33 := row_cellH (heap1 w (.cells h.ca 28)) 33 (v := .bool h.user) (by simp [HV.ca, HV.cs])
  go_enter Tryz.func20, Tryz.ntmps20
  go_upto_region 6 with (first
    | ((with_reducible refine wpL_loadH (x := .tmp 3) w.heap.size ?_ h ?_ ?_); rfl; exact heap1 _ _)
    | (go_at_call 47; refine (m_inOrder h OK.out _).mono ?_; rintro e w1 ⟨rfl, hb⟩; have HB1 := hid hb; clear hb)
    | ((with_reducible refine wpL_storeH (x := .tmp 3) (y := .tmp 14) w.heap.size ?_ (ordH h) ?_ h.ca ?_ rfl ?_); rfl; rfl; exact (HB1.out.block _ (by simp)).trans (heap1 _ _)))
  clear x33 hv
  have HP : Hid (w1.heap[w.heap.size]? = some (.cells h.ca 28 (0, 0))) := (HB1.out.block _ (by simp)).trans (heap1 _ _)
  have HB0 : Hid (Below w.heap.size w w1) := ((Below.refl _ _).alloc (Nat.le_refl _) _).trans (HB1.out.mono (by simp))
  obtain ⟨o, ho⟩ : ∃ o, o = ordH h := ⟨_, rfl⟩
  rw [← ho]
  skip
  have HO := hid ho
  clear ho
  obtain ⟨wa, hwa⟩ : ∃ wa, wa = w1.setRow w.heap.size o.ca := ⟨_, rfl⟩
  have HR : Hid (wa.heap[w.heap.size]? = some (.cells o.ca 28 (0, 0))) := by show _ = _; rw [hwa]; exact heap_setRow _ _ _ _ _ HP.out
  have HW : Hid (Below w.heap.size w wa) := by show Below _ _ _; rw [hwa]; exact below_setRow HB0.out (Nat.le_refl _) _
  rw [← hwa]
  clear hwa HP HB0 HB1
  have x45 := row_cellH HR.out 45 (v := .int .u64 o.sie) (by simp [HV.ca, HV.cs])
  go_wp2_with fail
  go_ret2
  exact ⟨by rw [← HO.out]; rfl, HW.out⟩
set_option maxHeartbeats 1000000 in
theorem md_105 (h : HV) (ok : HOk h) (csr now : Int) (w : World) (hc : csr = 261) (hu : (ordH h).user = false) : Calls Tryz.prog 20 #[h.v, .int .i64 csr, .int .u64 now] w fun e w' => e = .returned (.tuple #[.int .u64 ((ordH h).stvec), .bool true]) ∧ Below w.heap.size w w' := by
  have OK := hid ok
  clear ok
  have hv : h.user = false := hu
  have HU := hid hu
  clear hu
  have x33 := row_cellH (heap1 w (.cells h.ca 28)) 33 (v := .bool h.user) (by simp [HV.ca, HV.cs])
  go_enter Tryz.func20, Tryz.ntmps20
  go_upto_region 6 with (first
    | ((with_reducible refine wpL_loadH (x := .tmp 3) w.heap.size ?_ h ?_ ?_); rfl; exact heap1 _ _)
    | (go_at_call 47; refine (m_inOrder h OK.out _).mono ?_; rintro e w1 ⟨rfl, hb⟩; have HB1 := hid hb; clear hb)
    | ((with_reducible refine wpL_storeH (x := .tmp 3) (y := .tmp 14) w.heap.size ?_ (ordH h) ?_ h.ca ?_ rfl ?_); rfl; rfl; exact (HB1.out.block _ (by simp)).trans (heap1 _ _)))
  clear x33 hv
  have HP : Hid (w1.heap[w.heap.size]? = some (.cells h.ca 28 (0, 0))) := (HB1.out.block _ (by simp)).trans (heap1 _ _)
  have HB0 : Hid (Below w.heap.size w w1) := ((Below.refl _ _).alloc (Nat.le_refl _) _).trans (HB1.out.mono (by simp))
  obtain ⟨o, ho⟩ : ∃ o, o = ordH h := ⟨_, rfl⟩
  rw [← ho]
  skip
  have HO := hid ho
  clear ho
  obtain ⟨wa, hwa⟩ : ∃ wa, wa = w1.setRow w.heap.size o.ca := ⟨_, rfl⟩
  have HR : Hid (wa.heap[w.heap.size]? = some (.cells o.ca 28 (0, 0))) := by show _ = _; rw [hwa]; exact heap_setRow _ _ _ _ _ HP.out
  have HW : Hid (Below w.heap.size w wa) := by show Below _ _ _; rw [hwa]; exact below_setRow HB0.out (Nat.le_refl _) _
  rw [← hwa]
  clear hwa HP HB0 HB1
  have x40 := row_cellH HR.out 40 (v := .int .u64 o.stvec) (by simp [HV.ca, HV.cs])
  go_wp2_with fail
  go_ret2
  exact ⟨by rw [← HO.out]; rfl, HW.out⟩
set_option maxHeartbeats 1000000 in
theorem md_140 (h : HV) (ok : HOk h) (csr now : Int) (w : World) (hc : csr = 320) (hu : (ordH h).user = false) : Calls Tryz.prog 20 #[h.v, .int .i64 csr, .int .u64 now] w fun e w' => e = .returned (.tuple #[.int .u64 ((ordH h).sscr), .bool true]) ∧ Below w.heap.size w w' := by
  have OK := hid ok
  clear ok
  have hv : h.user = false := hu
  have HU := hid hu
  clear hu
  have x33 := row_cellH (heap1 w (.cells h.ca 28)) 33 (v := .bool h.user) (by simp [HV.ca, HV.cs])
  go_enter Tryz.func20, Tryz.ntmps20
  go_upto_region 6 with (first
    | ((with_reducible refine wpL_loadH (x := .tmp 3) w.heap.size ?_ h ?_ ?_); rfl; exact heap1 _ _)
    | (go_at_call 47; refine (m_inOrder h OK.out _).mono ?_; rintro e w1 ⟨rfl, hb⟩; have HB1 := hid hb; clear hb)
    | ((with_reducible refine wpL_storeH (x := .tmp 3) (y := .tmp 14) w.heap.size ?_ (ordH h) ?_ h.ca ?_ rfl ?_); rfl; rfl; exact (HB1.out.block _ (by simp)).trans (heap1 _ _)))
  clear x33 hv
  have HP : Hid (w1.heap[w.heap.size]? = some (.cells h.ca 28 (0, 0))) := (HB1.out.block _ (by simp)).trans (heap1 _ _)
  have HB0 : Hid (Below w.heap.size w w1) := ((Below.refl _ _).alloc (Nat.le_refl _) _).trans (HB1.out.mono (by simp))
  obtain ⟨o, ho⟩ : ∃ o, o = ordH h := ⟨_, rfl⟩
  rw [← ho]
  skip
  have HO := hid ho
  clear ho
  obtain ⟨wa, hwa⟩ : ∃ wa, wa = w1.setRow w.heap.size o.ca := ⟨_, rfl⟩
  have HR : Hid (wa.heap[w.heap.size]? = some (.cells o.ca 28 (0, 0))) := by show _ = _; rw [hwa]; exact heap_setRow _ _ _ _ _ HP.out
  have HW : Hid (Below w.heap.size w wa) := by show Below _ _ _; rw [hwa]; exact below_setRow HB0.out (Nat.le_refl _) _
  rw [← hwa]
  clear hwa HP HB0 HB1
  have x41 := row_cellH HR.out 41 (v := .int .u64 o.sscr) (by simp [HV.ca, HV.cs])
  go_wp2_with fail
  go_ret2
  exact ⟨by rw [← HO.out]; rfl, HW.out⟩
set_option maxHeartbeats 1000000 in
theorem md_141 (h : HV) (ok : HOk h) (csr now : Int) (w : World) (hc : csr = 321) (hu : (ordH h).user = false) : Calls Tryz.prog 20 #[h.v, .int .i64 csr, .int .u64 now] w fun e w' => e = .returned (.tuple #[.int .u64 ((ordH h).sepc), .bool true]) ∧ Below w.heap.size w w' := by
  have OK := hid ok
  clear ok
  have hv : h.user = false := hu
  have HU := hid hu
  clear hu
  have x33 := row_cellH (heap1 w (.cells h.ca 28)) 33 (v := .bool h.user) (by simp [HV.ca, HV.cs])
  go_enter Tryz.func20, Tryz.ntmps20
  go_upto_region 6 with (first
    | ((with_reducible refine wpL_loadH (x := .tmp 3) w.heap.size ?_ h ?_ ?_); rfl; exact heap1 _ _)
    | (go_at_call 47; refine (m_inOrder h OK.out _).mono ?_; rintro e w1 ⟨rfl, hb⟩; have HB1 := hid hb; clear hb)
    | ((with_reducible refine wpL_storeH (x := .tmp 3) (y := .tmp 14) w.heap.size ?_ (ordH h) ?_ h.ca ?_ rfl ?_); rfl; rfl; exact (HB1.out.block _ (by simp)).trans (heap1 _ _)))
  clear x33 hv
  have HP : Hid (w1.heap[w.heap.size]? = some (.cells h.ca 28 (0, 0))) := (HB1.out.block _ (by simp)).trans (heap1 _ _)
  have HB0 : Hid (Below w.heap.size w w1) := ((Below.refl _ _).alloc (Nat.le_refl _) _).trans (HB1.out.mono (by simp))
  obtain ⟨o, ho⟩ : ∃ o, o = ordH h := ⟨_, rfl⟩
  rw [← ho]
  skip
  have HO := hid ho
  clear ho
  obtain ⟨wa, hwa⟩ : ∃ wa, wa = w1.setRow w.heap.size o.ca := ⟨_, rfl⟩
  have HR : Hid (wa.heap[w.heap.size]? = some (.cells o.ca 28 (0, 0))) := by show _ = _; rw [hwa]; exact heap_setRow _ _ _ _ _ HP.out
  have HW : Hid (Below w.heap.size w wa) := by show Below _ _ _; rw [hwa]; exact below_setRow HB0.out (Nat.le_refl _) _
  rw [← hwa]
  clear hwa HP HB0 HB1
  have x42 := row_cellH HR.out 42 (v := .int .u64 o.sepc) (by simp [HV.ca, HV.cs])
  go_wp2_with fail
  go_ret2
  exact ⟨by rw [← HO.out]; rfl, HW.out⟩
set_option maxHeartbeats 1000000 in
theorem md_142 (h : HV) (ok : HOk h) (csr now : Int) (w : World) (hc : csr = 322) (hu : (ordH h).user = false) : Calls Tryz.prog 20 #[h.v, .int .i64 csr, .int .u64 now] w fun e w' => e = .returned (.tuple #[.int .u64 ((ordH h).scause), .bool true]) ∧ Below w.heap.size w w' := by
  have OK := hid ok
  clear ok
  have hv : h.user = false := hu
  have HU := hid hu
  clear hu
  have x33 := row_cellH (heap1 w (.cells h.ca 28)) 33 (v := .bool h.user) (by simp [HV.ca, HV.cs])
  go_enter Tryz.func20, Tryz.ntmps20
  go_upto_region 6 with (first
    | ((with_reducible refine wpL_loadH (x := .tmp 3) w.heap.size ?_ h ?_ ?_); rfl; exact heap1 _ _)
    | (go_at_call 47; refine (m_inOrder h OK.out _).mono ?_; rintro e w1 ⟨rfl, hb⟩; have HB1 := hid hb; clear hb)
    | ((with_reducible refine wpL_storeH (x := .tmp 3) (y := .tmp 14) w.heap.size ?_ (ordH h) ?_ h.ca ?_ rfl ?_); rfl; rfl; exact (HB1.out.block _ (by simp)).trans (heap1 _ _)))
  clear x33 hv
  have HP : Hid (w1.heap[w.heap.size]? = some (.cells h.ca 28 (0, 0))) := (HB1.out.block _ (by simp)).trans (heap1 _ _)
  have HB0 : Hid (Below w.heap.size w w1) := ((Below.refl _ _).alloc (Nat.le_refl _) _).trans (HB1.out.mono (by simp))
  obtain ⟨o, ho⟩ : ∃ o, o = ordH h := ⟨_, rfl⟩
  rw [← ho]
  skip
  have HO := hid ho
  clear ho
  obtain ⟨wa, hwa⟩ : ∃ wa, wa = w1.setRow w.heap.size o.ca := ⟨_, rfl⟩
  have HR : Hid (wa.heap[w.heap.size]? = some (.cells o.ca 28 (0, 0))) := by show _ = _; rw [hwa]; exact heap_setRow _ _ _ _ _ HP.out
  have HW : Hid (Below w.heap.size w wa) := by show Below _ _ _; rw [hwa]; exact below_setRow HB0.out (Nat.le_refl _) _
  rw [← hwa]
  clear hwa HP HB0 HB1
  have x43 := row_cellH HR.out 43 (v := .int .u64 o.scause) (by simp [HV.ca, HV.cs])
  go_wp2_with fail
  go_ret2
  exact ⟨by rw [← HO.out]; rfl, HW.out⟩
set_option maxHeartbeats 1000000 in
theorem md_143 (h : HV) (ok : HOk h) (csr now : Int) (w : World) (hc : csr = 323) (hu : (ordH h).user = false) : Calls Tryz.prog 20 #[h.v, .int .i64 csr, .int .u64 now] w fun e w' => e = .returned (.tuple #[.int .u64 ((ordH h).stval), .bool true]) ∧ Below w.heap.size w w' := by
  have OK := hid ok
  clear ok
  have hv : h.user = false := hu
  have HU := hid hu
  clear hu
  have x33 := row_cellH (heap1 w (.cells h.ca 28)) 33 (v := .bool h.user) (by simp [HV.ca, HV.cs])
  go_enter Tryz.func20, Tryz.ntmps20
  go_upto_region 6 with (first
    | ((with_reducible refine wpL_loadH (x := .tmp 3) w.heap.size ?_ h ?_ ?_); rfl; exact heap1 _ _)
    | (go_at_call 47; refine (m_inOrder h OK.out _).mono ?_; rintro e w1 ⟨rfl, hb⟩; have HB1 := hid hb; clear hb)
    | ((with_reducible refine wpL_storeH (x := .tmp 3) (y := .tmp 14) w.heap.size ?_ (ordH h) ?_ h.ca ?_ rfl ?_); rfl; rfl; exact (HB1.out.block _ (by simp)).trans (heap1 _ _)))
  clear x33 hv
  have HP : Hid (w1.heap[w.heap.size]? = some (.cells h.ca 28 (0, 0))) := (HB1.out.block _ (by simp)).trans (heap1 _ _)
  have HB0 : Hid (Below w.heap.size w w1) := ((Below.refl _ _).alloc (Nat.le_refl _) _).trans (HB1.out.mono (by simp))
  obtain ⟨o, ho⟩ : ∃ o, o = ordH h := ⟨_, rfl⟩
  rw [← ho]
  skip
  have HO := hid ho
  clear ho
  obtain ⟨wa, hwa⟩ : ∃ wa, wa = w1.setRow w.heap.size o.ca := ⟨_, rfl⟩
  have HR : Hid (wa.heap[w.heap.size]? = some (.cells o.ca 28 (0, 0))) := by show _ = _; rw [hwa]; exact heap_setRow _ _ _ _ _ HP.out
  have HW : Hid (Below w.heap.size w wa) := by show Below _ _ _; rw [hwa]; exact below_setRow HB0.out (Nat.le_refl _) _
  rw [← hwa]
  clear hwa HP HB0 HB1
  have x44 := row_cellH HR.out 44 (v := .int .u64 o.stval) (by simp [HV.ca, HV.cs])
  go_wp2_with fail
  go_ret2
  exact ⟨by rw [← HO.out]; rfl, HW.out⟩
set_option maxHeartbeats 1000000 in
theorem md_144 (h : HV) (ok : HOk h) (csr now : Int) (w : World) (hc : csr = 324) (hu : (ordH h).user = false) : Calls Tryz.prog 20 #[h.v, .int .i64 csr, .int .u64 now] w fun e w' => e = .returned (.tuple #[.int .u64 ((ordH h).sip), .bool true]) ∧ Below w.heap.size w w' := by
  have OK := hid ok
  clear ok
  have hv : h.user = false := hu
  have HU := hid hu
  clear hu
  have x33 := row_cellH (heap1 w (.cells h.ca 28)) 33 (v := .bool h.user) (by simp [HV.ca, HV.cs])
  go_enter Tryz.func20, Tryz.ntmps20
  go_upto_region 6 with (first
    | ((with_reducible refine wpL_loadH (x := .tmp 3) w.heap.size ?_ h ?_ ?_); rfl; exact heap1 _ _)
    | (go_at_call 47; refine (m_inOrder h OK.out _).mono ?_; rintro e w1 ⟨rfl, hb⟩; have HB1 := hid hb; clear hb)
    | ((with_reducible refine wpL_storeH (x := .tmp 3) (y := .tmp 14) w.heap.size ?_ (ordH h) ?_ h.ca ?_ rfl ?_); rfl; rfl; exact (HB1.out.block _ (by simp)).trans (heap1 _ _)))
  clear x33 hv
  have HP : Hid (w1.heap[w.heap.size]? = some (.cells h.ca 28 (0, 0))) := (HB1.out.block _ (by simp)).trans (heap1 _ _)
  have HB0 : Hid (Below w.heap.size w w1) := ((Below.refl _ _).alloc (Nat.le_refl _) _).trans (HB1.out.mono (by simp))
  obtain ⟨o, ho⟩ : ∃ o, o = ordH h := ⟨_, rfl⟩
  rw [← ho]
  skip
  have HO := hid ho
  clear ho
  obtain ⟨wa, hwa⟩ : ∃ wa, wa = w1.setRow w.heap.size o.ca := ⟨_, rfl⟩
  have HR : Hid (wa.heap[w.heap.size]? = some (.cells o.ca 28 (0, 0))) := by show _ = _; rw [hwa]; exact heap_setRow _ _ _ _ _ HP.out
  have HW : Hid (Below w.heap.size w wa) := by show Below _ _ _; rw [hwa]; exact below_setRow HB0.out (Nat.le_refl _) _
  rw [← hwa]
  clear hwa HP HB0 HB1
  have x46 := row_cellH HR.out 46 (v := .int .u64 o.sip) (by simp [HV.ca, HV.cs])
  go_wp2_with fail
  go_ret2
  exact ⟨by rw [← HO.out]; rfl, HW.out⟩
set_option maxHeartbeats 1000000 in
theorem md_180 (h : HV) (ok : HOk h) (csr now : Int) (w : World) (hc : csr = 384) (hu : (ordH h).user = false) : Calls Tryz.prog 20 #[h.v, .int .i64 csr, .int .u64 now] w fun e w' => e = .returned (.tuple #[.int .u64 ((ordH h).satp), .bool true]) ∧ Below w.heap.size w w' := by
  have OK := hid ok
  clear ok
  have hv : h.user = false := hu
  have HU := hid hu
  clear hu
  have x33 := row_cellH (heap1 w (.cells h.ca 28)) 33 (v := .bool h.user) (by simp [HV.ca, HV.cs])
  go_enter Tryz.func20, Tryz.ntmps20
  go_upto_region 6 with (first
    | ((with_reducible refine wpL_loadH (x := .tmp 3) w.heap.size ?_ h ?_ ?_); rfl; exact heap1 _ _)
    | (go_at_call 47; refine (m_inOrder h OK.out _).mono ?_; rintro e w1 ⟨rfl, hb⟩; have HB1 := hid hb; clear hb)
    | ((with_reducible refine wpL_storeH (x := .tmp 3) (y := .tmp 14) w.heap.size ?_ (ordH h) ?_ h.ca ?_ rfl ?_); rfl; rfl; exact (HB1.out.block _ (by simp)).trans (heap1 _ _)))
  clear x33 hv
  have HP : Hid (w1.heap[w.heap.size]? = some (.cells h.ca 28 (0, 0))) := (HB1.out.block _ (by simp)).trans (heap1 _ _)
  have HB0 : Hid (Below w.heap.size w w1) := ((Below.refl _ _).alloc (Nat.le_refl _) _).trans (HB1.out.mono (by simp))
  obtain ⟨o, ho⟩ : ∃ o, o = ordH h := ⟨_, rfl⟩
  rw [← ho]
  skip
  have HO := hid ho
  clear ho
  obtain ⟨wa, hwa⟩ : ∃ wa, wa = w1.setRow w.heap.size o.ca := ⟨_, rfl⟩
  have HR : Hid (wa.heap[w.heap.size]? = some (.cells o.ca 28 (0, 0))) := by show _ = _; rw [hwa]; exact heap_setRow _ _ _ _ _ HP.out
  have HW : Hid (Below w.heap.size w wa) := by show Below _ _ _; rw [hwa]; exact below_setRow HB0.out (Nat.le_refl _) _
  rw [← hwa]
  clear hwa HP HB0 HB1
  have x47 := row_cellH HR.out 47 (v := .int .u64 o.satp) (by simp [HV.ca, HV.cs])
  go_wp2_with fail
  go_ret2
  exact ⟨by rw [← HO.out]; rfl, HW.out⟩
set_option maxHeartbeats 1000000 in
theorem md_no (h : HV) (ok : HOk h) (csr now : Int) (w : World) (n0 : csr ≠ 3073) (n1 : csr ≠ 256) (n260 : csr ≠ 260) (n261 : csr ≠ 261) (n320 : csr ≠ 320) (n321 : csr ≠ 321) (n322 : csr ≠ 322) (n323 : csr ≠ 323) (n324 : csr ≠ 324) (n384 : csr ≠ 384) (hu : (ordH h).user = false) : Calls Tryz.prog 20 #[h.v, .int .i64 csr, .int .u64 now] w fun e w' => e = .returned (.tuple #[.int .u64 (0), .bool false]) ∧ Below w.heap.size w w' := by
  have OK := hid ok
  clear ok
  have hv : h.user = false := hu
  have HU := hid hu
  clear hu
  have x33 := row_cellH (heap1 w (.cells h.ca 28)) 33 (v := .bool h.user) (by simp [HV.ca, HV.cs])
  go_enter Tryz.func20, Tryz.ntmps20
  go_upto_region 6 with (first
    | ((with_reducible refine wpL_loadH (x := .tmp 3) w.heap.size ?_ h ?_ ?_); rfl; exact heap1 _ _)
    | (go_at_call 47; refine (m_inOrder h OK.out _).mono ?_; rintro e w1 ⟨rfl, hb⟩; have HB1 := hid hb; clear hb)
    | ((with_reducible refine wpL_storeH (x := .tmp 3) (y := .tmp 14) w.heap.size ?_ (ordH h) ?_ h.ca ?_ rfl ?_); rfl; rfl; exact (HB1.out.block _ (by simp)).trans (heap1 _ _)))
  clear x33 hv
  have HP : Hid (w1.heap[w.heap.size]? = some (.cells h.ca 28 (0, 0))) := (HB1.out.block _ (by simp)).trans (heap1 _ _)
  have HB0 : Hid (Below w.heap.size w w1) := ((Below.refl _ _).alloc (Nat.le_refl _) _).trans (HB1.out.mono (by simp))
  obtain ⟨o, ho⟩ : ∃ o, o = ordH h := ⟨_, rfl⟩
  rw [← ho]
  skip
  have HO := hid ho
  clear ho
  obtain ⟨wa, hwa⟩ : ∃ wa, wa = w1.setRow w.heap.size o.ca := ⟨_, rfl⟩
  have HR : Hid (wa.heap[w.heap.size]? = some (.cells o.ca 28 (0, 0))) := by show _ = _; rw [hwa]; exact heap_setRow _ _ _ _ _ HP.out
  have HW : Hid (Below w.heap.size w wa) := by show Below _ _ _; rw [hwa]; exact below_setRow HB0.out (Nat.le_refl _) _
  rw [← hwa]
  clear hwa HP HB0 HB1
  go_wp2_with fail
  go_ret2
  exact ⟨rfl, HW.out⟩
set_option maxHeartbeats 1000000 in
theorem md_st (h : HV) (ok : HOk h) (csr now : Int) (w : World) (hc : csr = 256) (hu : (ordH h).user = false) : Calls Tryz.prog 20 #[h.v, .int .i64 csr, .int .u64 now] w fun e w' => e = .returned (.tuple #[.int .u64 (stF (ordH h)), .bool true]) ∧ Below w.heap.size w w' := by
  have OK := hid ok
  clear ok
  have hv : h.user = false := hu
  have HU := hid hu
  clear hu
  have x33 := row_cellH (heap1 w (.cells h.ca 28)) 33 (v := .bool h.user) (by simp [HV.ca, HV.cs])
  go_enter Tryz.func20, Tryz.ntmps20
  go_upto_region 6 with (first
    | ((with_reducible refine wpL_loadH (x := .tmp 3) w.heap.size ?_ h ?_ ?_); rfl; exact heap1 _ _)
    | (go_at_call 47; refine (m_inOrder h OK.out _).mono ?_; rintro e w1 ⟨rfl, hb⟩; have HB1 := hid hb; clear hb)
    | ((with_reducible refine wpL_storeH (x := .tmp 3) (y := .tmp 14) w.heap.size ?_ (ordH h) ?_ h.ca ?_ rfl ?_); rfl; rfl; exact (HB1.out.block _ (by simp)).trans (heap1 _ _)))
  clear x33 hv
  have HP : Hid (w1.heap[w.heap.size]? = some (.cells h.ca 28 (0, 0))) := (HB1.out.block _ (by simp)).trans (heap1 _ _)
  have HB0 : Hid (Below w.heap.size w w1) := ((Below.refl _ _).alloc (Nat.le_refl _) _).trans (HB1.out.mono (by simp))
  obtain ⟨o, ho⟩ : ∃ o, o = ordH h := ⟨_, rfl⟩
  rw [← ho]
  skip
  have HO := hid ho
  clear ho
  obtain ⟨wa, hwa⟩ : ∃ wa, wa = w1.setRow w.heap.size o.ca := ⟨_, rfl⟩
  have HR : Hid (wa.heap[w.heap.size]? = some (.cells o.ca 28 (0, 0))) := by show _ = _; rw [hwa]; exact heap_setRow _ _ _ _ _ HP.out
  have HW : Hid (Below w.heap.size w wa) := by show Below _ _ _; rw [hwa]; exact below_setRow HB0.out (Nat.le_refl _) _
  rw [← hwa]
  clear hwa HP HB0 HB1
  go_wp2_with (first | ((with_reducible refine wpL_loadH (x := .tmp 3) w.heap.size ?_ o ?_ ?_); rfl; exact HR.out) | (go_at_call 48; refine (m_status o _).mono ?_; rintro e w2 ⟨rfl, hb⟩; have HB2 := hid hb; clear hb))
  go_ret2
  exact ⟨by rw [← HO.out]; rfl, bT HW.out HB2.out⟩
end Go.Proofs.YtooagjndelbegaaGreatDoor
namespace Go.Proofs.YtooagjndelbegaaGreatDoor
open Go.RowKit
set_option linter.unusedVariables false
set_option maxRecDepth 100000

theorem ret_row2 {fn : Func} {p u : Tmp} (hf : fn.results = #[.cell p 28, .tmp u]) {tmps : Array Value} {w : World} (g : Nat) (h : HV) (b : Bool) (hp : tmps.getD p undef = .pointer (some ⟨g, 0, none⟩)) (hb : tmps.getD u undef = .bool b) (hg : w.heap[g]? = some (.cells h.ca 28 (0, 0))) : (results fn tmps).run Tryz.prog w = .ok (.tuple #[h.v, .bool b]) w := by
  have hp' : tmps[p]?.getD undef = .pointer (some ⟨g, 0, none⟩) := by simpa using hp
  have hb' : tmps[u]?.getD undef = .bool b := by simpa using hb
  simp [results, hf, hp', hb', asAddr, run_loadVar_row w g 28 28 h.ca (0, 0) (.struct (Tryz.prog.fieldsOf 28)) hg u_hart rfl (by rw [s_hart]; rfl)]
theorem bits_b (op : BinOp) (x y : Int) : 0 ≤ bits op .u64 x y ∧ bits op .u64 x y < 18446744073709551616 := by
  have e : ∀ z : Int, IntKind.u64.wrap z = z % 18446744073709551616 := fun z => by simp [IntKind.wrap, IntKind.bits, IntKind.signed]
  unfold bits
  rw [e]; omega
def bt (v : Int) (k : Nat) : Bool := decide (v / 2 ^ k % 2 = 1)
def stO (o : HV) (v : Int) : HV := { o with on := bt v 1, spie := bt v 5, spp := bt v 8, sum := bt v 18, mxr := bt v 19 }
def saO (o : HV) (v : Int) : HV := if v / 1152921504606846976 = 0 ∨ v / 1152921504606846976 = 8 then { o with satp := v } else o
def sipV (o : HV) (v : Int) : Int := bits .or .u64 (bits .andNot .u64 o.sip 2) (bits .and .u64 v 2)
theorem stOk {o : HV} (ok : HOk o) (v : Int) : HOk (stO o v) := ⟨ok.x, ok.pc, ok.stvec, ok.sscr, ok.sepc, ok.scause, ok.stval, ok.sie, ok.sip, ok.satp, ok.resv⟩
theorem saOk {o : HV} (ok : HOk o) (v : Int) (r : 0 ≤ v ∧ v < 18446744073709551616) : HOk (saO o v) := by
  unfold saO
  split
  · exact ⟨ok.x, ok.pc, ok.stvec, ok.sscr, ok.sepc, ok.scause, ok.stval, ok.sie, ok.sip, r, ok.resv⟩
  · exact ok
theorem st_ca (o : HV) (v : Int) : (((((o.ca.setIfInBounds 34 (.bool (bt v 1))).setIfInBounds 35 (.bool (bt v 5))).setIfInBounds 36 (.bool (bt v 8))).setIfInBounds 37 (.bool (bt v 18))).setIfInBounds 38 (.bool (bt v 19))) = (stO o v).ca := rfl
theorem and_pow (v : Int) (r : 0 ≤ v ∧ v < 18446744073709551616) (k : Nat) (hk : k < 64) : bits .and .u64 v ((2 ^ k : Nat) : Int) = if v / ((2 ^ k : Nat) : Int) % 2 = 1 then ((2 ^ k : Nat) : Int) else 0 := by
  obtain ⟨n, rfl⟩ := Int.eq_ofNat_of_zero_le r.1
  have hp : 2 ^ k < 2 ^ 64 := Nat.pow_lt_pow_right (by omega) hk
  have e : bits .and .u64 (n : Int) ((2 ^ k : Nat) : Int) = ((n &&& 2 ^ k : Nat) : Int) := u64_and_nat n (2 ^ k) (by omega) (by omega)
  rw [e]
  have p1 : 0 < 2 ^ k := Nat.two_pow_pos k
  have d : (n &&& 2 ^ k) / 2 ^ k = n / 2 ^ k % 2 := by
    rw [Nat.and_div_two_pow, Nat.div_self p1, Nat.and_one_is_mod]
  have m : (n &&& 2 ^ k) % 2 ^ k = 0 := by
    rw [Nat.and_mod_two_pow, Nat.mod_self, Nat.and_zero]
  have a := Nat.div_add_mod (n &&& 2 ^ k) (2 ^ k)
  rw [d, m] at a
  by_cases q : n / 2 ^ k % 2 = 1
  · rw [if_pos (by exact_mod_cast q)]; rw [q] at a; rw [← a]; simp
  · rw [if_neg (by exact_mod_cast q)]; rw [show n / 2 ^ k % 2 = 0 by omega] at a; rw [← a]; simp
theorem an_1 (v : Int) (r : 0 ≤ v ∧ v < 18446744073709551616) : bits .and .u64 v 2 = flg (bt v 1) 2 := by
  have := and_pow v r 1 (by omega)
  simp only [show ((2 ^ 1 : Nat) : Int) = 2 by decide] at this
  rw [this]
  unfold flg bt
  simp only [show (2 : Int) ^ 1 = 2 by decide]
  by_cases q : v / 2 % 2 = 1 <;> simp [q]
theorem ne_1 (b : Bool) : decide (flg b 2 ≠ 0) = b := by cases b <;> rfl
theorem an_5 (v : Int) (r : 0 ≤ v ∧ v < 18446744073709551616) : bits .and .u64 v 32 = flg (bt v 5) 32 := by
  have := and_pow v r 5 (by omega)
  simp only [show ((2 ^ 5 : Nat) : Int) = 32 by decide] at this
  rw [this]
  unfold flg bt
  simp only [show (2 : Int) ^ 5 = 32 by decide]
  by_cases q : v / 32 % 2 = 1 <;> simp [q]
theorem ne_5 (b : Bool) : decide (flg b 32 ≠ 0) = b := by cases b <;> rfl
theorem an_8 (v : Int) (r : 0 ≤ v ∧ v < 18446744073709551616) : bits .and .u64 v 256 = flg (bt v 8) 256 := by
  have := and_pow v r 8 (by omega)
  simp only [show ((2 ^ 8 : Nat) : Int) = 256 by decide] at this
  rw [this]
  unfold flg bt
  simp only [show (2 : Int) ^ 8 = 256 by decide]
  by_cases q : v / 256 % 2 = 1 <;> simp [q]
theorem ne_8 (b : Bool) : decide (flg b 256 ≠ 0) = b := by cases b <;> rfl
theorem an_18 (v : Int) (r : 0 ≤ v ∧ v < 18446744073709551616) : bits .and .u64 v 262144 = flg (bt v 18) 262144 := by
  have := and_pow v r 18 (by omega)
  simp only [show ((2 ^ 18 : Nat) : Int) = 262144 by decide] at this
  rw [this]
  unfold flg bt
  simp only [show (2 : Int) ^ 18 = 262144 by decide]
  by_cases q : v / 262144 % 2 = 1 <;> simp [q]
theorem ne_18 (b : Bool) : decide (flg b 262144 ≠ 0) = b := by cases b <;> rfl
theorem an_19 (v : Int) (r : 0 ≤ v ∧ v < 18446744073709551616) : bits .and .u64 v 524288 = flg (bt v 19) 524288 := by
  have := and_pow v r 19 (by omega)
  simp only [show ((2 ^ 19 : Nat) : Int) = 524288 by decide] at this
  rw [this]
  unfold flg bt
  simp only [show (2 : Int) ^ 19 = 524288 by decide]
  by_cases q : v / 524288 % 2 = 1 <;> simp [q]
theorem ne_19 (b : Bool) : decide (flg b 524288 ≠ 0) = b := by cases b <;> rfl
def pu_sie (o : HV) (n : Int) : HV := { o with sie := n }
theorem ca_sie (o : HV) (n : Int) : o.ca.setIfInBounds 45 (.int .u64 n) = (pu_sie o n).ca := rfl
theorem ok_sie {o : HV} (ok : HOk o) (n : Int) (r : 0 ≤ n ∧ n < 18446744073709551616) : HOk (pu_sie o n) := ⟨ok.x, ok.pc, ok.stvec, ok.sscr, ok.sepc, ok.scause, ok.stval, r, ok.sip, ok.satp, ok.resv⟩
def pu_stvec (o : HV) (n : Int) : HV := { o with stvec := n }
theorem ca_stvec (o : HV) (n : Int) : o.ca.setIfInBounds 40 (.int .u64 n) = (pu_stvec o n).ca := rfl
theorem ok_stvec {o : HV} (ok : HOk o) (n : Int) (r : 0 ≤ n ∧ n < 18446744073709551616) : HOk (pu_stvec o n) := ⟨ok.x, ok.pc, r, ok.sscr, ok.sepc, ok.scause, ok.stval, ok.sie, ok.sip, ok.satp, ok.resv⟩
def pu_sscr (o : HV) (n : Int) : HV := { o with sscr := n }
theorem ca_sscr (o : HV) (n : Int) : o.ca.setIfInBounds 41 (.int .u64 n) = (pu_sscr o n).ca := rfl
theorem ok_sscr {o : HV} (ok : HOk o) (n : Int) (r : 0 ≤ n ∧ n < 18446744073709551616) : HOk (pu_sscr o n) := ⟨ok.x, ok.pc, ok.stvec, r, ok.sepc, ok.scause, ok.stval, ok.sie, ok.sip, ok.satp, ok.resv⟩
def pu_sepc (o : HV) (n : Int) : HV := { o with sepc := n }
theorem ca_sepc (o : HV) (n : Int) : o.ca.setIfInBounds 42 (.int .u64 n) = (pu_sepc o n).ca := rfl
theorem ok_sepc {o : HV} (ok : HOk o) (n : Int) (r : 0 ≤ n ∧ n < 18446744073709551616) : HOk (pu_sepc o n) := ⟨ok.x, ok.pc, ok.stvec, ok.sscr, r, ok.scause, ok.stval, ok.sie, ok.sip, ok.satp, ok.resv⟩
def pu_scause (o : HV) (n : Int) : HV := { o with scause := n }
theorem ca_scause (o : HV) (n : Int) : o.ca.setIfInBounds 43 (.int .u64 n) = (pu_scause o n).ca := rfl
theorem ok_scause {o : HV} (ok : HOk o) (n : Int) (r : 0 ≤ n ∧ n < 18446744073709551616) : HOk (pu_scause o n) := ⟨ok.x, ok.pc, ok.stvec, ok.sscr, ok.sepc, r, ok.stval, ok.sie, ok.sip, ok.satp, ok.resv⟩
def pu_stval (o : HV) (n : Int) : HV := { o with stval := n }
theorem ca_stval (o : HV) (n : Int) : o.ca.setIfInBounds 44 (.int .u64 n) = (pu_stval o n).ca := rfl
theorem ok_stval {o : HV} (ok : HOk o) (n : Int) (r : 0 ≤ n ∧ n < 18446744073709551616) : HOk (pu_stval o n) := ⟨ok.x, ok.pc, ok.stvec, ok.sscr, ok.sepc, ok.scause, r, ok.sie, ok.sip, ok.satp, ok.resv⟩
def pu_sip (o : HV) (n : Int) : HV := { o with sip := n }
theorem ca_sip (o : HV) (n : Int) : o.ca.setIfInBounds 46 (.int .u64 n) = (pu_sip o n).ca := rfl
theorem ok_sip {o : HV} (ok : HOk o) (n : Int) (r : 0 ≤ n ∧ n < 18446744073709551616) : HOk (pu_sip o n) := ⟨ok.x, ok.pc, ok.stvec, ok.sscr, ok.sepc, ok.scause, ok.stval, ok.sie, r, ok.satp, ok.resv⟩
def pu_satp (o : HV) (n : Int) : HV := { o with satp := n }
theorem ca_satp (o : HV) (n : Int) : o.ca.setIfInBounds 47 (.int .u64 n) = (pu_satp o n).ca := rfl
theorem ok_satp {o : HV} (ok : HOk o) (n : Int) (r : 0 ≤ n ∧ n < 18446744073709551616) : HOk (pu_satp o n) := ⟨ok.x, ok.pc, ok.stvec, ok.sscr, ok.sepc, ok.scause, ok.stval, ok.sie, ok.sip, r, ok.resv⟩
theorem ca_sipV (o : HV) (v : Int) : o.ca.setIfInBounds 46 (.int .u64 (bits .or .u64 (bits .andNot .u64 o.sip 2) (bits .and .u64 v 2))) = (pu_sip o (sipV o v)).ca := rfl
end Go.Proofs.YtooagjndelbegaaGreatDoor
namespace Go.Proofs.YtooagjndelbegaaGreatDoor
open Go.RowKit
set_option linter.unusedVariables false
set_option maxRecDepth 100000

set_option maxHeartbeats 1000000 in
theorem rw_user (h : HV) (ok : HOk h) (csr v : Int) (r : 0 ≤ v ∧ v < 18446744073709551616) (w : World) (hu : (ordH h).user = true) : Calls Tryz.prog 23 #[h.v, .int .i64 csr, .int .u64 v] w fun e w' => e = .returned (.tuple #[(ordH h).v, .bool false]) ∧ Below w.heap.size w w' := by
  have OK := hid ok
  clear ok
  go_enter Tryz.func23, Tryz.ntmps23
  go_upto_region 2 with (first
    | ((with_reducible refine wpList_new (z := .agg HV.zero.ca) HV.zero.ca ?_ ?_ ?_); rfl; exact z_hart)
    | ((with_reducible refine wpL_loadH (x := .tmp 3) w.heap.size ?_ h ?_ ?_); rfl; exact heap2 _ _ _)
    | (go_at_call 38; refine (r_Order h OK.out _).mono ?_; rintro e w1 ⟨rfl, hb⟩; have HB1 := hid hb; clear hb)
    | ((with_reducible refine wpL_storeH (x := .tmp 8) (y := .tmp 10) w1.heap.size ?_ (ordH h) ?_ HV.zero.ca ?_ rfl ?_); rfl; rfl; exact heap_alloc_new _ _))
  have hz1 : w.heap.size + 2 ≤ w1.heap.size := by have := HB1.out.size; simpa using this
  have HP : Hid (w1.heap[w.heap.size]? = some (.cells h.ca 28 (0, 0))) := (HB1.out.block _ (by simp; omega)).trans (heap2 _ _ _)
  have HQ : Hid (w1.heap[w.heap.size + 1]? = some (.cells HV.zero.ca 28 (0, 0))) := (HB1.out.block _ (by simp)).trans (heap2' _ _ _)
  have HB0 : Hid (Below w.heap.size w w1) := (below2 _ _).trans (HB1.out.mono (by simp; omega))
  obtain ⟨o, ho⟩ : ∃ o, o = ordH h := ⟨_, rfl⟩
  rw [← ho]
  have OO : Hid (HOk o) := by show HOk o; rw [ho]; exact ordOk OK.out
  rw [← ho] at hu
  have HO := hid ho
  clear ho
  obtain ⟨g, hg⟩ : ∃ g, g = w1.heap.size := ⟨_, rfl⟩
  obtain ⟨wb, hwb⟩ : ∃ wb, wb = (w1.alloc (.cells HV.zero.ca 28)).setRow g o.ca := ⟨_, rfl⟩
  have HX : Hid (wb.heap[g]? = some (.cells o.ca 28 (0, 0))) := by show _ = _; rw [hwb, hg]; exact heap_setRow _ _ _ _ _ (heap_alloc_new _ _)
  have HP2 : Hid (wb.heap[w.heap.size]? = some (.cells h.ca 28 (0, 0))) := by show _ = _; rw [hwb, setRow_other _ _ _ _ (by omega), heap_alloc_old _ _ (by omega)]; exact HP.out
  have HQ2 : Hid (wb.heap[w.heap.size + 1]? = some (.cells HV.zero.ca 28 (0, 0))) := by show _ = _; rw [hwb, setRow_other _ _ _ _ (by omega), heap_alloc_old _ _ (by omega)]; exact HQ.out
  have HB2 : Hid (Below w.heap.size w wb) := by show Below _ _ _; rw [hwb]; exact below_setRow (HB0.out.alloc (by omega) _) (by omega) _
  rw [← hg, ← hwb]
  have hgs : w.heap.size + 2 ≤ g := by omega
  have HG := hid hgs
  clear hwb hg hz1 HP HQ HB0 HB1 hgs
  go_upto_region 3 with (first
    | ((with_reducible refine wpL_loadH (x := .tmp 8) g ?_ o ?_ ?_); rfl; exact HX.out)
    | ((with_reducible refine wpL_storeH (x := .tmp 3) (y := .tmp 11) w.heap.size ?_ o ?_ h.ca ?_ rfl ?_); rfl; rfl; exact HP2.out))
  obtain ⟨wa, hwa⟩ : ∃ wa, wa = wb.setRow w.heap.size o.ca := ⟨_, rfl⟩
  have HR : Hid (wa.heap[w.heap.size]? = some (.cells o.ca 28 (0, 0))) := by show _ = _; rw [hwa]; exact heap_setRow _ _ _ _ _ HP2.out
  have HZ : Hid (wa.heap[w.heap.size + 1]? = some (.cells HV.zero.ca 28 (0, 0))) := by show _ = _; rw [hwa, setRow_other _ _ _ _ (by omega)]; exact HQ2.out
  have HT : Hid (wa.heap[g]? = some (.cells o.ca 28 (0, 0))) := by show _ = _; rw [hwa, setRow_other _ _ _ _ (by have := HG.out; omega)]; exact HX.out
  have HW : Hid (Below w.heap.size w wa) := by show Below _ _ _; rw [hwa]; exact below_setRow HB2.out (Nat.le_refl _) _
  rw [← hwa]
  clear hwa HP2 HQ2 HB2 HX
  have x33 := row_cellH HR.out 33 (v := .bool o.user) (by simp [HV.ca, HV.cs])
  go_wp2_with (first
    | ((with_reducible refine wpL_loadH (x := .tmp 8) g ?_ o ?_ ?_); rfl; exact HT.out)
    | ((with_reducible refine wpL_storeH (x := .tmp 6) (y := .tmp 14) (w.heap.size + 1) ?_ o ?_ HV.zero.ca ?_ rfl ?_); rfl; rfl; exact HZ.out))
  refine bodyPost_ret (ret_row2 Tryz.results23 (w.heap.size + 1) o false rfl rfl (heap_setRow _ _ _ _ _ HZ.out)) rfl ⟨by rw [HO.out], ?_⟩
  exact below_setRow HW.out (by omega) _
set_option maxHeartbeats 1000000 in
theorem rw_no (h : HV) (ok : HOk h) (csr v : Int) (r : 0 ≤ v ∧ v < 18446744073709551616) (w : World) (n1 : csr ≠ 256) (n260 : csr ≠ 260) (n261 : csr ≠ 261) (n320 : csr ≠ 320) (n321 : csr ≠ 321) (n322 : csr ≠ 322) (n323 : csr ≠ 323) (n324 : csr ≠ 324) (n384 : csr ≠ 384) (hu : (ordH h).user = false) : Calls Tryz.prog 23 #[h.v, .int .i64 csr, .int .u64 v] w fun e w' => e = .returned (.tuple #[(ordH h).v, .bool false]) ∧ Below w.heap.size w w' := by
  have OK := hid ok
  clear ok
  go_enter Tryz.func23, Tryz.ntmps23
  go_upto_region 2 with (first
    | ((with_reducible refine wpList_new (z := .agg HV.zero.ca) HV.zero.ca ?_ ?_ ?_); rfl; exact z_hart)
    | ((with_reducible refine wpL_loadH (x := .tmp 3) w.heap.size ?_ h ?_ ?_); rfl; exact heap2 _ _ _)
    | (go_at_call 38; refine (r_Order h OK.out _).mono ?_; rintro e w1 ⟨rfl, hb⟩; have HB1 := hid hb; clear hb)
    | ((with_reducible refine wpL_storeH (x := .tmp 8) (y := .tmp 10) w1.heap.size ?_ (ordH h) ?_ HV.zero.ca ?_ rfl ?_); rfl; rfl; exact heap_alloc_new _ _))
  have hz1 : w.heap.size + 2 ≤ w1.heap.size := by have := HB1.out.size; simpa using this
  have HP : Hid (w1.heap[w.heap.size]? = some (.cells h.ca 28 (0, 0))) := (HB1.out.block _ (by simp; omega)).trans (heap2 _ _ _)
  have HQ : Hid (w1.heap[w.heap.size + 1]? = some (.cells HV.zero.ca 28 (0, 0))) := (HB1.out.block _ (by simp)).trans (heap2' _ _ _)
  have HB0 : Hid (Below w.heap.size w w1) := (below2 _ _).trans (HB1.out.mono (by simp; omega))
  obtain ⟨o, ho⟩ : ∃ o, o = ordH h := ⟨_, rfl⟩
  rw [← ho]
  have OO : Hid (HOk o) := by show HOk o; rw [ho]; exact ordOk OK.out
  rw [← ho] at hu
  have HO := hid ho
  clear ho
  obtain ⟨g, hg⟩ : ∃ g, g = w1.heap.size := ⟨_, rfl⟩
  obtain ⟨wb, hwb⟩ : ∃ wb, wb = (w1.alloc (.cells HV.zero.ca 28)).setRow g o.ca := ⟨_, rfl⟩
  have HX : Hid (wb.heap[g]? = some (.cells o.ca 28 (0, 0))) := by show _ = _; rw [hwb, hg]; exact heap_setRow _ _ _ _ _ (heap_alloc_new _ _)
  have HP2 : Hid (wb.heap[w.heap.size]? = some (.cells h.ca 28 (0, 0))) := by show _ = _; rw [hwb, setRow_other _ _ _ _ (by omega), heap_alloc_old _ _ (by omega)]; exact HP.out
  have HQ2 : Hid (wb.heap[w.heap.size + 1]? = some (.cells HV.zero.ca 28 (0, 0))) := by show _ = _; rw [hwb, setRow_other _ _ _ _ (by omega), heap_alloc_old _ _ (by omega)]; exact HQ.out
  have HB2 : Hid (Below w.heap.size w wb) := by show Below _ _ _; rw [hwb]; exact below_setRow (HB0.out.alloc (by omega) _) (by omega) _
  rw [← hg, ← hwb]
  have hgs : w.heap.size + 2 ≤ g := by omega
  have HG := hid hgs
  clear hwb hg hz1 HP HQ HB0 HB1 hgs
  go_upto_region 3 with (first
    | ((with_reducible refine wpL_loadH (x := .tmp 8) g ?_ o ?_ ?_); rfl; exact HX.out)
    | ((with_reducible refine wpL_storeH (x := .tmp 3) (y := .tmp 11) w.heap.size ?_ o ?_ h.ca ?_ rfl ?_); rfl; rfl; exact HP2.out))
  obtain ⟨wa, hwa⟩ : ∃ wa, wa = wb.setRow w.heap.size o.ca := ⟨_, rfl⟩
  have HR : Hid (wa.heap[w.heap.size]? = some (.cells o.ca 28 (0, 0))) := by show _ = _; rw [hwa]; exact heap_setRow _ _ _ _ _ HP2.out
  have HZ : Hid (wa.heap[w.heap.size + 1]? = some (.cells HV.zero.ca 28 (0, 0))) := by show _ = _; rw [hwa, setRow_other _ _ _ _ (by omega)]; exact HQ2.out
  have HT : Hid (wa.heap[g]? = some (.cells o.ca 28 (0, 0))) := by show _ = _; rw [hwa, setRow_other _ _ _ _ (by have := HG.out; omega)]; exact HX.out
  have HW : Hid (Below w.heap.size w wa) := by show Below _ _ _; rw [hwa]; exact below_setRow HB2.out (Nat.le_refl _) _
  rw [← hwa]
  clear hwa HP2 HQ2 HB2 HX
  have x33 := row_cellH HR.out 33 (v := .bool o.user) (by simp [HV.ca, HV.cs])
  go_wp2_with (first
    | ((with_reducible refine wpL_loadH (x := .tmp 8) g ?_ o ?_ ?_); rfl; exact HT.out)
    | ((with_reducible refine wpL_storeH (x := .tmp 6) (y := .tmp 16) (w.heap.size + 1) ?_ o ?_ HV.zero.ca ?_ rfl ?_); rfl; rfl; exact HZ.out))
  refine bodyPost_ret (ret_row2 Tryz.results23 (w.heap.size + 1) o false rfl rfl (heap_setRow _ _ _ _ _ HZ.out)) rfl ⟨by rw [HO.out], ?_⟩
  exact below_setRow HW.out (by omega) _
set_option maxHeartbeats 1000000 in
theorem rw_sie (h : HV) (ok : HOk h) (csr v : Int) (r : 0 ≤ v ∧ v < 18446744073709551616) (w : World) (hc : csr = 260) (hu : (ordH h).user = false) : Calls Tryz.prog 23 #[h.v, .int .i64 csr, .int .u64 v] w fun e w' => e = .returned (.tuple #[(ordH (pu_sie (ordH h) v)).v, .bool true]) ∧ Below w.heap.size w w' := by
  have OK := hid ok
  clear ok
  go_enter Tryz.func23, Tryz.ntmps23
  go_upto_region 2 with (first
    | ((with_reducible refine wpList_new (z := .agg HV.zero.ca) HV.zero.ca ?_ ?_ ?_); rfl; exact z_hart)
    | ((with_reducible refine wpL_loadH (x := .tmp 3) w.heap.size ?_ h ?_ ?_); rfl; exact heap2 _ _ _)
    | (go_at_call 38; refine (r_Order h OK.out _).mono ?_; rintro e w1 ⟨rfl, hb⟩; have HB1 := hid hb; clear hb)
    | ((with_reducible refine wpL_storeH (x := .tmp 8) (y := .tmp 10) w1.heap.size ?_ (ordH h) ?_ HV.zero.ca ?_ rfl ?_); rfl; rfl; exact heap_alloc_new _ _))
  have hz1 : w.heap.size + 2 ≤ w1.heap.size := by have := HB1.out.size; simpa using this
  have HP : Hid (w1.heap[w.heap.size]? = some (.cells h.ca 28 (0, 0))) := (HB1.out.block _ (by simp; omega)).trans (heap2 _ _ _)
  have HQ : Hid (w1.heap[w.heap.size + 1]? = some (.cells HV.zero.ca 28 (0, 0))) := (HB1.out.block _ (by simp)).trans (heap2' _ _ _)
  have HB0 : Hid (Below w.heap.size w w1) := (below2 _ _).trans (HB1.out.mono (by simp; omega))
  obtain ⟨o, ho⟩ : ∃ o, o = ordH h := ⟨_, rfl⟩
  rw [← ho]
  have OO : Hid (HOk o) := by show HOk o; rw [ho]; exact ordOk OK.out
  rw [← ho] at hu
  have HO := hid ho
  clear ho
  obtain ⟨g, hg⟩ : ∃ g, g = w1.heap.size := ⟨_, rfl⟩
  obtain ⟨wb, hwb⟩ : ∃ wb, wb = (w1.alloc (.cells HV.zero.ca 28)).setRow g o.ca := ⟨_, rfl⟩
  have HX : Hid (wb.heap[g]? = some (.cells o.ca 28 (0, 0))) := by show _ = _; rw [hwb, hg]; exact heap_setRow _ _ _ _ _ (heap_alloc_new _ _)
  have HP2 : Hid (wb.heap[w.heap.size]? = some (.cells h.ca 28 (0, 0))) := by show _ = _; rw [hwb, setRow_other _ _ _ _ (by omega), heap_alloc_old _ _ (by omega)]; exact HP.out
  have HQ2 : Hid (wb.heap[w.heap.size + 1]? = some (.cells HV.zero.ca 28 (0, 0))) := by show _ = _; rw [hwb, setRow_other _ _ _ _ (by omega), heap_alloc_old _ _ (by omega)]; exact HQ.out
  have HB2 : Hid (Below w.heap.size w wb) := by show Below _ _ _; rw [hwb]; exact below_setRow (HB0.out.alloc (by omega) _) (by omega) _
  rw [← hg, ← hwb]
  have hgs : w.heap.size + 2 ≤ g := by omega
  have HG := hid hgs
  clear hwb hg hz1 HP HQ HB0 HB1 hgs
  go_upto_region 3 with (first
    | ((with_reducible refine wpL_loadH (x := .tmp 8) g ?_ o ?_ ?_); rfl; exact HX.out)
    | ((with_reducible refine wpL_storeH (x := .tmp 3) (y := .tmp 11) w.heap.size ?_ o ?_ h.ca ?_ rfl ?_); rfl; rfl; exact HP2.out))
  obtain ⟨wa, hwa⟩ : ∃ wa, wa = wb.setRow w.heap.size o.ca := ⟨_, rfl⟩
  have HR : Hid (wa.heap[w.heap.size]? = some (.cells o.ca 28 (0, 0))) := by show _ = _; rw [hwa]; exact heap_setRow _ _ _ _ _ HP2.out
  have HZ : Hid (wa.heap[w.heap.size + 1]? = some (.cells HV.zero.ca 28 (0, 0))) := by show _ = _; rw [hwa, setRow_other _ _ _ _ (by omega)]; exact HQ2.out
  have HT : Hid (wa.heap[g]? = some (.cells o.ca 28 (0, 0))) := by show _ = _; rw [hwa, setRow_other _ _ _ _ (by have := HG.out; omega)]; exact HX.out
  have HW : Hid (Below w.heap.size w wa) := by show Below _ _ _; rw [hwa]; exact below_setRow HB2.out (Nat.le_refl _) _
  rw [← hwa]
  clear hwa HP2 HQ2 HB2 HX
  have x33 := row_cellH HR.out 33 (v := .bool o.user) (by simp [HV.ca, HV.cs])
  have x45 := row_cellH HR.out 45 (v := .int .u64 o.sie) (by simp [HV.ca, HV.cs])
  have fz := row_fz HR.out
  have HT2 : Hid (HOk (pu_sie o v)) := ok_sie OO.out _ r
  go_wp2_with (first
    | ((with_reducible refine wpL_loadH (x := .tmp 3) w.heap.size ?_ (pu_sie o v) ?_ ?_); rfl; exact (row_set HR.out 45 _).trans (by rw [ca_sie]))
    | (go_at_call 38; refine (r_Order _ HT2.out _).mono ?_; rintro e w3 ⟨rfl, hb⟩; have HB3 := hid hb; clear hb)
    | ((with_reducible refine wpL_storeH (x := .tmp 6) (y := .tmp 90) (w.heap.size + 1) ?_ (ordH (pu_sie o v)) ?_ HV.zero.ca ?_ rfl ?_); rfl; rfl; exact (HB3.out.block _ (by have := lt_of_row HZ.out; simpa [World.setCell, World.setRow] using this)).trans ((Below.heap_setCell _ _ _ _ (by show w.heap.size + 1 ≠ w.heap.size; omega)).trans (HZ.out))))
  have HN : w3.heap[w.heap.size + 1]? = some (.cells HV.zero.ca 28 (0, 0)) := (HB3.out.block _ (by have := lt_of_row HZ.out; simpa [World.setCell, World.setRow] using this)).trans ((Below.heap_setCell _ _ _ _ (by show w.heap.size + 1 ≠ w.heap.size; omega)).trans (HZ.out))
  refine bodyPost_ret (ret_row2 Tryz.results23 (w.heap.size + 1) (ordH (pu_sie o v)) true rfl rfl (heap_setRow _ _ _ _ _ HN)) rfl ⟨by rw [HO.out], ?_⟩
  have hs := HW.out.size
  refine below_setRow (bT ?_ HB3.out) (by omega) _
  exact (HW.out).setCell (p := ⟨w.heap.size, _, none⟩) (Nat.le_refl _) _
set_option maxHeartbeats 1000000 in
theorem rw_stvec (h : HV) (ok : HOk h) (csr v : Int) (r : 0 ≤ v ∧ v < 18446744073709551616) (w : World) (hc : csr = 261) (hu : (ordH h).user = false) : Calls Tryz.prog 23 #[h.v, .int .i64 csr, .int .u64 v] w fun e w' => e = .returned (.tuple #[(ordH (pu_stvec (ordH h) v)).v, .bool true]) ∧ Below w.heap.size w w' := by
  have OK := hid ok
  clear ok
  go_enter Tryz.func23, Tryz.ntmps23
  go_upto_region 2 with (first
    | ((with_reducible refine wpList_new (z := .agg HV.zero.ca) HV.zero.ca ?_ ?_ ?_); rfl; exact z_hart)
    | ((with_reducible refine wpL_loadH (x := .tmp 3) w.heap.size ?_ h ?_ ?_); rfl; exact heap2 _ _ _)
    | (go_at_call 38; refine (r_Order h OK.out _).mono ?_; rintro e w1 ⟨rfl, hb⟩; have HB1 := hid hb; clear hb)
    | ((with_reducible refine wpL_storeH (x := .tmp 8) (y := .tmp 10) w1.heap.size ?_ (ordH h) ?_ HV.zero.ca ?_ rfl ?_); rfl; rfl; exact heap_alloc_new _ _))
  have hz1 : w.heap.size + 2 ≤ w1.heap.size := by have := HB1.out.size; simpa using this
  have HP : Hid (w1.heap[w.heap.size]? = some (.cells h.ca 28 (0, 0))) := (HB1.out.block _ (by simp; omega)).trans (heap2 _ _ _)
  have HQ : Hid (w1.heap[w.heap.size + 1]? = some (.cells HV.zero.ca 28 (0, 0))) := (HB1.out.block _ (by simp)).trans (heap2' _ _ _)
  have HB0 : Hid (Below w.heap.size w w1) := (below2 _ _).trans (HB1.out.mono (by simp; omega))
  obtain ⟨o, ho⟩ : ∃ o, o = ordH h := ⟨_, rfl⟩
  rw [← ho]
  have OO : Hid (HOk o) := by show HOk o; rw [ho]; exact ordOk OK.out
  rw [← ho] at hu
  have HO := hid ho
  clear ho
  obtain ⟨g, hg⟩ : ∃ g, g = w1.heap.size := ⟨_, rfl⟩
  obtain ⟨wb, hwb⟩ : ∃ wb, wb = (w1.alloc (.cells HV.zero.ca 28)).setRow g o.ca := ⟨_, rfl⟩
  have HX : Hid (wb.heap[g]? = some (.cells o.ca 28 (0, 0))) := by show _ = _; rw [hwb, hg]; exact heap_setRow _ _ _ _ _ (heap_alloc_new _ _)
  have HP2 : Hid (wb.heap[w.heap.size]? = some (.cells h.ca 28 (0, 0))) := by show _ = _; rw [hwb, setRow_other _ _ _ _ (by omega), heap_alloc_old _ _ (by omega)]; exact HP.out
  have HQ2 : Hid (wb.heap[w.heap.size + 1]? = some (.cells HV.zero.ca 28 (0, 0))) := by show _ = _; rw [hwb, setRow_other _ _ _ _ (by omega), heap_alloc_old _ _ (by omega)]; exact HQ.out
  have HB2 : Hid (Below w.heap.size w wb) := by show Below _ _ _; rw [hwb]; exact below_setRow (HB0.out.alloc (by omega) _) (by omega) _
  rw [← hg, ← hwb]
  have hgs : w.heap.size + 2 ≤ g := by omega
  have HG := hid hgs
  clear hwb hg hz1 HP HQ HB0 HB1 hgs
  go_upto_region 3 with (first
    | ((with_reducible refine wpL_loadH (x := .tmp 8) g ?_ o ?_ ?_); rfl; exact HX.out)
    | ((with_reducible refine wpL_storeH (x := .tmp 3) (y := .tmp 11) w.heap.size ?_ o ?_ h.ca ?_ rfl ?_); rfl; rfl; exact HP2.out))
  obtain ⟨wa, hwa⟩ : ∃ wa, wa = wb.setRow w.heap.size o.ca := ⟨_, rfl⟩
  have HR : Hid (wa.heap[w.heap.size]? = some (.cells o.ca 28 (0, 0))) := by show _ = _; rw [hwa]; exact heap_setRow _ _ _ _ _ HP2.out
  have HZ : Hid (wa.heap[w.heap.size + 1]? = some (.cells HV.zero.ca 28 (0, 0))) := by show _ = _; rw [hwa, setRow_other _ _ _ _ (by omega)]; exact HQ2.out
  have HT : Hid (wa.heap[g]? = some (.cells o.ca 28 (0, 0))) := by show _ = _; rw [hwa, setRow_other _ _ _ _ (by have := HG.out; omega)]; exact HX.out
  have HW : Hid (Below w.heap.size w wa) := by show Below _ _ _; rw [hwa]; exact below_setRow HB2.out (Nat.le_refl _) _
  rw [← hwa]
  clear hwa HP2 HQ2 HB2 HX
  have x33 := row_cellH HR.out 33 (v := .bool o.user) (by simp [HV.ca, HV.cs])
  have x40 := row_cellH HR.out 40 (v := .int .u64 o.stvec) (by simp [HV.ca, HV.cs])
  have fz := row_fz HR.out
  have HT2 : Hid (HOk (pu_stvec o v)) := ok_stvec OO.out _ r
  go_wp2_with (first
    | ((with_reducible refine wpL_loadH (x := .tmp 3) w.heap.size ?_ (pu_stvec o v) ?_ ?_); rfl; exact (row_set HR.out 40 _).trans (by rw [ca_stvec]))
    | (go_at_call 38; refine (r_Order _ HT2.out _).mono ?_; rintro e w3 ⟨rfl, hb⟩; have HB3 := hid hb; clear hb)
    | ((with_reducible refine wpL_storeH (x := .tmp 6) (y := .tmp 90) (w.heap.size + 1) ?_ (ordH (pu_stvec o v)) ?_ HV.zero.ca ?_ rfl ?_); rfl; rfl; exact (HB3.out.block _ (by have := lt_of_row HZ.out; simpa [World.setCell, World.setRow] using this)).trans ((Below.heap_setCell _ _ _ _ (by show w.heap.size + 1 ≠ w.heap.size; omega)).trans (HZ.out))))
  have HN : w3.heap[w.heap.size + 1]? = some (.cells HV.zero.ca 28 (0, 0)) := (HB3.out.block _ (by have := lt_of_row HZ.out; simpa [World.setCell, World.setRow] using this)).trans ((Below.heap_setCell _ _ _ _ (by show w.heap.size + 1 ≠ w.heap.size; omega)).trans (HZ.out))
  refine bodyPost_ret (ret_row2 Tryz.results23 (w.heap.size + 1) (ordH (pu_stvec o v)) true rfl rfl (heap_setRow _ _ _ _ _ HN)) rfl ⟨by rw [HO.out], ?_⟩
  have hs := HW.out.size
  refine below_setRow (bT ?_ HB3.out) (by omega) _
  exact (HW.out).setCell (p := ⟨w.heap.size, _, none⟩) (Nat.le_refl _) _
set_option maxHeartbeats 1000000 in
theorem rw_sscr (h : HV) (ok : HOk h) (csr v : Int) (r : 0 ≤ v ∧ v < 18446744073709551616) (w : World) (hc : csr = 320) (hu : (ordH h).user = false) : Calls Tryz.prog 23 #[h.v, .int .i64 csr, .int .u64 v] w fun e w' => e = .returned (.tuple #[(ordH (pu_sscr (ordH h) v)).v, .bool true]) ∧ Below w.heap.size w w' := by
  have OK := hid ok
  clear ok
  go_enter Tryz.func23, Tryz.ntmps23
  go_upto_region 2 with (first
    | ((with_reducible refine wpList_new (z := .agg HV.zero.ca) HV.zero.ca ?_ ?_ ?_); rfl; exact z_hart)
    | ((with_reducible refine wpL_loadH (x := .tmp 3) w.heap.size ?_ h ?_ ?_); rfl; exact heap2 _ _ _)
    | (go_at_call 38; refine (r_Order h OK.out _).mono ?_; rintro e w1 ⟨rfl, hb⟩; have HB1 := hid hb; clear hb)
    | ((with_reducible refine wpL_storeH (x := .tmp 8) (y := .tmp 10) w1.heap.size ?_ (ordH h) ?_ HV.zero.ca ?_ rfl ?_); rfl; rfl; exact heap_alloc_new _ _))
  have hz1 : w.heap.size + 2 ≤ w1.heap.size := by have := HB1.out.size; simpa using this
  have HP : Hid (w1.heap[w.heap.size]? = some (.cells h.ca 28 (0, 0))) := (HB1.out.block _ (by simp; omega)).trans (heap2 _ _ _)
  have HQ : Hid (w1.heap[w.heap.size + 1]? = some (.cells HV.zero.ca 28 (0, 0))) := (HB1.out.block _ (by simp)).trans (heap2' _ _ _)
  have HB0 : Hid (Below w.heap.size w w1) := (below2 _ _).trans (HB1.out.mono (by simp; omega))
  obtain ⟨o, ho⟩ : ∃ o, o = ordH h := ⟨_, rfl⟩
  rw [← ho]
  have OO : Hid (HOk o) := by show HOk o; rw [ho]; exact ordOk OK.out
  rw [← ho] at hu
  have HO := hid ho
  clear ho
  obtain ⟨g, hg⟩ : ∃ g, g = w1.heap.size := ⟨_, rfl⟩
  obtain ⟨wb, hwb⟩ : ∃ wb, wb = (w1.alloc (.cells HV.zero.ca 28)).setRow g o.ca := ⟨_, rfl⟩
  have HX : Hid (wb.heap[g]? = some (.cells o.ca 28 (0, 0))) := by show _ = _; rw [hwb, hg]; exact heap_setRow _ _ _ _ _ (heap_alloc_new _ _)
  have HP2 : Hid (wb.heap[w.heap.size]? = some (.cells h.ca 28 (0, 0))) := by show _ = _; rw [hwb, setRow_other _ _ _ _ (by omega), heap_alloc_old _ _ (by omega)]; exact HP.out
  have HQ2 : Hid (wb.heap[w.heap.size + 1]? = some (.cells HV.zero.ca 28 (0, 0))) := by show _ = _; rw [hwb, setRow_other _ _ _ _ (by omega), heap_alloc_old _ _ (by omega)]; exact HQ.out
  have HB2 : Hid (Below w.heap.size w wb) := by show Below _ _ _; rw [hwb]; exact below_setRow (HB0.out.alloc (by omega) _) (by omega) _
  rw [← hg, ← hwb]
  have hgs : w.heap.size + 2 ≤ g := by omega
  have HG := hid hgs
  clear hwb hg hz1 HP HQ HB0 HB1 hgs
  go_upto_region 3 with (first
    | ((with_reducible refine wpL_loadH (x := .tmp 8) g ?_ o ?_ ?_); rfl; exact HX.out)
    | ((with_reducible refine wpL_storeH (x := .tmp 3) (y := .tmp 11) w.heap.size ?_ o ?_ h.ca ?_ rfl ?_); rfl; rfl; exact HP2.out))
  obtain ⟨wa, hwa⟩ : ∃ wa, wa = wb.setRow w.heap.size o.ca := ⟨_, rfl⟩
  have HR : Hid (wa.heap[w.heap.size]? = some (.cells o.ca 28 (0, 0))) := by show _ = _; rw [hwa]; exact heap_setRow _ _ _ _ _ HP2.out
  have HZ : Hid (wa.heap[w.heap.size + 1]? = some (.cells HV.zero.ca 28 (0, 0))) := by show _ = _; rw [hwa, setRow_other _ _ _ _ (by omega)]; exact HQ2.out
  have HT : Hid (wa.heap[g]? = some (.cells o.ca 28 (0, 0))) := by show _ = _; rw [hwa, setRow_other _ _ _ _ (by have := HG.out; omega)]; exact HX.out
  have HW : Hid (Below w.heap.size w wa) := by show Below _ _ _; rw [hwa]; exact below_setRow HB2.out (Nat.le_refl _) _
  rw [← hwa]
  clear hwa HP2 HQ2 HB2 HX
  have x33 := row_cellH HR.out 33 (v := .bool o.user) (by simp [HV.ca, HV.cs])
  have x41 := row_cellH HR.out 41 (v := .int .u64 o.sscr) (by simp [HV.ca, HV.cs])
  have fz := row_fz HR.out
  have HT2 : Hid (HOk (pu_sscr o v)) := ok_sscr OO.out _ r
  go_wp2_with (first
    | ((with_reducible refine wpL_loadH (x := .tmp 3) w.heap.size ?_ (pu_sscr o v) ?_ ?_); rfl; exact (row_set HR.out 41 _).trans (by rw [ca_sscr]))
    | (go_at_call 38; refine (r_Order _ HT2.out _).mono ?_; rintro e w3 ⟨rfl, hb⟩; have HB3 := hid hb; clear hb)
    | ((with_reducible refine wpL_storeH (x := .tmp 6) (y := .tmp 90) (w.heap.size + 1) ?_ (ordH (pu_sscr o v)) ?_ HV.zero.ca ?_ rfl ?_); rfl; rfl; exact (HB3.out.block _ (by have := lt_of_row HZ.out; simpa [World.setCell, World.setRow] using this)).trans ((Below.heap_setCell _ _ _ _ (by show w.heap.size + 1 ≠ w.heap.size; omega)).trans (HZ.out))))
  have HN : w3.heap[w.heap.size + 1]? = some (.cells HV.zero.ca 28 (0, 0)) := (HB3.out.block _ (by have := lt_of_row HZ.out; simpa [World.setCell, World.setRow] using this)).trans ((Below.heap_setCell _ _ _ _ (by show w.heap.size + 1 ≠ w.heap.size; omega)).trans (HZ.out))
  refine bodyPost_ret (ret_row2 Tryz.results23 (w.heap.size + 1) (ordH (pu_sscr o v)) true rfl rfl (heap_setRow _ _ _ _ _ HN)) rfl ⟨by rw [HO.out], ?_⟩
  have hs := HW.out.size
  refine below_setRow (bT ?_ HB3.out) (by omega) _
  exact (HW.out).setCell (p := ⟨w.heap.size, _, none⟩) (Nat.le_refl _) _
set_option maxHeartbeats 1000000 in
theorem rw_sepc (h : HV) (ok : HOk h) (csr v : Int) (r : 0 ≤ v ∧ v < 18446744073709551616) (w : World) (hc : csr = 321) (hu : (ordH h).user = false) : Calls Tryz.prog 23 #[h.v, .int .i64 csr, .int .u64 v] w fun e w' => e = .returned (.tuple #[(ordH (pu_sepc (ordH h) v)).v, .bool true]) ∧ Below w.heap.size w w' := by
  have OK := hid ok
  clear ok
  go_enter Tryz.func23, Tryz.ntmps23
  go_upto_region 2 with (first
    | ((with_reducible refine wpList_new (z := .agg HV.zero.ca) HV.zero.ca ?_ ?_ ?_); rfl; exact z_hart)
    | ((with_reducible refine wpL_loadH (x := .tmp 3) w.heap.size ?_ h ?_ ?_); rfl; exact heap2 _ _ _)
    | (go_at_call 38; refine (r_Order h OK.out _).mono ?_; rintro e w1 ⟨rfl, hb⟩; have HB1 := hid hb; clear hb)
    | ((with_reducible refine wpL_storeH (x := .tmp 8) (y := .tmp 10) w1.heap.size ?_ (ordH h) ?_ HV.zero.ca ?_ rfl ?_); rfl; rfl; exact heap_alloc_new _ _))
  have hz1 : w.heap.size + 2 ≤ w1.heap.size := by have := HB1.out.size; simpa using this
  have HP : Hid (w1.heap[w.heap.size]? = some (.cells h.ca 28 (0, 0))) := (HB1.out.block _ (by simp; omega)).trans (heap2 _ _ _)
  have HQ : Hid (w1.heap[w.heap.size + 1]? = some (.cells HV.zero.ca 28 (0, 0))) := (HB1.out.block _ (by simp)).trans (heap2' _ _ _)
  have HB0 : Hid (Below w.heap.size w w1) := (below2 _ _).trans (HB1.out.mono (by simp; omega))
  obtain ⟨o, ho⟩ : ∃ o, o = ordH h := ⟨_, rfl⟩
  rw [← ho]
  have OO : Hid (HOk o) := by show HOk o; rw [ho]; exact ordOk OK.out
  rw [← ho] at hu
  have HO := hid ho
  clear ho
  obtain ⟨g, hg⟩ : ∃ g, g = w1.heap.size := ⟨_, rfl⟩
  obtain ⟨wb, hwb⟩ : ∃ wb, wb = (w1.alloc (.cells HV.zero.ca 28)).setRow g o.ca := ⟨_, rfl⟩
  have HX : Hid (wb.heap[g]? = some (.cells o.ca 28 (0, 0))) := by show _ = _; rw [hwb, hg]; exact heap_setRow _ _ _ _ _ (heap_alloc_new _ _)
  have HP2 : Hid (wb.heap[w.heap.size]? = some (.cells h.ca 28 (0, 0))) := by show _ = _; rw [hwb, setRow_other _ _ _ _ (by omega), heap_alloc_old _ _ (by omega)]; exact HP.out
  have HQ2 : Hid (wb.heap[w.heap.size + 1]? = some (.cells HV.zero.ca 28 (0, 0))) := by show _ = _; rw [hwb, setRow_other _ _ _ _ (by omega), heap_alloc_old _ _ (by omega)]; exact HQ.out
  have HB2 : Hid (Below w.heap.size w wb) := by show Below _ _ _; rw [hwb]; exact below_setRow (HB0.out.alloc (by omega) _) (by omega) _
  rw [← hg, ← hwb]
  have hgs : w.heap.size + 2 ≤ g := by omega
  have HG := hid hgs
  clear hwb hg hz1 HP HQ HB0 HB1 hgs
  go_upto_region 3 with (first
    | ((with_reducible refine wpL_loadH (x := .tmp 8) g ?_ o ?_ ?_); rfl; exact HX.out)
    | ((with_reducible refine wpL_storeH (x := .tmp 3) (y := .tmp 11) w.heap.size ?_ o ?_ h.ca ?_ rfl ?_); rfl; rfl; exact HP2.out))
  obtain ⟨wa, hwa⟩ : ∃ wa, wa = wb.setRow w.heap.size o.ca := ⟨_, rfl⟩
  have HR : Hid (wa.heap[w.heap.size]? = some (.cells o.ca 28 (0, 0))) := by show _ = _; rw [hwa]; exact heap_setRow _ _ _ _ _ HP2.out
  have HZ : Hid (wa.heap[w.heap.size + 1]? = some (.cells HV.zero.ca 28 (0, 0))) := by show _ = _; rw [hwa, setRow_other _ _ _ _ (by omega)]; exact HQ2.out
  have HT : Hid (wa.heap[g]? = some (.cells o.ca 28 (0, 0))) := by show _ = _; rw [hwa, setRow_other _ _ _ _ (by have := HG.out; omega)]; exact HX.out
  have HW : Hid (Below w.heap.size w wa) := by show Below _ _ _; rw [hwa]; exact below_setRow HB2.out (Nat.le_refl _) _
  rw [← hwa]
  clear hwa HP2 HQ2 HB2 HX
  have x33 := row_cellH HR.out 33 (v := .bool o.user) (by simp [HV.ca, HV.cs])
  have x42 := row_cellH HR.out 42 (v := .int .u64 o.sepc) (by simp [HV.ca, HV.cs])
  have fz := row_fz HR.out
  have HT2 : Hid (HOk (pu_sepc o v)) := ok_sepc OO.out _ r
  go_wp2_with (first
    | ((with_reducible refine wpL_loadH (x := .tmp 3) w.heap.size ?_ (pu_sepc o v) ?_ ?_); rfl; exact (row_set HR.out 42 _).trans (by rw [ca_sepc]))
    | (go_at_call 38; refine (r_Order _ HT2.out _).mono ?_; rintro e w3 ⟨rfl, hb⟩; have HB3 := hid hb; clear hb)
    | ((with_reducible refine wpL_storeH (x := .tmp 6) (y := .tmp 90) (w.heap.size + 1) ?_ (ordH (pu_sepc o v)) ?_ HV.zero.ca ?_ rfl ?_); rfl; rfl; exact (HB3.out.block _ (by have := lt_of_row HZ.out; simpa [World.setCell, World.setRow] using this)).trans ((Below.heap_setCell _ _ _ _ (by show w.heap.size + 1 ≠ w.heap.size; omega)).trans (HZ.out))))
  have HN : w3.heap[w.heap.size + 1]? = some (.cells HV.zero.ca 28 (0, 0)) := (HB3.out.block _ (by have := lt_of_row HZ.out; simpa [World.setCell, World.setRow] using this)).trans ((Below.heap_setCell _ _ _ _ (by show w.heap.size + 1 ≠ w.heap.size; omega)).trans (HZ.out))
  refine bodyPost_ret (ret_row2 Tryz.results23 (w.heap.size + 1) (ordH (pu_sepc o v)) true rfl rfl (heap_setRow _ _ _ _ _ HN)) rfl ⟨by rw [HO.out], ?_⟩
  have hs := HW.out.size
  refine below_setRow (bT ?_ HB3.out) (by omega) _
  exact (HW.out).setCell (p := ⟨w.heap.size, _, none⟩) (Nat.le_refl _) _
set_option maxHeartbeats 1000000 in
theorem rw_scause (h : HV) (ok : HOk h) (csr v : Int) (r : 0 ≤ v ∧ v < 18446744073709551616) (w : World) (hc : csr = 322) (hu : (ordH h).user = false) : Calls Tryz.prog 23 #[h.v, .int .i64 csr, .int .u64 v] w fun e w' => e = .returned (.tuple #[(ordH (pu_scause (ordH h) v)).v, .bool true]) ∧ Below w.heap.size w w' := by
  have OK := hid ok
  clear ok
  go_enter Tryz.func23, Tryz.ntmps23
  go_upto_region 2 with (first
    | ((with_reducible refine wpList_new (z := .agg HV.zero.ca) HV.zero.ca ?_ ?_ ?_); rfl; exact z_hart)
    | ((with_reducible refine wpL_loadH (x := .tmp 3) w.heap.size ?_ h ?_ ?_); rfl; exact heap2 _ _ _)
    | (go_at_call 38; refine (r_Order h OK.out _).mono ?_; rintro e w1 ⟨rfl, hb⟩; have HB1 := hid hb; clear hb)
    | ((with_reducible refine wpL_storeH (x := .tmp 8) (y := .tmp 10) w1.heap.size ?_ (ordH h) ?_ HV.zero.ca ?_ rfl ?_); rfl; rfl; exact heap_alloc_new _ _))
  have hz1 : w.heap.size + 2 ≤ w1.heap.size := by have := HB1.out.size; simpa using this
  have HP : Hid (w1.heap[w.heap.size]? = some (.cells h.ca 28 (0, 0))) := (HB1.out.block _ (by simp; omega)).trans (heap2 _ _ _)
  have HQ : Hid (w1.heap[w.heap.size + 1]? = some (.cells HV.zero.ca 28 (0, 0))) := (HB1.out.block _ (by simp)).trans (heap2' _ _ _)
  have HB0 : Hid (Below w.heap.size w w1) := (below2 _ _).trans (HB1.out.mono (by simp; omega))
  obtain ⟨o, ho⟩ : ∃ o, o = ordH h := ⟨_, rfl⟩
  rw [← ho]
  have OO : Hid (HOk o) := by show HOk o; rw [ho]; exact ordOk OK.out
  rw [← ho] at hu
  have HO := hid ho
  clear ho
  obtain ⟨g, hg⟩ : ∃ g, g = w1.heap.size := ⟨_, rfl⟩
  obtain ⟨wb, hwb⟩ : ∃ wb, wb = (w1.alloc (.cells HV.zero.ca 28)).setRow g o.ca := ⟨_, rfl⟩
  have HX : Hid (wb.heap[g]? = some (.cells o.ca 28 (0, 0))) := by show _ = _; rw [hwb, hg]; exact heap_setRow _ _ _ _ _ (heap_alloc_new _ _)
  have HP2 : Hid (wb.heap[w.heap.size]? = some (.cells h.ca 28 (0, 0))) := by show _ = _; rw [hwb, setRow_other _ _ _ _ (by omega), heap_alloc_old _ _ (by omega)]; exact HP.out
  have HQ2 : Hid (wb.heap[w.heap.size + 1]? = some (.cells HV.zero.ca 28 (0, 0))) := by show _ = _; rw [hwb, setRow_other _ _ _ _ (by omega), heap_alloc_old _ _ (by omega)]; exact HQ.out
  have HB2 : Hid (Below w.heap.size w wb) := by show Below _ _ _; rw [hwb]; exact below_setRow (HB0.out.alloc (by omega) _) (by omega) _
  rw [← hg, ← hwb]
  have hgs : w.heap.size + 2 ≤ g := by omega
  have HG := hid hgs
  clear hwb hg hz1 HP HQ HB0 HB1 hgs
  go_upto_region 3 with (first
    | ((with_reducible refine wpL_loadH (x := .tmp 8) g ?_ o ?_ ?_); rfl; exact HX.out)
    | ((with_reducible refine wpL_storeH (x := .tmp 3) (y := .tmp 11) w.heap.size ?_ o ?_ h.ca ?_ rfl ?_); rfl; rfl; exact HP2.out))
  obtain ⟨wa, hwa⟩ : ∃ wa, wa = wb.setRow w.heap.size o.ca := ⟨_, rfl⟩
  have HR : Hid (wa.heap[w.heap.size]? = some (.cells o.ca 28 (0, 0))) := by show _ = _; rw [hwa]; exact heap_setRow _ _ _ _ _ HP2.out
  have HZ : Hid (wa.heap[w.heap.size + 1]? = some (.cells HV.zero.ca 28 (0, 0))) := by show _ = _; rw [hwa, setRow_other _ _ _ _ (by omega)]; exact HQ2.out
  have HT : Hid (wa.heap[g]? = some (.cells o.ca 28 (0, 0))) := by show _ = _; rw [hwa, setRow_other _ _ _ _ (by have := HG.out; omega)]; exact HX.out
  have HW : Hid (Below w.heap.size w wa) := by show Below _ _ _; rw [hwa]; exact below_setRow HB2.out (Nat.le_refl _) _
  rw [← hwa]
  clear hwa HP2 HQ2 HB2 HX
  have x33 := row_cellH HR.out 33 (v := .bool o.user) (by simp [HV.ca, HV.cs])
  have x43 := row_cellH HR.out 43 (v := .int .u64 o.scause) (by simp [HV.ca, HV.cs])
  have fz := row_fz HR.out
  have HT2 : Hid (HOk (pu_scause o v)) := ok_scause OO.out _ r
  go_wp2_with (first
    | ((with_reducible refine wpL_loadH (x := .tmp 3) w.heap.size ?_ (pu_scause o v) ?_ ?_); rfl; exact (row_set HR.out 43 _).trans (by rw [ca_scause]))
    | (go_at_call 38; refine (r_Order _ HT2.out _).mono ?_; rintro e w3 ⟨rfl, hb⟩; have HB3 := hid hb; clear hb)
    | ((with_reducible refine wpL_storeH (x := .tmp 6) (y := .tmp 90) (w.heap.size + 1) ?_ (ordH (pu_scause o v)) ?_ HV.zero.ca ?_ rfl ?_); rfl; rfl; exact (HB3.out.block _ (by have := lt_of_row HZ.out; simpa [World.setCell, World.setRow] using this)).trans ((Below.heap_setCell _ _ _ _ (by show w.heap.size + 1 ≠ w.heap.size; omega)).trans (HZ.out))))
  have HN : w3.heap[w.heap.size + 1]? = some (.cells HV.zero.ca 28 (0, 0)) := (HB3.out.block _ (by have := lt_of_row HZ.out; simpa [World.setCell, World.setRow] using this)).trans ((Below.heap_setCell _ _ _ _ (by show w.heap.size + 1 ≠ w.heap.size; omega)).trans (HZ.out))
  refine bodyPost_ret (ret_row2 Tryz.results23 (w.heap.size + 1) (ordH (pu_scause o v)) true rfl rfl (heap_setRow _ _ _ _ _ HN)) rfl ⟨by rw [HO.out], ?_⟩
  have hs := HW.out.size
  refine below_setRow (bT ?_ HB3.out) (by omega) _
  exact (HW.out).setCell (p := ⟨w.heap.size, _, none⟩) (Nat.le_refl _) _
set_option maxHeartbeats 1000000 in
theorem rw_stval (h : HV) (ok : HOk h) (csr v : Int) (r : 0 ≤ v ∧ v < 18446744073709551616) (w : World) (hc : csr = 323) (hu : (ordH h).user = false) : Calls Tryz.prog 23 #[h.v, .int .i64 csr, .int .u64 v] w fun e w' => e = .returned (.tuple #[(ordH (pu_stval (ordH h) v)).v, .bool true]) ∧ Below w.heap.size w w' := by
  have OK := hid ok
  clear ok
  go_enter Tryz.func23, Tryz.ntmps23
  go_upto_region 2 with (first
    | ((with_reducible refine wpList_new (z := .agg HV.zero.ca) HV.zero.ca ?_ ?_ ?_); rfl; exact z_hart)
    | ((with_reducible refine wpL_loadH (x := .tmp 3) w.heap.size ?_ h ?_ ?_); rfl; exact heap2 _ _ _)
    | (go_at_call 38; refine (r_Order h OK.out _).mono ?_; rintro e w1 ⟨rfl, hb⟩; have HB1 := hid hb; clear hb)
    | ((with_reducible refine wpL_storeH (x := .tmp 8) (y := .tmp 10) w1.heap.size ?_ (ordH h) ?_ HV.zero.ca ?_ rfl ?_); rfl; rfl; exact heap_alloc_new _ _))
  have hz1 : w.heap.size + 2 ≤ w1.heap.size := by have := HB1.out.size; simpa using this
  have HP : Hid (w1.heap[w.heap.size]? = some (.cells h.ca 28 (0, 0))) := (HB1.out.block _ (by simp; omega)).trans (heap2 _ _ _)
  have HQ : Hid (w1.heap[w.heap.size + 1]? = some (.cells HV.zero.ca 28 (0, 0))) := (HB1.out.block _ (by simp)).trans (heap2' _ _ _)
  have HB0 : Hid (Below w.heap.size w w1) := (below2 _ _).trans (HB1.out.mono (by simp; omega))
  obtain ⟨o, ho⟩ : ∃ o, o = ordH h := ⟨_, rfl⟩
  rw [← ho]
  have OO : Hid (HOk o) := by show HOk o; rw [ho]; exact ordOk OK.out
  rw [← ho] at hu
  have HO := hid ho
  clear ho
  obtain ⟨g, hg⟩ : ∃ g, g = w1.heap.size := ⟨_, rfl⟩
  obtain ⟨wb, hwb⟩ : ∃ wb, wb = (w1.alloc (.cells HV.zero.ca 28)).setRow g o.ca := ⟨_, rfl⟩
  have HX : Hid (wb.heap[g]? = some (.cells o.ca 28 (0, 0))) := by show _ = _; rw [hwb, hg]; exact heap_setRow _ _ _ _ _ (heap_alloc_new _ _)
  have HP2 : Hid (wb.heap[w.heap.size]? = some (.cells h.ca 28 (0, 0))) := by show _ = _; rw [hwb, setRow_other _ _ _ _ (by omega), heap_alloc_old _ _ (by omega)]; exact HP.out
  have HQ2 : Hid (wb.heap[w.heap.size + 1]? = some (.cells HV.zero.ca 28 (0, 0))) := by show _ = _; rw [hwb, setRow_other _ _ _ _ (by omega), heap_alloc_old _ _ (by omega)]; exact HQ.out
  have HB2 : Hid (Below w.heap.size w wb) := by show Below _ _ _; rw [hwb]; exact below_setRow (HB0.out.alloc (by omega) _) (by omega) _
  rw [← hg, ← hwb]
  have hgs : w.heap.size + 2 ≤ g := by omega
  have HG := hid hgs
  clear hwb hg hz1 HP HQ HB0 HB1 hgs
  go_upto_region 3 with (first
    | ((with_reducible refine wpL_loadH (x := .tmp 8) g ?_ o ?_ ?_); rfl; exact HX.out)
    | ((with_reducible refine wpL_storeH (x := .tmp 3) (y := .tmp 11) w.heap.size ?_ o ?_ h.ca ?_ rfl ?_); rfl; rfl; exact HP2.out))
  obtain ⟨wa, hwa⟩ : ∃ wa, wa = wb.setRow w.heap.size o.ca := ⟨_, rfl⟩
  have HR : Hid (wa.heap[w.heap.size]? = some (.cells o.ca 28 (0, 0))) := by show _ = _; rw [hwa]; exact heap_setRow _ _ _ _ _ HP2.out
  have HZ : Hid (wa.heap[w.heap.size + 1]? = some (.cells HV.zero.ca 28 (0, 0))) := by show _ = _; rw [hwa, setRow_other _ _ _ _ (by omega)]; exact HQ2.out
  have HT : Hid (wa.heap[g]? = some (.cells o.ca 28 (0, 0))) := by show _ = _; rw [hwa, setRow_other _ _ _ _ (by have := HG.out; omega)]; exact HX.out
  have HW : Hid (Below w.heap.size w wa) := by show Below _ _ _; rw [hwa]; exact below_setRow HB2.out (Nat.le_refl _) _
  rw [← hwa]
  clear hwa HP2 HQ2 HB2 HX
  have x33 := row_cellH HR.out 33 (v := .bool o.user) (by simp [HV.ca, HV.cs])
  have x44 := row_cellH HR.out 44 (v := .int .u64 o.stval) (by simp [HV.ca, HV.cs])
  have fz := row_fz HR.out
  have HT2 : Hid (HOk (pu_stval o v)) := ok_stval OO.out _ r
  go_wp2_with (first
    | ((with_reducible refine wpL_loadH (x := .tmp 3) w.heap.size ?_ (pu_stval o v) ?_ ?_); rfl; exact (row_set HR.out 44 _).trans (by rw [ca_stval]))
    | (go_at_call 38; refine (r_Order _ HT2.out _).mono ?_; rintro e w3 ⟨rfl, hb⟩; have HB3 := hid hb; clear hb)
    | ((with_reducible refine wpL_storeH (x := .tmp 6) (y := .tmp 90) (w.heap.size + 1) ?_ (ordH (pu_stval o v)) ?_ HV.zero.ca ?_ rfl ?_); rfl; rfl; exact (HB3.out.block _ (by have := lt_of_row HZ.out; simpa [World.setCell, World.setRow] using this)).trans ((Below.heap_setCell _ _ _ _ (by show w.heap.size + 1 ≠ w.heap.size; omega)).trans (HZ.out))))
  have HN : w3.heap[w.heap.size + 1]? = some (.cells HV.zero.ca 28 (0, 0)) := (HB3.out.block _ (by have := lt_of_row HZ.out; simpa [World.setCell, World.setRow] using this)).trans ((Below.heap_setCell _ _ _ _ (by show w.heap.size + 1 ≠ w.heap.size; omega)).trans (HZ.out))
  refine bodyPost_ret (ret_row2 Tryz.results23 (w.heap.size + 1) (ordH (pu_stval o v)) true rfl rfl (heap_setRow _ _ _ _ _ HN)) rfl ⟨by rw [HO.out], ?_⟩
  have hs := HW.out.size
  refine below_setRow (bT ?_ HB3.out) (by omega) _
  exact (HW.out).setCell (p := ⟨w.heap.size, _, none⟩) (Nat.le_refl _) _
set_option maxHeartbeats 1000000 in
theorem rw_sip (h : HV) (ok : HOk h) (csr v : Int) (r : 0 ≤ v ∧ v < 18446744073709551616) (w : World) (hc : csr = 324) (hu : (ordH h).user = false) : Calls Tryz.prog 23 #[h.v, .int .i64 csr, .int .u64 v] w fun e w' => e = .returned (.tuple #[(ordH (pu_sip (ordH h) (sipV (ordH h) v))).v, .bool true]) ∧ Below w.heap.size w w' := by
  have OK := hid ok
  clear ok
  go_enter Tryz.func23, Tryz.ntmps23
  go_upto_region 2 with (first
    | ((with_reducible refine wpList_new (z := .agg HV.zero.ca) HV.zero.ca ?_ ?_ ?_); rfl; exact z_hart)
    | ((with_reducible refine wpL_loadH (x := .tmp 3) w.heap.size ?_ h ?_ ?_); rfl; exact heap2 _ _ _)
    | (go_at_call 38; refine (r_Order h OK.out _).mono ?_; rintro e w1 ⟨rfl, hb⟩; have HB1 := hid hb; clear hb)
    | ((with_reducible refine wpL_storeH (x := .tmp 8) (y := .tmp 10) w1.heap.size ?_ (ordH h) ?_ HV.zero.ca ?_ rfl ?_); rfl; rfl; exact heap_alloc_new _ _))
  have hz1 : w.heap.size + 2 ≤ w1.heap.size := by have := HB1.out.size; simpa using this
  have HP : Hid (w1.heap[w.heap.size]? = some (.cells h.ca 28 (0, 0))) := (HB1.out.block _ (by simp; omega)).trans (heap2 _ _ _)
  have HQ : Hid (w1.heap[w.heap.size + 1]? = some (.cells HV.zero.ca 28 (0, 0))) := (HB1.out.block _ (by simp)).trans (heap2' _ _ _)
  have HB0 : Hid (Below w.heap.size w w1) := (below2 _ _).trans (HB1.out.mono (by simp; omega))
  obtain ⟨o, ho⟩ : ∃ o, o = ordH h := ⟨_, rfl⟩
  rw [← ho]
  have OO : Hid (HOk o) := by show HOk o; rw [ho]; exact ordOk OK.out
  rw [← ho] at hu
  have HO := hid ho
  clear ho
  obtain ⟨g, hg⟩ : ∃ g, g = w1.heap.size := ⟨_, rfl⟩
  obtain ⟨wb, hwb⟩ : ∃ wb, wb = (w1.alloc (.cells HV.zero.ca 28)).setRow g o.ca := ⟨_, rfl⟩
  have HX : Hid (wb.heap[g]? = some (.cells o.ca 28 (0, 0))) := by show _ = _; rw [hwb, hg]; exact heap_setRow _ _ _ _ _ (heap_alloc_new _ _)
  have HP2 : Hid (wb.heap[w.heap.size]? = some (.cells h.ca 28 (0, 0))) := by show _ = _; rw [hwb, setRow_other _ _ _ _ (by omega), heap_alloc_old _ _ (by omega)]; exact HP.out
  have HQ2 : Hid (wb.heap[w.heap.size + 1]? = some (.cells HV.zero.ca 28 (0, 0))) := by show _ = _; rw [hwb, setRow_other _ _ _ _ (by omega), heap_alloc_old _ _ (by omega)]; exact HQ.out
  have HB2 : Hid (Below w.heap.size w wb) := by show Below _ _ _; rw [hwb]; exact below_setRow (HB0.out.alloc (by omega) _) (by omega) _
  rw [← hg, ← hwb]
  have hgs : w.heap.size + 2 ≤ g := by omega
  have HG := hid hgs
  clear hwb hg hz1 HP HQ HB0 HB1 hgs
  go_upto_region 3 with (first
    | ((with_reducible refine wpL_loadH (x := .tmp 8) g ?_ o ?_ ?_); rfl; exact HX.out)
    | ((with_reducible refine wpL_storeH (x := .tmp 3) (y := .tmp 11) w.heap.size ?_ o ?_ h.ca ?_ rfl ?_); rfl; rfl; exact HP2.out))
  obtain ⟨wa, hwa⟩ : ∃ wa, wa = wb.setRow w.heap.size o.ca := ⟨_, rfl⟩
  have HR : Hid (wa.heap[w.heap.size]? = some (.cells o.ca 28 (0, 0))) := by show _ = _; rw [hwa]; exact heap_setRow _ _ _ _ _ HP2.out
  have HZ : Hid (wa.heap[w.heap.size + 1]? = some (.cells HV.zero.ca 28 (0, 0))) := by show _ = _; rw [hwa, setRow_other _ _ _ _ (by omega)]; exact HQ2.out
  have HT : Hid (wa.heap[g]? = some (.cells o.ca 28 (0, 0))) := by show _ = _; rw [hwa, setRow_other _ _ _ _ (by have := HG.out; omega)]; exact HX.out
  have HW : Hid (Below w.heap.size w wa) := by show Below _ _ _; rw [hwa]; exact below_setRow HB2.out (Nat.le_refl _) _
  rw [← hwa]
  clear hwa HP2 HQ2 HB2 HX
  have x33 := row_cellH HR.out 33 (v := .bool o.user) (by simp [HV.ca, HV.cs])
  have x46 := row_cellH HR.out 46 (v := .int .u64 o.sip) (by simp [HV.ca, HV.cs])
  have fz := row_fz HR.out
  have HT2 : Hid (HOk (pu_sip o (sipV o v))) := ok_sip OO.out _ (bits_b _ _ _)
  go_wp2_with (first
    | ((with_reducible refine wpL_loadH (x := .tmp 3) w.heap.size ?_ (pu_sip o (sipV o v)) ?_ ?_); rfl; exact (row_set HR.out 46 _).trans (by rw [ca_sipV]))
    | (go_at_call 38; refine (r_Order _ HT2.out _).mono ?_; rintro e w3 ⟨rfl, hb⟩; have HB3 := hid hb; clear hb)
    | ((with_reducible refine wpL_storeH (x := .tmp 6) (y := .tmp 90) (w.heap.size + 1) ?_ (ordH (pu_sip o (sipV o v))) ?_ HV.zero.ca ?_ rfl ?_); rfl; rfl; exact (HB3.out.block _ (by have := lt_of_row HZ.out; simpa [World.setCell, World.setRow] using this)).trans ((Below.heap_setCell _ _ _ _ (by show w.heap.size + 1 ≠ w.heap.size; omega)).trans (HZ.out))))
  have HN : w3.heap[w.heap.size + 1]? = some (.cells HV.zero.ca 28 (0, 0)) := (HB3.out.block _ (by have := lt_of_row HZ.out; simpa [World.setCell, World.setRow] using this)).trans ((Below.heap_setCell _ _ _ _ (by show w.heap.size + 1 ≠ w.heap.size; omega)).trans (HZ.out))
  refine bodyPost_ret (ret_row2 Tryz.results23 (w.heap.size + 1) (ordH (pu_sip o (sipV o v))) true rfl rfl (heap_setRow _ _ _ _ _ HN)) rfl ⟨by rw [HO.out], ?_⟩
  have hs := HW.out.size
  refine below_setRow (bT ?_ HB3.out) (by omega) _
  exact (HW.out).setCell (p := ⟨w.heap.size, _, none⟩) (Nat.le_refl _) _
end Go.Proofs.YtooagjndelbegaaGreatDoor
namespace Go.Proofs.YtooagjndelbegaaGreatDoor
open Go.RowKit
set_option linter.unusedVariables false
set_option maxRecDepth 100000

set_option maxHeartbeats 1000000 in
theorem mw_user (h : HV) (ok : HOk h) (csr v : Int) (r : 0 ≤ v ∧ v < 18446744073709551616) (w : World) (hu : (ordH h).user = true) : Calls Tryz.prog 22 #[h.v, .int .i64 csr, .int .u64 v] w fun e w' => e = .returned (.tuple #[(ordH h).v, .bool false]) ∧ Below w.heap.size w w' := by
  have OK := hid ok
  clear ok
  go_enter Tryz.func22, Tryz.ntmps22
  go_upto_region 2 with (first
    | ((with_reducible refine wpList_new (z := .agg HV.zero.ca) HV.zero.ca ?_ ?_ ?_); rfl; exact z_hart)
    | ((with_reducible refine wpL_loadH (x := .tmp 3) w.heap.size ?_ h ?_ ?_); rfl; exact heap2 _ _ _)
    | (go_at_call 47; refine (m_inOrder h OK.out _).mono ?_; rintro e w1 ⟨rfl, hb⟩; have HB1 := hid hb; clear hb)
    | ((with_reducible refine wpL_storeH (x := .tmp 3) (y := .tmp 9) w.heap.size ?_ (ordH h) ?_ h.ca ?_ rfl ?_); rfl; rfl; exact (HB1.out.block _ (by simp; omega)).trans (heap2 _ _ _)))
  have HP : Hid (w1.heap[w.heap.size]? = some (.cells h.ca 28 (0, 0))) := (HB1.out.block _ (by simp; omega)).trans (heap2 _ _ _)
  have HQ : Hid (w1.heap[w.heap.size + 1]? = some (.cells HV.zero.ca 28 (0, 0))) := (HB1.out.block _ (by simp)).trans (heap2' _ _ _)
  have HB0 : Hid (Below w.heap.size w w1) := (below2 _ _).trans (HB1.out.mono (by simp; omega))
  obtain ⟨o, ho⟩ : ∃ o, o = ordH h := ⟨_, rfl⟩
  rw [← ho]
  have OO : Hid (HOk o) := by show HOk o; rw [ho]; exact ordOk OK.out
  rw [← ho] at hu
  have HO := hid ho
  clear ho
  obtain ⟨wa, hwa⟩ : ∃ wa, wa = w1.setRow w.heap.size o.ca := ⟨_, rfl⟩
  have HR : Hid (wa.heap[w.heap.size]? = some (.cells o.ca 28 (0, 0))) := by show _ = _; rw [hwa]; exact heap_setRow _ _ _ _ _ HP.out
  have HZ : Hid (wa.heap[w.heap.size + 1]? = some (.cells HV.zero.ca 28 (0, 0))) := by show _ = _; rw [hwa, setRow_other _ _ _ _ (by omega)]; exact HQ.out
  have HW : Hid (Below w.heap.size w wa) := by show Below _ _ _; rw [hwa]; exact below_setRow HB0.out (Nat.le_refl _) _
  rw [← hwa]
  clear hwa HP HQ HB0 HB1
  have x33 := row_cellH HR.out 33 (v := .bool o.user) (by simp [HV.ca, HV.cs])
  go_wp2_with (first
    | ((with_reducible refine wpL_loadH (x := .tmp 3) w.heap.size ?_ o ?_ ?_); rfl; exact HR.out)
    | ((with_reducible refine wpL_storeH (x := .tmp 6) (y := .tmp 12) (w.heap.size + 1) ?_ o ?_ HV.zero.ca ?_ rfl ?_); rfl; rfl; exact HZ.out))
  refine bodyPost_ret (ret_row2 Tryz.results22 (w.heap.size + 1) o false rfl rfl (heap_setRow _ _ _ _ _ HZ.out)) rfl ⟨by rw [HO.out], ?_⟩
  exact below_setRow HW.out (by omega) _
set_option maxHeartbeats 1000000 in
theorem mw_no (h : HV) (ok : HOk h) (csr v : Int) (r : 0 ≤ v ∧ v < 18446744073709551616) (w : World) (n1 : csr ≠ 256) (n260 : csr ≠ 260) (n261 : csr ≠ 261) (n320 : csr ≠ 320) (n321 : csr ≠ 321) (n322 : csr ≠ 322) (n323 : csr ≠ 323) (n324 : csr ≠ 324) (n384 : csr ≠ 384) (hu : (ordH h).user = false) : Calls Tryz.prog 22 #[h.v, .int .i64 csr, .int .u64 v] w fun e w' => e = .returned (.tuple #[(ordH h).v, .bool false]) ∧ Below w.heap.size w w' := by
  have OK := hid ok
  clear ok
  go_enter Tryz.func22, Tryz.ntmps22
  go_upto_region 2 with (first
    | ((with_reducible refine wpList_new (z := .agg HV.zero.ca) HV.zero.ca ?_ ?_ ?_); rfl; exact z_hart)
    | ((with_reducible refine wpL_loadH (x := .tmp 3) w.heap.size ?_ h ?_ ?_); rfl; exact heap2 _ _ _)
    | (go_at_call 47; refine (m_inOrder h OK.out _).mono ?_; rintro e w1 ⟨rfl, hb⟩; have HB1 := hid hb; clear hb)
    | ((with_reducible refine wpL_storeH (x := .tmp 3) (y := .tmp 9) w.heap.size ?_ (ordH h) ?_ h.ca ?_ rfl ?_); rfl; rfl; exact (HB1.out.block _ (by simp; omega)).trans (heap2 _ _ _)))
  have HP : Hid (w1.heap[w.heap.size]? = some (.cells h.ca 28 (0, 0))) := (HB1.out.block _ (by simp; omega)).trans (heap2 _ _ _)
  have HQ : Hid (w1.heap[w.heap.size + 1]? = some (.cells HV.zero.ca 28 (0, 0))) := (HB1.out.block _ (by simp)).trans (heap2' _ _ _)
  have HB0 : Hid (Below w.heap.size w w1) := (below2 _ _).trans (HB1.out.mono (by simp; omega))
  obtain ⟨o, ho⟩ : ∃ o, o = ordH h := ⟨_, rfl⟩
  rw [← ho]
  have OO : Hid (HOk o) := by show HOk o; rw [ho]; exact ordOk OK.out
  rw [← ho] at hu
  have HO := hid ho
  clear ho
  obtain ⟨wa, hwa⟩ : ∃ wa, wa = w1.setRow w.heap.size o.ca := ⟨_, rfl⟩
  have HR : Hid (wa.heap[w.heap.size]? = some (.cells o.ca 28 (0, 0))) := by show _ = _; rw [hwa]; exact heap_setRow _ _ _ _ _ HP.out
  have HZ : Hid (wa.heap[w.heap.size + 1]? = some (.cells HV.zero.ca 28 (0, 0))) := by show _ = _; rw [hwa, setRow_other _ _ _ _ (by omega)]; exact HQ.out
  have HW : Hid (Below w.heap.size w wa) := by show Below _ _ _; rw [hwa]; exact below_setRow HB0.out (Nat.le_refl _) _
  rw [← hwa]
  clear hwa HP HQ HB0 HB1
  have x33 := row_cellH HR.out 33 (v := .bool o.user) (by simp [HV.ca, HV.cs])
  go_wp2_with (first
    | ((with_reducible refine wpL_loadH (x := .tmp 3) w.heap.size ?_ o ?_ ?_); rfl; exact HR.out)
    | ((with_reducible refine wpL_storeH (x := .tmp 6) (y := .tmp 14) (w.heap.size + 1) ?_ o ?_ HV.zero.ca ?_ rfl ?_); rfl; rfl; exact HZ.out))
  refine bodyPost_ret (ret_row2 Tryz.results22 (w.heap.size + 1) o false rfl rfl (heap_setRow _ _ _ _ _ HZ.out)) rfl ⟨by rw [HO.out], ?_⟩
  exact below_setRow HW.out (by omega) _
set_option maxHeartbeats 1000000 in
theorem mw_sie (h : HV) (ok : HOk h) (csr v : Int) (r : 0 ≤ v ∧ v < 18446744073709551616) (w : World) (hc : csr = 260) (hu : (ordH h).user = false) : Calls Tryz.prog 22 #[h.v, .int .i64 csr, .int .u64 v] w fun e w' => e = .returned (.tuple #[(ordH (pu_sie (ordH h) v)).v, .bool true]) ∧ Below w.heap.size w w' := by
  have OK := hid ok
  clear ok
  go_enter Tryz.func22, Tryz.ntmps22
  go_upto_region 2 with (first
    | ((with_reducible refine wpList_new (z := .agg HV.zero.ca) HV.zero.ca ?_ ?_ ?_); rfl; exact z_hart)
    | ((with_reducible refine wpL_loadH (x := .tmp 3) w.heap.size ?_ h ?_ ?_); rfl; exact heap2 _ _ _)
    | (go_at_call 47; refine (m_inOrder h OK.out _).mono ?_; rintro e w1 ⟨rfl, hb⟩; have HB1 := hid hb; clear hb)
    | ((with_reducible refine wpL_storeH (x := .tmp 3) (y := .tmp 9) w.heap.size ?_ (ordH h) ?_ h.ca ?_ rfl ?_); rfl; rfl; exact (HB1.out.block _ (by simp; omega)).trans (heap2 _ _ _)))
  have HP : Hid (w1.heap[w.heap.size]? = some (.cells h.ca 28 (0, 0))) := (HB1.out.block _ (by simp; omega)).trans (heap2 _ _ _)
  have HQ : Hid (w1.heap[w.heap.size + 1]? = some (.cells HV.zero.ca 28 (0, 0))) := (HB1.out.block _ (by simp)).trans (heap2' _ _ _)
  have HB0 : Hid (Below w.heap.size w w1) := (below2 _ _).trans (HB1.out.mono (by simp; omega))
  obtain ⟨o, ho⟩ : ∃ o, o = ordH h := ⟨_, rfl⟩
  rw [← ho]
  have OO : Hid (HOk o) := by show HOk o; rw [ho]; exact ordOk OK.out
  rw [← ho] at hu
  have HO := hid ho
  clear ho
  obtain ⟨wa, hwa⟩ : ∃ wa, wa = w1.setRow w.heap.size o.ca := ⟨_, rfl⟩
  have HR : Hid (wa.heap[w.heap.size]? = some (.cells o.ca 28 (0, 0))) := by show _ = _; rw [hwa]; exact heap_setRow _ _ _ _ _ HP.out
  have HZ : Hid (wa.heap[w.heap.size + 1]? = some (.cells HV.zero.ca 28 (0, 0))) := by show _ = _; rw [hwa, setRow_other _ _ _ _ (by omega)]; exact HQ.out
  have HW : Hid (Below w.heap.size w wa) := by show Below _ _ _; rw [hwa]; exact below_setRow HB0.out (Nat.le_refl _) _
  rw [← hwa]
  clear hwa HP HQ HB0 HB1
  have x33 := row_cellH HR.out 33 (v := .bool o.user) (by simp [HV.ca, HV.cs])
  have x45 := row_cellH HR.out 45 (v := .int .u64 o.sie) (by simp [HV.ca, HV.cs])
  have fz := row_fz HR.out
  have HT2 : Hid (HOk (pu_sie o v)) := ok_sie OO.out _ r
  go_wp2_with (first
    | ((with_reducible refine wpL_loadH (x := .tmp 3) w.heap.size ?_ (pu_sie o v) ?_ ?_); rfl; exact (row_set HR.out 45 _).trans (by rw [ca_sie]))
    | (go_at_call 47; refine (m_inOrder _ HT2.out _).mono ?_; rintro e w3 ⟨rfl, hb⟩; have HB3 := hid hb; clear hb)
    | ((with_reducible refine wpL_storeH (x := .tmp 6) (y := .tmp 59) (w.heap.size + 1) ?_ (ordH (pu_sie o v)) ?_ HV.zero.ca ?_ rfl ?_); rfl; rfl; exact (HB3.out.block _ (by have := lt_of_row HZ.out; simpa [World.setCell, World.setRow] using this)).trans ((Below.heap_setCell _ _ _ _ (by show w.heap.size + 1 ≠ w.heap.size; omega)).trans (HZ.out))))
  have HN : w3.heap[w.heap.size + 1]? = some (.cells HV.zero.ca 28 (0, 0)) := (HB3.out.block _ (by have := lt_of_row HZ.out; simpa [World.setCell, World.setRow] using this)).trans ((Below.heap_setCell _ _ _ _ (by show w.heap.size + 1 ≠ w.heap.size; omega)).trans (HZ.out))
  refine bodyPost_ret (ret_row2 Tryz.results22 (w.heap.size + 1) (ordH (pu_sie o v)) true rfl rfl (heap_setRow _ _ _ _ _ HN)) rfl ⟨by rw [HO.out], ?_⟩
  have hs := HW.out.size
  refine below_setRow (bT ?_ HB3.out) (by omega) _
  exact (HW.out).setCell (p := ⟨w.heap.size, _, none⟩) (Nat.le_refl _) _
set_option maxHeartbeats 1000000 in
theorem mw_stvec (h : HV) (ok : HOk h) (csr v : Int) (r : 0 ≤ v ∧ v < 18446744073709551616) (w : World) (hc : csr = 261) (hu : (ordH h).user = false) : Calls Tryz.prog 22 #[h.v, .int .i64 csr, .int .u64 v] w fun e w' => e = .returned (.tuple #[(ordH (pu_stvec (ordH h) v)).v, .bool true]) ∧ Below w.heap.size w w' := by
  have OK := hid ok
  clear ok
  go_enter Tryz.func22, Tryz.ntmps22
  go_upto_region 2 with (first
    | ((with_reducible refine wpList_new (z := .agg HV.zero.ca) HV.zero.ca ?_ ?_ ?_); rfl; exact z_hart)
    | ((with_reducible refine wpL_loadH (x := .tmp 3) w.heap.size ?_ h ?_ ?_); rfl; exact heap2 _ _ _)
    | (go_at_call 47; refine (m_inOrder h OK.out _).mono ?_; rintro e w1 ⟨rfl, hb⟩; have HB1 := hid hb; clear hb)
    | ((with_reducible refine wpL_storeH (x := .tmp 3) (y := .tmp 9) w.heap.size ?_ (ordH h) ?_ h.ca ?_ rfl ?_); rfl; rfl; exact (HB1.out.block _ (by simp; omega)).trans (heap2 _ _ _)))
  have HP : Hid (w1.heap[w.heap.size]? = some (.cells h.ca 28 (0, 0))) := (HB1.out.block _ (by simp; omega)).trans (heap2 _ _ _)
  have HQ : Hid (w1.heap[w.heap.size + 1]? = some (.cells HV.zero.ca 28 (0, 0))) := (HB1.out.block _ (by simp)).trans (heap2' _ _ _)
  have HB0 : Hid (Below w.heap.size w w1) := (below2 _ _).trans (HB1.out.mono (by simp; omega))
  obtain ⟨o, ho⟩ : ∃ o, o = ordH h := ⟨_, rfl⟩
  rw [← ho]
  have OO : Hid (HOk o) := by show HOk o; rw [ho]; exact ordOk OK.out
  rw [← ho] at hu
  have HO := hid ho
  clear ho
  obtain ⟨wa, hwa⟩ : ∃ wa, wa = w1.setRow w.heap.size o.ca := ⟨_, rfl⟩
  have HR : Hid (wa.heap[w.heap.size]? = some (.cells o.ca 28 (0, 0))) := by show _ = _; rw [hwa]; exact heap_setRow _ _ _ _ _ HP.out
  have HZ : Hid (wa.heap[w.heap.size + 1]? = some (.cells HV.zero.ca 28 (0, 0))) := by show _ = _; rw [hwa, setRow_other _ _ _ _ (by omega)]; exact HQ.out
  have HW : Hid (Below w.heap.size w wa) := by show Below _ _ _; rw [hwa]; exact below_setRow HB0.out (Nat.le_refl _) _
  rw [← hwa]
  clear hwa HP HQ HB0 HB1
  have x33 := row_cellH HR.out 33 (v := .bool o.user) (by simp [HV.ca, HV.cs])
  have x40 := row_cellH HR.out 40 (v := .int .u64 o.stvec) (by simp [HV.ca, HV.cs])
  have fz := row_fz HR.out
  have HT2 : Hid (HOk (pu_stvec o v)) := ok_stvec OO.out _ r
  go_wp2_with (first
    | ((with_reducible refine wpL_loadH (x := .tmp 3) w.heap.size ?_ (pu_stvec o v) ?_ ?_); rfl; exact (row_set HR.out 40 _).trans (by rw [ca_stvec]))
    | (go_at_call 47; refine (m_inOrder _ HT2.out _).mono ?_; rintro e w3 ⟨rfl, hb⟩; have HB3 := hid hb; clear hb)
    | ((with_reducible refine wpL_storeH (x := .tmp 6) (y := .tmp 59) (w.heap.size + 1) ?_ (ordH (pu_stvec o v)) ?_ HV.zero.ca ?_ rfl ?_); rfl; rfl; exact (HB3.out.block _ (by have := lt_of_row HZ.out; simpa [World.setCell, World.setRow] using this)).trans ((Below.heap_setCell _ _ _ _ (by show w.heap.size + 1 ≠ w.heap.size; omega)).trans (HZ.out))))
  have HN : w3.heap[w.heap.size + 1]? = some (.cells HV.zero.ca 28 (0, 0)) := (HB3.out.block _ (by have := lt_of_row HZ.out; simpa [World.setCell, World.setRow] using this)).trans ((Below.heap_setCell _ _ _ _ (by show w.heap.size + 1 ≠ w.heap.size; omega)).trans (HZ.out))
  refine bodyPost_ret (ret_row2 Tryz.results22 (w.heap.size + 1) (ordH (pu_stvec o v)) true rfl rfl (heap_setRow _ _ _ _ _ HN)) rfl ⟨by rw [HO.out], ?_⟩
  have hs := HW.out.size
  refine below_setRow (bT ?_ HB3.out) (by omega) _
  exact (HW.out).setCell (p := ⟨w.heap.size, _, none⟩) (Nat.le_refl _) _
set_option maxHeartbeats 1000000 in
theorem mw_sscr (h : HV) (ok : HOk h) (csr v : Int) (r : 0 ≤ v ∧ v < 18446744073709551616) (w : World) (hc : csr = 320) (hu : (ordH h).user = false) : Calls Tryz.prog 22 #[h.v, .int .i64 csr, .int .u64 v] w fun e w' => e = .returned (.tuple #[(ordH (pu_sscr (ordH h) v)).v, .bool true]) ∧ Below w.heap.size w w' := by
  have OK := hid ok
  clear ok
  go_enter Tryz.func22, Tryz.ntmps22
  go_upto_region 2 with (first
    | ((with_reducible refine wpList_new (z := .agg HV.zero.ca) HV.zero.ca ?_ ?_ ?_); rfl; exact z_hart)
    | ((with_reducible refine wpL_loadH (x := .tmp 3) w.heap.size ?_ h ?_ ?_); rfl; exact heap2 _ _ _)
    | (go_at_call 47; refine (m_inOrder h OK.out _).mono ?_; rintro e w1 ⟨rfl, hb⟩; have HB1 := hid hb; clear hb)
    | ((with_reducible refine wpL_storeH (x := .tmp 3) (y := .tmp 9) w.heap.size ?_ (ordH h) ?_ h.ca ?_ rfl ?_); rfl; rfl; exact (HB1.out.block _ (by simp; omega)).trans (heap2 _ _ _)))
  have HP : Hid (w1.heap[w.heap.size]? = some (.cells h.ca 28 (0, 0))) := (HB1.out.block _ (by simp; omega)).trans (heap2 _ _ _)
  have HQ : Hid (w1.heap[w.heap.size + 1]? = some (.cells HV.zero.ca 28 (0, 0))) := (HB1.out.block _ (by simp)).trans (heap2' _ _ _)
  have HB0 : Hid (Below w.heap.size w w1) := (below2 _ _).trans (HB1.out.mono (by simp; omega))
  obtain ⟨o, ho⟩ : ∃ o, o = ordH h := ⟨_, rfl⟩
  rw [← ho]
  have OO : Hid (HOk o) := by show HOk o; rw [ho]; exact ordOk OK.out
  rw [← ho] at hu
  have HO := hid ho
  clear ho
  obtain ⟨wa, hwa⟩ : ∃ wa, wa = w1.setRow w.heap.size o.ca := ⟨_, rfl⟩
  have HR : Hid (wa.heap[w.heap.size]? = some (.cells o.ca 28 (0, 0))) := by show _ = _; rw [hwa]; exact heap_setRow _ _ _ _ _ HP.out
  have HZ : Hid (wa.heap[w.heap.size + 1]? = some (.cells HV.zero.ca 28 (0, 0))) := by show _ = _; rw [hwa, setRow_other _ _ _ _ (by omega)]; exact HQ.out
  have HW : Hid (Below w.heap.size w wa) := by show Below _ _ _; rw [hwa]; exact below_setRow HB0.out (Nat.le_refl _) _
  rw [← hwa]
  clear hwa HP HQ HB0 HB1
  have x33 := row_cellH HR.out 33 (v := .bool o.user) (by simp [HV.ca, HV.cs])
  have x41 := row_cellH HR.out 41 (v := .int .u64 o.sscr) (by simp [HV.ca, HV.cs])
  have fz := row_fz HR.out
  have HT2 : Hid (HOk (pu_sscr o v)) := ok_sscr OO.out _ r
  go_wp2_with (first
    | ((with_reducible refine wpL_loadH (x := .tmp 3) w.heap.size ?_ (pu_sscr o v) ?_ ?_); rfl; exact (row_set HR.out 41 _).trans (by rw [ca_sscr]))
    | (go_at_call 47; refine (m_inOrder _ HT2.out _).mono ?_; rintro e w3 ⟨rfl, hb⟩; have HB3 := hid hb; clear hb)
    | ((with_reducible refine wpL_storeH (x := .tmp 6) (y := .tmp 59) (w.heap.size + 1) ?_ (ordH (pu_sscr o v)) ?_ HV.zero.ca ?_ rfl ?_); rfl; rfl; exact (HB3.out.block _ (by have := lt_of_row HZ.out; simpa [World.setCell, World.setRow] using this)).trans ((Below.heap_setCell _ _ _ _ (by show w.heap.size + 1 ≠ w.heap.size; omega)).trans (HZ.out))))
  have HN : w3.heap[w.heap.size + 1]? = some (.cells HV.zero.ca 28 (0, 0)) := (HB3.out.block _ (by have := lt_of_row HZ.out; simpa [World.setCell, World.setRow] using this)).trans ((Below.heap_setCell _ _ _ _ (by show w.heap.size + 1 ≠ w.heap.size; omega)).trans (HZ.out))
  refine bodyPost_ret (ret_row2 Tryz.results22 (w.heap.size + 1) (ordH (pu_sscr o v)) true rfl rfl (heap_setRow _ _ _ _ _ HN)) rfl ⟨by rw [HO.out], ?_⟩
  have hs := HW.out.size
  refine below_setRow (bT ?_ HB3.out) (by omega) _
  exact (HW.out).setCell (p := ⟨w.heap.size, _, none⟩) (Nat.le_refl _) _
set_option maxHeartbeats 1000000 in
theorem mw_sepc (h : HV) (ok : HOk h) (csr v : Int) (r : 0 ≤ v ∧ v < 18446744073709551616) (w : World) (hc : csr = 321) (hu : (ordH h).user = false) : Calls Tryz.prog 22 #[h.v, .int .i64 csr, .int .u64 v] w fun e w' => e = .returned (.tuple #[(ordH (pu_sepc (ordH h) v)).v, .bool true]) ∧ Below w.heap.size w w' := by
  have OK := hid ok
  clear ok
  go_enter Tryz.func22, Tryz.ntmps22
  go_upto_region 2 with (first
    | ((with_reducible refine wpList_new (z := .agg HV.zero.ca) HV.zero.ca ?_ ?_ ?_); rfl; exact z_hart)
    | ((with_reducible refine wpL_loadH (x := .tmp 3) w.heap.size ?_ h ?_ ?_); rfl; exact heap2 _ _ _)
    | (go_at_call 47; refine (m_inOrder h OK.out _).mono ?_; rintro e w1 ⟨rfl, hb⟩; have HB1 := hid hb; clear hb)
    | ((with_reducible refine wpL_storeH (x := .tmp 3) (y := .tmp 9) w.heap.size ?_ (ordH h) ?_ h.ca ?_ rfl ?_); rfl; rfl; exact (HB1.out.block _ (by simp; omega)).trans (heap2 _ _ _)))
  have HP : Hid (w1.heap[w.heap.size]? = some (.cells h.ca 28 (0, 0))) := (HB1.out.block _ (by simp; omega)).trans (heap2 _ _ _)
  have HQ : Hid (w1.heap[w.heap.size + 1]? = some (.cells HV.zero.ca 28 (0, 0))) := (HB1.out.block _ (by simp)).trans (heap2' _ _ _)
  have HB0 : Hid (Below w.heap.size w w1) := (below2 _ _).trans (HB1.out.mono (by simp; omega))
  obtain ⟨o, ho⟩ : ∃ o, o = ordH h := ⟨_, rfl⟩
  rw [← ho]
  have OO : Hid (HOk o) := by show HOk o; rw [ho]; exact ordOk OK.out
  rw [← ho] at hu
  have HO := hid ho
  clear ho
  obtain ⟨wa, hwa⟩ : ∃ wa, wa = w1.setRow w.heap.size o.ca := ⟨_, rfl⟩
  have HR : Hid (wa.heap[w.heap.size]? = some (.cells o.ca 28 (0, 0))) := by show _ = _; rw [hwa]; exact heap_setRow _ _ _ _ _ HP.out
  have HZ : Hid (wa.heap[w.heap.size + 1]? = some (.cells HV.zero.ca 28 (0, 0))) := by show _ = _; rw [hwa, setRow_other _ _ _ _ (by omega)]; exact HQ.out
  have HW : Hid (Below w.heap.size w wa) := by show Below _ _ _; rw [hwa]; exact below_setRow HB0.out (Nat.le_refl _) _
  rw [← hwa]
  clear hwa HP HQ HB0 HB1
  have x33 := row_cellH HR.out 33 (v := .bool o.user) (by simp [HV.ca, HV.cs])
  have x42 := row_cellH HR.out 42 (v := .int .u64 o.sepc) (by simp [HV.ca, HV.cs])
  have fz := row_fz HR.out
  have HT2 : Hid (HOk (pu_sepc o v)) := ok_sepc OO.out _ r
  go_wp2_with (first
    | ((with_reducible refine wpL_loadH (x := .tmp 3) w.heap.size ?_ (pu_sepc o v) ?_ ?_); rfl; exact (row_set HR.out 42 _).trans (by rw [ca_sepc]))
    | (go_at_call 47; refine (m_inOrder _ HT2.out _).mono ?_; rintro e w3 ⟨rfl, hb⟩; have HB3 := hid hb; clear hb)
    | ((with_reducible refine wpL_storeH (x := .tmp 6) (y := .tmp 59) (w.heap.size + 1) ?_ (ordH (pu_sepc o v)) ?_ HV.zero.ca ?_ rfl ?_); rfl; rfl; exact (HB3.out.block _ (by have := lt_of_row HZ.out; simpa [World.setCell, World.setRow] using this)).trans ((Below.heap_setCell _ _ _ _ (by show w.heap.size + 1 ≠ w.heap.size; omega)).trans (HZ.out))))
  have HN : w3.heap[w.heap.size + 1]? = some (.cells HV.zero.ca 28 (0, 0)) := (HB3.out.block _ (by have := lt_of_row HZ.out; simpa [World.setCell, World.setRow] using this)).trans ((Below.heap_setCell _ _ _ _ (by show w.heap.size + 1 ≠ w.heap.size; omega)).trans (HZ.out))
  refine bodyPost_ret (ret_row2 Tryz.results22 (w.heap.size + 1) (ordH (pu_sepc o v)) true rfl rfl (heap_setRow _ _ _ _ _ HN)) rfl ⟨by rw [HO.out], ?_⟩
  have hs := HW.out.size
  refine below_setRow (bT ?_ HB3.out) (by omega) _
  exact (HW.out).setCell (p := ⟨w.heap.size, _, none⟩) (Nat.le_refl _) _
set_option maxHeartbeats 1000000 in
theorem mw_scause (h : HV) (ok : HOk h) (csr v : Int) (r : 0 ≤ v ∧ v < 18446744073709551616) (w : World) (hc : csr = 322) (hu : (ordH h).user = false) : Calls Tryz.prog 22 #[h.v, .int .i64 csr, .int .u64 v] w fun e w' => e = .returned (.tuple #[(ordH (pu_scause (ordH h) v)).v, .bool true]) ∧ Below w.heap.size w w' := by
  have OK := hid ok
  clear ok
  go_enter Tryz.func22, Tryz.ntmps22
  go_upto_region 2 with (first
    | ((with_reducible refine wpList_new (z := .agg HV.zero.ca) HV.zero.ca ?_ ?_ ?_); rfl; exact z_hart)
    | ((with_reducible refine wpL_loadH (x := .tmp 3) w.heap.size ?_ h ?_ ?_); rfl; exact heap2 _ _ _)
    | (go_at_call 47; refine (m_inOrder h OK.out _).mono ?_; rintro e w1 ⟨rfl, hb⟩; have HB1 := hid hb; clear hb)
    | ((with_reducible refine wpL_storeH (x := .tmp 3) (y := .tmp 9) w.heap.size ?_ (ordH h) ?_ h.ca ?_ rfl ?_); rfl; rfl; exact (HB1.out.block _ (by simp; omega)).trans (heap2 _ _ _)))
  have HP : Hid (w1.heap[w.heap.size]? = some (.cells h.ca 28 (0, 0))) := (HB1.out.block _ (by simp; omega)).trans (heap2 _ _ _)
  have HQ : Hid (w1.heap[w.heap.size + 1]? = some (.cells HV.zero.ca 28 (0, 0))) := (HB1.out.block _ (by simp)).trans (heap2' _ _ _)
  have HB0 : Hid (Below w.heap.size w w1) := (below2 _ _).trans (HB1.out.mono (by simp; omega))
  obtain ⟨o, ho⟩ : ∃ o, o = ordH h := ⟨_, rfl⟩
  rw [← ho]
  have OO : Hid (HOk o) := by show HOk o; rw [ho]; exact ordOk OK.out
  rw [← ho] at hu
  have HO := hid ho
  clear ho
  obtain ⟨wa, hwa⟩ : ∃ wa, wa = w1.setRow w.heap.size o.ca := ⟨_, rfl⟩
  have HR : Hid (wa.heap[w.heap.size]? = some (.cells o.ca 28 (0, 0))) := by show _ = _; rw [hwa]; exact heap_setRow _ _ _ _ _ HP.out
  have HZ : Hid (wa.heap[w.heap.size + 1]? = some (.cells HV.zero.ca 28 (0, 0))) := by show _ = _; rw [hwa, setRow_other _ _ _ _ (by omega)]; exact HQ.out
  have HW : Hid (Below w.heap.size w wa) := by show Below _ _ _; rw [hwa]; exact below_setRow HB0.out (Nat.le_refl _) _
  rw [← hwa]
  clear hwa HP HQ HB0 HB1
  have x33 := row_cellH HR.out 33 (v := .bool o.user) (by simp [HV.ca, HV.cs])
  have x43 := row_cellH HR.out 43 (v := .int .u64 o.scause) (by simp [HV.ca, HV.cs])
  have fz := row_fz HR.out
  have HT2 : Hid (HOk (pu_scause o v)) := ok_scause OO.out _ r
  go_wp2_with (first
    | ((with_reducible refine wpL_loadH (x := .tmp 3) w.heap.size ?_ (pu_scause o v) ?_ ?_); rfl; exact (row_set HR.out 43 _).trans (by rw [ca_scause]))
    | (go_at_call 47; refine (m_inOrder _ HT2.out _).mono ?_; rintro e w3 ⟨rfl, hb⟩; have HB3 := hid hb; clear hb)
    | ((with_reducible refine wpL_storeH (x := .tmp 6) (y := .tmp 59) (w.heap.size + 1) ?_ (ordH (pu_scause o v)) ?_ HV.zero.ca ?_ rfl ?_); rfl; rfl; exact (HB3.out.block _ (by have := lt_of_row HZ.out; simpa [World.setCell, World.setRow] using this)).trans ((Below.heap_setCell _ _ _ _ (by show w.heap.size + 1 ≠ w.heap.size; omega)).trans (HZ.out))))
  have HN : w3.heap[w.heap.size + 1]? = some (.cells HV.zero.ca 28 (0, 0)) := (HB3.out.block _ (by have := lt_of_row HZ.out; simpa [World.setCell, World.setRow] using this)).trans ((Below.heap_setCell _ _ _ _ (by show w.heap.size + 1 ≠ w.heap.size; omega)).trans (HZ.out))
  refine bodyPost_ret (ret_row2 Tryz.results22 (w.heap.size + 1) (ordH (pu_scause o v)) true rfl rfl (heap_setRow _ _ _ _ _ HN)) rfl ⟨by rw [HO.out], ?_⟩
  have hs := HW.out.size
  refine below_setRow (bT ?_ HB3.out) (by omega) _
  exact (HW.out).setCell (p := ⟨w.heap.size, _, none⟩) (Nat.le_refl _) _
set_option maxHeartbeats 1000000 in
theorem mw_stval (h : HV) (ok : HOk h) (csr v : Int) (r : 0 ≤ v ∧ v < 18446744073709551616) (w : World) (hc : csr = 323) (hu : (ordH h).user = false) : Calls Tryz.prog 22 #[h.v, .int .i64 csr, .int .u64 v] w fun e w' => e = .returned (.tuple #[(ordH (pu_stval (ordH h) v)).v, .bool true]) ∧ Below w.heap.size w w' := by
  have OK := hid ok
  clear ok
  go_enter Tryz.func22, Tryz.ntmps22
  go_upto_region 2 with (first
    | ((with_reducible refine wpList_new (z := .agg HV.zero.ca) HV.zero.ca ?_ ?_ ?_); rfl; exact z_hart)
    | ((with_reducible refine wpL_loadH (x := .tmp 3) w.heap.size ?_ h ?_ ?_); rfl; exact heap2 _ _ _)
    | (go_at_call 47; refine (m_inOrder h OK.out _).mono ?_; rintro e w1 ⟨rfl, hb⟩; have HB1 := hid hb; clear hb)
    | ((with_reducible refine wpL_storeH (x := .tmp 3) (y := .tmp 9) w.heap.size ?_ (ordH h) ?_ h.ca ?_ rfl ?_); rfl; rfl; exact (HB1.out.block _ (by simp; omega)).trans (heap2 _ _ _)))
  have HP : Hid (w1.heap[w.heap.size]? = some (.cells h.ca 28 (0, 0))) := (HB1.out.block _ (by simp; omega)).trans (heap2 _ _ _)
  have HQ : Hid (w1.heap[w.heap.size + 1]? = some (.cells HV.zero.ca 28 (0, 0))) := (HB1.out.block _ (by simp)).trans (heap2' _ _ _)
  have HB0 : Hid (Below w.heap.size w w1) := (below2 _ _).trans (HB1.out.mono (by simp; omega))
  obtain ⟨o, ho⟩ : ∃ o, o = ordH h := ⟨_, rfl⟩
  rw [← ho]
  have OO : Hid (HOk o) := by show HOk o; rw [ho]; exact ordOk OK.out
  rw [← ho] at hu
  have HO := hid ho
  clear ho
  obtain ⟨wa, hwa⟩ : ∃ wa, wa = w1.setRow w.heap.size o.ca := ⟨_, rfl⟩
  have HR : Hid (wa.heap[w.heap.size]? = some (.cells o.ca 28 (0, 0))) := by show _ = _; rw [hwa]; exact heap_setRow _ _ _ _ _ HP.out
  have HZ : Hid (wa.heap[w.heap.size + 1]? = some (.cells HV.zero.ca 28 (0, 0))) := by show _ = _; rw [hwa, setRow_other _ _ _ _ (by omega)]; exact HQ.out
  have HW : Hid (Below w.heap.size w wa) := by show Below _ _ _; rw [hwa]; exact below_setRow HB0.out (Nat.le_refl _) _
  rw [← hwa]
  clear hwa HP HQ HB0 HB1
  have x33 := row_cellH HR.out 33 (v := .bool o.user) (by simp [HV.ca, HV.cs])
  have x44 := row_cellH HR.out 44 (v := .int .u64 o.stval) (by simp [HV.ca, HV.cs])
  have fz := row_fz HR.out
  have HT2 : Hid (HOk (pu_stval o v)) := ok_stval OO.out _ r
  go_wp2_with (first
    | ((with_reducible refine wpL_loadH (x := .tmp 3) w.heap.size ?_ (pu_stval o v) ?_ ?_); rfl; exact (row_set HR.out 44 _).trans (by rw [ca_stval]))
    | (go_at_call 47; refine (m_inOrder _ HT2.out _).mono ?_; rintro e w3 ⟨rfl, hb⟩; have HB3 := hid hb; clear hb)
    | ((with_reducible refine wpL_storeH (x := .tmp 6) (y := .tmp 59) (w.heap.size + 1) ?_ (ordH (pu_stval o v)) ?_ HV.zero.ca ?_ rfl ?_); rfl; rfl; exact (HB3.out.block _ (by have := lt_of_row HZ.out; simpa [World.setCell, World.setRow] using this)).trans ((Below.heap_setCell _ _ _ _ (by show w.heap.size + 1 ≠ w.heap.size; omega)).trans (HZ.out))))
  have HN : w3.heap[w.heap.size + 1]? = some (.cells HV.zero.ca 28 (0, 0)) := (HB3.out.block _ (by have := lt_of_row HZ.out; simpa [World.setCell, World.setRow] using this)).trans ((Below.heap_setCell _ _ _ _ (by show w.heap.size + 1 ≠ w.heap.size; omega)).trans (HZ.out))
  refine bodyPost_ret (ret_row2 Tryz.results22 (w.heap.size + 1) (ordH (pu_stval o v)) true rfl rfl (heap_setRow _ _ _ _ _ HN)) rfl ⟨by rw [HO.out], ?_⟩
  have hs := HW.out.size
  refine below_setRow (bT ?_ HB3.out) (by omega) _
  exact (HW.out).setCell (p := ⟨w.heap.size, _, none⟩) (Nat.le_refl _) _
set_option maxHeartbeats 1000000 in
theorem mw_sip (h : HV) (ok : HOk h) (csr v : Int) (r : 0 ≤ v ∧ v < 18446744073709551616) (w : World) (hc : csr = 324) (hu : (ordH h).user = false) : Calls Tryz.prog 22 #[h.v, .int .i64 csr, .int .u64 v] w fun e w' => e = .returned (.tuple #[(ordH (pu_sip (ordH h) (sipV (ordH h) v))).v, .bool true]) ∧ Below w.heap.size w w' := by
  have OK := hid ok
  clear ok
  go_enter Tryz.func22, Tryz.ntmps22
  go_upto_region 2 with (first
    | ((with_reducible refine wpList_new (z := .agg HV.zero.ca) HV.zero.ca ?_ ?_ ?_); rfl; exact z_hart)
    | ((with_reducible refine wpL_loadH (x := .tmp 3) w.heap.size ?_ h ?_ ?_); rfl; exact heap2 _ _ _)
    | (go_at_call 47; refine (m_inOrder h OK.out _).mono ?_; rintro e w1 ⟨rfl, hb⟩; have HB1 := hid hb; clear hb)
    | ((with_reducible refine wpL_storeH (x := .tmp 3) (y := .tmp 9) w.heap.size ?_ (ordH h) ?_ h.ca ?_ rfl ?_); rfl; rfl; exact (HB1.out.block _ (by simp; omega)).trans (heap2 _ _ _)))
  have HP : Hid (w1.heap[w.heap.size]? = some (.cells h.ca 28 (0, 0))) := (HB1.out.block _ (by simp; omega)).trans (heap2 _ _ _)
  have HQ : Hid (w1.heap[w.heap.size + 1]? = some (.cells HV.zero.ca 28 (0, 0))) := (HB1.out.block _ (by simp)).trans (heap2' _ _ _)
  have HB0 : Hid (Below w.heap.size w w1) := (below2 _ _).trans (HB1.out.mono (by simp; omega))
  obtain ⟨o, ho⟩ : ∃ o, o = ordH h := ⟨_, rfl⟩
  rw [← ho]
  have OO : Hid (HOk o) := by show HOk o; rw [ho]; exact ordOk OK.out
  rw [← ho] at hu
  have HO := hid ho
  clear ho
  obtain ⟨wa, hwa⟩ : ∃ wa, wa = w1.setRow w.heap.size o.ca := ⟨_, rfl⟩
  have HR : Hid (wa.heap[w.heap.size]? = some (.cells o.ca 28 (0, 0))) := by show _ = _; rw [hwa]; exact heap_setRow _ _ _ _ _ HP.out
  have HZ : Hid (wa.heap[w.heap.size + 1]? = some (.cells HV.zero.ca 28 (0, 0))) := by show _ = _; rw [hwa, setRow_other _ _ _ _ (by omega)]; exact HQ.out
  have HW : Hid (Below w.heap.size w wa) := by show Below _ _ _; rw [hwa]; exact below_setRow HB0.out (Nat.le_refl _) _
  rw [← hwa]
  clear hwa HP HQ HB0 HB1
  have x33 := row_cellH HR.out 33 (v := .bool o.user) (by simp [HV.ca, HV.cs])
  have x46 := row_cellH HR.out 46 (v := .int .u64 o.sip) (by simp [HV.ca, HV.cs])
  have fz := row_fz HR.out
  have HT2 : Hid (HOk (pu_sip o (sipV o v))) := ok_sip OO.out _ (bits_b _ _ _)
  go_wp2_with (first
    | ((with_reducible refine wpL_loadH (x := .tmp 3) w.heap.size ?_ (pu_sip o (sipV o v)) ?_ ?_); rfl; exact (row_set HR.out 46 _).trans (by rw [ca_sipV]))
    | (go_at_call 47; refine (m_inOrder _ HT2.out _).mono ?_; rintro e w3 ⟨rfl, hb⟩; have HB3 := hid hb; clear hb)
    | ((with_reducible refine wpL_storeH (x := .tmp 6) (y := .tmp 59) (w.heap.size + 1) ?_ (ordH (pu_sip o (sipV o v))) ?_ HV.zero.ca ?_ rfl ?_); rfl; rfl; exact (HB3.out.block _ (by have := lt_of_row HZ.out; simpa [World.setCell, World.setRow] using this)).trans ((Below.heap_setCell _ _ _ _ (by show w.heap.size + 1 ≠ w.heap.size; omega)).trans (HZ.out))))
  have HN : w3.heap[w.heap.size + 1]? = some (.cells HV.zero.ca 28 (0, 0)) := (HB3.out.block _ (by have := lt_of_row HZ.out; simpa [World.setCell, World.setRow] using this)).trans ((Below.heap_setCell _ _ _ _ (by show w.heap.size + 1 ≠ w.heap.size; omega)).trans (HZ.out))
  refine bodyPost_ret (ret_row2 Tryz.results22 (w.heap.size + 1) (ordH (pu_sip o (sipV o v))) true rfl rfl (heap_setRow _ _ _ _ _ HN)) rfl ⟨by rw [HO.out], ?_⟩
  have hs := HW.out.size
  refine below_setRow (bT ?_ HB3.out) (by omega) _
  exact (HW.out).setCell (p := ⟨w.heap.size, _, none⟩) (Nat.le_refl _) _
end Go.Proofs.YtooagjndelbegaaGreatDoor
namespace Go.Proofs.YtooagjndelbegaaGreatDoor
open Go.RowKit
set_option linter.unusedVariables false
set_option maxRecDepth 100000

theorem qs_1 (v : Int) : (v / 2 % 2 == 1) = bt v 1 := by
  unfold bt
  simp only [show (2 : Int) ^ 1 = 2 by decide]
  rfl
theorem qs_5 (v : Int) : (v / 32 % 2 == 1) = bt v 5 := by
  unfold bt
  simp only [show (2 : Int) ^ 5 = 32 by decide]
  rfl
theorem qs_8 (v : Int) : (v / 256 % 2 == 1) = bt v 8 := by
  unfold bt
  simp only [show (2 : Int) ^ 8 = 256 by decide]
  rfl
theorem qs_18 (v : Int) : (v / 262144 % 2 == 1) = bt v 18 := by
  unfold bt
  simp only [show (2 : Int) ^ 18 = 262144 by decide]
  rfl
theorem qs_19 (v : Int) : (v / 524288 % 2 == 1) = bt v 19 := by
  unfold bt
  simp only [show (2 : Int) ^ 19 = 524288 by decide]
  rfl
set_option maxHeartbeats 1000000 in
theorem rw_st (h : HV) (ok : HOk h) (csr v : Int) (r : 0 ≤ v ∧ v < 18446744073709551616) (w : World) (hc : csr = 256) (hu : (ordH h).user = false) : Calls Tryz.prog 23 #[h.v, .int .i64 csr, .int .u64 v] w fun e w' => e = .returned (.tuple #[(ordH (stO (ordH h) v)).v, .bool true]) ∧ Below w.heap.size w w' := by
  have OK := hid ok
  clear ok
  go_enter Tryz.func23, Tryz.ntmps23
  go_upto_region 2 with (first
    | ((with_reducible refine wpList_new (z := .agg HV.zero.ca) HV.zero.ca ?_ ?_ ?_); rfl; exact z_hart)
    | ((with_reducible refine wpL_loadH (x := .tmp 3) w.heap.size ?_ h ?_ ?_); rfl; exact heap2 _ _ _)
    | (go_at_call 38; refine (r_Order h OK.out _).mono ?_; rintro e w1 ⟨rfl, hb⟩; have HB1 := hid hb; clear hb)
    | ((with_reducible refine wpL_storeH (x := .tmp 8) (y := .tmp 10) w1.heap.size ?_ (ordH h) ?_ HV.zero.ca ?_ rfl ?_); rfl; rfl; exact heap_alloc_new _ _))
  have hz1 : w.heap.size + 2 ≤ w1.heap.size := by have := HB1.out.size; simpa using this
  have HP : Hid (w1.heap[w.heap.size]? = some (.cells h.ca 28 (0, 0))) := (HB1.out.block _ (by simp; omega)).trans (heap2 _ _ _)
  have HQ : Hid (w1.heap[w.heap.size + 1]? = some (.cells HV.zero.ca 28 (0, 0))) := (HB1.out.block _ (by simp)).trans (heap2' _ _ _)
  have HB0 : Hid (Below w.heap.size w w1) := (below2 _ _).trans (HB1.out.mono (by simp; omega))
  obtain ⟨o, ho⟩ : ∃ o, o = ordH h := ⟨_, rfl⟩
  rw [← ho]
  have OO : Hid (HOk o) := by show HOk o; rw [ho]; exact ordOk OK.out
  rw [← ho] at hu
  have HO := hid ho
  clear ho
  obtain ⟨g, hg⟩ : ∃ g, g = w1.heap.size := ⟨_, rfl⟩
  obtain ⟨wb, hwb⟩ : ∃ wb, wb = (w1.alloc (.cells HV.zero.ca 28)).setRow g o.ca := ⟨_, rfl⟩
  have HX : Hid (wb.heap[g]? = some (.cells o.ca 28 (0, 0))) := by show _ = _; rw [hwb, hg]; exact heap_setRow _ _ _ _ _ (heap_alloc_new _ _)
  have HP2 : Hid (wb.heap[w.heap.size]? = some (.cells h.ca 28 (0, 0))) := by show _ = _; rw [hwb, setRow_other _ _ _ _ (by omega), heap_alloc_old _ _ (by omega)]; exact HP.out
  have HQ2 : Hid (wb.heap[w.heap.size + 1]? = some (.cells HV.zero.ca 28 (0, 0))) := by show _ = _; rw [hwb, setRow_other _ _ _ _ (by omega), heap_alloc_old _ _ (by omega)]; exact HQ.out
  have HB2 : Hid (Below w.heap.size w wb) := by show Below _ _ _; rw [hwb]; exact below_setRow (HB0.out.alloc (by omega) _) (by omega) _
  rw [← hg, ← hwb]
  have hgs : w.heap.size + 2 ≤ g := by omega
  have HG := hid hgs
  clear hwb hg hz1 HP HQ HB0 HB1 hgs
  go_upto_region 3 with (first
    | ((with_reducible refine wpL_loadH (x := .tmp 8) g ?_ o ?_ ?_); rfl; exact HX.out)
    | ((with_reducible refine wpL_storeH (x := .tmp 3) (y := .tmp 11) w.heap.size ?_ o ?_ h.ca ?_ rfl ?_); rfl; rfl; exact HP2.out))
  obtain ⟨wa, hwa⟩ : ∃ wa, wa = wb.setRow w.heap.size o.ca := ⟨_, rfl⟩
  have HR : Hid (wa.heap[w.heap.size]? = some (.cells o.ca 28 (0, 0))) := by show _ = _; rw [hwa]; exact heap_setRow _ _ _ _ _ HP2.out
  have HZ : Hid (wa.heap[w.heap.size + 1]? = some (.cells HV.zero.ca 28 (0, 0))) := by show _ = _; rw [hwa, setRow_other _ _ _ _ (by omega)]; exact HQ2.out
  have HT : Hid (wa.heap[g]? = some (.cells o.ca 28 (0, 0))) := by show _ = _; rw [hwa, setRow_other _ _ _ _ (by have := HG.out; omega)]; exact HX.out
  have HW : Hid (Below w.heap.size w wa) := by show Below _ _ _; rw [hwa]; exact below_setRow HB2.out (Nat.le_refl _) _
  rw [← hwa]
  clear hwa HP2 HQ2 HB2 HX
  have x33 := row_cellH HR.out 33 (v := .bool o.user) (by simp [HV.ca, HV.cs])
  have x34 := row_cellH HR.out 34 (v := .bool o.on) (by simp [HV.ca, HV.cs])
  have x35 := row_cellH HR.out 35 (v := .bool o.spie) (by simp [HV.ca, HV.cs])
  have x36 := row_cellH HR.out 36 (v := .bool o.spp) (by simp [HV.ca, HV.cs])
  have x37 := row_cellH HR.out 37 (v := .bool o.sum) (by simp [HV.ca, HV.cs])
  have x38 := row_cellH HR.out 38 (v := .bool o.mxr) (by simp [HV.ca, HV.cs])
  have fz := row_fz HR.out
  have q1 := qs_1 v
  have q5 := qs_5 v
  have q8 := qs_8 v
  have q18 := qs_18 v
  have q19 := qs_19 v
  have HT2 : Hid (HOk (stO o v)) := stOk OO.out _
  go_wp2_with (first
    | ((with_reducible refine wpL_loadH (x := .tmp 3) w.heap.size ?_ (stO o v) ?_ ?_); rfl; exact (row_set (row_set (row_set (row_set (row_set (HR.out) 34 _) 35 _) 36 _) 37 _) 38 _).trans (by rw [st_ca]))
    | (go_at_call 38; refine (r_Order _ HT2.out _).mono ?_; rintro e w3 ⟨rfl, hb⟩; have HB3 := hid hb; clear hb)
    | ((with_reducible refine wpL_storeH (x := .tmp 6) (y := .tmp 90) (w.heap.size + 1) ?_ (ordH (stO o v)) ?_ HV.zero.ca ?_ rfl ?_); rfl; rfl; exact (HB3.out.block _ (by have := lt_of_row HZ.out; simpa [World.setCell, World.setRow] using this)).trans ((Below.heap_setCell _ _ _ _ (by show w.heap.size + 1 ≠ w.heap.size; omega)).trans ((Below.heap_setCell _ _ _ _ (by show w.heap.size + 1 ≠ w.heap.size; omega)).trans ((Below.heap_setCell _ _ _ _ (by show w.heap.size + 1 ≠ w.heap.size; omega)).trans ((Below.heap_setCell _ _ _ _ (by show w.heap.size + 1 ≠ w.heap.size; omega)).trans ((Below.heap_setCell _ _ _ _ (by show w.heap.size + 1 ≠ w.heap.size; omega)).trans (HZ.out))))))))
  have HN : w3.heap[w.heap.size + 1]? = some (.cells HV.zero.ca 28 (0, 0)) := (HB3.out.block _ (by have := lt_of_row HZ.out; simpa [World.setCell, World.setRow] using this)).trans ((Below.heap_setCell _ _ _ _ (by show w.heap.size + 1 ≠ w.heap.size; omega)).trans ((Below.heap_setCell _ _ _ _ (by show w.heap.size + 1 ≠ w.heap.size; omega)).trans ((Below.heap_setCell _ _ _ _ (by show w.heap.size + 1 ≠ w.heap.size; omega)).trans ((Below.heap_setCell _ _ _ _ (by show w.heap.size + 1 ≠ w.heap.size; omega)).trans ((Below.heap_setCell _ _ _ _ (by show w.heap.size + 1 ≠ w.heap.size; omega)).trans (HZ.out))))))
  refine bodyPost_ret (ret_row2 Tryz.results23 (w.heap.size + 1) (ordH (stO o v)) true rfl rfl (heap_setRow _ _ _ _ _ HN)) rfl ⟨by rw [HO.out], ?_⟩
  have hs := HW.out.size
  refine below_setRow (bT ?_ HB3.out) (by omega) _
  exact (((((HW.out).setCell (p := ⟨w.heap.size, _, none⟩) (Nat.le_refl _) _).setCell (p := ⟨w.heap.size, _, none⟩) (Nat.le_refl _) _).setCell (p := ⟨w.heap.size, _, none⟩) (Nat.le_refl _) _).setCell (p := ⟨w.heap.size, _, none⟩) (Nat.le_refl _) _).setCell (p := ⟨w.heap.size, _, none⟩) (Nat.le_refl _) _
set_option maxHeartbeats 1000000 in
theorem rw_satp_a (h : HV) (ok : HOk h) (csr v : Int) (r : 0 ≤ v ∧ v < 18446744073709551616) (w : World) (hc : csr = 384) (hu : (ordH h).user = false) (q1 : (v / 1152921504606846976 == 0) = true) : Calls Tryz.prog 23 #[h.v, .int .i64 csr, .int .u64 v] w fun e w' => e = .returned (.tuple #[(ordH (pu_satp (ordH h) v)).v, .bool true]) ∧ Below w.heap.size w w' := by
  have OK := hid ok
  clear ok
  go_enter Tryz.func23, Tryz.ntmps23
  go_upto_region 2 with (first
    | ((with_reducible refine wpList_new (z := .agg HV.zero.ca) HV.zero.ca ?_ ?_ ?_); rfl; exact z_hart)
    | ((with_reducible refine wpL_loadH (x := .tmp 3) w.heap.size ?_ h ?_ ?_); rfl; exact heap2 _ _ _)
    | (go_at_call 38; refine (r_Order h OK.out _).mono ?_; rintro e w1 ⟨rfl, hb⟩; have HB1 := hid hb; clear hb)
    | ((with_reducible refine wpL_storeH (x := .tmp 8) (y := .tmp 10) w1.heap.size ?_ (ordH h) ?_ HV.zero.ca ?_ rfl ?_); rfl; rfl; exact heap_alloc_new _ _))
  have hz1 : w.heap.size + 2 ≤ w1.heap.size := by have := HB1.out.size; simpa using this
  have HP : Hid (w1.heap[w.heap.size]? = some (.cells h.ca 28 (0, 0))) := (HB1.out.block _ (by simp; omega)).trans (heap2 _ _ _)
  have HQ : Hid (w1.heap[w.heap.size + 1]? = some (.cells HV.zero.ca 28 (0, 0))) := (HB1.out.block _ (by simp)).trans (heap2' _ _ _)
  have HB0 : Hid (Below w.heap.size w w1) := (below2 _ _).trans (HB1.out.mono (by simp; omega))
  obtain ⟨o, ho⟩ : ∃ o, o = ordH h := ⟨_, rfl⟩
  rw [← ho]
  have OO : Hid (HOk o) := by show HOk o; rw [ho]; exact ordOk OK.out
  rw [← ho] at hu
  have HO := hid ho
  clear ho
  obtain ⟨g, hg⟩ : ∃ g, g = w1.heap.size := ⟨_, rfl⟩
  obtain ⟨wb, hwb⟩ : ∃ wb, wb = (w1.alloc (.cells HV.zero.ca 28)).setRow g o.ca := ⟨_, rfl⟩
  have HX : Hid (wb.heap[g]? = some (.cells o.ca 28 (0, 0))) := by show _ = _; rw [hwb, hg]; exact heap_setRow _ _ _ _ _ (heap_alloc_new _ _)
  have HP2 : Hid (wb.heap[w.heap.size]? = some (.cells h.ca 28 (0, 0))) := by show _ = _; rw [hwb, setRow_other _ _ _ _ (by omega), heap_alloc_old _ _ (by omega)]; exact HP.out
  have HQ2 : Hid (wb.heap[w.heap.size + 1]? = some (.cells HV.zero.ca 28 (0, 0))) := by show _ = _; rw [hwb, setRow_other _ _ _ _ (by omega), heap_alloc_old _ _ (by omega)]; exact HQ.out
  have HB2 : Hid (Below w.heap.size w wb) := by show Below _ _ _; rw [hwb]; exact below_setRow (HB0.out.alloc (by omega) _) (by omega) _
  rw [← hg, ← hwb]
  have hgs : w.heap.size + 2 ≤ g := by omega
  have HG := hid hgs
  clear hwb hg hz1 HP HQ HB0 HB1 hgs
  go_upto_region 3 with (first
    | ((with_reducible refine wpL_loadH (x := .tmp 8) g ?_ o ?_ ?_); rfl; exact HX.out)
    | ((with_reducible refine wpL_storeH (x := .tmp 3) (y := .tmp 11) w.heap.size ?_ o ?_ h.ca ?_ rfl ?_); rfl; rfl; exact HP2.out))
  obtain ⟨wa, hwa⟩ : ∃ wa, wa = wb.setRow w.heap.size o.ca := ⟨_, rfl⟩
  have HR : Hid (wa.heap[w.heap.size]? = some (.cells o.ca 28 (0, 0))) := by show _ = _; rw [hwa]; exact heap_setRow _ _ _ _ _ HP2.out
  have HZ : Hid (wa.heap[w.heap.size + 1]? = some (.cells HV.zero.ca 28 (0, 0))) := by show _ = _; rw [hwa, setRow_other _ _ _ _ (by omega)]; exact HQ2.out
  have HT : Hid (wa.heap[g]? = some (.cells o.ca 28 (0, 0))) := by show _ = _; rw [hwa, setRow_other _ _ _ _ (by have := HG.out; omega)]; exact HX.out
  have HW : Hid (Below w.heap.size w wa) := by show Below _ _ _; rw [hwa]; exact below_setRow HB2.out (Nat.le_refl _) _
  rw [← hwa]
  clear hwa HP2 HQ2 HB2 HX
  have x33 := row_cellH HR.out 33 (v := .bool o.user) (by simp [HV.ca, HV.cs])
  have x47 := row_cellH HR.out 47 (v := .int .u64 o.satp) (by simp [HV.ca, HV.cs])
  have fz := row_fz HR.out
  have HT2 : Hid (HOk (pu_satp o v)) := ok_satp OO.out _ r
  go_wp2_with (first
    | ((with_reducible refine wpL_loadH (x := .tmp 3) w.heap.size ?_ (pu_satp o v) ?_ ?_); rfl; exact (row_set HR.out 47 _).trans (by rw [ca_satp]))
    | (go_at_call 38; refine (r_Order _ HT2.out _).mono ?_; rintro e w3 ⟨rfl, hb⟩; have HB3 := hid hb; clear hb)
    | ((with_reducible refine wpL_storeH (x := .tmp 6) (y := .tmp 90) (w.heap.size + 1) ?_ (ordH (pu_satp o v)) ?_ HV.zero.ca ?_ rfl ?_); rfl; rfl; exact (HB3.out.block _ (by have := lt_of_row HZ.out; simpa [World.setCell, World.setRow] using this)).trans ((Below.heap_setCell _ _ _ _ (by show w.heap.size + 1 ≠ w.heap.size; omega)).trans (HZ.out))))
  have HN : w3.heap[w.heap.size + 1]? = some (.cells HV.zero.ca 28 (0, 0)) := (HB3.out.block _ (by have := lt_of_row HZ.out; simpa [World.setCell, World.setRow] using this)).trans ((Below.heap_setCell _ _ _ _ (by show w.heap.size + 1 ≠ w.heap.size; omega)).trans (HZ.out))
  refine bodyPost_ret (ret_row2 Tryz.results23 (w.heap.size + 1) (ordH (pu_satp o v)) true rfl rfl (heap_setRow _ _ _ _ _ HN)) rfl ⟨by rw [HO.out], ?_⟩
  have hs := HW.out.size
  refine below_setRow (bT ?_ HB3.out) (by omega) _
  exact (HW.out).setCell (p := ⟨w.heap.size, _, none⟩) (Nat.le_refl _) _
set_option maxHeartbeats 1000000 in
theorem rw_satp_b (h : HV) (ok : HOk h) (csr v : Int) (r : 0 ≤ v ∧ v < 18446744073709551616) (w : World) (hc : csr = 384) (hu : (ordH h).user = false) (q1 : (v / 1152921504606846976 == 0) = false) (q2 : (v / 1152921504606846976 == 8) = true) : Calls Tryz.prog 23 #[h.v, .int .i64 csr, .int .u64 v] w fun e w' => e = .returned (.tuple #[(ordH (pu_satp (ordH h) v)).v, .bool true]) ∧ Below w.heap.size w w' := by
  have OK := hid ok
  clear ok
  go_enter Tryz.func23, Tryz.ntmps23
  go_upto_region 2 with (first
    | ((with_reducible refine wpList_new (z := .agg HV.zero.ca) HV.zero.ca ?_ ?_ ?_); rfl; exact z_hart)
    | ((with_reducible refine wpL_loadH (x := .tmp 3) w.heap.size ?_ h ?_ ?_); rfl; exact heap2 _ _ _)
    | (go_at_call 38; refine (r_Order h OK.out _).mono ?_; rintro e w1 ⟨rfl, hb⟩; have HB1 := hid hb; clear hb)
    | ((with_reducible refine wpL_storeH (x := .tmp 8) (y := .tmp 10) w1.heap.size ?_ (ordH h) ?_ HV.zero.ca ?_ rfl ?_); rfl; rfl; exact heap_alloc_new _ _))
  have hz1 : w.heap.size + 2 ≤ w1.heap.size := by have := HB1.out.size; simpa using this
  have HP : Hid (w1.heap[w.heap.size]? = some (.cells h.ca 28 (0, 0))) := (HB1.out.block _ (by simp; omega)).trans (heap2 _ _ _)
  have HQ : Hid (w1.heap[w.heap.size + 1]? = some (.cells HV.zero.ca 28 (0, 0))) := (HB1.out.block _ (by simp)).trans (heap2' _ _ _)
  have HB0 : Hid (Below w.heap.size w w1) := (below2 _ _).trans (HB1.out.mono (by simp; omega))
  obtain ⟨o, ho⟩ : ∃ o, o = ordH h := ⟨_, rfl⟩
  rw [← ho]
  have OO : Hid (HOk o) := by show HOk o; rw [ho]; exact ordOk OK.out
  rw [← ho] at hu
  have HO := hid ho
  clear ho
  obtain ⟨g, hg⟩ : ∃ g, g = w1.heap.size := ⟨_, rfl⟩
  obtain ⟨wb, hwb⟩ : ∃ wb, wb = (w1.alloc (.cells HV.zero.ca 28)).setRow g o.ca := ⟨_, rfl⟩
  have HX : Hid (wb.heap[g]? = some (.cells o.ca 28 (0, 0))) := by show _ = _; rw [hwb, hg]; exact heap_setRow _ _ _ _ _ (heap_alloc_new _ _)
  have HP2 : Hid (wb.heap[w.heap.size]? = some (.cells h.ca 28 (0, 0))) := by show _ = _; rw [hwb, setRow_other _ _ _ _ (by omega), heap_alloc_old _ _ (by omega)]; exact HP.out
  have HQ2 : Hid (wb.heap[w.heap.size + 1]? = some (.cells HV.zero.ca 28 (0, 0))) := by show _ = _; rw [hwb, setRow_other _ _ _ _ (by omega), heap_alloc_old _ _ (by omega)]; exact HQ.out
  have HB2 : Hid (Below w.heap.size w wb) := by show Below _ _ _; rw [hwb]; exact below_setRow (HB0.out.alloc (by omega) _) (by omega) _
  rw [← hg, ← hwb]
  have hgs : w.heap.size + 2 ≤ g := by omega
  have HG := hid hgs
  clear hwb hg hz1 HP HQ HB0 HB1 hgs
  go_upto_region 3 with (first
    | ((with_reducible refine wpL_loadH (x := .tmp 8) g ?_ o ?_ ?_); rfl; exact HX.out)
    | ((with_reducible refine wpL_storeH (x := .tmp 3) (y := .tmp 11) w.heap.size ?_ o ?_ h.ca ?_ rfl ?_); rfl; rfl; exact HP2.out))
  obtain ⟨wa, hwa⟩ : ∃ wa, wa = wb.setRow w.heap.size o.ca := ⟨_, rfl⟩
  have HR : Hid (wa.heap[w.heap.size]? = some (.cells o.ca 28 (0, 0))) := by show _ = _; rw [hwa]; exact heap_setRow _ _ _ _ _ HP2.out
  have HZ : Hid (wa.heap[w.heap.size + 1]? = some (.cells HV.zero.ca 28 (0, 0))) := by show _ = _; rw [hwa, setRow_other _ _ _ _ (by omega)]; exact HQ2.out
  have HT : Hid (wa.heap[g]? = some (.cells o.ca 28 (0, 0))) := by show _ = _; rw [hwa, setRow_other _ _ _ _ (by have := HG.out; omega)]; exact HX.out
  have HW : Hid (Below w.heap.size w wa) := by show Below _ _ _; rw [hwa]; exact below_setRow HB2.out (Nat.le_refl _) _
  rw [← hwa]
  clear hwa HP2 HQ2 HB2 HX
  have x33 := row_cellH HR.out 33 (v := .bool o.user) (by simp [HV.ca, HV.cs])
  have x47 := row_cellH HR.out 47 (v := .int .u64 o.satp) (by simp [HV.ca, HV.cs])
  have fz := row_fz HR.out
  have HT2 : Hid (HOk (pu_satp o v)) := ok_satp OO.out _ r
  go_wp2_with (first
    | ((with_reducible refine wpL_loadH (x := .tmp 3) w.heap.size ?_ (pu_satp o v) ?_ ?_); rfl; exact (row_set HR.out 47 _).trans (by rw [ca_satp]))
    | (go_at_call 38; refine (r_Order _ HT2.out _).mono ?_; rintro e w3 ⟨rfl, hb⟩; have HB3 := hid hb; clear hb)
    | ((with_reducible refine wpL_storeH (x := .tmp 6) (y := .tmp 90) (w.heap.size + 1) ?_ (ordH (pu_satp o v)) ?_ HV.zero.ca ?_ rfl ?_); rfl; rfl; exact (HB3.out.block _ (by have := lt_of_row HZ.out; simpa [World.setCell, World.setRow] using this)).trans ((Below.heap_setCell _ _ _ _ (by show w.heap.size + 1 ≠ w.heap.size; omega)).trans (HZ.out))))
  have HN : w3.heap[w.heap.size + 1]? = some (.cells HV.zero.ca 28 (0, 0)) := (HB3.out.block _ (by have := lt_of_row HZ.out; simpa [World.setCell, World.setRow] using this)).trans ((Below.heap_setCell _ _ _ _ (by show w.heap.size + 1 ≠ w.heap.size; omega)).trans (HZ.out))
  refine bodyPost_ret (ret_row2 Tryz.results23 (w.heap.size + 1) (ordH (pu_satp o v)) true rfl rfl (heap_setRow _ _ _ _ _ HN)) rfl ⟨by rw [HO.out], ?_⟩
  have hs := HW.out.size
  refine below_setRow (bT ?_ HB3.out) (by omega) _
  exact (HW.out).setCell (p := ⟨w.heap.size, _, none⟩) (Nat.le_refl _) _
set_option maxHeartbeats 1000000 in
theorem rw_satp_c (h : HV) (ok : HOk h) (csr v : Int) (r : 0 ≤ v ∧ v < 18446744073709551616) (w : World) (hc : csr = 384) (hu : (ordH h).user = false) (q1 : (v / 1152921504606846976 == 0) = false) (q2 : (v / 1152921504606846976 == 8) = false) : Calls Tryz.prog 23 #[h.v, .int .i64 csr, .int .u64 v] w fun e w' => e = .returned (.tuple #[(ordH (ordH h)).v, .bool true]) ∧ Below w.heap.size w w' := by
  have OK := hid ok
  clear ok
  go_enter Tryz.func23, Tryz.ntmps23
  go_upto_region 2 with (first
    | ((with_reducible refine wpList_new (z := .agg HV.zero.ca) HV.zero.ca ?_ ?_ ?_); rfl; exact z_hart)
    | ((with_reducible refine wpL_loadH (x := .tmp 3) w.heap.size ?_ h ?_ ?_); rfl; exact heap2 _ _ _)
    | (go_at_call 38; refine (r_Order h OK.out _).mono ?_; rintro e w1 ⟨rfl, hb⟩; have HB1 := hid hb; clear hb)
    | ((with_reducible refine wpL_storeH (x := .tmp 8) (y := .tmp 10) w1.heap.size ?_ (ordH h) ?_ HV.zero.ca ?_ rfl ?_); rfl; rfl; exact heap_alloc_new _ _))
  have hz1 : w.heap.size + 2 ≤ w1.heap.size := by have := HB1.out.size; simpa using this
  have HP : Hid (w1.heap[w.heap.size]? = some (.cells h.ca 28 (0, 0))) := (HB1.out.block _ (by simp; omega)).trans (heap2 _ _ _)
  have HQ : Hid (w1.heap[w.heap.size + 1]? = some (.cells HV.zero.ca 28 (0, 0))) := (HB1.out.block _ (by simp)).trans (heap2' _ _ _)
  have HB0 : Hid (Below w.heap.size w w1) := (below2 _ _).trans (HB1.out.mono (by simp; omega))
  obtain ⟨o, ho⟩ : ∃ o, o = ordH h := ⟨_, rfl⟩
  rw [← ho]
  have OO : Hid (HOk o) := by show HOk o; rw [ho]; exact ordOk OK.out
  rw [← ho] at hu
  have HO := hid ho
  clear ho
  obtain ⟨g, hg⟩ : ∃ g, g = w1.heap.size := ⟨_, rfl⟩
  obtain ⟨wb, hwb⟩ : ∃ wb, wb = (w1.alloc (.cells HV.zero.ca 28)).setRow g o.ca := ⟨_, rfl⟩
  have HX : Hid (wb.heap[g]? = some (.cells o.ca 28 (0, 0))) := by show _ = _; rw [hwb, hg]; exact heap_setRow _ _ _ _ _ (heap_alloc_new _ _)
  have HP2 : Hid (wb.heap[w.heap.size]? = some (.cells h.ca 28 (0, 0))) := by show _ = _; rw [hwb, setRow_other _ _ _ _ (by omega), heap_alloc_old _ _ (by omega)]; exact HP.out
  have HQ2 : Hid (wb.heap[w.heap.size + 1]? = some (.cells HV.zero.ca 28 (0, 0))) := by show _ = _; rw [hwb, setRow_other _ _ _ _ (by omega), heap_alloc_old _ _ (by omega)]; exact HQ.out
  have HB2 : Hid (Below w.heap.size w wb) := by show Below _ _ _; rw [hwb]; exact below_setRow (HB0.out.alloc (by omega) _) (by omega) _
  rw [← hg, ← hwb]
  have hgs : w.heap.size + 2 ≤ g := by omega
  have HG := hid hgs
  clear hwb hg hz1 HP HQ HB0 HB1 hgs
  go_upto_region 3 with (first
    | ((with_reducible refine wpL_loadH (x := .tmp 8) g ?_ o ?_ ?_); rfl; exact HX.out)
    | ((with_reducible refine wpL_storeH (x := .tmp 3) (y := .tmp 11) w.heap.size ?_ o ?_ h.ca ?_ rfl ?_); rfl; rfl; exact HP2.out))
  obtain ⟨wa, hwa⟩ : ∃ wa, wa = wb.setRow w.heap.size o.ca := ⟨_, rfl⟩
  have HR : Hid (wa.heap[w.heap.size]? = some (.cells o.ca 28 (0, 0))) := by show _ = _; rw [hwa]; exact heap_setRow _ _ _ _ _ HP2.out
  have HZ : Hid (wa.heap[w.heap.size + 1]? = some (.cells HV.zero.ca 28 (0, 0))) := by show _ = _; rw [hwa, setRow_other _ _ _ _ (by omega)]; exact HQ2.out
  have HT : Hid (wa.heap[g]? = some (.cells o.ca 28 (0, 0))) := by show _ = _; rw [hwa, setRow_other _ _ _ _ (by have := HG.out; omega)]; exact HX.out
  have HW : Hid (Below w.heap.size w wa) := by show Below _ _ _; rw [hwa]; exact below_setRow HB2.out (Nat.le_refl _) _
  rw [← hwa]
  clear hwa HP2 HQ2 HB2 HX
  have x33 := row_cellH HR.out 33 (v := .bool o.user) (by simp [HV.ca, HV.cs])
  have HT2 : Hid (HOk o) := OO.out
  go_wp2_with (first
    | ((with_reducible refine wpL_loadH (x := .tmp 3) w.heap.size ?_ o ?_ ?_); rfl; exact HR.out)
    | (go_at_call 38; refine (r_Order _ HT2.out _).mono ?_; rintro e w3 ⟨rfl, hb⟩; have HB3 := hid hb; clear hb)
    | ((with_reducible refine wpL_storeH (x := .tmp 6) (y := .tmp 90) (w.heap.size + 1) ?_ (ordH o) ?_ HV.zero.ca ?_ rfl ?_); rfl; rfl; exact (HB3.out.block _ (by have := lt_of_row HZ.out; simpa [World.setCell, World.setRow] using this)).trans (HZ.out)))
  have HN : w3.heap[w.heap.size + 1]? = some (.cells HV.zero.ca 28 (0, 0)) := (HB3.out.block _ (by have := lt_of_row HZ.out; simpa [World.setCell, World.setRow] using this)).trans (HZ.out)
  refine bodyPost_ret (ret_row2 Tryz.results23 (w.heap.size + 1) (ordH o) true rfl rfl (heap_setRow _ _ _ _ _ HN)) rfl ⟨by rw [HO.out], ?_⟩
  have hs := HW.out.size
  refine below_setRow (bT ?_ HB3.out) (by omega) _
  exact HW.out
end Go.Proofs.YtooagjndelbegaaGreatDoor
namespace Go.Proofs.YtooagjndelbegaaGreatDoor
open Go.RowKit
set_option linter.unusedVariables false
set_option maxRecDepth 100000

theorem qn_1 (v : Int) (r : 0 ≤ v ∧ v < 18446744073709551616) : (bits .and .u64 v 2 != 0) = bt v 1 := by
  rw [an_1 v r]
  cases bt v 1 <;> simp [flg]
theorem qn_5 (v : Int) (r : 0 ≤ v ∧ v < 18446744073709551616) : (bits .and .u64 v 32 != 0) = bt v 5 := by
  rw [an_5 v r]
  cases bt v 5 <;> simp [flg]
theorem qn_8 (v : Int) (r : 0 ≤ v ∧ v < 18446744073709551616) : (bits .and .u64 v 256 != 0) = bt v 8 := by
  rw [an_8 v r]
  cases bt v 8 <;> simp [flg]
theorem qn_18 (v : Int) (r : 0 ≤ v ∧ v < 18446744073709551616) : (bits .and .u64 v 262144 != 0) = bt v 18 := by
  rw [an_18 v r]
  cases bt v 18 <;> simp [flg]
theorem qn_19 (v : Int) (r : 0 ≤ v ∧ v < 18446744073709551616) : (bits .and .u64 v 524288 != 0) = bt v 19 := by
  rw [an_19 v r]
  cases bt v 19 <;> simp [flg]
set_option maxHeartbeats 1000000 in
theorem m_withStatus (h : HV) (v : Int) (r : 0 ≤ v ∧ v < 18446744073709551616) (w : World) : Calls Tryz.prog 50 #[h.v, .int .u64 v] w fun e w' => e = .returned (stO h v).v ∧ Below w.heap.size w w' := by
  go_enter Tryz.func50, Tryz.ntmps50
  go_upto_region 1 with (first
    | ((with_reducible refine wpList_new (z := .agg HV.zero.ca) HV.zero.ca ?_ ?_ ?_); rfl; exact z_hart))
  obtain ⟨wa, hwa⟩ : ∃ wa, wa = (w.alloc (.cells h.ca 28)).alloc (.cells HV.zero.ca 28) := ⟨_, rfl⟩
  have HR : Hid (wa.heap[w.heap.size]? = some (.cells h.ca 28 (0, 0))) := by show _ = _; rw [hwa]; exact heap2 _ _ _
  have HZ : Hid (wa.heap[w.heap.size + 1]? = some (.cells HV.zero.ca 28 (0, 0))) := by show _ = _; rw [hwa]; exact heap2' _ _ _
  have HW : Hid (Below w.heap.size w wa) := by show Below _ _ _; rw [hwa]; exact below2 _ _
  rw [← hwa]
  clear hwa
  have fz := row_fz HR.out
  have x34 := row_cellH HR.out 34 (v := .bool h.on) (by simp [HV.ca, HV.cs])
  have x35 := row_cellH HR.out 35 (v := .bool h.spie) (by simp [HV.ca, HV.cs])
  have x36 := row_cellH HR.out 36 (v := .bool h.spp) (by simp [HV.ca, HV.cs])
  have x37 := row_cellH HR.out 37 (v := .bool h.sum) (by simp [HV.ca, HV.cs])
  have x38 := row_cellH HR.out 38 (v := .bool h.mxr) (by simp [HV.ca, HV.cs])
  have q1 := qn_1 v r
  have q5 := qn_5 v r
  have q8 := qn_8 v r
  have q18 := qn_18 v r
  have q19 := qn_19 v r
  go_wp2_with (first
    | ((with_reducible refine wpL_loadH (x := .tmp 2) w.heap.size ?_ (stO h v) ?_ ?_); rfl; exact (row_set (row_set (row_set (row_set (row_set (HR.out) 34 _) 35 _) 36 _) 37 _) 38 _).trans (by rw [st_ca]))
    | ((with_reducible refine wpL_storeH (x := .tmp 4) (y := .tmp 25) (w.heap.size + 1) ?_ (stO h v) ?_ HV.zero.ca ?_ rfl ?_); rfl; rfl; exact (Below.heap_setCell _ _ _ _ (by show w.heap.size + 1 ≠ w.heap.size; omega)).trans ((Below.heap_setCell _ _ _ _ (by show w.heap.size + 1 ≠ w.heap.size; omega)).trans ((Below.heap_setCell _ _ _ _ (by show w.heap.size + 1 ≠ w.heap.size; omega)).trans ((Below.heap_setCell _ _ _ _ (by show w.heap.size + 1 ≠ w.heap.size; omega)).trans ((Below.heap_setCell _ _ _ _ (by show w.heap.size + 1 ≠ w.heap.size; omega)).trans (HZ.out)))))))
  refine bodyPost_ret (ret_row Tryz.results50 (w.heap.size + 1) (stO h v) rfl (heap_setRow _ _ _ _ _ ((Below.heap_setCell _ _ _ _ (by show w.heap.size + 1 ≠ w.heap.size; omega)).trans ((Below.heap_setCell _ _ _ _ (by show w.heap.size + 1 ≠ w.heap.size; omega)).trans ((Below.heap_setCell _ _ _ _ (by show w.heap.size + 1 ≠ w.heap.size; omega)).trans ((Below.heap_setCell _ _ _ _ (by show w.heap.size + 1 ≠ w.heap.size; omega)).trans ((Below.heap_setCell _ _ _ _ (by show w.heap.size + 1 ≠ w.heap.size; omega)).trans (HZ.out)))))))) rfl ⟨rfl, ?_⟩
  refine below_setRow ?_ (by omega) _
  exact (((((HW.out).setCell (p := ⟨w.heap.size, _, none⟩) (Nat.le_refl _) _).setCell (p := ⟨w.heap.size, _, none⟩) (Nat.le_refl _) _).setCell (p := ⟨w.heap.size, _, none⟩) (Nat.le_refl _) _).setCell (p := ⟨w.heap.size, _, none⟩) (Nat.le_refl _) _).setCell (p := ⟨w.heap.size, _, none⟩) (Nat.le_refl _) _
set_option maxHeartbeats 1000000 in
theorem m_withSatp_a (h : HV) (v : Int) (r : 0 ≤ v ∧ v < 18446744073709551616) (q1 : (v / 1152921504606846976 == 0) = true) (w : World) : Calls Tryz.prog 51 #[h.v, .int .u64 v] w fun e w' => e = .returned (pu_satp h v).v ∧ Below w.heap.size w w' := by
  go_enter Tryz.func51, Tryz.ntmps51
  go_upto_region 1 with (first
    | ((with_reducible refine wpList_new (z := .agg HV.zero.ca) HV.zero.ca ?_ ?_ ?_); rfl; exact z_hart))
  obtain ⟨wa, hwa⟩ : ∃ wa, wa = (w.alloc (.cells h.ca 28)).alloc (.cells HV.zero.ca 28) := ⟨_, rfl⟩
  have HR : Hid (wa.heap[w.heap.size]? = some (.cells h.ca 28 (0, 0))) := by show _ = _; rw [hwa]; exact heap2 _ _ _
  have HZ : Hid (wa.heap[w.heap.size + 1]? = some (.cells HV.zero.ca 28 (0, 0))) := by show _ = _; rw [hwa]; exact heap2' _ _ _
  have HW : Hid (Below w.heap.size w wa) := by show Below _ _ _; rw [hwa]; exact below2 _ _
  rw [← hwa]
  clear hwa
  have fz := row_fz HR.out
  have x47 := row_cellH HR.out 47 (v := .int .u64 h.satp) (by simp [HV.ca, HV.cs])
  go_wp2_with (first
    | ((with_reducible refine wpL_loadH (x := .tmp 2) w.heap.size ?_ (pu_satp h v) ?_ ?_); rfl; exact (row_set HR.out 47 _).trans (by rw [ca_satp]))
    | ((with_reducible refine wpL_storeH (x := .tmp 4) (y := .tmp 16) (w.heap.size + 1) ?_ (pu_satp h v) ?_ HV.zero.ca ?_ rfl ?_); rfl; rfl; exact (Below.heap_setCell _ _ _ _ (by show w.heap.size + 1 ≠ w.heap.size; omega)).trans (HZ.out)))
  refine bodyPost_ret (ret_row Tryz.results51 (w.heap.size + 1) (pu_satp h v) rfl (heap_setRow _ _ _ _ _ ((Below.heap_setCell _ _ _ _ (by show w.heap.size + 1 ≠ w.heap.size; omega)).trans (HZ.out)))) rfl ⟨rfl, ?_⟩
  refine below_setRow ?_ (by omega) _
  exact (HW.out).setCell (p := ⟨w.heap.size, _, none⟩) (Nat.le_refl _) _
set_option maxHeartbeats 1000000 in
theorem m_withSatp_b (h : HV) (v : Int) (r : 0 ≤ v ∧ v < 18446744073709551616) (q1 : (v / 1152921504606846976 == 0) = false) (q2 : (v / 1152921504606846976 == 8) = true) (w : World) : Calls Tryz.prog 51 #[h.v, .int .u64 v] w fun e w' => e = .returned (pu_satp h v).v ∧ Below w.heap.size w w' := by
  go_enter Tryz.func51, Tryz.ntmps51
  go_upto_region 1 with (first
    | ((with_reducible refine wpList_new (z := .agg HV.zero.ca) HV.zero.ca ?_ ?_ ?_); rfl; exact z_hart))
  obtain ⟨wa, hwa⟩ : ∃ wa, wa = (w.alloc (.cells h.ca 28)).alloc (.cells HV.zero.ca 28) := ⟨_, rfl⟩
  have HR : Hid (wa.heap[w.heap.size]? = some (.cells h.ca 28 (0, 0))) := by show _ = _; rw [hwa]; exact heap2 _ _ _
  have HZ : Hid (wa.heap[w.heap.size + 1]? = some (.cells HV.zero.ca 28 (0, 0))) := by show _ = _; rw [hwa]; exact heap2' _ _ _
  have HW : Hid (Below w.heap.size w wa) := by show Below _ _ _; rw [hwa]; exact below2 _ _
  rw [← hwa]
  clear hwa
  have fz := row_fz HR.out
  have x47 := row_cellH HR.out 47 (v := .int .u64 h.satp) (by simp [HV.ca, HV.cs])
  go_wp2_with (first
    | ((with_reducible refine wpL_loadH (x := .tmp 2) w.heap.size ?_ (pu_satp h v) ?_ ?_); rfl; exact (row_set HR.out 47 _).trans (by rw [ca_satp]))
    | ((with_reducible refine wpL_storeH (x := .tmp 4) (y := .tmp 16) (w.heap.size + 1) ?_ (pu_satp h v) ?_ HV.zero.ca ?_ rfl ?_); rfl; rfl; exact (Below.heap_setCell _ _ _ _ (by show w.heap.size + 1 ≠ w.heap.size; omega)).trans (HZ.out)))
  refine bodyPost_ret (ret_row Tryz.results51 (w.heap.size + 1) (pu_satp h v) rfl (heap_setRow _ _ _ _ _ ((Below.heap_setCell _ _ _ _ (by show w.heap.size + 1 ≠ w.heap.size; omega)).trans (HZ.out)))) rfl ⟨rfl, ?_⟩
  refine below_setRow ?_ (by omega) _
  exact (HW.out).setCell (p := ⟨w.heap.size, _, none⟩) (Nat.le_refl _) _
set_option maxHeartbeats 1000000 in
theorem m_withSatp_c (h : HV) (v : Int) (r : 0 ≤ v ∧ v < 18446744073709551616) (q1 : (v / 1152921504606846976 == 0) = false) (q2 : (v / 1152921504606846976 == 8) = false) (w : World) : Calls Tryz.prog 51 #[h.v, .int .u64 v] w fun e w' => e = .returned h.v ∧ Below w.heap.size w w' := by
  go_enter Tryz.func51, Tryz.ntmps51
  go_upto_region 1 with (first
    | ((with_reducible refine wpList_new (z := .agg HV.zero.ca) HV.zero.ca ?_ ?_ ?_); rfl; exact z_hart))
  obtain ⟨wa, hwa⟩ : ∃ wa, wa = (w.alloc (.cells h.ca 28)).alloc (.cells HV.zero.ca 28) := ⟨_, rfl⟩
  have HR : Hid (wa.heap[w.heap.size]? = some (.cells h.ca 28 (0, 0))) := by show _ = _; rw [hwa]; exact heap2 _ _ _
  have HZ : Hid (wa.heap[w.heap.size + 1]? = some (.cells HV.zero.ca 28 (0, 0))) := by show _ = _; rw [hwa]; exact heap2' _ _ _
  have HW : Hid (Below w.heap.size w wa) := by show Below _ _ _; rw [hwa]; exact below2 _ _
  rw [← hwa]
  clear hwa
  have fz := row_fz HR.out
  go_wp2_with (first
    | ((with_reducible refine wpL_loadH (x := .tmp 2) w.heap.size ?_ h ?_ ?_); rfl; exact HR.out)
    | ((with_reducible refine wpL_storeH (x := .tmp 4) (y := .tmp 16) (w.heap.size + 1) ?_ h ?_ HV.zero.ca ?_ rfl ?_); rfl; rfl; exact HZ.out))
  refine bodyPost_ret (ret_row Tryz.results51 (w.heap.size + 1) h rfl (heap_setRow _ _ _ _ _ HZ.out)) rfl ⟨rfl, ?_⟩
  exact below_setRow HW.out (by omega) _
theorem m_withSatp (h : HV) (v : Int) (r : 0 ≤ v ∧ v < 18446744073709551616) (w : World) : Calls Tryz.prog 51 #[h.v, .int .u64 v] w fun e w' => e = .returned (saO h v).v ∧ Below w.heap.size w w' := by
  by_cases q : v / 1152921504606846976 = 0
  · rw [show saO h v = pu_satp h v from if_pos (.inl q)]; exact m_withSatp_a h v r (by simpa using q) w
  · by_cases q2 : v / 1152921504606846976 = 8
    · rw [show saO h v = pu_satp h v from if_pos (.inr q2)]; exact m_withSatp_b h v r (by simpa using q) (by simpa using q2) w
    · rw [show saO h v = h from if_neg (fun z => z.elim q q2)]; exact m_withSatp_c h v r (by simpa using q) (by simpa using q2) w
end Go.Proofs.YtooagjndelbegaaGreatDoor
namespace Go.Proofs.YtooagjndelbegaaGreatDoor
open Go.RowKit
set_option linter.unusedVariables false
set_option maxRecDepth 100000

set_option maxHeartbeats 1000000 in
theorem mw_st (h : HV) (ok : HOk h) (csr v : Int) (r : 0 ≤ v ∧ v < 18446744073709551616) (w : World) (hc : csr = 256) (hu : (ordH h).user = false) : Calls Tryz.prog 22 #[h.v, .int .i64 csr, .int .u64 v] w fun e w' => e = .returned (.tuple #[(ordH (stO (ordH h) v)).v, .bool true]) ∧ Below w.heap.size w w' := by
  have OK := hid ok
  clear ok
  go_enter Tryz.func22, Tryz.ntmps22
  go_upto_region 2 with (first
    | ((with_reducible refine wpList_new (z := .agg HV.zero.ca) HV.zero.ca ?_ ?_ ?_); rfl; exact z_hart)
    | ((with_reducible refine wpL_loadH (x := .tmp 3) w.heap.size ?_ h ?_ ?_); rfl; exact heap2 _ _ _)
    | (go_at_call 47; refine (m_inOrder h OK.out _).mono ?_; rintro e w1 ⟨rfl, hb⟩; have HB1 := hid hb; clear hb)
    | ((with_reducible refine wpL_storeH (x := .tmp 3) (y := .tmp 9) w.heap.size ?_ (ordH h) ?_ h.ca ?_ rfl ?_); rfl; rfl; exact (HB1.out.block _ (by simp; omega)).trans (heap2 _ _ _)))
  have HP : Hid (w1.heap[w.heap.size]? = some (.cells h.ca 28 (0, 0))) := (HB1.out.block _ (by simp; omega)).trans (heap2 _ _ _)
  have HQ : Hid (w1.heap[w.heap.size + 1]? = some (.cells HV.zero.ca 28 (0, 0))) := (HB1.out.block _ (by simp)).trans (heap2' _ _ _)
  have HB0 : Hid (Below w.heap.size w w1) := (below2 _ _).trans (HB1.out.mono (by simp; omega))
  obtain ⟨o, ho⟩ : ∃ o, o = ordH h := ⟨_, rfl⟩
  rw [← ho]
  have OO : Hid (HOk o) := by show HOk o; rw [ho]; exact ordOk OK.out
  rw [← ho] at hu
  have HO := hid ho
  clear ho
  obtain ⟨wa, hwa⟩ : ∃ wa, wa = w1.setRow w.heap.size o.ca := ⟨_, rfl⟩
  have HR : Hid (wa.heap[w.heap.size]? = some (.cells o.ca 28 (0, 0))) := by show _ = _; rw [hwa]; exact heap_setRow _ _ _ _ _ HP.out
  have HZ : Hid (wa.heap[w.heap.size + 1]? = some (.cells HV.zero.ca 28 (0, 0))) := by show _ = _; rw [hwa, setRow_other _ _ _ _ (by omega)]; exact HQ.out
  have HW : Hid (Below w.heap.size w wa) := by show Below _ _ _; rw [hwa]; exact below_setRow HB0.out (Nat.le_refl _) _
  rw [← hwa]
  clear hwa HP HQ HB0 HB1
  have x33 := row_cellH HR.out 33 (v := .bool o.user) (by simp [HV.ca, HV.cs])
  have R := hid r
  clear r
  go_upto_region 24 with (first
    | ((with_reducible refine wpL_loadH (x := .tmp 3) w.heap.size ?_ o ?_ ?_); rfl; exact HR.out)
    | (go_at_call 50; refine (m_withStatus o v R.out _).mono ?_; rintro e w2 ⟨rfl, hb⟩; have HB2 := hid hb; clear hb)
    | ((with_reducible refine wpL_storeH (x := .tmp 3) (y := .tmp 19) w.heap.size ?_ (stO o v) ?_ o.ca ?_ rfl ?_); rfl; rfl; exact (HB2.out.block _ (lt_of_row HR.out)).trans HR.out))
  obtain ⟨wc, hwc⟩ : ∃ wc, wc = w2.setRow w.heap.size (stO o v).ca := ⟨_, rfl⟩
  have HR2 : Hid (wc.heap[w.heap.size]? = some (.cells (stO o v).ca 28 (0, 0))) := by show _ = _; rw [hwc]; exact heap_setRow _ _ _ _ _ ((HB2.out.block _ (lt_of_row HR.out)).trans HR.out)
  have HZ2 : Hid (wc.heap[w.heap.size + 1]? = some (.cells HV.zero.ca 28 (0, 0))) := by show _ = _; rw [hwc, setRow_other _ _ _ _ (by omega)]; exact (HB2.out.block _ (lt_of_row HZ.out)).trans HZ.out
  have HW2 : Hid (Below w.heap.size w wc) := by show Below _ _ _; rw [hwc]; exact below_setRow (bT HW.out HB2.out) (Nat.le_refl _) _
  rw [← hwc]
  have r := R.out
  clear hwc x33 HR HZ HW HB2
  have HT2 : Hid (HOk (stO o v)) := stOk OO.out _
  go_wp2_with (first
    | ((with_reducible refine wpL_loadH (x := .tmp 3) w.heap.size ?_ (stO o v) ?_ ?_); rfl; exact HR2.out)
    | (go_at_call 47; refine (m_inOrder _ HT2.out _).mono ?_; rintro e w3 ⟨rfl, hb⟩; have HB3 := hid hb; clear hb)
    | ((with_reducible refine wpL_storeH (x := .tmp 6) (y := .tmp 59) (w.heap.size + 1) ?_ (ordH (stO o v)) ?_ HV.zero.ca ?_ rfl ?_); rfl; rfl; exact (HB3.out.block _ (by have := lt_of_row HZ2.out; simpa [World.setCell, World.setRow] using this)).trans (HZ2.out)))
  have HN : w3.heap[w.heap.size + 1]? = some (.cells HV.zero.ca 28 (0, 0)) := (HB3.out.block _ (by have := lt_of_row HZ2.out; simpa [World.setCell, World.setRow] using this)).trans (HZ2.out)
  refine bodyPost_ret (ret_row2 Tryz.results22 (w.heap.size + 1) (ordH (stO o v)) true rfl rfl (heap_setRow _ _ _ _ _ HN)) rfl ⟨by rw [HO.out], ?_⟩
  have hs := HW2.out.size
  refine below_setRow (bT ?_ HB3.out) (by omega) _
  exact HW2.out
set_option maxHeartbeats 1000000 in
theorem mw_satp (h : HV) (ok : HOk h) (csr v : Int) (r : 0 ≤ v ∧ v < 18446744073709551616) (w : World) (hc : csr = 384) (hu : (ordH h).user = false) : Calls Tryz.prog 22 #[h.v, .int .i64 csr, .int .u64 v] w fun e w' => e = .returned (.tuple #[(ordH (saO (ordH h) v)).v, .bool true]) ∧ Below w.heap.size w w' := by
  have OK := hid ok
  clear ok
  go_enter Tryz.func22, Tryz.ntmps22
  go_upto_region 2 with (first
    | ((with_reducible refine wpList_new (z := .agg HV.zero.ca) HV.zero.ca ?_ ?_ ?_); rfl; exact z_hart)
    | ((with_reducible refine wpL_loadH (x := .tmp 3) w.heap.size ?_ h ?_ ?_); rfl; exact heap2 _ _ _)
    | (go_at_call 47; refine (m_inOrder h OK.out _).mono ?_; rintro e w1 ⟨rfl, hb⟩; have HB1 := hid hb; clear hb)
    | ((with_reducible refine wpL_storeH (x := .tmp 3) (y := .tmp 9) w.heap.size ?_ (ordH h) ?_ h.ca ?_ rfl ?_); rfl; rfl; exact (HB1.out.block _ (by simp; omega)).trans (heap2 _ _ _)))
  have HP : Hid (w1.heap[w.heap.size]? = some (.cells h.ca 28 (0, 0))) := (HB1.out.block _ (by simp; omega)).trans (heap2 _ _ _)
  have HQ : Hid (w1.heap[w.heap.size + 1]? = some (.cells HV.zero.ca 28 (0, 0))) := (HB1.out.block _ (by simp)).trans (heap2' _ _ _)
  have HB0 : Hid (Below w.heap.size w w1) := (below2 _ _).trans (HB1.out.mono (by simp; omega))
  obtain ⟨o, ho⟩ : ∃ o, o = ordH h := ⟨_, rfl⟩
  rw [← ho]
  have OO : Hid (HOk o) := by show HOk o; rw [ho]; exact ordOk OK.out
  rw [← ho] at hu
  have HO := hid ho
  clear ho
  obtain ⟨wa, hwa⟩ : ∃ wa, wa = w1.setRow w.heap.size o.ca := ⟨_, rfl⟩
  have HR : Hid (wa.heap[w.heap.size]? = some (.cells o.ca 28 (0, 0))) := by show _ = _; rw [hwa]; exact heap_setRow _ _ _ _ _ HP.out
  have HZ : Hid (wa.heap[w.heap.size + 1]? = some (.cells HV.zero.ca 28 (0, 0))) := by show _ = _; rw [hwa, setRow_other _ _ _ _ (by omega)]; exact HQ.out
  have HW : Hid (Below w.heap.size w wa) := by show Below _ _ _; rw [hwa]; exact below_setRow HB0.out (Nat.le_refl _) _
  rw [← hwa]
  clear hwa HP HQ HB0 HB1
  have x33 := row_cellH HR.out 33 (v := .bool o.user) (by simp [HV.ca, HV.cs])
  have R := hid r
  clear r
  go_upto_region 24 with (first
    | ((with_reducible refine wpL_loadH (x := .tmp 3) w.heap.size ?_ o ?_ ?_); rfl; exact HR.out)
    | (go_at_call 51; refine (m_withSatp o v R.out _).mono ?_; rintro e w2 ⟨rfl, hb⟩; have HB2 := hid hb; clear hb)
    | ((with_reducible refine wpL_storeH (x := .tmp 3) (y := .tmp 57) w.heap.size ?_ (saO o v) ?_ o.ca ?_ rfl ?_); rfl; rfl; exact (HB2.out.block _ (lt_of_row HR.out)).trans HR.out))
  obtain ⟨wc, hwc⟩ : ∃ wc, wc = w2.setRow w.heap.size (saO o v).ca := ⟨_, rfl⟩
  have HR2 : Hid (wc.heap[w.heap.size]? = some (.cells (saO o v).ca 28 (0, 0))) := by show _ = _; rw [hwc]; exact heap_setRow _ _ _ _ _ ((HB2.out.block _ (lt_of_row HR.out)).trans HR.out)
  have HZ2 : Hid (wc.heap[w.heap.size + 1]? = some (.cells HV.zero.ca 28 (0, 0))) := by show _ = _; rw [hwc, setRow_other _ _ _ _ (by omega)]; exact (HB2.out.block _ (lt_of_row HZ.out)).trans HZ.out
  have HW2 : Hid (Below w.heap.size w wc) := by show Below _ _ _; rw [hwc]; exact below_setRow (bT HW.out HB2.out) (Nat.le_refl _) _
  rw [← hwc]
  have r := R.out
  clear hwc x33 HR HZ HW HB2
  have HT2 : Hid (HOk (saO o v)) := saOk OO.out _ r
  go_wp2_with (first
    | ((with_reducible refine wpL_loadH (x := .tmp 3) w.heap.size ?_ (saO o v) ?_ ?_); rfl; exact HR2.out)
    | (go_at_call 47; refine (m_inOrder _ HT2.out _).mono ?_; rintro e w3 ⟨rfl, hb⟩; have HB3 := hid hb; clear hb)
    | ((with_reducible refine wpL_storeH (x := .tmp 6) (y := .tmp 59) (w.heap.size + 1) ?_ (ordH (saO o v)) ?_ HV.zero.ca ?_ rfl ?_); rfl; rfl; exact (HB3.out.block _ (by have := lt_of_row HZ2.out; simpa [World.setCell, World.setRow] using this)).trans (HZ2.out)))
  have HN : w3.heap[w.heap.size + 1]? = some (.cells HV.zero.ca 28 (0, 0)) := (HB3.out.block _ (by have := lt_of_row HZ2.out; simpa [World.setCell, World.setRow] using this)).trans (HZ2.out)
  refine bodyPost_ret (ret_row2 Tryz.results22 (w.heap.size + 1) (ordH (saO o v)) true rfl rfl (heap_setRow _ _ _ _ _ HN)) rfl ⟨by rw [HO.out], ?_⟩
  have hs := HW2.out.size
  refine below_setRow (bT ?_ HB3.out) (by omega) _
  exact HW2.out
end Go.Proofs.YtooagjndelbegaaGreatDoor
