/- An access as a value; the program's hart in order. -/
import Derived.Test.YtlfdokkopgmfjaaGreatDoorMH2
import Derived.Test.YtlfdokkopgmfjaaGreatDoorHG2
import Derived.Test.YtlfdokkopgmfjaaGreatDoorMA1
namespace Go.Proofs.YtlfdokkopgmfjaaGreatDoor
open Go.RowKit
set_option linter.unusedVariables false
set_option maxRecDepth 100000
/-- an access -/
structure AV where
  store : Bool
  sg : Bool
  size : Int
  reg : Int
  len : Int
  va : Int
  val : Int
@[reducible] def AV.ca (a : AV) : Array Value := #[.bool a.store, .bool a.sg, .int .i64 a.size, .int .i64 a.reg, .int .i64 a.len, .int .u64 a.va, .int .u64 a.val]
@[reducible] def AV.v (a : AV) : Value := .agg a.ca
theorem u_acc : Tryz.prog.underlying 67 = some (.struct (Tryz.prog.fieldsOf 67)) := by kernel_rfl
theorem s_acc : (Tryz.prog.info? 67).map (·.size) = some 7 := by kernel_rfl
theorem heap3 (w : World) (o o' o'' : Obj) : (((w.alloc o).alloc o').alloc o'').heap[w.heap.size]? = some o := (heap_alloc_old _ _ (by simp; omega)).trans (heap2 w o o')
theorem heap3' (w : World) (o o' o'' : Obj) : (((w.alloc o).alloc o').alloc o'').heap[w.heap.size + 1]? = some o' := (heap_alloc_old _ _ (by simp)).trans (heap2' w o o')
theorem heap3'' (w : World) (o o' o'' : Obj) : (((w.alloc o).alloc o').alloc o'').heap[w.heap.size + 2]? = some o'' := by
  have := heap_alloc_new ((w.alloc o).alloc o') o''
  simpa using this
theorem below3 {w : World} (o o' o'' : Obj) : Below w.heap.size w (((w.alloc o).alloc o').alloc o'') := (below2 o o').alloc (by simp; omega) _
set_option maxHeartbeats 1000000 in
theorem k_inOrder (h : HV) (ok : HOk h) (w : World) : Calls Tryz.prog 12 #[h.v] w fun e w' => e = .returned (ordH h).v ∧ Below w.heap.size w w' := by
  have HWR : Hid (∀ u, Calls Tryz.prog 29 #[h.v, .int .i64 (-1), .int .u64 0] u fun e w' => e = .returned (.tuple #[(ordH h).v, .bool false]) ∧ Below u.heap.size u w') := fun u => by
    by_cases hu : (ordH h).user = true
    · exact mw_user h ok (-1) 0 ⟨by decide, by decide⟩ u hu
    · exact mw_no h ok (-1) 0 ⟨by decide, by decide⟩ u (by decide) (by decide) (by decide) (by decide) (by decide) (by decide) (by decide) (by decide) (by decide) (by simpa using hu)
  clear ok
  go_enter Tryz.func12, Tryz.ntmps12
  go_upto_region 2 with (first
    | ((with_reducible refine wpList_new (z := .agg HV.zero.ca) HV.zero.ca ?_ ?_ ?_); rfl; exact z_hart)
    | ((with_reducible refine wpL_loadH (x := .tmp 1) w.heap.size ?_ h ?_ ?_); rfl; exact heap2 _ _ _)
    | (go_at_call 29; refine (HWR.out _).mono ?_; rintro e w1 ⟨rfl, hb⟩; have HB1 := hid hb; clear hb)
    | ((with_reducible refine wpL_storeH (x := .tmp 1) (y := .tmp 6) w.heap.size ?_ (ordH h) ?_ h.ca ?_ rfl ?_); rfl; rfl; exact (HB1.out.block _ (by simp; omega)).trans (heap2 _ _ _)))
  have HP : Hid (w1.heap[w.heap.size]? = some (.cells h.ca 27 (0, 0))) := (HB1.out.block _ (by simp; omega)).trans (heap2 _ _ _)
  have HQ : Hid (w1.heap[w.heap.size + 1]? = some (.cells HV.zero.ca 27 (0, 0))) := (HB1.out.block _ (by simp)).trans (heap2' _ _ _)
  have HB0 : Hid (Below w.heap.size w w1) := (below2 _ _).trans (HB1.out.mono (by simp; omega))
  obtain ⟨o, ho⟩ : ∃ o, o = ordH h := ⟨_, rfl⟩
  rw [← ho]
  have HO := hid ho
  clear ho
  obtain ⟨wa, hwa⟩ : ∃ wa, wa = w1.setRow w.heap.size o.ca := ⟨_, rfl⟩
  have HR : Hid (wa.heap[w.heap.size]? = some (.cells o.ca 27 (0, 0))) := by show _ = _; rw [hwa]; exact heap_setRow _ _ _ _ _ HP.out
  have HZ : Hid (wa.heap[w.heap.size + 1]? = some (.cells HV.zero.ca 27 (0, 0))) := by show _ = _; rw [hwa, setRow_other _ _ _ _ (by omega)]; exact HQ.out
  have HW : Hid (Below w.heap.size w wa) := by show Below _ _ _; rw [hwa]; exact below_setRow HB0.out (Nat.le_refl _) _
  rw [← hwa]
  clear hwa HP HQ HB0 HB1
  go_wp2_with (first
    | ((with_reducible refine wpL_loadH (x := .tmp 1) w.heap.size ?_ o ?_ ?_); rfl; exact HR.out)
    | ((with_reducible refine wpL_storeH (x := .tmp 2) (y := .tmp 8) (w.heap.size + 1) ?_ o ?_ HV.zero.ca ?_ rfl ?_); rfl; rfl; exact HZ.out))
  refine bodyPost_ret (ret_row Tryz.results12 (w.heap.size + 1) o rfl (heap_setRow _ _ _ _ _ HZ.out)) rfl ⟨by rw [HO.out], below_setRow HW.out (by omega) _⟩
end Go.Proofs.YtlfdokkopgmfjaaGreatDoor
