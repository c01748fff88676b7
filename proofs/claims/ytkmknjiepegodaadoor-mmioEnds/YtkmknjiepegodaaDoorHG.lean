/- The program's Trap is the document's. -/
import Derived.Test.YtkmknjiepegodaaDoorHB
import Derived.Test.YtkmknjiepegodaaDoorMH1
import Derived.Test.YtkmknjiepegodaaDoorMH2
namespace Go.Proofs.YtkmknjiepegodaaDoor
open Go.RowKit
set_option linter.unusedVariables false
set_option maxRecDepth 100000

theorem and_one (a : Int) (h0 : 0 ≤ a) (h1 : a < 18446744073709551616) : bits .and .u64 a 1 = a % 2 := by
  obtain ⟨n, rfl⟩ := Int.eq_ofNat_of_zero_le h0
  have e : bits .and .u64 (n : Int) 1 = ((n &&& 1 : Nat) : Int) := u64_and_nat n 1 (by omega) (by omega)
  rw [e, Nat.and_one_is_mod]
  omega
theorem and_63 (a : Int) (h0 : 0 ≤ a) (h1 : a < 18446744073709551616) : bits .and .u64 a 9223372036854775808 = if 9223372036854775808 ≤ a then 9223372036854775808 else 0 := by
  obtain ⟨n, rfl⟩ := Int.eq_ofNat_of_zero_le h0
  have e : bits .and .u64 (n : Int) 9223372036854775808 = ((n &&& 9223372036854775808 : Nat) : Int) := u64_and_nat n 9223372036854775808 (by omega) (by omega)
  rw [e]
  have d : (n &&& 9223372036854775808) / 9223372036854775808 = n / 9223372036854775808 := by
    have := Nat.and_div_two_pow (a := n) (b := 9223372036854775808) (n := 63)
    simp only [show (2 : Nat) ^ 63 = 9223372036854775808 by decide] at this
    rw [this]
    simp only [show (9223372036854775808 : Nat) / 9223372036854775808 = 1 by decide, Nat.and_one_is_mod]
    omega
  have m : (n &&& 9223372036854775808) % 9223372036854775808 = 0 := by
    have := Nat.and_mod_two_pow (a := n) (b := 9223372036854775808) (n := 63)
    simp only [show (2 : Nat) ^ 63 = 9223372036854775808 by decide] at this
    rw [this]
    simp
  split <;> omega
set_option maxHeartbeats 1000000 in
theorem m_Trap_c (h : HV) (ok : HOk h) (cause value : Int) (c0 : 0 ≤ cause) (c1 : cause < 18446744073709551616) (c2 : ¬ 9223372036854775808 ≤ cause) (d0 : 0 ≤ value) (d1 : value < 18446744073709551616) (w : World) : Calls Tryd.prog 23 #[h.v, .int .u64 cause, .int .u64 value] w fun e w' => e = .returned (trapO (ordH h) cause value (bits .andNot .u64 (ordH h).stvec 1)).v ∧ Below w.heap.size w w' := by
  have OK := hid ok
  have OO := hid (ordOk ok)
  clear ok
  go_enter Tryd.func23, Tryd.ntmps23
  go_upto_region 2 with (first
    | ((with_reducible refine wpList_new (z := .agg HV.zero.ca) HV.zero.ca ?_ ?_ ?_); rfl; exact z_hart)
    | ((with_reducible refine wpL_loadH (x := .tmp 3) w.heap.size ?_ h ?_ ?_); rfl; exact heap2 _ _ _)
    | (go_at_call 38; refine (m_inOrder h OK.out _).mono ?_; rintro e w1 ⟨rfl, hb⟩; have HB1 := hid hb; clear hb)
    | ((with_reducible refine wpL_storeH (x := .tmp 3) (y := .tmp 8) w.heap.size ?_ (ordH h) ?_ h.ca ?_ rfl ?_); rfl; rfl; exact (HB1.out.block _ (by simp; omega)).trans (heap2 _ _ _)))
  have HP : Hid (w1.heap[w.heap.size]? = some (.cells h.ca 25 (0, 0))) := (HB1.out.block _ (by simp; omega)).trans (heap2 _ _ _)
  have HQ : Hid (w1.heap[w.heap.size + 1]? = some (.cells HV.zero.ca 25 (0, 0))) := (HB1.out.block _ (by simp)).trans (heap2' _ _ _)
  have HB0 : Hid (Below w.heap.size w w1) := (below2 _ _).trans (HB1.out.mono (by simp; omega))
  obtain ⟨o, ho⟩ : ∃ o, o = ordH h := ⟨_, rfl⟩
  rw [← ho] at OO ⊢
  have HO := hid ho
  clear ho
  obtain ⟨wa, hwa⟩ : ∃ wa, wa = w1.setRow w.heap.size o.ca := ⟨_, rfl⟩
  have HR : Hid (wa.heap[w.heap.size]? = some (.cells o.ca 25 (0, 0))) := by show _ = _; rw [hwa]; exact heap_setRow _ _ _ _ _ HP.out
  have HZ : Hid (wa.heap[w.heap.size + 1]? = some (.cells HV.zero.ca 25 (0, 0))) := by show _ = _; rw [hwa, setRow_other _ _ _ _ (by omega)]; exact HQ.out
  have HW : Hid (Below w.heap.size w wa) := by show Below _ _ _; rw [hwa]; exact below_setRow HB0.out (Nat.le_refl _) _
  rw [← hwa]
  clear hwa HP HQ HB0 HB1
  have x32 := row_cellH HR.out 32 (v := .int .u64 o.pc) (by simp [HV.ca, HV.cs])
  have x33 := row_cellH HR.out 33 (v := .bool o.user) (by simp [HV.ca, HV.cs])
  have x34 := row_cellH HR.out 34 (v := .bool o.on) (by simp [HV.ca, HV.cs])
  have x40 := row_cellH HR.out 40 (v := .int .u64 o.stvec) (by simp [HV.ca, HV.cs])
  have x35 := row_cellH HR.out 35 (v := .bool o.spie) (by simp [HV.ca, HV.cs])
  have x36 := row_cellH HR.out 36 (v := .bool o.spp) (by simp [HV.ca, HV.cs])
  have x42 := row_cellH HR.out 42 (v := .int .u64 o.sepc) (by simp [HV.ca, HV.cs])
  have x43 := row_cellH HR.out 43 (v := .int .u64 o.scause) (by simp [HV.ca, HV.cs])
  have x44 := row_cellH HR.out 44 (v := .int .u64 o.stval) (by simp [HV.ca, HV.cs])
  have fz := row_fz HR.out
  obtain ⟨t0, t1⟩ := OO.out.stvec
  have e1 : bits .and .u64 cause 9223372036854775808 = 0 := by rw [and_63 _ c0 c1, if_neg (by omega)]
  go_wp2_with (first
    | ((with_reducible refine wpL_loadH (x := .tmp 3) w.heap.size ?_ (trapO o cause value (bits .andNot .u64 o.stvec 1)) ?_ ?_); rfl; exact (row_set (row_set (row_set (row_set (row_set (row_set (row_set (row_set HR.out 42 _) 43 _) 44 _) 36 _) 35 _) 34 _) 33 _) 32 _).trans (by rw [← trap_ca]))
    | ((with_reducible refine wpL_storeH (x := .tmp 6) (y := .tmp 45) (w.heap.size + 1) ?_ (trapO o cause value (bits .andNot .u64 o.stvec 1)) ?_ HV.zero.ca ?_ rfl ?_); rfl; rfl; exact (Below.heap_setCell _ _ _ _ (by show w.heap.size + 1 ≠ w.heap.size; omega)).trans ((Below.heap_setCell _ _ _ _ (by show w.heap.size + 1 ≠ w.heap.size; omega)).trans ((Below.heap_setCell _ _ _ _ (by show w.heap.size + 1 ≠ w.heap.size; omega)).trans ((Below.heap_setCell _ _ _ _ (by show w.heap.size + 1 ≠ w.heap.size; omega)).trans ((Below.heap_setCell _ _ _ _ (by show w.heap.size + 1 ≠ w.heap.size; omega)).trans ((Below.heap_setCell _ _ _ _ (by show w.heap.size + 1 ≠ w.heap.size; omega)).trans ((Below.heap_setCell _ _ _ _ (by show w.heap.size + 1 ≠ w.heap.size; omega)).trans ((Below.heap_setCell _ _ _ _ (by show w.heap.size + 1 ≠ w.heap.size; omega)).trans (HZ.out))))))))))
  refine bodyPost_ret (ret_row Tryd.results23 (w.heap.size + 1) (trapO o cause value (bits .andNot .u64 o.stvec 1)) rfl (heap_setRow _ _ _ _ _ ((Below.heap_setCell _ _ _ _ (by show w.heap.size + 1 ≠ w.heap.size; omega)).trans ((Below.heap_setCell _ _ _ _ (by show w.heap.size + 1 ≠ w.heap.size; omega)).trans ((Below.heap_setCell _ _ _ _ (by show w.heap.size + 1 ≠ w.heap.size; omega)).trans ((Below.heap_setCell _ _ _ _ (by show w.heap.size + 1 ≠ w.heap.size; omega)).trans ((Below.heap_setCell _ _ _ _ (by show w.heap.size + 1 ≠ w.heap.size; omega)).trans ((Below.heap_setCell _ _ _ _ (by show w.heap.size + 1 ≠ w.heap.size; omega)).trans ((Below.heap_setCell _ _ _ _ (by show w.heap.size + 1 ≠ w.heap.size; omega)).trans ((Below.heap_setCell _ _ _ _ (by show w.heap.size + 1 ≠ w.heap.size; omega)).trans (HZ.out))))))))))) rfl ⟨by rw [HO.out], ?_⟩
  refine below_setRow ?_ (by omega) _
  exact ((((((((HW.out).setCell (p := ⟨w.heap.size, _, none⟩) (Nat.le_refl _) _).setCell (p := ⟨w.heap.size, _, none⟩) (Nat.le_refl _) _).setCell (p := ⟨w.heap.size, _, none⟩) (Nat.le_refl _) _).setCell (p := ⟨w.heap.size, _, none⟩) (Nat.le_refl _) _).setCell (p := ⟨w.heap.size, _, none⟩) (Nat.le_refl _) _).setCell (p := ⟨w.heap.size, _, none⟩) (Nat.le_refl _) _).setCell (p := ⟨w.heap.size, _, none⟩) (Nat.le_refl _) _).setCell (p := ⟨w.heap.size, _, none⟩) (Nat.le_refl _) _
set_option maxHeartbeats 1000000 in
theorem m_Trap_b (h : HV) (ok : HOk h) (cause value : Int) (c0 : 0 ≤ cause) (c1 : cause < 18446744073709551616) (c2 : 9223372036854775808 ≤ cause) (hs : (ordH h).stvec % 2 = 0) (d0 : 0 ≤ value) (d1 : value < 18446744073709551616) (w : World) : Calls Tryd.prog 23 #[h.v, .int .u64 cause, .int .u64 value] w fun e w' => e = .returned (trapO (ordH h) cause value (bits .andNot .u64 (ordH h).stvec 1)).v ∧ Below w.heap.size w w' := by
  have OK := hid ok
  have OO := hid (ordOk ok)
  clear ok
  go_enter Tryd.func23, Tryd.ntmps23
  go_upto_region 2 with (first
    | ((with_reducible refine wpList_new (z := .agg HV.zero.ca) HV.zero.ca ?_ ?_ ?_); rfl; exact z_hart)
    | ((with_reducible refine wpL_loadH (x := .tmp 3) w.heap.size ?_ h ?_ ?_); rfl; exact heap2 _ _ _)
    | (go_at_call 38; refine (m_inOrder h OK.out _).mono ?_; rintro e w1 ⟨rfl, hb⟩; have HB1 := hid hb; clear hb)
    | ((with_reducible refine wpL_storeH (x := .tmp 3) (y := .tmp 8) w.heap.size ?_ (ordH h) ?_ h.ca ?_ rfl ?_); rfl; rfl; exact (HB1.out.block _ (by simp; omega)).trans (heap2 _ _ _)))
  have HP : Hid (w1.heap[w.heap.size]? = some (.cells h.ca 25 (0, 0))) := (HB1.out.block _ (by simp; omega)).trans (heap2 _ _ _)
  have HQ : Hid (w1.heap[w.heap.size + 1]? = some (.cells HV.zero.ca 25 (0, 0))) := (HB1.out.block _ (by simp)).trans (heap2' _ _ _)
  have HB0 : Hid (Below w.heap.size w w1) := (below2 _ _).trans (HB1.out.mono (by simp; omega))
  obtain ⟨o, ho⟩ : ∃ o, o = ordH h := ⟨_, rfl⟩
  rw [← ho] at OO hs ⊢
  have HO := hid ho
  clear ho
  obtain ⟨wa, hwa⟩ : ∃ wa, wa = w1.setRow w.heap.size o.ca := ⟨_, rfl⟩
  have HR : Hid (wa.heap[w.heap.size]? = some (.cells o.ca 25 (0, 0))) := by show _ = _; rw [hwa]; exact heap_setRow _ _ _ _ _ HP.out
  have HZ : Hid (wa.heap[w.heap.size + 1]? = some (.cells HV.zero.ca 25 (0, 0))) := by show _ = _; rw [hwa, setRow_other _ _ _ _ (by omega)]; exact HQ.out
  have HW : Hid (Below w.heap.size w wa) := by show Below _ _ _; rw [hwa]; exact below_setRow HB0.out (Nat.le_refl _) _
  rw [← hwa]
  clear hwa HP HQ HB0 HB1
  have x32 := row_cellH HR.out 32 (v := .int .u64 o.pc) (by simp [HV.ca, HV.cs])
  have x33 := row_cellH HR.out 33 (v := .bool o.user) (by simp [HV.ca, HV.cs])
  have x34 := row_cellH HR.out 34 (v := .bool o.on) (by simp [HV.ca, HV.cs])
  have x40 := row_cellH HR.out 40 (v := .int .u64 o.stvec) (by simp [HV.ca, HV.cs])
  have x35 := row_cellH HR.out 35 (v := .bool o.spie) (by simp [HV.ca, HV.cs])
  have x36 := row_cellH HR.out 36 (v := .bool o.spp) (by simp [HV.ca, HV.cs])
  have x42 := row_cellH HR.out 42 (v := .int .u64 o.sepc) (by simp [HV.ca, HV.cs])
  have x43 := row_cellH HR.out 43 (v := .int .u64 o.scause) (by simp [HV.ca, HV.cs])
  have x44 := row_cellH HR.out 44 (v := .int .u64 o.stval) (by simp [HV.ca, HV.cs])
  have fz := row_fz HR.out
  obtain ⟨t0, t1⟩ := OO.out.stvec
  have e1 : bits .and .u64 cause 9223372036854775808 = 9223372036854775808 := by rw [and_63 _ c0 c1, if_pos (by omega)]
  have e2 : bits .and .u64 o.stvec 1 = 0 := by rw [and_one _ t0 t1]; exact hs
  clear hs
  go_wp2_with (first
    | ((with_reducible refine wpL_loadH (x := .tmp 3) w.heap.size ?_ (trapO o cause value (bits .andNot .u64 o.stvec 1)) ?_ ?_); rfl; exact (row_set (row_set (row_set (row_set (row_set (row_set (row_set (row_set HR.out 42 _) 43 _) 44 _) 36 _) 35 _) 34 _) 33 _) 32 _).trans (by rw [← trap_ca]))
    | ((with_reducible refine wpL_storeH (x := .tmp 6) (y := .tmp 45) (w.heap.size + 1) ?_ (trapO o cause value (bits .andNot .u64 o.stvec 1)) ?_ HV.zero.ca ?_ rfl ?_); rfl; rfl; exact (Below.heap_setCell _ _ _ _ (by show w.heap.size + 1 ≠ w.heap.size; omega)).trans ((Below.heap_setCell _ _ _ _ (by show w.heap.size + 1 ≠ w.heap.size; omega)).trans ((Below.heap_setCell _ _ _ _ (by show w.heap.size + 1 ≠ w.heap.size; omega)).trans ((Below.heap_setCell _ _ _ _ (by show w.heap.size + 1 ≠ w.heap.size; omega)).trans ((Below.heap_setCell _ _ _ _ (by show w.heap.size + 1 ≠ w.heap.size; omega)).trans ((Below.heap_setCell _ _ _ _ (by show w.heap.size + 1 ≠ w.heap.size; omega)).trans ((Below.heap_setCell _ _ _ _ (by show w.heap.size + 1 ≠ w.heap.size; omega)).trans ((Below.heap_setCell _ _ _ _ (by show w.heap.size + 1 ≠ w.heap.size; omega)).trans (HZ.out))))))))))
  refine bodyPost_ret (ret_row Tryd.results23 (w.heap.size + 1) (trapO o cause value (bits .andNot .u64 o.stvec 1)) rfl (heap_setRow _ _ _ _ _ ((Below.heap_setCell _ _ _ _ (by show w.heap.size + 1 ≠ w.heap.size; omega)).trans ((Below.heap_setCell _ _ _ _ (by show w.heap.size + 1 ≠ w.heap.size; omega)).trans ((Below.heap_setCell _ _ _ _ (by show w.heap.size + 1 ≠ w.heap.size; omega)).trans ((Below.heap_setCell _ _ _ _ (by show w.heap.size + 1 ≠ w.heap.size; omega)).trans ((Below.heap_setCell _ _ _ _ (by show w.heap.size + 1 ≠ w.heap.size; omega)).trans ((Below.heap_setCell _ _ _ _ (by show w.heap.size + 1 ≠ w.heap.size; omega)).trans ((Below.heap_setCell _ _ _ _ (by show w.heap.size + 1 ≠ w.heap.size; omega)).trans ((Below.heap_setCell _ _ _ _ (by show w.heap.size + 1 ≠ w.heap.size; omega)).trans (HZ.out))))))))))) rfl ⟨by rw [HO.out], ?_⟩
  refine below_setRow ?_ (by omega) _
  exact ((((((((HW.out).setCell (p := ⟨w.heap.size, _, none⟩) (Nat.le_refl _) _).setCell (p := ⟨w.heap.size, _, none⟩) (Nat.le_refl _) _).setCell (p := ⟨w.heap.size, _, none⟩) (Nat.le_refl _) _).setCell (p := ⟨w.heap.size, _, none⟩) (Nat.le_refl _) _).setCell (p := ⟨w.heap.size, _, none⟩) (Nat.le_refl _) _).setCell (p := ⟨w.heap.size, _, none⟩) (Nat.le_refl _) _).setCell (p := ⟨w.heap.size, _, none⟩) (Nat.le_refl _) _).setCell (p := ⟨w.heap.size, _, none⟩) (Nat.le_refl _) _
set_option maxHeartbeats 1000000 in
theorem m_Trap_a (h : HV) (ok : HOk h) (cause value : Int) (c0 : 0 ≤ cause) (c1 : cause < 18446744073709551616) (c2 : 9223372036854775808 ≤ cause) (hs : (ordH h).stvec % 2 = 1) (d0 : 0 ≤ value) (d1 : value < 18446744073709551616) (w : World) : Calls Tryd.prog 23 #[h.v, .int .u64 cause, .int .u64 value] w fun e w' => e = .returned (trapO (ordH h) cause value (IntKind.u64.wrap (bits .andNot .u64 (ordH h).stvec 1 + IntKind.u64.wrap (4 * bits .andNot .u64 cause 9223372036854775808)))).v ∧ Below w.heap.size w w' := by
  have OK := hid ok
  have OO := hid (ordOk ok)
  clear ok
  go_enter Tryd.func23, Tryd.ntmps23
  go_upto_region 2 with (first
    | ((with_reducible refine wpList_new (z := .agg HV.zero.ca) HV.zero.ca ?_ ?_ ?_); rfl; exact z_hart)
    | ((with_reducible refine wpL_loadH (x := .tmp 3) w.heap.size ?_ h ?_ ?_); rfl; exact heap2 _ _ _)
    | (go_at_call 38; refine (m_inOrder h OK.out _).mono ?_; rintro e w1 ⟨rfl, hb⟩; have HB1 := hid hb; clear hb)
    | ((with_reducible refine wpL_storeH (x := .tmp 3) (y := .tmp 8) w.heap.size ?_ (ordH h) ?_ h.ca ?_ rfl ?_); rfl; rfl; exact (HB1.out.block _ (by simp; omega)).trans (heap2 _ _ _)))
  have HP : Hid (w1.heap[w.heap.size]? = some (.cells h.ca 25 (0, 0))) := (HB1.out.block _ (by simp; omega)).trans (heap2 _ _ _)
  have HQ : Hid (w1.heap[w.heap.size + 1]? = some (.cells HV.zero.ca 25 (0, 0))) := (HB1.out.block _ (by simp)).trans (heap2' _ _ _)
  have HB0 : Hid (Below w.heap.size w w1) := (below2 _ _).trans (HB1.out.mono (by simp; omega))
  obtain ⟨o, ho⟩ : ∃ o, o = ordH h := ⟨_, rfl⟩
  rw [← ho] at OO hs ⊢
  have HO := hid ho
  clear ho
  obtain ⟨wa, hwa⟩ : ∃ wa, wa = w1.setRow w.heap.size o.ca := ⟨_, rfl⟩
  have HR : Hid (wa.heap[w.heap.size]? = some (.cells o.ca 25 (0, 0))) := by show _ = _; rw [hwa]; exact heap_setRow _ _ _ _ _ HP.out
  have HZ : Hid (wa.heap[w.heap.size + 1]? = some (.cells HV.zero.ca 25 (0, 0))) := by show _ = _; rw [hwa, setRow_other _ _ _ _ (by omega)]; exact HQ.out
  have HW : Hid (Below w.heap.size w wa) := by show Below _ _ _; rw [hwa]; exact below_setRow HB0.out (Nat.le_refl _) _
  rw [← hwa]
  clear hwa HP HQ HB0 HB1
  have x32 := row_cellH HR.out 32 (v := .int .u64 o.pc) (by simp [HV.ca, HV.cs])
  have x33 := row_cellH HR.out 33 (v := .bool o.user) (by simp [HV.ca, HV.cs])
  have x34 := row_cellH HR.out 34 (v := .bool o.on) (by simp [HV.ca, HV.cs])
  have x40 := row_cellH HR.out 40 (v := .int .u64 o.stvec) (by simp [HV.ca, HV.cs])
  have x35 := row_cellH HR.out 35 (v := .bool o.spie) (by simp [HV.ca, HV.cs])
  have x36 := row_cellH HR.out 36 (v := .bool o.spp) (by simp [HV.ca, HV.cs])
  have x42 := row_cellH HR.out 42 (v := .int .u64 o.sepc) (by simp [HV.ca, HV.cs])
  have x43 := row_cellH HR.out 43 (v := .int .u64 o.scause) (by simp [HV.ca, HV.cs])
  have x44 := row_cellH HR.out 44 (v := .int .u64 o.stval) (by simp [HV.ca, HV.cs])
  have fz := row_fz HR.out
  obtain ⟨t0, t1⟩ := OO.out.stvec
  have e1 : bits .and .u64 cause 9223372036854775808 = 9223372036854775808 := by rw [and_63 _ c0 c1, if_pos (by omega)]
  have e2 : bits .and .u64 o.stvec 1 = 1 := by rw [and_one _ t0 t1]; exact hs
  clear hs
  go_wp2_with (first
    | ((with_reducible refine wpL_loadH (x := .tmp 3) w.heap.size ?_ (trapO o cause value (IntKind.u64.wrap (bits .andNot .u64 o.stvec 1 + IntKind.u64.wrap (4 * bits .andNot .u64 cause 9223372036854775808)))) ?_ ?_); rfl; exact (row_set (row_set (row_set (row_set (row_set (row_set (row_set (row_set (row_set HR.out 42 _) 43 _) 44 _) 36 _) 35 _) 34 _) 33 _) 32 _) 32 _).trans (by rw [← trap_ca9 _ _ _ (bits .andNot .u64 o.stvec 1)]))
    | ((with_reducible refine wpL_storeH (x := .tmp 6) (y := .tmp 45) (w.heap.size + 1) ?_ (trapO o cause value (IntKind.u64.wrap (bits .andNot .u64 o.stvec 1 + IntKind.u64.wrap (4 * bits .andNot .u64 cause 9223372036854775808)))) ?_ HV.zero.ca ?_ rfl ?_); rfl; rfl; exact (Below.heap_setCell _ _ _ _ (by show w.heap.size + 1 ≠ w.heap.size; omega)).trans ((Below.heap_setCell _ _ _ _ (by show w.heap.size + 1 ≠ w.heap.size; omega)).trans ((Below.heap_setCell _ _ _ _ (by show w.heap.size + 1 ≠ w.heap.size; omega)).trans ((Below.heap_setCell _ _ _ _ (by show w.heap.size + 1 ≠ w.heap.size; omega)).trans ((Below.heap_setCell _ _ _ _ (by show w.heap.size + 1 ≠ w.heap.size; omega)).trans ((Below.heap_setCell _ _ _ _ (by show w.heap.size + 1 ≠ w.heap.size; omega)).trans ((Below.heap_setCell _ _ _ _ (by show w.heap.size + 1 ≠ w.heap.size; omega)).trans ((Below.heap_setCell _ _ _ _ (by show w.heap.size + 1 ≠ w.heap.size; omega)).trans ((Below.heap_setCell _ _ _ _ (by show w.heap.size + 1 ≠ w.heap.size; omega)).trans (HZ.out)))))))))))
  refine bodyPost_ret (ret_row Tryd.results23 (w.heap.size + 1) (trapO o cause value (IntKind.u64.wrap (bits .andNot .u64 o.stvec 1 + IntKind.u64.wrap (4 * bits .andNot .u64 cause 9223372036854775808)))) rfl (heap_setRow _ _ _ _ _ ((Below.heap_setCell _ _ _ _ (by show w.heap.size + 1 ≠ w.heap.size; omega)).trans ((Below.heap_setCell _ _ _ _ (by show w.heap.size + 1 ≠ w.heap.size; omega)).trans ((Below.heap_setCell _ _ _ _ (by show w.heap.size + 1 ≠ w.heap.size; omega)).trans ((Below.heap_setCell _ _ _ _ (by show w.heap.size + 1 ≠ w.heap.size; omega)).trans ((Below.heap_setCell _ _ _ _ (by show w.heap.size + 1 ≠ w.heap.size; omega)).trans ((Below.heap_setCell _ _ _ _ (by show w.heap.size + 1 ≠ w.heap.size; omega)).trans ((Below.heap_setCell _ _ _ _ (by show w.heap.size + 1 ≠ w.heap.size; omega)).trans ((Below.heap_setCell _ _ _ _ (by show w.heap.size + 1 ≠ w.heap.size; omega)).trans ((Below.heap_setCell _ _ _ _ (by show w.heap.size + 1 ≠ w.heap.size; omega)).trans (HZ.out)))))))))))) rfl ⟨by rw [HO.out], ?_⟩
  refine below_setRow ?_ (by omega) _
  exact (((((((((HW.out).setCell (p := ⟨w.heap.size, _, none⟩) (Nat.le_refl _) _).setCell (p := ⟨w.heap.size, _, none⟩) (Nat.le_refl _) _).setCell (p := ⟨w.heap.size, _, none⟩) (Nat.le_refl _) _).setCell (p := ⟨w.heap.size, _, none⟩) (Nat.le_refl _) _).setCell (p := ⟨w.heap.size, _, none⟩) (Nat.le_refl _) _).setCell (p := ⟨w.heap.size, _, none⟩) (Nat.le_refl _) _).setCell (p := ⟨w.heap.size, _, none⟩) (Nat.le_refl _) _).setCell (p := ⟨w.heap.size, _, none⟩) (Nat.le_refl _) _).setCell (p := ⟨w.heap.size, _, none⟩) (Nat.le_refl _) _
end Go.Proofs.YtkmknjiepegodaaDoor
