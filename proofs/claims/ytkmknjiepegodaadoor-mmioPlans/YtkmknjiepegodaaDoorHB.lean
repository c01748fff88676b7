/- The reference's Trap. -/
import Derived.Test.YtkmknjiepegodaaDoorMH1
import Derived.Deep.CutBlock
namespace Go.Proofs.YtkmknjiepegodaaDoor
open Go.RowKit
set_option linter.unusedVariables false

theorem hid {p : Prop} (h : p) : Hid p := h
theorem row_cellH {w : World} {b : Nat} {h : HV} (hb : w.heap[b]? = some (.cells h.ca 25 (0, 0))) (k : Nat) {v : Value} (hv : h.ca[k]? = some v) : w.cell? ⟨b, k, none⟩ = some v := by
  simp [World.cell?, hb, hv]
theorem row_fz {w : World} {b : Nat} {c : Array Value} {t : TypeId} (hb : w.heap[b]? = some (.cells c t (0, 0))) (k : Nat) : w.frozen? ⟨b, k, none⟩ = false := by
  simp [World.frozen?, hb]
theorem lt_of_row {w : World} {b : Nat} {o : Obj} (h : w.heap[b]? = some o) : b < w.heap.size := by
  rcases Nat.lt_or_ge b w.heap.size with q | q
  · exact q
  · rw [Array.getElem?_eq_none q] at h; cases h
theorem bT {a b c : World} (h : Below a.heap.size a b) (k : Below b.heap.size b c) : Below a.heap.size a c := h.trans (k.mono h.size)
theorem row_set {w : World} {b : Nat} {c : Array Value} {t : TypeId} {fr : Nat × Nat} (hb : w.heap[b]? = some (.cells c t fr)) (k : Nat) (v : Value) : (w.setCell ⟨b, k, none⟩ v).heap[b]? = some (.cells (c.setIfInBounds k v) t fr) := by
  simp [World.setCell, Array.getElem?_modify, hb]
def trapO (o : HV) (cause value pc : Int) : HV := { o with sepc := o.pc, scause := cause, stval := value, spp := !o.user, spie := o.on, on := false, user := false, pc := pc }
def trapPC (o : HV) (cause : Int) : Int := if 9223372036854775808 ≤ cause ∧ o.stvec % 2 = 1 then IntKind.u64.wrap (o.stvec / 4 * 4 + IntKind.u64.wrap (4 * (cause - 9223372036854775808))) else o.stvec / 4 * 4
theorem trap_ca (o : HV) (cause value pc : Int) : ((((((((o.ca.setIfInBounds 42 (.int .u64 o.pc)).setIfInBounds 43 (.int .u64 cause)).setIfInBounds 44 (.int .u64 value)).setIfInBounds 36 (.bool (!o.user))).setIfInBounds 35 (.bool o.on)).setIfInBounds 34 (.bool false)).setIfInBounds 33 (.bool false)).setIfInBounds 32 (.int .u64 pc)) = (trapO o cause value pc).ca := by simp [HV.ca, HV.cs, trapO]
theorem and64_b (x y : Int) : 0 ≤ bits .and .u64 x y ∧ bits .and .u64 x y < 18446744073709551616 := by
  unfold bits
  have e : ∀ z : Int, IntKind.u64.wrap z = z % 18446744073709551616 := fun z => by simp [IntKind.wrap, IntKind.bits, IntKind.signed]
  rw [e]; omega
theorem ordOk {h : HV} (ok : HOk h) : HOk (ordH h) := by
  have p := ok.pc; have s := ok.sepc; have t := ok.stvec
  exact ⟨fun r => by show 0 ≤ zx h.x r ∧ zx h.x r < 18446744073709551616; unfold zx; split; omega; exact ok.x r, by show 0 ≤ h.pc / 2 * 2 ∧ h.pc / 2 * 2 < 18446744073709551616; omega, by show 0 ≤ h.stvec / 4 * 4 + h.stvec % 2 ∧ h.stvec / 4 * 4 + h.stvec % 2 < 18446744073709551616; omega, ok.sscr, by show 0 ≤ h.sepc / 2 * 2 ∧ h.sepc / 2 * 2 < 18446744073709551616; omega, ok.scause, ok.stval, and64_b _ _, and64_b _ _, ok.satp, ok.resv⟩
theorem trap_ca9 (o : HV) (cause value pc0 pc : Int) : (((((((((o.ca.setIfInBounds 42 (.int .u64 o.pc)).setIfInBounds 43 (.int .u64 cause)).setIfInBounds 44 (.int .u64 value)).setIfInBounds 36 (.bool (!o.user))).setIfInBounds 35 (.bool o.on)).setIfInBounds 34 (.bool false)).setIfInBounds 33 (.bool false)).setIfInBounds 32 (.int .u64 pc0)).setIfInBounds 32 (.int .u64 pc)) = (trapO o cause value pc).ca := by simp [HV.ca, HV.cs, trapO]
theorem wrap_b (x : Int) : 0 ≤ IntKind.u64.wrap x ∧ IntKind.u64.wrap x < 18446744073709551616 := by
  have e : IntKind.u64.wrap x = x % 18446744073709551616 := by simp [IntKind.wrap, IntKind.bits, IntKind.signed]
  rw [e]; omega
set_option maxHeartbeats 1000000 in
set_option maxRecDepth 100000 in
theorem r_Trap_c (h : HV) (ok : HOk h) (cause value : Int) (c0 : 0 ≤ cause) (c1 : cause < 9223372036854775808) (d0 : 0 ≤ value) (d1 : value < 18446744073709551616) (w : World) : Calls Tryd.prog 25 #[h.v, .int .u64 cause, .int .u64 value] w fun e w' => e = .returned (ordH (trapO (ordH h) cause value ((ordH h).stvec / 4 * 4))).v ∧ Below w.heap.size w w' := by
  have OK := hid ok
  have OO := hid (ordOk ok)
  clear ok
  go_enter Tryd.func25, Tryd.ntmps25
  go_upto_region 2 with (first
    | ((with_reducible refine wpList_new (z := .agg HV.zero.ca) HV.zero.ca ?_ ?_ ?_); rfl; exact z_hart)
    | ((with_reducible refine wpL_loadH (x := .tmp 3) w.heap.size ?_ h ?_ ?_); rfl; exact heap2 _ _ _)
    | (go_at_call 18; refine (r_Order h OK.out _).mono ?_; rintro e w1 ⟨rfl, hb⟩; have HB1 := hid hb; clear hb)
    | ((with_reducible refine wpL_storeH (x := .tmp 3) (y := .tmp 9) w.heap.size ?_ (ordH h) ?_ h.ca ?_ rfl ?_); rfl; rfl; exact (HB1.out.block _ (by simp; omega)).trans (heap2 _ _ _)))
  have HP : Hid (w1.heap[w.heap.size]? = some (.cells h.ca 25 (0, 0))) := (HB1.out.block _ (by simp; omega)).trans (heap2 _ _ _)
  have HQ : Hid (w1.heap[w.heap.size + 1]? = some (.cells HV.zero.ca 25 (0, 0))) := (HB1.out.block _ (by simp)).trans (heap2' _ _ _)
  have HB0 : Hid (Below w.heap.size w w1) := (below2 _ _).trans (HB1.out.mono (by simp; omega))
  obtain ⟨o, ho⟩ : ∃ o, o = ordH h := ⟨_, rfl⟩
  rw [← ho] at OO ⊢
  have HO := hid ho
  clear ho
  obtain ⟨wa, hwa⟩ : ∃ wa, wa = w1.setRow w.heap.size o.ca := ⟨_, rfl⟩
  have HR : Hid (wa.heap[w.heap.size]? = some (.cells o.ca 25 (0, 0))) := by show _ = _; rw [hwa]; exact heap_setRow _ _ _ _ _ HP.out
  have HZ : Hid (wa.heap[w.heap.size + 1]? = some (.cells HV.zero.ca 25 (0, 0))) := by show _ = _; rw [hwa, setRow_other _ _ _ _ (by omega)]; exact HQ.out
  have HW : Hid (Below w.heap.size w wa) := by show Below _ _ _; rw [hwa]; exact below_setRow HB0.out (Nat.le_refl _) _
  rw [← hwa]
  clear hwa HP HQ HB0 HB1
  have x32 := row_cellH HR.out 32 (v := .int .u64 o.pc) (by simp [HV.ca, HV.cs])
  have x33 := row_cellH HR.out 33 (v := .bool o.user) (by simp [HV.ca, HV.cs])
  have x34 := row_cellH HR.out 34 (v := .bool o.on) (by simp [HV.ca, HV.cs])
  have x40 := row_cellH HR.out 40 (v := .int .u64 o.stvec) (by simp [HV.ca, HV.cs])
  have x35 := row_cellH HR.out 35 (v := .bool o.spie) (by simp [HV.ca, HV.cs])
  have x36 := row_cellH HR.out 36 (v := .bool o.spp) (by simp [HV.ca, HV.cs])
  have x42 := row_cellH HR.out 42 (v := .int .u64 o.sepc) (by simp [HV.ca, HV.cs])
  have x43 := row_cellH HR.out 43 (v := .int .u64 o.scause) (by simp [HV.ca, HV.cs])
  have x44 := row_cellH HR.out 44 (v := .int .u64 o.stval) (by simp [HV.ca, HV.cs])
  have fz := row_fz HR.out
  obtain ⟨t0, t1⟩ := OO.out.stvec
  have HT : Hid (HOk (trapO o cause value (o.stvec / 4 * 4))) := by
    have := OO.out
    exact ⟨this.x, by show 0 ≤ o.stvec / 4 * 4 ∧ o.stvec / 4 * 4 < 18446744073709551616; omega, this.stvec, this.sscr, this.pc, ⟨c0, by show cause < 18446744073709551616; omega⟩, ⟨d0, d1⟩, this.sie, this.sip, this.satp, this.resv⟩
  go_wp2_with (first
    | ((with_reducible refine wpL_loadH (x := .tmp 3) w.heap.size ?_ (trapO o cause value (o.stvec / 4 * 4)) ?_ ?_); rfl; exact ((row_set (row_set (row_set (row_set (row_set (row_set (row_set (row_set HR.out 42 _) 43 _) 44 _) 36 _) 35 _) 34 _) 33 _) 32 _)).trans (by rw [← trap_ca]))
    | (go_at_call 18; refine (r_Order _ HT.out _).mono ?_; rintro e w2 ⟨rfl, hb⟩; have HB2 := hid hb; clear hb)
    | ((with_reducible refine wpL_storeH (x := .tmp 6) (y := .tmp 47) (w.heap.size + 1) ?_ (ordH (trapO o cause value (o.stvec / 4 * 4))) ?_ HV.zero.ca ?_ rfl ?_); rfl; rfl; exact (HB2.out.block _ (by have := lt_of_row HZ.out; simpa [World.setCell] using this)).trans (((Below.heap_setCell _ _ _ _ (by show w.heap.size + 1 ≠ w.heap.size; omega)).trans (((Below.heap_setCell _ _ _ _ (by show w.heap.size + 1 ≠ w.heap.size; omega)).trans (((Below.heap_setCell _ _ _ _ (by show w.heap.size + 1 ≠ w.heap.size; omega)).trans (((Below.heap_setCell _ _ _ _ (by show w.heap.size + 1 ≠ w.heap.size; omega)).trans (((Below.heap_setCell _ _ _ _ (by show w.heap.size + 1 ≠ w.heap.size; omega)).trans (((Below.heap_setCell _ _ _ _ (by show w.heap.size + 1 ≠ w.heap.size; omega)).trans (((Below.heap_setCell _ _ _ _ (by show w.heap.size + 1 ≠ w.heap.size; omega)).trans (((Below.heap_setCell _ _ _ _ (by show w.heap.size + 1 ≠ w.heap.size; omega)).trans (HZ.out)))))))))))))))))))
  have HN : w2.heap[w.heap.size + 1]? = some (.cells HV.zero.ca 25 (0, 0)) := (HB2.out.block _ (by have := lt_of_row HZ.out; simpa [World.setCell] using this)).trans (((Below.heap_setCell _ _ _ _ (by show w.heap.size + 1 ≠ w.heap.size; omega)).trans (((Below.heap_setCell _ _ _ _ (by show w.heap.size + 1 ≠ w.heap.size; omega)).trans (((Below.heap_setCell _ _ _ _ (by show w.heap.size + 1 ≠ w.heap.size; omega)).trans (((Below.heap_setCell _ _ _ _ (by show w.heap.size + 1 ≠ w.heap.size; omega)).trans (((Below.heap_setCell _ _ _ _ (by show w.heap.size + 1 ≠ w.heap.size; omega)).trans (((Below.heap_setCell _ _ _ _ (by show w.heap.size + 1 ≠ w.heap.size; omega)).trans (((Below.heap_setCell _ _ _ _ (by show w.heap.size + 1 ≠ w.heap.size; omega)).trans (((Below.heap_setCell _ _ _ _ (by show w.heap.size + 1 ≠ w.heap.size; omega)).trans (HZ.out)))))))))))))))))
  refine bodyPost_ret (ret_row Tryd.results25 (w.heap.size + 1) (ordH (trapO o cause value (o.stvec / 4 * 4))) rfl (heap_setRow _ _ _ _ _ HN)) rfl ⟨by rw [HO.out], ?_⟩
  have hs := HW.out.size
  refine below_setRow (bT ?_ HB2.out) (by omega) _
  exact ((((((((((((((((HW.out).setCell (p := ⟨w.heap.size, _, none⟩) (Nat.le_refl _) _)).setCell (p := ⟨w.heap.size, _, none⟩) (Nat.le_refl _) _)).setCell (p := ⟨w.heap.size, _, none⟩) (Nat.le_refl _) _)).setCell (p := ⟨w.heap.size, _, none⟩) (Nat.le_refl _) _)).setCell (p := ⟨w.heap.size, _, none⟩) (Nat.le_refl _) _)).setCell (p := ⟨w.heap.size, _, none⟩) (Nat.le_refl _) _)).setCell (p := ⟨w.heap.size, _, none⟩) (Nat.le_refl _) _)).setCell (p := ⟨w.heap.size, _, none⟩) (Nat.le_refl _) _)
set_option maxHeartbeats 1000000 in
set_option maxRecDepth 100000 in
theorem r_Trap_b (h : HV) (ok : HOk h) (cause value : Int) (c0 : 0 ≤ cause) (c1 : cause < 18446744073709551616) (c2 : 9223372036854775808 ≤ cause) (hs : (ordH h).stvec % 2 = 0) (d0 : 0 ≤ value) (d1 : value < 18446744073709551616) (w : World) : Calls Tryd.prog 25 #[h.v, .int .u64 cause, .int .u64 value] w fun e w' => e = .returned (ordH (trapO (ordH h) cause value ((ordH h).stvec / 4 * 4))).v ∧ Below w.heap.size w w' := by
  have OK := hid ok
  have OO := hid (ordOk ok)
  clear ok
  go_enter Tryd.func25, Tryd.ntmps25
  go_upto_region 2 with (first
    | ((with_reducible refine wpList_new (z := .agg HV.zero.ca) HV.zero.ca ?_ ?_ ?_); rfl; exact z_hart)
    | ((with_reducible refine wpL_loadH (x := .tmp 3) w.heap.size ?_ h ?_ ?_); rfl; exact heap2 _ _ _)
    | (go_at_call 18; refine (r_Order h OK.out _).mono ?_; rintro e w1 ⟨rfl, hb⟩; have HB1 := hid hb; clear hb)
    | ((with_reducible refine wpL_storeH (x := .tmp 3) (y := .tmp 9) w.heap.size ?_ (ordH h) ?_ h.ca ?_ rfl ?_); rfl; rfl; exact (HB1.out.block _ (by simp; omega)).trans (heap2 _ _ _)))
  have HP : Hid (w1.heap[w.heap.size]? = some (.cells h.ca 25 (0, 0))) := (HB1.out.block _ (by simp; omega)).trans (heap2 _ _ _)
  have HQ : Hid (w1.heap[w.heap.size + 1]? = some (.cells HV.zero.ca 25 (0, 0))) := (HB1.out.block _ (by simp)).trans (heap2' _ _ _)
  have HB0 : Hid (Below w.heap.size w w1) := (below2 _ _).trans (HB1.out.mono (by simp; omega))
  obtain ⟨o, ho⟩ : ∃ o, o = ordH h := ⟨_, rfl⟩
  rw [← ho] at OO ⊢
  have HO := hid ho
  rw [← ho] at hs
  clear ho
  obtain ⟨wa, hwa⟩ : ∃ wa, wa = w1.setRow w.heap.size o.ca := ⟨_, rfl⟩
  have HR : Hid (wa.heap[w.heap.size]? = some (.cells o.ca 25 (0, 0))) := by show _ = _; rw [hwa]; exact heap_setRow _ _ _ _ _ HP.out
  have HZ : Hid (wa.heap[w.heap.size + 1]? = some (.cells HV.zero.ca 25 (0, 0))) := by show _ = _; rw [hwa, setRow_other _ _ _ _ (by omega)]; exact HQ.out
  have HW : Hid (Below w.heap.size w wa) := by show Below _ _ _; rw [hwa]; exact below_setRow HB0.out (Nat.le_refl _) _
  rw [← hwa]
  clear hwa HP HQ HB0 HB1
  have x32 := row_cellH HR.out 32 (v := .int .u64 o.pc) (by simp [HV.ca, HV.cs])
  have x33 := row_cellH HR.out 33 (v := .bool o.user) (by simp [HV.ca, HV.cs])
  have x34 := row_cellH HR.out 34 (v := .bool o.on) (by simp [HV.ca, HV.cs])
  have x40 := row_cellH HR.out 40 (v := .int .u64 o.stvec) (by simp [HV.ca, HV.cs])
  have x35 := row_cellH HR.out 35 (v := .bool o.spie) (by simp [HV.ca, HV.cs])
  have x36 := row_cellH HR.out 36 (v := .bool o.spp) (by simp [HV.ca, HV.cs])
  have x42 := row_cellH HR.out 42 (v := .int .u64 o.sepc) (by simp [HV.ca, HV.cs])
  have x43 := row_cellH HR.out 43 (v := .int .u64 o.scause) (by simp [HV.ca, HV.cs])
  have x44 := row_cellH HR.out 44 (v := .int .u64 o.stval) (by simp [HV.ca, HV.cs])
  have fz := row_fz HR.out
  obtain ⟨t0, t1⟩ := OO.out.stvec
  have HT : Hid (HOk (trapO o cause value (o.stvec / 4 * 4))) := by
    have := OO.out
    exact ⟨this.x, by show 0 ≤ o.stvec / 4 * 4 ∧ o.stvec / 4 * 4 < 18446744073709551616; omega, this.stvec, this.sscr, this.pc, ⟨c0, by show cause < 18446744073709551616; omega⟩, ⟨d0, d1⟩, this.sie, this.sip, this.satp, this.resv⟩
  go_wp2_with (first
    | ((with_reducible refine wpL_loadH (x := .tmp 3) w.heap.size ?_ (trapO o cause value (o.stvec / 4 * 4)) ?_ ?_); rfl; exact ((row_set (row_set (row_set (row_set (row_set (row_set (row_set (row_set HR.out 42 _) 43 _) 44 _) 36 _) 35 _) 34 _) 33 _) 32 _)).trans (by rw [← trap_ca]))
    | (go_at_call 18; refine (r_Order _ HT.out _).mono ?_; rintro e w2 ⟨rfl, hb⟩; have HB2 := hid hb; clear hb)
    | ((with_reducible refine wpL_storeH (x := .tmp 6) (y := .tmp 47) (w.heap.size + 1) ?_ (ordH (trapO o cause value (o.stvec / 4 * 4))) ?_ HV.zero.ca ?_ rfl ?_); rfl; rfl; exact (HB2.out.block _ (by have := lt_of_row HZ.out; simpa [World.setCell] using this)).trans (((Below.heap_setCell _ _ _ _ (by show w.heap.size + 1 ≠ w.heap.size; omega)).trans (((Below.heap_setCell _ _ _ _ (by show w.heap.size + 1 ≠ w.heap.size; omega)).trans (((Below.heap_setCell _ _ _ _ (by show w.heap.size + 1 ≠ w.heap.size; omega)).trans (((Below.heap_setCell _ _ _ _ (by show w.heap.size + 1 ≠ w.heap.size; omega)).trans (((Below.heap_setCell _ _ _ _ (by show w.heap.size + 1 ≠ w.heap.size; omega)).trans (((Below.heap_setCell _ _ _ _ (by show w.heap.size + 1 ≠ w.heap.size; omega)).trans (((Below.heap_setCell _ _ _ _ (by show w.heap.size + 1 ≠ w.heap.size; omega)).trans (((Below.heap_setCell _ _ _ _ (by show w.heap.size + 1 ≠ w.heap.size; omega)).trans (HZ.out)))))))))))))))))))
  have HN : w2.heap[w.heap.size + 1]? = some (.cells HV.zero.ca 25 (0, 0)) := (HB2.out.block _ (by have := lt_of_row HZ.out; simpa [World.setCell] using this)).trans (((Below.heap_setCell _ _ _ _ (by show w.heap.size + 1 ≠ w.heap.size; omega)).trans (((Below.heap_setCell _ _ _ _ (by show w.heap.size + 1 ≠ w.heap.size; omega)).trans (((Below.heap_setCell _ _ _ _ (by show w.heap.size + 1 ≠ w.heap.size; omega)).trans (((Below.heap_setCell _ _ _ _ (by show w.heap.size + 1 ≠ w.heap.size; omega)).trans (((Below.heap_setCell _ _ _ _ (by show w.heap.size + 1 ≠ w.heap.size; omega)).trans (((Below.heap_setCell _ _ _ _ (by show w.heap.size + 1 ≠ w.heap.size; omega)).trans (((Below.heap_setCell _ _ _ _ (by show w.heap.size + 1 ≠ w.heap.size; omega)).trans (((Below.heap_setCell _ _ _ _ (by show w.heap.size + 1 ≠ w.heap.size; omega)).trans (HZ.out)))))))))))))))))
  refine bodyPost_ret (ret_row Tryd.results25 (w.heap.size + 1) (ordH (trapO o cause value (o.stvec / 4 * 4))) rfl (heap_setRow _ _ _ _ _ HN)) rfl ⟨by rw [HO.out], ?_⟩
  have hs := HW.out.size
  refine below_setRow (bT ?_ HB2.out) (by omega) _
  exact ((((((((((((((((HW.out).setCell (p := ⟨w.heap.size, _, none⟩) (Nat.le_refl _) _)).setCell (p := ⟨w.heap.size, _, none⟩) (Nat.le_refl _) _)).setCell (p := ⟨w.heap.size, _, none⟩) (Nat.le_refl _) _)).setCell (p := ⟨w.heap.size, _, none⟩) (Nat.le_refl _) _)).setCell (p := ⟨w.heap.size, _, none⟩) (Nat.le_refl _) _)).setCell (p := ⟨w.heap.size, _, none⟩) (Nat.le_refl _) _)).setCell (p := ⟨w.heap.size, _, none⟩) (Nat.le_refl _) _)).setCell (p := ⟨w.heap.size, _, none⟩) (Nat.le_refl _) _)
set_option maxHeartbeats 1000000 in
set_option maxRecDepth 100000 in
theorem r_Trap_a (h : HV) (ok : HOk h) (cause value : Int) (c0 : 0 ≤ cause) (c1 : cause < 18446744073709551616) (c2 : 9223372036854775808 ≤ cause) (hs : (ordH h).stvec % 2 = 1) (d0 : 0 ≤ value) (d1 : value < 18446744073709551616) (w : World) : Calls Tryd.prog 25 #[h.v, .int .u64 cause, .int .u64 value] w fun e w' => e = .returned (ordH (trapO (ordH h) cause value (IntKind.u64.wrap ((ordH h).stvec / 4 * 4 + IntKind.u64.wrap (4 * (cause - 9223372036854775808)))))).v ∧ Below w.heap.size w w' := by
  have OK := hid ok
  have OO := hid (ordOk ok)
  clear ok
  go_enter Tryd.func25, Tryd.ntmps25
  go_upto_region 2 with (first
    | ((with_reducible refine wpList_new (z := .agg HV.zero.ca) HV.zero.ca ?_ ?_ ?_); rfl; exact z_hart)
    | ((with_reducible refine wpL_loadH (x := .tmp 3) w.heap.size ?_ h ?_ ?_); rfl; exact heap2 _ _ _)
    | (go_at_call 18; refine (r_Order h OK.out _).mono ?_; rintro e w1 ⟨rfl, hb⟩; have HB1 := hid hb; clear hb)
    | ((with_reducible refine wpL_storeH (x := .tmp 3) (y := .tmp 9) w.heap.size ?_ (ordH h) ?_ h.ca ?_ rfl ?_); rfl; rfl; exact (HB1.out.block _ (by simp; omega)).trans (heap2 _ _ _)))
  have HP : Hid (w1.heap[w.heap.size]? = some (.cells h.ca 25 (0, 0))) := (HB1.out.block _ (by simp; omega)).trans (heap2 _ _ _)
  have HQ : Hid (w1.heap[w.heap.size + 1]? = some (.cells HV.zero.ca 25 (0, 0))) := (HB1.out.block _ (by simp)).trans (heap2' _ _ _)
  have HB0 : Hid (Below w.heap.size w w1) := (below2 _ _).trans (HB1.out.mono (by simp; omega))
  obtain ⟨o, ho⟩ : ∃ o, o = ordH h := ⟨_, rfl⟩
  rw [← ho] at OO ⊢
  have HO := hid ho
  rw [← ho] at hs
  clear ho
  obtain ⟨wa, hwa⟩ : ∃ wa, wa = w1.setRow w.heap.size o.ca := ⟨_, rfl⟩
  have HR : Hid (wa.heap[w.heap.size]? = some (.cells o.ca 25 (0, 0))) := by show _ = _; rw [hwa]; exact heap_setRow _ _ _ _ _ HP.out
  have HZ : Hid (wa.heap[w.heap.size + 1]? = some (.cells HV.zero.ca 25 (0, 0))) := by show _ = _; rw [hwa, setRow_other _ _ _ _ (by omega)]; exact HQ.out
  have HW : Hid (Below w.heap.size w wa) := by show Below _ _ _; rw [hwa]; exact below_setRow HB0.out (Nat.le_refl _) _
  rw [← hwa]
  clear hwa HP HQ HB0 HB1
  have x32 := row_cellH HR.out 32 (v := .int .u64 o.pc) (by simp [HV.ca, HV.cs])
  have x33 := row_cellH HR.out 33 (v := .bool o.user) (by simp [HV.ca, HV.cs])
  have x34 := row_cellH HR.out 34 (v := .bool o.on) (by simp [HV.ca, HV.cs])
  have x40 := row_cellH HR.out 40 (v := .int .u64 o.stvec) (by simp [HV.ca, HV.cs])
  have x35 := row_cellH HR.out 35 (v := .bool o.spie) (by simp [HV.ca, HV.cs])
  have x36 := row_cellH HR.out 36 (v := .bool o.spp) (by simp [HV.ca, HV.cs])
  have x42 := row_cellH HR.out 42 (v := .int .u64 o.sepc) (by simp [HV.ca, HV.cs])
  have x43 := row_cellH HR.out 43 (v := .int .u64 o.scause) (by simp [HV.ca, HV.cs])
  have x44 := row_cellH HR.out 44 (v := .int .u64 o.stval) (by simp [HV.ca, HV.cs])
  have fz := row_fz HR.out
  obtain ⟨t0, t1⟩ := OO.out.stvec
  have HT : Hid (HOk (trapO o cause value (IntKind.u64.wrap (o.stvec / 4 * 4 + IntKind.u64.wrap (4 * (cause - 9223372036854775808)))))) := by
    have := OO.out
    exact ⟨this.x, wrap_b _, this.stvec, this.sscr, this.pc, ⟨c0, by show cause < 18446744073709551616; omega⟩, ⟨d0, d1⟩, this.sie, this.sip, this.satp, this.resv⟩
  go_wp2_with (first
    | ((with_reducible refine wpL_loadH (x := .tmp 3) w.heap.size ?_ (trapO o cause value (IntKind.u64.wrap (o.stvec / 4 * 4 + IntKind.u64.wrap (4 * (cause - 9223372036854775808))))) ?_ ?_); rfl; exact ((row_set (row_set (row_set (row_set (row_set (row_set (row_set (row_set (row_set HR.out 42 _) 43 _) 44 _) 36 _) 35 _) 34 _) 33 _) 32 _) 32 _)).trans (by rw [← trap_ca9]))
    | (go_at_call 18; refine (r_Order _ HT.out _).mono ?_; rintro e w2 ⟨rfl, hb⟩; have HB2 := hid hb; clear hb)
    | ((with_reducible refine wpL_storeH (x := .tmp 6) (y := .tmp 47) (w.heap.size + 1) ?_ (ordH (trapO o cause value (IntKind.u64.wrap (o.stvec / 4 * 4 + IntKind.u64.wrap (4 * (cause - 9223372036854775808)))))) ?_ HV.zero.ca ?_ rfl ?_); rfl; rfl; exact (HB2.out.block _ (by have := lt_of_row HZ.out; simpa [World.setCell] using this)).trans (((Below.heap_setCell _ _ _ _ (by show w.heap.size + 1 ≠ w.heap.size; omega)).trans (((Below.heap_setCell _ _ _ _ (by show w.heap.size + 1 ≠ w.heap.size; omega)).trans (((Below.heap_setCell _ _ _ _ (by show w.heap.size + 1 ≠ w.heap.size; omega)).trans (((Below.heap_setCell _ _ _ _ (by show w.heap.size + 1 ≠ w.heap.size; omega)).trans (((Below.heap_setCell _ _ _ _ (by show w.heap.size + 1 ≠ w.heap.size; omega)).trans (((Below.heap_setCell _ _ _ _ (by show w.heap.size + 1 ≠ w.heap.size; omega)).trans (((Below.heap_setCell _ _ _ _ (by show w.heap.size + 1 ≠ w.heap.size; omega)).trans (((Below.heap_setCell _ _ _ _ (by show w.heap.size + 1 ≠ w.heap.size; omega)).trans (((Below.heap_setCell _ _ _ _ (by show w.heap.size + 1 ≠ w.heap.size; omega)).trans (HZ.out)))))))))))))))))))))
  have HN : w2.heap[w.heap.size + 1]? = some (.cells HV.zero.ca 25 (0, 0)) := (HB2.out.block _ (by have := lt_of_row HZ.out; simpa [World.setCell] using this)).trans (((Below.heap_setCell _ _ _ _ (by show w.heap.size + 1 ≠ w.heap.size; omega)).trans (((Below.heap_setCell _ _ _ _ (by show w.heap.size + 1 ≠ w.heap.size; omega)).trans (((Below.heap_setCell _ _ _ _ (by show w.heap.size + 1 ≠ w.heap.size; omega)).trans (((Below.heap_setCell _ _ _ _ (by show w.heap.size + 1 ≠ w.heap.size; omega)).trans (((Below.heap_setCell _ _ _ _ (by show w.heap.size + 1 ≠ w.heap.size; omega)).trans (((Below.heap_setCell _ _ _ _ (by show w.heap.size + 1 ≠ w.heap.size; omega)).trans (((Below.heap_setCell _ _ _ _ (by show w.heap.size + 1 ≠ w.heap.size; omega)).trans (((Below.heap_setCell _ _ _ _ (by show w.heap.size + 1 ≠ w.heap.size; omega)).trans (((Below.heap_setCell _ _ _ _ (by show w.heap.size + 1 ≠ w.heap.size; omega)).trans (HZ.out)))))))))))))))))))
  refine bodyPost_ret (ret_row Tryd.results25 (w.heap.size + 1) (ordH (trapO o cause value (IntKind.u64.wrap (o.stvec / 4 * 4 + IntKind.u64.wrap (4 * (cause - 9223372036854775808)))))) rfl (heap_setRow _ _ _ _ _ HN)) rfl ⟨by rw [HO.out], ?_⟩
  have hs := HW.out.size
  refine below_setRow (bT ?_ HB2.out) (by omega) _
  exact ((((((((((((((((((HW.out).setCell (p := ⟨w.heap.size, _, none⟩) (Nat.le_refl _) _)).setCell (p := ⟨w.heap.size, _, none⟩) (Nat.le_refl _) _)).setCell (p := ⟨w.heap.size, _, none⟩) (Nat.le_refl _) _)).setCell (p := ⟨w.heap.size, _, none⟩) (Nat.le_refl _) _)).setCell (p := ⟨w.heap.size, _, none⟩) (Nat.le_refl _) _)).setCell (p := ⟨w.heap.size, _, none⟩) (Nat.le_refl _) _)).setCell (p := ⟨w.heap.size, _, none⟩) (Nat.le_refl _) _)).setCell (p := ⟨w.heap.size, _, none⟩) (Nat.le_refl _) _)).setCell (p := ⟨w.heap.size, _, none⟩) (Nat.le_refl _) _)
def trapH (h : HV) (cause value : Int) : HV := ordH (trapO (ordH h) cause value (trapPC (ordH h) cause))
theorem r_Trap (h : HV) (ok : HOk h) (cause value : Int) (c0 : 0 ≤ cause) (c1 : cause < 18446744073709551616) (d0 : 0 ≤ value) (d1 : value < 18446744073709551616) (w : World) : Calls Tryd.prog 25 #[h.v, .int .u64 cause, .int .u64 value] w fun e w' => e = .returned (trapH h cause value).v ∧ Below w.heap.size w w' := by
  unfold trapH trapPC
  by_cases c2 : 9223372036854775808 ≤ cause
  · by_cases hs : (ordH h).stvec % 2 = 1
    · rw [if_pos ⟨c2, hs⟩]; exact r_Trap_a h ok cause value c0 c1 c2 hs d0 d1 w
    · rw [if_neg (fun x => hs x.2)]; exact r_Trap_b h ok cause value c0 c1 c2 (by omega) d0 d1 w
  · rw [if_neg (fun x => c2 x.1)]; exact r_Trap_c h ok cause value c0 (by omega) d0 d1 w
end Go.Proofs.YtkmknjiepegodaaDoor
