/- Two bytes of an instruction: the document's. -/
import Derived.Test.YtlfdokkopgmfjaaGreatDoorWM
import Derived.Test.YtlfdokkopgmfjaaGreatDoorMC6
import Derived.Test.YtlfdokkopgmfjaaGreatDoorWF
namespace Go.Proofs.YtlfdokkopgmfjaaGreatDoor
open Go.RowKit
set_option linter.unusedVariables false
set_option maxRecDepth 100000
theorem d_Read2 (w : World) (S : Nat → Prop) (p n : Nat) {bs : Int} (f : Nat → Int) (h : C.RMem w S p bs n f) (a : Int) (a0 : 0 ≤ a) (a1 : a < 18446744073709551616) :
    Calls Tryz.prog 34 #[.pointer (some ⟨p, 0, none⟩), .int .u64 a, .int .i64 2] w fun e w' => e = .returned (.tuple #[.int .u64 (rd2 bs n f a).1, .bool (rd2 bs n f a).2]) ∧ Below w.heap.size w w' := by
  by_cases q : bs ≤ a ∧ a + 2 ≤ bs + 4096 * n
  · have hr : rd2 bs n f a = (C.nu (fun j => f ((a - bs).toNat + j)) 2, true) := by unfold rd2; rw [if_pos q]
    rw [hr]
    exact (C.q_Read w S p bs n f h (a - bs).toNat 2 (by omega) (by decide) a (by omega)).mono fun e w' hh => ⟨hh.1, hh.2.below _⟩
  · have hr : rd2 bs n f a = (0, false) := by unfold rd2; rw [if_neg q]
    rw [hr]
    exact (C.q_Read_bad w S p bs n f h a 2 a0 a1 (by decide) (by decide) (by simp [C.wid, C.hasB]; omega)).mono fun e w' hh => ⟨hh.1, hh.2.below _⟩
set_option maxHeartbeats 1000000 in
theorem d_two (w : World) (S : Nat → Prop) (p n : Nat) (bs : Int) (f : Nat → Int) (hm : C.RMem w S p bs n f) (o : HV) (ok : HOk o) (root : Int) (ro : 0 ≤ root ∧ root < 18446744073709551616) (va : Int) (a0 : 0 ≤ va) (a1 : va < 18446744073709551616) :
    Calls Tryz.prog 16 #[.pointer (some ⟨p, 0, none⟩), .int .u64 root, o.v, .int .u64 va] w fun r w' => r = .returned (.tuple #[.int .u64 (ha bs n f (eO o root) va).1, .bool (ha bs n f (eO o root) va).2]) ∧ Below w.heap.size w w' := by
  obtain ⟨P, hP⟩ : ∃ P, C.tr (C.rdm bs n f) (eO o root) va 1 = P := ⟨_, rfl⟩
  have hpa : 0 ≤ P.pa ∧ P.pa < 18446744073709551616 := by rw [← hP]; exact tr_pa (C.rdm_ok n f hm.byt) (eO o root) va 1 a0 a1 ok.satp.1 ro.1 ro.2
  obtain ⟨wa, hwa⟩ : ∃ wa, wa = w.alloc (.cells o.ca 27) := ⟨_, rfl⟩
  have HA : Hid (Below w.heap.size w wa) := by show Below _ _ _; rw [hwa]; exact (Below.refl _ _).alloc (Nat.le_refl _) _
  have HR : Hid (wa.heap[w.heap.size]? = some (.cells o.ca 27 (0, 0))) := by show _ = _; rw [hwa]; exact heap_alloc_new _ _
  have HM : Hid (C.RMem wa S p bs n f) := hm.below HA.out
  have HT : Hid (Calls Tryz.prog 33 #[.pointer (some ⟨p, 0, none⟩), .agg #[.int .u64 o.satp, .int .u64 root, .bool o.user, .bool o.sum, .bool o.mxr], .int .u64 va, .int .i64 1] wa fun r w' => r = .returned (.agg #[.int .u64 P.pa, .int .u64 P.gpa, .int .i64 P.fault, .bool P.walk]) ∧ Below wa.heap.size wa w') := C.q_Translate wa S p n f HM.out (eO o root) va 1 a0 a1 ok.satp.1 ok.satp.2 ro.1 ro.2 P hP
  have HWA := hid hwa
  have hh : ha bs n f (eO o root) va = if P.fault = 0 then rd2 bs n f P.pa else (0, false) := by unfold ha; rw [hP]
  rw [hh]
  clear hh hP hwa a0 a1 ok ro hm
  have HP := hid hpa
  clear hpa
  have x47 := row_cellH HR.out 47 (v := .int .u64 o.satp) (by simp [HV.ca, HV.cs])
  have x33 := row_cellH HR.out 33 (v := .bool o.user) (by simp [HV.ca, HV.cs])
  have x37 := row_cellH HR.out 37 (v := .bool o.sum) (by simp [HV.ca, HV.cs])
  have x38 := row_cellH HR.out 38 (v := .bool o.mxr) (by simp [HV.ca, HV.cs])
  by_cases h0 : P.fault = 0
  · rw [if_pos h0]
    obtain ⟨r, hr⟩ : ∃ r, r = rd2 bs n f P.pa := ⟨_, rfl⟩
    have HRD : Hid (∀ u, C.RMem u S p bs n f → Calls Tryz.prog 34 #[.pointer (some ⟨p, 0, none⟩), .int .u64 P.pa, .int .i64 2] u fun e w' => e = .returned (.tuple #[.int .u64 r.1, .bool r.2]) ∧ Below u.heap.size u w') := fun u hu => by rw [hr]; exact d_Read2 u S p n f hu P.pa HP.out.1 HP.out.2
    rw [← hr]
    clear hr
    rw [h0] at HT
    go_enter Tryz.func16, Tryz.ntmps16
    go_upto_region 1 with (fail)
    have hwa := HWA.out
    rw [← hwa]
    clear hwa
    go_upto_region 2 with (first
      | (go_at_call 33; refine HT.out.mono ?_; rintro r' w1 ⟨rfl, hb⟩; have HB1 := hid hb; clear hb))
    obtain ⟨g, hg⟩ : ∃ g, g = w1.heap.size := ⟨_, rfl⟩
    obtain ⟨wb, hwb⟩ : ∃ wb, wb = w1.alloc (.cells #[.int .u64 P.pa, .int .u64 P.gpa, .int .i64 0, .bool P.walk] 86) := ⟨_, rfl⟩
    rw [← hg, ← hwb]
    have t2 := HB1.out.size
    have HBB : Hid (Below wa.heap.size wa wb) := by show Below _ _ _; rw [hwb]; exact HB1.out.alloc t2 _
    have HWX : Hid (Below w.heap.size w wb) := bT HA.out HBB.out
    have HMB : Hid (C.RMem wb S p bs n f) := HM.out.below HBB.out
    have HP1 : Hid (wb.heap[g]? = some (.cells #[.int .u64 P.pa, .int .u64 P.gpa, .int .i64 0, .bool P.walk] 86 (0, 0))) := by show _ = _; rw [hwb, hg]; exact heap_alloc_new _ _
    have g0 : wb.cell? ⟨g, 0, none⟩ = some (.int .u64 P.pa) := cell_of_row _ _ 0 _ _ _ HP1.out
    have g2 : wb.cell? ⟨g, 2, none⟩ = some (.int .i64 0) := cell_of_row _ _ 2 _ _ _ HP1.out
    clear hwb hg t2 HBB HB1 x47 x33 x37 x38
    go_wp2_with (first
      | (go_at_call 34; refine (HRD.out _ HMB.out).mono ?_; rintro r' w2 ⟨rfl, hb⟩; have HB2 := hid hb; clear hb))
    go_ret2
    exact ⟨rfl, bT HWX.out HB2.out⟩
  · rw [if_neg h0]
    have b0 : (P.fault != 0) = true := by simpa using h0
    clear h0
    go_enter Tryz.func16, Tryz.ntmps16
    go_upto_region 1 with (fail)
    have hwa := HWA.out
    rw [← hwa]
    clear hwa
    go_upto_region 2 with (first
      | (go_at_call 33; refine HT.out.mono ?_; rintro r' w1 ⟨rfl, hb⟩; have HB1 := hid hb; clear hb))
    obtain ⟨g, hg⟩ : ∃ g, g = w1.heap.size := ⟨_, rfl⟩
    obtain ⟨wb, hwb⟩ : ∃ wb, wb = w1.alloc (.cells #[.int .u64 P.pa, .int .u64 P.gpa, .int .i64 P.fault, .bool P.walk] 86) := ⟨_, rfl⟩
    rw [← hg, ← hwb]
    have t2 := HB1.out.size
    have HWX : Hid (Below w.heap.size w wb) := by show Below _ _ _; rw [hwb]; exact bT HA.out (HB1.out.alloc t2 _)
    have HP1 : Hid (wb.heap[g]? = some (.cells #[.int .u64 P.pa, .int .u64 P.gpa, .int .i64 P.fault, .bool P.walk] 86 (0, 0))) := by show _ = _; rw [hwb, hg]; exact heap_alloc_new _ _
    have g2 : wb.cell? ⟨g, 2, none⟩ = some (.int .i64 P.fault) := cell_of_row _ _ 2 _ _ _ HP1.out
    clear hwb hg t2 HB1 x47 x33 x37 x38
    go_wp2
    go_ret2
    exact ⟨rfl, HWX.out⟩
end Go.Proofs.YtlfdokkopgmfjaaGreatDoor
namespace Go.Proofs.YtlfdokkopgmfjaaGreatDoor
open Go.RowKit
set_option linter.unusedVariables false
set_option maxRecDepth 100000
theorem as_ll (W : World) (v : Value) : (Instr.typeAssert (.iface 123 v) 20 123 true).run Tryz.prog W = .ok (.tuple #[v, .bool true]) W := by kernel_rfl
theorem as_sl (W : World) (v : Value) : (Instr.typeAssert (.iface 125 v) 20 123 true).run Tryz.prog W = .ok (.tuple #[B.I.zero.v, .bool false]) W := by kernel_rfl
theorem as_nl (W : World) : (Instr.typeAssert .nilIface 20 123 true).run Tryz.prog W = .ok (.tuple #[B.I.zero.v, .bool false]) W := by kernel_rfl
theorem as_ss (W : World) (v : Value) : (Instr.typeAssert (.iface 125 v) 20 125 true).run Tryz.prog W = .ok (.tuple #[v, .bool true]) W := by kernel_rfl
theorem as_ns (W : World) : (Instr.typeAssert .nilIface 20 125 true).run Tryz.prog W = .ok (.tuple #[B.I.zero.v, .bool false]) W := by kernel_rfl
theorem ret_acc2 {fn : Func} {p u : Tmp} (hf : fn.results = #[.cell p 67, .tmp u]) {tmps : Array Value} {w : World} (g : Nat) (a : AV) (b : Bool) (hp : tmps.getD p undef = .pointer (some ⟨g, 0, none⟩)) (hb : tmps.getD u undef = .bool b) (hg : w.heap[g]? = some (.cells a.ca 67 (0, 0))) : (results fn tmps).run Tryz.prog w = .ok (.tuple #[a.v, .bool b]) w := by
  have hp' : tmps[p]?.getD undef = .pointer (some ⟨g, 0, none⟩) := by simpa using hp
  have hb' : tmps[u]?.getD undef = .bool b := by simpa using hb
  simp [results, hf, hp', hb', asAddr, run_loadVar_row w g 67 67 a.ca (0, 0) (.struct (Tryz.prog.fieldsOf 67)) hg u_acc rfl (by rw [s_acc]; rfl)]
set_option maxHeartbeats 1000000 in
theorem k_plan_load (h : HV) (i : B.I) (r0 : 0 ≤ i.rs1) (r1 : i.rs1 < 32) (long : Int) (w : World) : Calls Tryz.prog 43 #[h.v, .iface 123 i.v, .int .i64 long] w fun e w' => e = .returned (.tuple #[(⟨false, i.sg, i.size, i.rd, long, adr h i.rs1 i.imm, 0⟩ : AV).v, .bool true]) ∧ Below w.heap.size w w' := by
  have HA : Hid (∀ u, Calls Tryz.prog 66 #[h.v, .int .i64 i.rs1, .int .i64 i.imm] u fun e w' => e = .returned (.int .u64 (adr h i.rs1 i.imm)) ∧ Below u.heap.size u w') := fun u => k_address h i.rs1 i.imm r0 r1 u
  have h1 := as_ll
  clear r0 r1
  go_enter Tryz.func43, Tryz.ntmps43
  go_upto_region 4 with (fail)
  obtain ⟨wa, hwa⟩ : ∃ wa, wa = ((w.alloc (.cells h.ca 27)).alloc (.cells (⟨false, false, 0, 0, 0, 0, 0⟩ : AV).ca 67)).alloc (.cells (iCa i) 123) := ⟨_, rfl⟩
  rw [← hwa]
  have HWB : Hid (Below w.heap.size w wa) := by show Below _ _ _; rw [hwa]; exact below3 _ _ _
  have P0 : Hid (wa.heap[w.heap.size]? = some (.cells h.ca 27 (0, 0))) := by show _ = _; rw [hwa]; exact heap3 _ _ _ _
  have P1 : Hid (wa.heap[w.heap.size + 1]? = some (.cells (⟨false, false, 0, 0, 0, 0, 0⟩ : AV).ca 67 (0, 0))) := by show _ = _; rw [hwa]; exact heap3' _ _ _ _
  have P2 : Hid (wa.heap[w.heap.size + 2]? = some (.cells (iCa i) 123 (0, 0))) := by show _ = _; rw [hwa]; exact heap3'' _ _ _ _
  clear hwa
  have H0 : Hid (∀ w', (∃ x : WB wa, w' = x.w) → w'.heap[w.heap.size]? = some (.cells h.ca 27 (0, 0))) := fun w' ⟨x, hx⟩ => by rw [hx]; exact (x.h.block _ (lt_of_row P0.out)).trans P0.out
  have H2 : Hid (∀ w', (∃ x : WB wa, w' = x.w) → w'.heap[w.heap.size + 2]? = some (.cells (iCa i) 123 (0, 0))) := fun w' ⟨x, hx⟩ => by rw [hx]; exact (x.h.block _ (lt_of_row P2.out)).trans P2.out
  refine wp_mid_wb 14 (by kernel_rfl) (by kernel_rfl) (by kernel_rfl) (by decide) (by kernel_rfl) ?_
  simp only [List.take, List.drop]
  repeat
    first
      | ((with_reducible refine wpQuiet_loadH w.heap.size h ?_ H0.out ?_); rfl)
      | ((with_reducible refine wpQuiet_load_one (w.heap.size + 1 + 1) 6 123 (iCa i) (.int .i64 i.size) ?_ ?_ ?_ H2.out ?_ ?_); rfl; exact wd_n; exact fun _ h => lv_int h; rfl)
      | ((with_reducible refine wpQuiet_load_one (w.heap.size + 1 + 1) 7 123 (iCa i) (.bool i.sg) ?_ ?_ ?_ H2.out ?_ ?_); rfl; exact wd_n; exact fun _ h => lv_bool h; rfl)
      | ((with_reducible refine wpQuiet_load_one (w.heap.size + 1 + 1) 2 123 (iCa i) (.int .i64 i.rd) ?_ ?_ ?_ H2.out ?_ ?_); rfl; exact wd_n; exact fun _ h => lv_int h; rfl)
      | ((with_reducible refine wpQuiet_load_one (w.heap.size + 1 + 1) 3 123 (iCa i) (.int .i64 i.rs1) ?_ ?_ ?_ H2.out ?_ ?_); rfl; exact wd_n; exact fun _ h => lv_int h; rfl)
      | ((with_reducible refine wpQuiet_load_one (w.heap.size + 1 + 1) 4 123 (iCa i) (.int .i64 i.rs2) ?_ ?_ ?_ H2.out ?_ ?_); rfl; exact wd_n; exact fun _ h => lv_int h; rfl)
      | ((with_reducible refine wpQuiet_load_one (w.heap.size + 1 + 1) 5 123 (iCa i) (.int .i64 i.imm) ?_ ?_ ?_ H2.out ?_ ?_); rfl; exact wd_n; exact fun _ h => lv_int h; rfl)
      | (refine wpQuiet_step (fun K hK => ?_)
         go_simp
         first
           | (refine hK _ ?_; clear hK K)
           | (refine ⟨_, fun _ => rfl, hK _ ?_⟩; clear hK K)
           | (refine ⟨.int .u64 (adr h i.rs1 i.imm), fun x => ?_, hK _ ?_⟩
              · (go_at_call 66; exact Calls.wb x (HA.out x.w))
              clear hK K))
  refine wpQuiet_nil ?_
  intro _ hx
  obtain ⟨x, rfl⟩ := hx
  have P3 : Hid (x.w.heap[w.heap.size + 1]? = some (.cells (⟨false, false, 0, 0, 0, 0, 0⟩ : AV).ca 67 (0, 0))) := (x.h.block _ (lt_of_row P1.out)).trans P1.out
  have HWX : Hid (Below w.heap.size w x.w) := bT HWB.out x.h
  refine wpOp_store_sub rfl (w.heap.size + 1) 0 rfl 67 (⟨false, false, 0, 0, 0, 0, 0⟩ : AV).ca (⟨false, i.sg, i.size, i.rd, long, adr h i.rs1 i.imm, 0⟩ : AV).ca (⟨false, i.sg, i.size, i.rd, long, adr h i.rs1 i.imm, 0⟩ : AV).ca rfl P3.out rfl (Nat.le_refl 7) (by simp [Value.oneCell']) s_acc ?_
  repeat
    first
      | (refine wpQuiet_step (fun K hK => ?_)
         go_simp
         first
           | (refine hK _ ?_; clear hK K)
           | (refine ⟨_, fun _ => rfl, hK _ ?_⟩; clear hK K))
  refine wpQuiet_nil ?_
  intro _ hx
  obtain ⟨n, rfl⟩ := hx
  have P4 : (x.w.setRow (w.heap.size + 1) (⟨false, i.sg, i.size, i.rd, long, adr h i.rs1 i.imm, 0⟩ : AV).ca).heap[w.heap.size + 1]? = some (.cells (⟨false, i.sg, i.size, i.rd, long, adr h i.rs1 i.imm, 0⟩ : AV).ca 67 (0, 0)) := setRow_heap _ _ _ _ _ _ P3.out
  go_wp2
  exact bodyPost_ret (ret_acc2 Tryz.results43 (w.heap.size + 1) (⟨false, i.sg, i.size, i.rd, long, adr h i.rs1 i.imm, 0⟩ : AV) true rfl rfl P4) rfl ⟨rfl, below_dn (below_setRow HWX.out (by omega) _) n⟩
set_option maxHeartbeats 1000000 in
theorem k_plan_store (h : HV) (ok : HOk h) (i : B.I) (r0 : 0 ≤ i.rs1) (r1 : i.rs1 < 32) (q0 : 0 ≤ i.rs2) (q1 : i.rs2 < 32) (long : Int) (w : World) : Calls Tryz.prog 43 #[h.v, .iface 125 i.v, .int .i64 long] w fun e w' => e = .returned (.tuple #[(⟨true, false, i.size, 0, long, adr h i.rs1 i.imm, A.ext (h.x i.rs2.toNat) i.size false⟩ : AV).v, .bool true]) ∧ Below w.heap.size w w' := by
  have HA : Hid (∀ u, Calls Tryz.prog 66 #[h.v, .int .i64 i.rs1, .int .i64 i.imm] u fun e w' => e = .returned (.int .u64 (adr h i.rs1 i.imm)) ∧ Below u.heap.size u w') := fun u => k_address h i.rs1 i.imm r0 r1 u
  have HX : Hid (∀ u, Calls Tryz.prog 67 #[.int .u64 (h.x i.rs2.toNat), .int .i64 i.size, .bool false] u fun e w' => e = .returned (.int .u64 (A.ext (h.x i.rs2.toNat) i.size false)) ∧ w' = u) := fun u => A.m_Extend _ i.size false (ok.x _).1 (by have := (ok.x i.rs2.toNat).2; omega) u
  have h1 := as_sl
  have h2 := as_ss
  clear r0 r1 ok
  go_enter Tryz.func43, Tryz.ntmps43
  go_upto_region 7 with (fail)
  obtain ⟨wa, hwa⟩ : ∃ wa, wa = ((w.alloc (.cells h.ca 27)).alloc (.cells (⟨false, false, 0, 0, 0, 0, 0⟩ : AV).ca 67)).alloc (.cells (iCa i) 125) := ⟨_, rfl⟩
  rw [← hwa]
  have HWB : Hid (Below w.heap.size w wa) := by show Below _ _ _; rw [hwa]; exact below3 _ _ _
  have P0 : Hid (wa.heap[w.heap.size]? = some (.cells h.ca 27 (0, 0))) := by show _ = _; rw [hwa]; exact heap3 _ _ _ _
  have P1 : Hid (wa.heap[w.heap.size + 1]? = some (.cells (⟨false, false, 0, 0, 0, 0, 0⟩ : AV).ca 67 (0, 0))) := by show _ = _; rw [hwa]; exact heap3' _ _ _ _
  have P2 : Hid (wa.heap[w.heap.size + 2]? = some (.cells (iCa i) 125 (0, 0))) := by show _ = _; rw [hwa]; exact heap3'' _ _ _ _
  clear hwa
  have i2 : wa.cell? ⟨w.heap.size + 2, 4, none⟩ = some (.int .i64 i.rs2) := cell_of_row _ _ 4 _ _ _ P2.out
  have i6 : wa.cell? ⟨w.heap.size + 2, 6, none⟩ = some (.int .i64 i.size) := cell_of_row _ _ 6 _ _ _ P2.out
  have xr := row_cellH P0.out i.rs2.toNat (v := .int .u64 (h.x i.rs2.toNat)) (by simp only [HV.ca, List.getElem?_toArray]; exact hv_x h _ (by omega))
  obtain ⟨v, hv⟩ : ∃ v, v = A.ext (h.x i.rs2.toNat) i.size false := ⟨_, rfl⟩
  have HV := hid hv
  rw [← hv] at HX
  clear hv
  go_quiet (first | (go_at_call 67; with_reducible exact Calls.quiet_of_same (HX.out _)))
  go_upto_region 8 with (fail)
  clear i2 i6 xr h1 h2
  have H0 : Hid (∀ w', (∃ x : WB (wa.drewN nq), w' = x.w) → w'.heap[w.heap.size]? = some (.cells h.ca 27 (0, 0))) := fun w' ⟨x, hx⟩ => by rw [hx]; exact (x.h.block _ (lt_of_row P0.out)).trans P0.out
  have H2 : Hid (∀ w', (∃ x : WB (wa.drewN nq), w' = x.w) → w'.heap[w.heap.size + 2]? = some (.cells (iCa i) 125 (0, 0))) := fun w' ⟨x, hx⟩ => by rw [hx]; exact (x.h.block _ (lt_of_row P2.out)).trans P2.out
  refine wp_mid_wb 11 (by kernel_rfl) (by kernel_rfl) (by kernel_rfl) (by decide) (by kernel_rfl) ?_
  simp only [List.take, List.drop]
  repeat
    first
      | ((with_reducible refine wpQuiet_loadH w.heap.size h ?_ H0.out ?_); rfl)
      | ((with_reducible refine wpQuiet_load_one (w.heap.size + 1 + 1) 6 125 (iCa i) (.int .i64 i.size) ?_ ?_ ?_ H2.out ?_ ?_); rfl; exact wd_n; exact fun _ h => lv_int h; rfl)
      | ((with_reducible refine wpQuiet_load_one (w.heap.size + 1 + 1) 7 125 (iCa i) (.bool i.sg) ?_ ?_ ?_ H2.out ?_ ?_); rfl; exact wd_n; exact fun _ h => lv_bool h; rfl)
      | ((with_reducible refine wpQuiet_load_one (w.heap.size + 1 + 1) 2 125 (iCa i) (.int .i64 i.rd) ?_ ?_ ?_ H2.out ?_ ?_); rfl; exact wd_n; exact fun _ h => lv_int h; rfl)
      | ((with_reducible refine wpQuiet_load_one (w.heap.size + 1 + 1) 3 125 (iCa i) (.int .i64 i.rs1) ?_ ?_ ?_ H2.out ?_ ?_); rfl; exact wd_n; exact fun _ h => lv_int h; rfl)
      | ((with_reducible refine wpQuiet_load_one (w.heap.size + 1 + 1) 4 125 (iCa i) (.int .i64 i.rs2) ?_ ?_ ?_ H2.out ?_ ?_); rfl; exact wd_n; exact fun _ h => lv_int h; rfl)
      | ((with_reducible refine wpQuiet_load_one (w.heap.size + 1 + 1) 5 125 (iCa i) (.int .i64 i.imm) ?_ ?_ ?_ H2.out ?_ ?_); rfl; exact wd_n; exact fun _ h => lv_int h; rfl)
      | (refine wpQuiet_step (fun K hK => ?_)
         go_simp
         first
           | (refine hK _ ?_; clear hK K)
           | (refine ⟨_, fun _ => rfl, hK _ ?_⟩; clear hK K)
           | (refine ⟨.int .u64 (adr h i.rs1 i.imm), fun x => ?_, hK _ ?_⟩
              · (go_at_call 66; exact Calls.wb x (HA.out x.w))
              clear hK K))
  refine wpQuiet_nil ?_
  intro _ hx
  obtain ⟨x, rfl⟩ := hx
  have P3 : Hid (x.w.heap[w.heap.size + 1]? = some (.cells (⟨false, false, 0, 0, 0, 0, 0⟩ : AV).ca 67 (0, 0))) := (x.h.block _ (lt_of_row P1.out)).trans P1.out
  have HWX : Hid (Below w.heap.size w x.w) := bT (below_dn HWB.out nq) x.h
  refine wpOp_store_sub rfl (w.heap.size + 1) 0 rfl 67 (⟨false, false, 0, 0, 0, 0, 0⟩ : AV).ca (⟨true, false, i.size, 0, long, adr h i.rs1 i.imm, v⟩ : AV).ca (⟨true, false, i.size, 0, long, adr h i.rs1 i.imm, v⟩ : AV).ca rfl P3.out rfl (Nat.le_refl 7) (by simp [Value.oneCell']) s_acc ?_
  repeat
    first
      | (refine wpQuiet_step (fun K hK => ?_)
         go_simp
         first
           | (refine hK _ ?_; clear hK K)
           | (refine ⟨_, fun _ => rfl, hK _ ?_⟩; clear hK K))
  refine wpQuiet_nil ?_
  intro _ hx
  obtain ⟨n, rfl⟩ := hx
  have P4 : (x.w.setRow (w.heap.size + 1) (⟨true, false, i.size, 0, long, adr h i.rs1 i.imm, v⟩ : AV).ca).heap[w.heap.size + 1]? = some (.cells (⟨true, false, i.size, 0, long, adr h i.rs1 i.imm, v⟩ : AV).ca 67 (0, 0)) := setRow_heap _ _ _ _ _ _ P3.out
  go_wp2
  exact bodyPost_ret (ret_acc2 Tryz.results43 (w.heap.size + 1) (⟨true, false, i.size, 0, long, adr h i.rs1 i.imm, v⟩ : AV) true rfl rfl P4) rfl ⟨by rw [HV.out], below_dn (below_setRow HWX.out (by omega) _) n⟩
end Go.Proofs.YtlfdokkopgmfjaaGreatDoor
namespace Go.Proofs.YtlfdokkopgmfjaaGreatDoor
open Go.RowKit
set_option linter.unusedVariables false
set_option maxRecDepth 100000
theorem withF_no {p : B.I × Bool} {rd r1 r2 im : Int} (h : (B.withF p rd r1 r2 im).2 = false) : (B.withF p rd r1 r2 im).1 = B.I.zero := by
  unfold B.withF at h ⊢
  split at h
  · cases h
  · rw [if_neg (by assumption)]; rfl
theorem ite_no {c : Prop} [Decidable c] {x y : B.I × Bool} {z : B.I} (hx : x.2 = false → x.1 = z) (hy : y.2 = false → y.1 = z) : (if c then x else y).2 = false → (if c then x else y).1 = z := by
  split
  · exact hx
  · exact hy
theorem D_no (a : Int) : (B.D a).2 = false → (B.D a).1 = B.I.zero := by
  unfold B.D
  repeat (refine ite_no withF_no ?_)
  exact fun _ => rfl
/-- registers as an instruction that is read names them -/
theorem D_b (a : Int) (h0 : 0 ≤ a) (h1 : a < 4294967296) (hk : (B.D a).1.kind = 6 ∨ (B.D a).1.kind = 7) : (B.D a).2 = true ∧ (0 ≤ (B.D a).1.rs1 ∧ (B.D a).1.rs1 < 32) ∧ (0 ≤ (B.D a).1.rs2 ∧ (B.D a).1.rs2 < 32) := by
  cases hd : (B.D a).2
  · rw [D_no a hd] at hk
    rcases hk with hk | hk <;> exact absurd hk (by decide)
  · have f := B.D_fok a h0 h1 hd
    have := f.rs1; have := f.rs2
    exact ⟨rfl, by omega, by omega⟩
def plF (o : HV) (i : B.I) (long : Int) : AV × Bool :=
  if i.kind = 6 then (⟨false, i.sg, i.size, i.rd, long, adr o i.rs1 i.imm, 0⟩, true)
  else if i.kind = 7 then (⟨true, false, i.size, 0, long, adr o i.rs1 i.imm, A.ext (o.x i.rs2.toNat) i.size false⟩, true) else (⟨false, false, 0, 0, 0, 0, 0⟩, false)
set_option maxHeartbeats 1000000 in
theorem k_plan_none (h : HV) (long : Int) (w : World) : Calls Tryz.prog 43 #[h.v, .nilIface, .int .i64 long] w fun e w' => e = .returned (.tuple #[(⟨false, false, 0, 0, 0, 0, 0⟩ : AV).v, .bool false]) ∧ Below w.heap.size w w' := by
  have h1 := as_nl
  have h2 := as_ns
  have P1 : ((w.alloc (.cells h.ca 27)).alloc (.cells (⟨false, false, 0, 0, 0, 0, 0⟩ : AV).ca 67)).heap[w.heap.size + 1]? = some (.cells (⟨false, false, 0, 0, 0, 0, 0⟩ : AV).ca 67 (0, 0)) := heap2' _ _ _
  go_enter Tryz.func43, Tryz.ntmps43
  go_wp2_with (first
    | ((with_reducible refine wpL_store_sub (x := .tmp 6) (y := .tmp 51) (w.heap.size + 1) 0 67 (⟨false, false, 0, 0, 0, 0, 0⟩ : AV).ca (⟨false, false, 0, 0, 0, 0, 0⟩ : AV).ca (⟨false, false, 0, 0, 0, 0, 0⟩ : AV).ca ?_ ?_ P1 ?_ ?_ ?_ ?_ ?_); rfl; rfl; rfl; exact (Nat.le_refl 7); (simp [Value.oneCell']); exact s_acc))
  refine bodyPost_ret (ret_acc2 Tryz.results43 (w.heap.size + 1) ⟨false, false, 0, 0, 0, 0, 0⟩ false rfl rfl (setRow_heap _ _ _ _ _ _ P1)) rfl ⟨rfl, below_setRow (below2 _ _) (by omega) _⟩
theorem k_plan (h : HV) (ok : HOk h) (i : B.I) (hb : i.kind = 6 ∨ i.kind = 7 → (0 ≤ i.rs1 ∧ i.rs1 < 32) ∧ (0 ≤ i.rs2 ∧ i.rs2 < 32)) (long : Int) (w : World) : Calls Tryz.prog 43 #[h.v, kndV i, .int .i64 long] w fun e w' => e = .returned (.tuple #[(plF h i long).1.v, .bool (plF h i long).2]) ∧ Below w.heap.size w w' := by
  unfold kndV plF
  by_cases h6 : i.kind = 6
  · rw [if_pos h6, if_pos h6]
    have q := hb (.inl h6)
    exact k_plan_load h i q.1.1 q.1.2 long w
  rw [if_neg h6, if_neg h6]
  by_cases h7 : i.kind = 7
  · rw [if_pos h7, if_pos h7]
    have q := hb (.inr h7)
    exact k_plan_store h ok i q.1.1 q.1.2 q.2.1 q.2.2 long w
  rw [if_neg h7, if_neg h7]
  exact k_plan_none h long w
set_option maxHeartbeats 1000000 in
theorem k_Plan (h : HV) (ok : HOk h) (a : Int) (h0 : 0 ≤ a) (h1 : a < 4294967296) (long : Int) (w : World) (hG : B.G w) : Calls Tryz.prog 22 #[h.v, .int .u32 a, .int .i64 long] w fun e w' => e = .returned (.tuple #[(plF (ordH h) (B.D a).1 long).1.v, .bool (plF (ordH h) (B.D a).1 long).2]) ∧ Below w.heap.size w w' := by
  have HO : Hid (∀ u, Calls Tryz.prog 12 #[h.v] u fun e w' => e = .returned (ordH h).v ∧ Below u.heap.size u w') := fun u => k_inOrder h ok u
  have HD : Hid (Calls Tryz.prog 42 #[.int .u32 a] ((w.alloc (.cells h.ca 27)).alloc (.cells (⟨false, false, 0, 0, 0, 0, 0⟩ : AV).ca 67)) fun e w' => e = .returned (.tuple #[(B.D a).1.v, .bool (B.D a).2]) ∧ Below ((w.alloc (.cells h.ca 27)).alloc (.cells (⟨false, false, 0, 0, 0, 0, 0⟩ : AV).ca 67)).heap.size ((w.alloc (.cells h.ca 27)).alloc (.cells (⟨false, false, 0, 0, 0, 0, 0⟩ : AV).ca 67)) w') := B.m_Decode a h0 h1 _ ((hG.alloc _).alloc _)
  have HP : Hid (∀ u, Calls Tryz.prog 43 #[(ordH h).v, kndV (B.D a).1, .int .i64 long] u fun e w' => e = .returned (.tuple #[(plF (ordH h) (B.D a).1 long).1.v, .bool (plF (ordH h) (B.D a).1 long).2]) ∧ Below u.heap.size u w') := fun u => k_plan (ordH h) (ordOk ok) (B.D a).1 (fun hk => (D_b a h0 h1 hk).2) long u
  have HK : Hid (∀ u, Calls Tryz.prog 44 #[(B.D a).1.v] u fun e w' => e = .returned (kndV (B.D a).1) ∧ Below u.heap.size u w') := fun u => k_kindOf _ u
  clear ok h0 h1 hG
  obtain ⟨r, hr⟩ : ∃ r, r = plF (ordH h) (B.D a).1 long := ⟨_, rfl⟩
  rw [← hr] at HP ⊢
  clear hr
  obtain ⟨i, hi⟩ : ∃ i, i = (B.D a).1 := ⟨_, rfl⟩
  obtain ⟨b, hb⟩ : ∃ b, b = (B.D a).2 := ⟨_, rfl⟩
  rw [← hi] at HP HK
  rw [← hi, ← hb] at HD
  clear hi hb
  obtain ⟨o, ho⟩ : ∃ o, o = ordH h := ⟨_, rfl⟩
  rw [← ho] at HO HP
  clear ho
  go_enter Tryz.func22, Tryz.ntmps22
  go_upto_region 2 with (first
    | (go_at_call 42; refine HD.out.mono ?_; rintro e w1 ⟨rfl, hb⟩; have HB1 := hid hb; clear hb))
  obtain ⟨g, hg⟩ : ∃ g, g = w1.heap.size := ⟨_, rfl⟩
  obtain ⟨wa, hwa⟩ : ∃ wa, wa = w1.alloc (.cells (iCa i) 92) := ⟨_, rfl⟩
  rw [← hg, ← hwa]
  have HWB : Hid (Below w.heap.size w wa) := by show Below _ _ _; rw [hwa]; exact ((below2 _ _).trans (HB1.out.mono (by simp; omega))).alloc (by have := HB1.out.size; simp at this; omega) _
  have P0 : Hid (wa.heap[w.heap.size]? = some (.cells h.ca 27 (0, 0))) := by show _ = _; rw [hwa, heap_alloc_old _ _ (by have := HB1.out.size; simp at this; omega)]; exact (HB1.out.block _ (by simp; omega)).trans (heap2 _ _ _)
  have P1 : Hid (wa.heap[w.heap.size + 1]? = some (.cells (⟨false, false, 0, 0, 0, 0, 0⟩ : AV).ca 67 (0, 0))) := by show _ = _; rw [hwa, heap_alloc_old _ _ (by have := HB1.out.size; simp at this; omega)]; exact (HB1.out.block _ (by simp)).trans (heap2' _ _ _)
  have P2 : Hid (wa.heap[g]? = some (.cells (iCa i) 92 (0, 0))) := by show _ = _; rw [hwa, hg]; exact heap_alloc_new _ _
  clear hwa hg HB1
  have H0 : Hid (∀ w', (∃ x : WB wa, w' = x.w) → w'.heap[w.heap.size]? = some (.cells h.ca 27 (0, 0))) := fun w' ⟨x, hx⟩ => by rw [hx]; exact (x.h.block _ (lt_of_row P0.out)).trans P0.out
  have H2 : Hid (∀ w', (∃ x : WB wa, w' = x.w) → w'.heap[g]? = some (.cells (iCa i) 92 (0, 0))) := fun w' ⟨x, hx⟩ => by rw [hx]; exact (x.h.block _ (lt_of_row P2.out)).trans P2.out
  refine wp_mid_wb 8 (by kernel_rfl) (by kernel_rfl) (by kernel_rfl) (by decide) (by kernel_rfl) ?_
  simp only [List.take, List.drop]
  repeat
    first
      | ((with_reducible refine wpQuiet_loadH w.heap.size h ?_ H0.out ?_); rfl)
      | ((with_reducible refine wpQuiet_load_sub g 0 92 (iCa i) (iCa i) (Tryz.prog.fieldsOf 92) ?_ ?_ H2.out ?_ u_inst ?_ ?_); rfl; exact wd_n; exact sub_self (iCa i); exact s_inst)
      | (refine wpQuiet_step (fun K hK => ?_)
         go_simp
         first
           | (refine hK _ ?_; clear hK K)
           | (refine ⟨_, fun _ => rfl, hK _ ?_⟩; clear hK K)
           | (refine ⟨o.v, fun x => ?_, hK _ ?_⟩
              · (go_at_call 12; exact Calls.wb x (HO.out x.w))
              clear hK K)
           | (refine ⟨kndV i, fun x => ?_, hK _ ?_⟩
              · (go_at_call 44; exact Calls.wb x (HK.out x.w))
              clear hK K)
           | (refine ⟨.tuple #[r.1.v, .bool r.2], fun x => ?_, hK _ ?_⟩
              · (go_at_call 43; exact Calls.wb x (HP.out x.w))
              clear hK K))
  refine wpQuiet_nil ?_
  intro _ hx
  obtain ⟨x, rfl⟩ := hx
  have P3 : Hid (x.w.heap[w.heap.size + 1]? = some (.cells (⟨false, false, 0, 0, 0, 0, 0⟩ : AV).ca 67 (0, 0))) := (x.h.block _ (lt_of_row P1.out)).trans P1.out
  have HWX : Hid (Below w.heap.size w x.w) := bT HWB.out x.h
  refine wpOp_store_sub rfl (w.heap.size + 1) 0 rfl 67 (⟨false, false, 0, 0, 0, 0, 0⟩ : AV).ca r.1.ca r.1.ca rfl P3.out rfl (Nat.le_refl 7) (by simp [Value.oneCell']) s_acc ?_
  repeat
    first
      | (refine wpQuiet_step (fun K hK => ?_)
         go_simp
         first
           | (refine hK _ ?_; clear hK K)
           | (refine ⟨_, fun _ => rfl, hK _ ?_⟩; clear hK K))
  refine wpQuiet_nil ?_
  intro _ hx
  obtain ⟨n, rfl⟩ := hx
  have P4 : (x.w.setRow (w.heap.size + 1) r.1.ca).heap[w.heap.size + 1]? = some (.cells r.1.ca 67 (0, 0)) := setRow_heap _ _ _ _ _ _ P3.out
  go_wp2
  exact bodyPost_ret (ret_acc2 Tryz.results22 (w.heap.size + 1) r.1 r.2 rfl rfl P4) rfl ⟨rfl, below_dn (below_setRow HWX.out (by omega) _) n⟩
end Go.Proofs.YtlfdokkopgmfjaaGreatDoor
