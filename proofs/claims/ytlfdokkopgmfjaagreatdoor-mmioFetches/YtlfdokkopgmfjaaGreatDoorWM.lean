/- Two bytes of an instruction: the program's; what a translation comes to is an address. -/
import Derived.Test.YtlfdokkopgmfjaaGreatDoorMH3
import Derived.Test.YtlfdokkopgmfjaaGreatDoorMC5
namespace Go.Proofs.YtlfdokkopgmfjaaGreatDoor
open Go.RowKit
set_option linter.unusedVariables false
set_option maxRecDepth 100000
theorem plOf_pa {R : Int → Int × Int} (hR : C.RdOk R) (root g acc : Int) (r0 : 0 ≤ root) (r1 : root < 18446744073709551616) (g0 : 0 ≤ g) (g1 : g < 18446744073709551616) : 0 ≤ (C.plOf R root g acc).pa ∧ (C.plOf R root g acc).pa < 18446744073709551616 := by
  have hd := C.D_ok hR g 2 2 root (by decide) r0 r1
  show 0 ≤ (C.gst R root g acc).1 ∧ (C.gst R root g acc).1 < 18446744073709551616
  unfold C.gst
  split
  · exact ⟨g0, g1⟩
  · split
    · exact ⟨Int.le_refl 0, show (0 : Int) < 18446744073709551616 by decide⟩
    · split
      · exact ⟨Int.le_refl 0, show (0 : Int) < 18446744073709551616 by decide⟩
      · split
        · have n1 := C.num_b hd.leaf0 hd.leaf1
          have hl := hd.lev
          show 0 ≤ C.plc (C.D R g 2 2 root) g ∧ C.plc (C.D R g 2 2 root) g < 18446744073709551616
          unfold C.plc
          rcases (show (C.D R g 2 2 root).level = 0 ∨ (C.D R g 2 2 root).level = 1 ∨ (C.D R g 2 2 root).level = 2 by omega) with q | q | q
          · rw [q, C.pw0]; omega
          · rw [q, C.pw1]; omega
          · rw [q, C.pw2]; omega
        · exact ⟨Int.le_refl 0, show (0 : Int) < 18446744073709551616 by decide⟩
theorem tr_pa {R : Int → Int × Int} (hR : C.RdOk R) (v : C.EnvV) (va acc : Int) (a0 : 0 ≤ va) (a1 : va < 18446744073709551616) (s0 : 0 ≤ v.satp) (r0 : 0 ≤ v.root) (r1 : v.root < 18446744073709551616) : 0 ≤ (C.tr R v va acc).pa ∧ (C.tr R v va acc).pa < 18446744073709551616 := by
  have hone : 0 ≤ (⟨0, 0, 1, false⟩ : C.PlV).pa ∧ (⟨0, 0, 1, false⟩ : C.PlV).pa < 18446744073709551616 := by decide
  unfold C.tr
  split
  · exact plOf_pa hR v.root va acc r0 r1 a0 a1
  · split
    · unfold C.thr
      have hq := C.D_ok (C.rdg_ok hR v.root r0 r1) va 1 2 (v.satp % 17592186044416) (by decide) (by omega) (by omega)
      generalize C.D (C.rdg R v.root) va 1 2 (v.satp % 17592186044416) = r at *
      split
      · exact hone
      · split
        · exact hone
        · split
          · exact ⟨Int.le_refl 0, show (0 : Int) < 18446744073709551616 by decide⟩
          · split
            · have n1 := C.num_b hq.leaf0 hq.leaf1
              have hl := hq.lev
              refine plOf_pa hR v.root (C.plc r va) acc r0 r1 ?_ ?_
              · unfold C.plc
                rcases (show r.level = 0 ∨ r.level = 1 ∨ r.level = 2 by omega) with q | q | q
                · rw [q, C.pw0]; omega
                · rw [q, C.pw1]; omega
                · rw [q, C.pw2]; omega
              · unfold C.plc
                rcases (show r.level = 0 ∨ r.level = 1 ∨ r.level = 2 by omega) with q | q | q
                · rw [q, C.pw0]; omega
                · rw [q, C.pw1]; omega
                · rw [q, C.pw2]; omega
            · exact hone
    · exact hone
/-- two bytes as a number; are they there -/
def rd2 (bs : Int) (n : Nat) (f : Nat → Int) (a : Int) : Int × Bool := if bs ≤ a ∧ a + 2 ≤ bs + 4096 * n then (C.nu (fun j => f ((a - bs).toNat + j)) 2, true) else (0, false)
theorem rd2_b (bs : Int) (n : Nat) (f : Nat → Int) (hf : ∀ j, 0 ≤ f j ∧ f j < 256) (a : Int) : 0 ≤ (rd2 bs n f a).1 ∧ (rd2 bs n f a).1 < 65536 := by
  unfold rd2
  split
  · have := C.nu_lt (fun j => f ((a - bs).toNat + j)) (fun j => hf _) 2
    exact ⟨this.1, by have := this.2; simpa using this⟩
  · exact ⟨Int.le_refl 0, show (0 : Int) < 65536 by decide⟩
theorem k_Read2 (w : World) (S : Nat → Prop) (p n : Nat) {bs : Int} (f : Nat → Int) (h : C.Mem w S p bs n f) (a : Int) (a0 : 0 ≤ a) (a1 : a < 18446744073709551616) :
    Calls Tryz.prog 54 #[.pointer (some ⟨p, 0, none⟩), .int .u64 a, .int .i64 2] w fun e w' => e = .returned (.tuple #[.int .u64 (rd2 bs n f a).1, .bool (rd2 bs n f a).2]) ∧ Below w.heap.size w w' := by
  by_cases q : bs ≤ a ∧ a + 2 ≤ bs + 4096 * n
  · have hr : rd2 bs n f a = (C.nu (fun j => f ((a - bs).toNat + j)) 2, true) := by unfold rd2; rw [if_pos q]
    rw [hr]
    exact C.c_Read w S p bs n f h (a - bs).toNat 2 (by omega) (by decide) a (by omega)
  · have hr : rd2 bs n f a = (0, false) := by unfold rd2; rw [if_neg q]
    rw [hr]
    exact (C.c_Read_bad w S p bs n f h a 2 a0 a1 (by decide) (by decide) (by simp [C.hasB]; omega)).mono fun e w' hh => ⟨hh.1, hh.2.below _⟩
/-- two bytes of an instruction by a hart's addresses -/
def ha (bs : Int) (n : Nat) (f : Nat → Int) (e : C.EnvV) (va : Int) : Int × Bool := if (C.tr (C.rdm bs n f) e va 1).fault = 0 then rd2 bs n f (C.tr (C.rdm bs n f) e va 1).pa else (0, false)
theorem ha_b (bs : Int) (n : Nat) (f : Nat → Int) (hf : ∀ j, 0 ≤ f j ∧ f j < 256) (e : C.EnvV) (va : Int) : 0 ≤ (ha bs n f e va).1 ∧ (ha bs n f e va).1 < 65536 := by
  unfold ha
  split
  · exact rd2_b bs n f hf _
  · exact ⟨Int.le_refl 0, show (0 : Int) < 65536 by decide⟩
structure EOk (e : C.EnvV) : Prop where
  satp : 0 ≤ e.satp ∧ e.satp < 18446744073709551616
  root : 0 ≤ e.root ∧ e.root < 18446744073709551616
/-- by what a hart's addresses are translated -/
@[reducible] def eO (o : HV) (root : Int) : C.EnvV := ⟨o.satp, root, o.user, o.sum, o.mxr⟩
theorem w16 (v : Int) (h : 0 ≤ v ∧ v < 65536) : IntKind.u16.wrap v = v := by
  have e : IntKind.u16.wrap v = v % 65536 := by simp [IntKind.wrap, IntKind.bits, IntKind.signed]
  rw [e]; omega
@[reducible] def rdCa (p : Nat) (e : C.EnvV) : Array Value := #[.pointer (some ⟨p, 0, none⟩), .int .u64 e.satp, .int .u64 e.root, .bool e.user, .bool e.sum, .bool e.mxr]
@[reducible] def envCa (e : C.EnvV) : Array Value := #[.int .u64 e.satp, .int .u64 e.root, .bool e.user, .bool e.sum, .bool e.mxr]
theorem u_env : Tryz.prog.underlying 47 = some (.struct (Tryz.prog.fieldsOf 47)) := by kernel_rfl
theorem s_env : (Tryz.prog.info? 47).map (·.size) = some 5 := by kernel_rfl
theorem env_sub (p : Nat) (e : C.EnvV) : ∀ j v, (envCa e).toList[j]? = some v → (rdCa p e)[1 + j]? = some v
  | 0, _, h => h
  | 1, _, h => h
  | 2, _, h => h
  | 3, _, h => h
  | 4, _, h => h
  | n + 5, _, h => by simp at h
set_option maxHeartbeats 1000000 in
theorem k_half (w : World) (S : Nat → Prop) (p n : Nat) (bs : Int) (f : Nat → Int) (hm : C.Mem w S p bs n f) (e : C.EnvV) (he : EOk e) (va : Int) (a0 : 0 ≤ va) (a1 : va < 18446744073709551616) :
    Calls Tryz.prog 30 #[.agg (rdCa p e), .int .u64 va] w fun r w' => r = .returned (.tuple #[.int .u16 (ha bs n f e va).1, .bool (ha bs n f e va).2]) ∧ Below w.heap.size w w' := by
  obtain ⟨P, hP⟩ : ∃ P, C.tr (C.rdm bs n f) e va 1 = P := ⟨_, rfl⟩
  have hpa : 0 ≤ P.pa ∧ P.pa < 18446744073709551616 := by rw [← hP]; exact tr_pa (C.rdm_ok n f hm.byt) e va 1 a0 a1 he.satp.1 he.root.1 he.root.2
  obtain ⟨wa, hwa⟩ : ∃ wa, wa = w.alloc (.cells (rdCa p e) 50) := ⟨_, rfl⟩
  have HA : Hid (Below w.heap.size w wa) := by show Below _ _ _; rw [hwa]; exact (Below.refl _ _).alloc (Nat.le_refl _) _
  have HR : Hid (wa.heap[w.heap.size]? = some (.cells (rdCa p e) 50 (0, 0))) := by show _ = _; rw [hwa]; exact heap_alloc_new _ _
  have HM : Hid (C.Mem wa S p bs n f) := hm.below HA.out
  have HT : Hid (Calls Tryz.prog 53 #[.pointer (some ⟨p, 0, none⟩), .agg (envCa e), .int .u64 va, .int .i64 1] wa fun r w' => r = .returned (.agg #[.int .u64 P.pa, .int .u64 P.gpa, .int .i64 P.fault, .bool P.walk]) ∧ Below wa.heap.size wa w') := C.c_Translate wa S p n f HM.out e va 1 a0 a1 he.satp.1 he.satp.2 he.root.1 he.root.2 P hP
  have HWA := hid hwa
  have hv := rd2_b bs n f hm.byt P.pa
  have hh : ha bs n f e va = if P.fault = 0 then rd2 bs n f P.pa else (0, false) := by unfold ha; rw [hP]
  rw [hh]
  clear hh hP hwa a0 a1 he hm
  have HP := hid hpa
  clear hpa
  have hr0 : wa.cell? ⟨w.heap.size, 0, none⟩ = some (.pointer (some ⟨p, 0, none⟩)) := cell_of_row _ _ 0 _ _ _ HR.out
  by_cases h0 : P.fault = 0
  · rw [if_pos h0]
    obtain ⟨r, hr⟩ : ∃ r, r = rd2 bs n f P.pa := ⟨_, rfl⟩
    have HRD : Hid (∀ u, C.Mem u S p bs n f → Calls Tryz.prog 54 #[.pointer (some ⟨p, 0, none⟩), .int .u64 P.pa, .int .i64 2] u fun e w' => e = .returned (.tuple #[.int .u64 r.1, .bool r.2]) ∧ Below u.heap.size u w') := fun u hu => by rw [hr]; exact k_Read2 u S p n f hu P.pa HP.out.1 HP.out.2
    rw [← hr] at hv ⊢
    have h16 := w16 r.1 hv
    clear hr hv
    rw [h0] at HT
    go_enter Tryz.func30, Tryz.ntmps30
    go_upto_region 1 with (fail)
    have hwa := HWA.out
    rw [← hwa]
    clear hwa
    go_upto_region 2 with (first
      | ((with_reducible refine wpL_load_sub (x := .tmp 11) w.heap.size 1 50 (rdCa p e) (envCa e) (.struct (Tryz.prog.fieldsOf 47)) ?_ HR.out ?_ u_env ?_ ?_ ?_); rfl; exact env_sub p e; rfl; exact s_env)
      | (go_at_call 53; refine HT.out.mono ?_; rintro r' w1 ⟨rfl, hb⟩; have HB1 := hid hb; clear hb))
    obtain ⟨g, hg⟩ : ∃ g, g = w1.heap.size := ⟨_, rfl⟩
    obtain ⟨wb, hwb⟩ : ∃ wb, wb = w1.alloc (.cells #[.int .u64 P.pa, .int .u64 P.gpa, .int .i64 0, .bool P.walk] 86) := ⟨_, rfl⟩
    rw [← hg, ← hwb]
    have t1 := lt_of_row HR.out
    have t2 := HB1.out.size
    have HBB : Hid (Below wa.heap.size wa wb) := by show Below _ _ _; rw [hwb]; exact HB1.out.alloc t2 _
    have HWX : Hid (Below w.heap.size w wb) := bT HA.out HBB.out
    have HMB : Hid (C.Mem wb S p bs n f) := HM.out.below HBB.out
    have HP1 : Hid (wb.heap[g]? = some (.cells #[.int .u64 P.pa, .int .u64 P.gpa, .int .i64 0, .bool P.walk] 86 (0, 0))) := by show _ = _; rw [hwb, hg]; exact heap_alloc_new _ _
    have g0 : wb.cell? ⟨g, 0, none⟩ = some (.int .u64 P.pa) := cell_of_row _ _ 0 _ _ _ HP1.out
    have g2 : wb.cell? ⟨g, 2, none⟩ = some (.int .i64 0) := cell_of_row _ _ 2 _ _ _ HP1.out
    have r0 : wb.cell? ⟨w.heap.size, 0, none⟩ = some (.pointer (some ⟨p, 0, none⟩)) := cell_of_row _ _ 0 _ _ _ ((HBB.out.block _ t1).trans HR.out)
    clear hwb hg t1 t2 HBB HB1 hr0
    go_wp2_with (first
      | (go_at_call 54; refine (HRD.out _ HMB.out).mono ?_; rintro r' w2 ⟨rfl, hb⟩; have HB2 := hid hb; clear hb))
    go_ret2
    exact ⟨rfl, bT HWX.out HB2.out⟩
  · rw [if_neg h0]
    have b0 : (P.fault != 0) = true := by simpa using h0
    clear h0
    go_enter Tryz.func30, Tryz.ntmps30
    go_upto_region 1 with (fail)
    have hwa := HWA.out
    rw [← hwa]
    clear hwa
    go_upto_region 2 with (first
      | ((with_reducible refine wpL_load_sub (x := .tmp 11) w.heap.size 1 50 (rdCa p e) (envCa e) (.struct (Tryz.prog.fieldsOf 47)) ?_ HR.out ?_ u_env ?_ ?_ ?_); rfl; exact env_sub p e; rfl; exact s_env)
      | (go_at_call 53; refine HT.out.mono ?_; rintro r' w1 ⟨rfl, hb⟩; have HB1 := hid hb; clear hb))
    obtain ⟨g, hg⟩ : ∃ g, g = w1.heap.size := ⟨_, rfl⟩
    obtain ⟨wb, hwb⟩ : ∃ wb, wb = w1.alloc (.cells #[.int .u64 P.pa, .int .u64 P.gpa, .int .i64 P.fault, .bool P.walk] 86) := ⟨_, rfl⟩
    rw [← hg, ← hwb]
    have t1 := lt_of_row HR.out
    have t2 := HB1.out.size
    have HBB : Hid (Below wa.heap.size wa wb) := by show Below _ _ _; rw [hwb]; exact HB1.out.alloc t2 _
    have HWX : Hid (Below w.heap.size w wb) := bT HA.out HBB.out
    have HMB : Hid (C.Mem wb S p bs n f) := HM.out.below HBB.out
    have HP1 : Hid (wb.heap[g]? = some (.cells #[.int .u64 P.pa, .int .u64 P.gpa, .int .i64 P.fault, .bool P.walk] 86 (0, 0))) := by show _ = _; rw [hwb, hg]; exact heap_alloc_new _ _
    have g0 : wb.cell? ⟨g, 0, none⟩ = some (.int .u64 P.pa) := cell_of_row _ _ 0 _ _ _ HP1.out
    have g2 : wb.cell? ⟨g, 2, none⟩ = some (.int .i64 P.fault) := cell_of_row _ _ 2 _ _ _ HP1.out
    have r0 : wb.cell? ⟨w.heap.size, 0, none⟩ = some (.pointer (some ⟨p, 0, none⟩)) := cell_of_row _ _ 0 _ _ _ ((HBB.out.block _ t1).trans HR.out)
    clear hwb hg t1 t2 HBB HB1 hr0
    go_wp2
    go_ret2
    exact ⟨rfl, HWX.out⟩
end Go.Proofs.YtlfdokkopgmfjaaGreatDoor
