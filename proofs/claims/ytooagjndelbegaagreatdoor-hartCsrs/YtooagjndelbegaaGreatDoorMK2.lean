/- Both Reads answer alike, and both Writes. -/
import Derived.Test.YtooagjndelbegaaGreatDoorMK1
import Derived.Test.YtooagjndelbegaaGreatDoorMH4
import Derived.Test.YtooagjndelbegaaGreatDoorMH5
namespace Go.Proofs.YtooagjndelbegaaGreatDoor
open Go.RowKit
set_option linter.unusedVariables false
set_option maxRecDepth 100000

theorem both_Read (h : HV) (ok : HOk h) (csr now : Int) : ∃ n b, (∀ u, Calls Tryz.prog 20 #[h.v, .int .i64 csr, .int .u64 now] u fun e w' => e = .returned (.tuple #[.int .u64 n, .bool b]) ∧ Below u.heap.size u w') ∧ (∀ u, Calls Tryz.prog 21 #[h.v, .int .i64 csr, .int .u64 now] u fun e w' => e = .returned (.tuple #[.int .u64 n, .bool b]) ∧ Below u.heap.size u w') := by
  by_cases c0 : csr = 3073
  · exact ⟨_, _, fun u => md_now h ok csr now u c0, fun u => rd_now h ok csr now u c0⟩
  by_cases hu : (ordH h).user = true
  · exact ⟨_, _, fun u => md_user h ok csr now u c0 hu, fun u => rd_user h ok csr now u c0 hu⟩
  replace hu : (ordH h).user = false := by simpa using hu
  by_cases c1 : csr = 256
  · exact ⟨_, _, fun u => md_st h ok csr now u c1 hu, fun u => rd_st h ok csr now u c1 hu⟩
  by_cases c260 : csr = 260
  · exact ⟨_, _, fun u => md_104 h ok csr now u c260 hu, fun u => rd_104 h ok csr now u c260 hu⟩
  by_cases c261 : csr = 261
  · exact ⟨_, _, fun u => md_105 h ok csr now u c261 hu, fun u => rd_105 h ok csr now u c261 hu⟩
  by_cases c320 : csr = 320
  · exact ⟨_, _, fun u => md_140 h ok csr now u c320 hu, fun u => rd_140 h ok csr now u c320 hu⟩
  by_cases c321 : csr = 321
  · exact ⟨_, _, fun u => md_141 h ok csr now u c321 hu, fun u => rd_141 h ok csr now u c321 hu⟩
  by_cases c322 : csr = 322
  · exact ⟨_, _, fun u => md_142 h ok csr now u c322 hu, fun u => rd_142 h ok csr now u c322 hu⟩
  by_cases c323 : csr = 323
  · exact ⟨_, _, fun u => md_143 h ok csr now u c323 hu, fun u => rd_143 h ok csr now u c323 hu⟩
  by_cases c324 : csr = 324
  · exact ⟨_, _, fun u => md_144 h ok csr now u c324 hu, fun u => rd_144 h ok csr now u c324 hu⟩
  by_cases c384 : csr = 384
  · exact ⟨_, _, fun u => md_180 h ok csr now u c384 hu, fun u => rd_180 h ok csr now u c384 hu⟩
  exact ⟨_, _, fun u => md_no h ok csr now u c0 c1 c260 c261 c320 c321 c322 c323 c324 c384 hu, fun u => rd_no h ok csr now u c0 c1 c260 c261 c320 c321 c322 c323 c324 c384 hu⟩
theorem both_Write (h : HV) (ok : HOk h) (csr v : Int) (r : 0 ≤ v ∧ v < 18446744073709551616) : ∃ (g : HV) (b : Bool), (∀ u, Calls Tryz.prog 22 #[h.v, .int .i64 csr, .int .u64 v] u fun e w' => e = .returned (.tuple #[g.v, .bool b]) ∧ Below u.heap.size u w') ∧ (∀ u, Calls Tryz.prog 23 #[h.v, .int .i64 csr, .int .u64 v] u fun e w' => e = .returned (.tuple #[g.v, .bool b]) ∧ Below u.heap.size u w') := by
  by_cases hu : (ordH h).user = true
  · exact ⟨_, _, fun u => mw_user h ok csr v r u hu, fun u => rw_user h ok csr v r u hu⟩
  replace hu : (ordH h).user = false := by simpa using hu
  by_cases c1 : csr = 256
  · exact ⟨_, _, fun u => mw_st h ok csr v r u c1 hu, fun u => rw_st h ok csr v r u c1 hu⟩
  by_cases c260 : csr = 260
  · exact ⟨_, _, fun u => mw_sie h ok csr v r u c260 hu, fun u => rw_sie h ok csr v r u c260 hu⟩
  by_cases c261 : csr = 261
  · exact ⟨_, _, fun u => mw_stvec h ok csr v r u c261 hu, fun u => rw_stvec h ok csr v r u c261 hu⟩
  by_cases c320 : csr = 320
  · exact ⟨_, _, fun u => mw_sscr h ok csr v r u c320 hu, fun u => rw_sscr h ok csr v r u c320 hu⟩
  by_cases c321 : csr = 321
  · exact ⟨_, _, fun u => mw_sepc h ok csr v r u c321 hu, fun u => rw_sepc h ok csr v r u c321 hu⟩
  by_cases c322 : csr = 322
  · exact ⟨_, _, fun u => mw_scause h ok csr v r u c322 hu, fun u => rw_scause h ok csr v r u c322 hu⟩
  by_cases c323 : csr = 323
  · exact ⟨_, _, fun u => mw_stval h ok csr v r u c323 hu, fun u => rw_stval h ok csr v r u c323 hu⟩
  by_cases c324 : csr = 324
  · exact ⟨_, _, fun u => mw_sip h ok csr v r u c324 hu, fun u => rw_sip h ok csr v r u c324 hu⟩
  by_cases c384 : csr = 384
  · by_cases q : v / 1152921504606846976 = 0
    · have e : saO (ordH h) v = pu_satp (ordH h) v := if_pos (.inl q)
      exact ⟨_, _, fun u => mw_satp h ok csr v r u c384 hu, fun u => by rw [e]; exact rw_satp_a h ok csr v r u c384 hu (by simpa using q)⟩
    · by_cases q2 : v / 1152921504606846976 = 8
      · have e : saO (ordH h) v = pu_satp (ordH h) v := if_pos (.inr q2)
        exact ⟨_, _, fun u => mw_satp h ok csr v r u c384 hu, fun u => by rw [e]; exact rw_satp_b h ok csr v r u c384 hu (by simpa using q) (by simpa using q2)⟩
      · have e : saO (ordH h) v = ordH h := if_neg (fun z => z.elim q q2)
        exact ⟨_, _, fun u => mw_satp h ok csr v r u c384 hu, fun u => by rw [e]; exact rw_satp_c h ok csr v r u c384 hu (by simpa using q) (by simpa using q2)⟩
  exact ⟨_, _, fun u => mw_no h ok csr v r u c1 c260 c261 c320 c321 c322 c323 c324 c384 hu, fun u => rw_no h ok csr v r u c1 c260 c261 c320 c321 c322 c323 c324 c384 hu⟩
end Go.Proofs.YtooagjndelbegaaGreatDoor
namespace Go.Proofs.YtooagjndelbegaaGreatDoor
open Go.RowKit
set_option linter.unusedVariables false
set_option maxRecDepth 100000

set_option maxHeartbeats 2000000 in
theorem w_HartCsrs (h : HV) (csr value now : Int) (ok : HOk h) (pc : -9223372036854775808 ≤ csr ∧ csr < 9223372036854775808) (p : 0 ≤ value ∧ value < 18446744073709551616) (p0 : 0 ≤ now ∧ now < 18446744073709551616) (w : World) (hG : B.G w) :
    Calls Tryz.prog 6 #[h.v, .int .i64 csr, .int .u64 value, .int .u64 now] w fun e w' => e = .returned (.bool true) ∧ Below w.heap.size w w' := by
  obtain ⟨n, b, r1, r2⟩ := both_Read h ok csr now
  obtain ⟨g, c, s1, s2⟩ := both_Write h ok csr value p
  have R1 := hid r1
  have R2 := hid r2
  have S1 := hid s1
  have S2 := hid s2
  have HG := hid hG
  have heq := run_eqH g
  clear r1 r2 s1 s2 hG ok pc p p0
  go_enter Tryz.func6, Tryz.ntmps6
  go_upto_region 2 with (first
    | ((with_reducible refine wpL_loadH (x := .tmp 4) w.heap.size ?_ h ?_ ?_); rfl; exact heap1 _ _)
    | (go_at_call 20; refine (R1.out _).mono ?_; rintro e w1 ⟨rfl, hb⟩; have HB1 := hid hb; clear hb))
  have A1 : Hid (w1.heap[w.heap.size]? = some (.cells h.ca 28 (0, 0))) := (HB1.out.block _ (by simp)).trans (heap1 _ _)
  have B1 : Hid (Below w.heap.size w w1) := ((Below.refl _ _).alloc (Nat.le_refl _) _).trans (HB1.out.mono (by simp))
  clear HB1
  go_upto_region 3 with (first
    | ((with_reducible refine wpL_loadH (x := .tmp 4) w.heap.size ?_ h ?_ ?_); rfl; exact A1.out)
    | (go_at_call 21; refine (R2.out _).mono ?_; rintro e w2 ⟨rfl, hb⟩; have HB2 := hid hb; clear hb))
  have A2 : Hid (w2.heap[w.heap.size]? = some (.cells h.ca 28 (0, 0))) := (HB2.out.block _ (lt_of_row A1.out)).trans A1.out
  have B2 : Hid (Below w.heap.size w w2) := bT B1.out HB2.out
  clear HB2 A1 B1
  go_upto_region 6 with (first
    | ((with_reducible refine wpList_new (z := .agg HV.zero.ca) HV.zero.ca ?_ ?_ ?_); rfl; exact z_hart)
    | ((with_reducible refine wpL_loadH (x := .tmp 4) w.heap.size ?_ h ?_ ?_); rfl; exact A2.out)
    | (go_at_call 22; refine (S1.out _).mono ?_; rintro e w3 ⟨rfl, hb⟩; have HB3 := hid hb; clear hb)
    | ((with_reducible refine wpL_storeH (x := .tmp 13) (y := .tmp 42) w3.heap.size ?_ g ?_ HV.zero.ca ?_ rfl ?_); rfl; rfl; exact heap_alloc_new _ _))
  obtain ⟨x, hx⟩ : ∃ x, x = w3.heap.size := ⟨_, rfl⟩
  have zx0 : w.heap.size < x := by rw [hx]; exact lt_of_row ((HB3.out.block _ (lt_of_row A2.out)).trans A2.out)
  obtain ⟨wa, hwa⟩ : ∃ wa, wa = (w3.alloc (.cells HV.zero.ca 28)).setRow x g.ca := ⟨_, rfl⟩
  have A3 : Hid (wa.heap[w.heap.size]? = some (.cells h.ca 28 (0, 0))) := by show _ = _; rw [hwa, setRow_other _ _ _ _ (by omega), heap_alloc_old _ _ (by omega)]; exact (HB3.out.block _ (lt_of_row A2.out)).trans A2.out
  have X3 : Hid (wa.heap[x]? = some (.cells g.ca 28 (0, 0))) := by show _ = _; rw [hwa, hx]; exact heap_setRow _ _ _ _ _ (heap_alloc_new _ _)
  have B3 : Hid (Below w.heap.size w wa) := by show Below _ _ _; rw [hwa]; exact below_setRow ((bT B2.out HB3.out).alloc (by omega) _) (by omega) _
  rw [← hx, ← hwa]
  have ZX := hid zx0
  clear HB3 A2 B2 hwa hx zx0
  go_upto_region 7 with (first
    | ((with_reducible refine wpList_new (z := .agg HV.zero.ca) HV.zero.ca ?_ ?_ ?_); rfl; exact z_hart)
    | ((with_reducible refine wpL_loadH (x := .tmp 4) w.heap.size ?_ h ?_ ?_); rfl; exact A3.out)
    | (go_at_call 23; refine (S2.out _).mono ?_; rintro e w4 ⟨rfl, hb⟩; have HB4 := hid hb; clear hb)
    | ((with_reducible refine wpL_storeH (x := .tmp 14) (y := .tmp 49) w4.heap.size ?_ g ?_ HV.zero.ca ?_ rfl ?_); rfl; rfl; exact heap_alloc_new _ _))
  obtain ⟨y, hy⟩ : ∃ y, y = w4.heap.size := ⟨_, rfl⟩
  have zy0 : x < y := by rw [hy]; exact lt_of_row ((HB4.out.block _ (lt_of_row X3.out)).trans X3.out)
  obtain ⟨wb, hwb⟩ : ∃ wb, wb = (w4.alloc (.cells HV.zero.ca 28)).setRow y g.ca := ⟨_, rfl⟩
  have X4 : Hid (wb.heap[x]? = some (.cells g.ca 28 (0, 0))) := by show _ = _; rw [hwb, setRow_other _ _ _ _ (by omega), heap_alloc_old _ _ (by omega)]; exact (HB4.out.block _ (lt_of_row X3.out)).trans X3.out
  have Y4 : Hid (wb.heap[y]? = some (.cells g.ca 28 (0, 0))) := by show _ = _; rw [hwb, hy]; exact heap_setRow _ _ _ _ _ (heap_alloc_new _ _)
  have B4 : Hid (Below w.heap.size w wb) := by show Below _ _ _; rw [hwb]; have := ZX.out; exact below_setRow ((bT B3.out HB4.out).alloc (by omega) _) (by omega) _
  rw [← hy, ← hwb]
  have H4 : Hid (B.G wb) := HG.out.below B4.out
  clear HB4 A3 B3 X3 hwb hy zy0
  go_wp2_with (first
    | ((with_reducible refine wpL_loadH (x := .tmp 13) x ?_ g ?_ ?_); rfl; exact X4.out)
    | ((with_reducible refine wpL_loadH (x := .tmp 14) y ?_ g ?_ ?_); rfl; exact Y4.out)
    | (go_at_call 16; refine (m_awake wb H4.out).mono ?_; rintro e w5 ⟨rfl, hb⟩; have HB5 := hid hb; clear hb))
  go_ret
  exact ⟨rfl, bT B4.out HB5.out⟩
end Go.Proofs.YtooagjndelbegaaGreatDoor
