/- The document's page: the first stage's walk. -/
import Derived.Test.YtlfdokkopgmfjaaGreatDoorCPR
import Derived.Test.YtlfdokkopgmfjaaGreatDoorCPT
namespace Go.Proofs.YtlfdokkopgmfjaaGreatDoor.C
open Go.RowKit
set_option linter.unusedVariables false
set_option maxRecDepth 100000
/-- what the document's walk says -/
def wk1 (r : DR) (v : EnvV) (va acc : Int) : PlV × Bool :=
  if r.fault = 1 then (⟨0, 0, 1, false⟩, false) else if r.fault ≠ 0 then (⟨0, atF va r.level r.table, r.fault, true⟩, false) else
  if fa r.leaf v acc = true then (⟨0, plc r va, 0, false⟩, true) else (⟨0, 0, 1, false⟩, false)
theorem wk1_f {r : DR} {v : EnvV} {va acc : Int} (h0 : r.fault ≠ 0) (h1 : r.fault ≠ 1) : wk1 r v va acc = (⟨0, atF va r.level r.table, r.fault, true⟩, false) := by unfold wk1; rw [if_neg h1, if_pos h0]
theorem wk1_1 {r : DR} {v : EnvV} {va acc : Int} (h1 : r.fault = 1) : wk1 r v va acc = (⟨0, 0, 1, false⟩, false) := by unfold wk1; rw [if_pos h1]
theorem wk1_l {r : DR} {v : EnvV} {va acc : Int} (h0 : r.fault = 0) (b : Bool) (hb : fa r.leaf v acc = b) : wk1 r v va acc = if b = true then (⟨0, plc r va, 0, false⟩, true) else (⟨0, 0, 1, false⟩, false) := by unfold wk1; rw [if_neg (by rw [h0]; decide), if_neg (by rw [h0]; decide), hb]
set_option maxHeartbeats 4000000 in
theorem q_walk (w : World) (T : Nat → Prop) (q n : Nat) {bs : Int} (f : Nat → Int) (hm : RMem w T q bs n f) (v : EnvV) (va acc : Int) (a0 : 0 ≤ va) (a1 : va < 18446744073709551616) (s0 : 0 ≤ v.satp) (s1 : v.satp < 18446744073709551616) (r0 : 0 ≤ v.root) (r1 : v.root < 18446744073709551616) (P : PlV) (dn : Bool) (hP : wk1 (D (rdg (rdm bs n f) v.root) va 1 2 (v.satp % 17592186044416)) v va acc = (P, dn)) :
    Calls Tryz.prog 57 #[.pointer (some ⟨q, 0, none⟩), .agg #[.int .u64 v.satp, .int .u64 v.root, .bool v.user, .bool v.sum, .bool v.mxr], .int .u64 va, .int .i64 acc] w fun r w' => r = .returned (.tuple #[plV P, .bool dn]) ∧ Below w.heap.size w w' := by
  have HM := hid hm
  have hRd := rdm_ok (bs := bs) n f hm.byt
  clear hm
  have hm44 := and_mask44 v.satp s0 s1
  obtain ⟨r, hr⟩ : ∃ r, D (rdg (rdm bs n f) v.root) va 1 2 (v.satp % 17592186044416) = r := ⟨_, rfl⟩
  rw [hr] at hP
  have HG : Hid ((.returned (.tuple #[plV (wk1 r v va acc).1, .bool (wk1 r v va acc).2]) : Ending) = .returned (.tuple #[plV P, .bool dn])) := by show _ = _; rw [hP]
  have HR := hid hr
  clear hr hP
  obtain ⟨wa, hwa⟩ : ∃ wa, wa = (w.alloc (.cells #[.int .u64 v.satp, .int .u64 v.root, .bool v.user, .bool v.sum, .bool v.mxr] 47)).alloc (.cells #[.int .u64 0, .int .u64 0, .int .i64 0, .bool false] 86) := ⟨_, rfl⟩
  have HA : Hid (Below w.heap.size w wa) := by rw [hwa]; exact ((Below.refl _ _).alloc (Nat.le_refl _) _).alloc (by simp) _
  have HE : Hid (EB wa w.heap.size v.satp v.root v.user v.sum v.mxr) := by
    rw [hwa]; exact (Below.heap_alloc _ _ _ (by simp)).trans (heap_alloc_new w _)
  have HRB : Hid (B4 wa (w.heap.size + 1) (.int .u64 0) (.int .u64 0) (.int .i64 0) (.bool false)) := by
    rw [hwa]
    have := heap_alloc_new (w.alloc (.cells #[.int .u64 v.satp, .int .u64 v.root, .bool v.user, .bool v.sum, .bool v.mxr] 47)) (.cells #[.int .u64 0, .int .u64 0, .int .i64 0, .bool false] 86)
    have e1 : (w.alloc (.cells #[.int .u64 v.satp, .int .u64 v.root, .bool v.user, .bool v.sum, .bool v.mxr] 47)).heap.size = w.heap.size + 1 := by simp
    rw [e1] at this
    exact this
  have HWA := hid hwa
  clear hwa
  go_enter Tryz.func57, Tryz.ntmps57
  go_wp2_with fail
  rw [← HWA.out]
  go_loopw [10, 11] (fun tv lv wv => ∃ (m : Nat) (t : Int), m ≤ 3 ∧ lv = .int .i64 ((m : Int) - 1) ∧ tv = .int .u64 t ∧ 0 ≤ t ∧ t < 17592186044416 ∧ Gd (rdg (rdm bs n f) v.root) va 1 r m t ∧ Below w.heap.size w wv ∧ EB wv w.heap.size v.satp v.root v.user v.sum v.mxr ∧ B4 wv (w.heap.size + 1) (.int .u64 0) (.int .u64 0) (.int .i64 0) (.bool false)) (fun _ lv _ => (intOf lv + 1).toNat)
  case atStart => exact ⟨3, v.satp % 17592186044416, by decide, rfl, rfl, by omega, by omega, HR.out, HA.out, HE.out, HRB.out⟩
  case round =>
        rename World => wv
        obtain ⟨m, t, hm3, rfl, rfl, t0, t1, hd, hb, hE, hRv⟩ := hrel
        have HBr := hid hb
        have HEv := hid hE
        have HRv := hid hRv
        obtain ⟨x0', x1', x2', x3', x4'⟩ := HEv.out.cs
        obtain ⟨k0, k1, k2, k3⟩ := HRv.out.c
        obtain ⟨n0, n1, n2, n3⟩ := HRv.out.z
        clear hb hE hRv
        rcases (show m = 0 ∨ m = 1 ∨ m = 2 ∨ m = 3 by omega) with rfl | rfl | rfl | rfl
        · have hd' : r.fault = 1 := hd
          clear hd
          go_wp2_with fail
          obtain ⟨y0, y1, y2, y3⟩ := HRv.out.y (.int .u64 0) (.int .u64 0) (.int .i64 1) (.bool false)
          refine bodyPost_ret (by simp [results, Tryz.results57, go_sem, y0, y1, y2, y3]; rfl) rfl ?_
          refine ⟨?_, below4 HBr.out (Nat.le_succ _) _ _ _ _⟩
          rw [← HG.out, wk1_1 hd']
          rfl
        · obtain ⟨x, y, z, hgs⟩ : ∃ x y z, gst (rdm bs n f) v.root (atF va 0 t) 2 = (x, y, z) := ⟨_, _, _, rfl⟩
          have hat : atF va 0 t = t * 4096 + va / 4096 % 512 * 8 := by unfold atF; rw [pw0]; omega
          have g1' : t ≤ 4503599627370495 := by omega
          obtain ⟨q0, q1⟩ := atF_b va 0 t t0 g1'
          obtain ⟨⟨x0, x1⟩, hz⟩ := gst_ok hRd v.root (atF va 0 t) 2 r0 r1 q0 q1
          rw [hgs] at x0 x1 hz
          have x0 : 0 ≤ x := x0
          have x1 : x < 18446744073709551616 := x1
          have hz : z = 0 ∨ z = 2 ∨ z = 3 := hz
          have hrdg : rdg (rdm bs n f) v.root (atF va 0 t) = if z ≠ 0 then (0, z) else rdm bs n f x := by unfold rdg; rw [hgs]
          have HRG := hid hrdg
          have HAT := hid hat
          rw [hat] at hgs q0 q1
          have HGS := hid hgs
          have HDD : Hid (D (rdg (rdm bs n f) v.root) va 1 0 t = r) := hd
          clear hgs hat hd hrdg
          by_cases gz : z = 0
          · subst gz
            obtain ⟨e, fl, hRe⟩ : ∃ e fl, rdm bs n f x = (e, fl) := ⟨_, _, rfl⟩
            have HRX := hid hRe
            have HRe : Hid (rdg (rdm bs n f) v.root (atF va 0 t) = (e, fl)) := by show _ = _; rw [HRG.out, if_neg (by decide)]; exact hRe
            have hk0 := hRd x
            rw [hRe] at hk0
            obtain ⟨⟨e0, e1⟩, _⟩ := hk0
            have e0' : 0 ≤ e := e0
            have e1' : e < 18446744073709551616 := e1
            have b10 := (bit0_eq e e0' e1').2.2.2
            have hn : 0 ≤ numR e := by unfold numR; omega
            have hn2 : numR e < 17592186044416 := by unfold numR; omega
            clear hRe e0 e1
            by_cases g2 : fl = 0
            · subst g2
              cases g3 : wr e
              · have w1' := wr_lt g3
                cases g4 : lf e
                · rw [g4] at b10
                  go_wp2_with (first
                    | (go_at_call 58; refine (q_Guest wv T q n f (HM.out.below HBr.out) v.root (t * 4096 + va / 4096 % 512 * 8) 2 r0 r1 q0 q1 _ _ _ HGS.out).mono ?_; rintro r w2 ⟨rfl, hb2⟩; have HB2 := hid (HBr.out.trans (hb2.mono HBr.out.size)); have HR2 := hid (HRv.out.below hb2); have HE2 := hid (HEv.out.below hb2); obtain ⟨k0, k1, k2, k3⟩ := HR2.out.c; obtain ⟨n0, n1, n2, n3⟩ := HR2.out.z; clear hb2)
                    | (go_at_call 34; refine (q_Read8 w2 T q n f (HM.out.below HB2.out) x x0 x1 e true (by rw [HRX.out]) (by rw [HRX.out]; rfl)).mono ?_; rintro r w3 ⟨rfl, hs3⟩; have hb3 := hs3.below w2.heap.size; have HB3 := hid (HB2.out.trans (hs3.below _)); have HR3 := hid (HR2.out.below hb3); have HE3 := hid (HE2.out.below hb3); obtain ⟨k0, k1, k2, k3⟩ := HR3.out.c; obtain ⟨n0, n1, n2, n3⟩ := HR3.out.z; obtain ⟨x0', x1', x2', x3', x4'⟩ := HE3.out.cs; clear hs3 hb3)
                    | (go_at_call 78; refine (q_wrong e e0' e1' _).mono ?_; rintro r w4 ⟨rfl, hw4⟩; obtain rfl := hw4.symm; rw [g3])
                    | (go_at_call 79; refine (q_number e e0' e1' _).mono ?_; rintro r w4 ⟨rfl, hw4⟩; obtain rfl := hw4.symm))
                  go_roundw
                  case rel => exact ⟨0, numR e, by decide, by rfl, rfl, hn, by omega, by show r.fault = 1; rw [← HDD.out, D_end (R := rdg (rdm bs n f) v.root) (addr := va) g1' (by rw [HRe.out]) (by rw [HRe.out]; exact g3) (by rw [HRe.out]; exact g4)], HB3.out, HE3.out, HR3.out⟩
                  case measure => simp [intOf]
                · rw [g4] at b10
                  by_cases g5 : numR e % pw 0 = 0
                  · have g5' : decide (numR e % pw 0 ≠ 0) = false := by simp [g5]
                    cases g6 : fa e v acc
                    · go_wp2_with (first
                        | (go_at_call 58; refine (q_Guest wv T q n f (HM.out.below HBr.out) v.root (t * 4096 + va / 4096 % 512 * 8) 2 r0 r1 q0 q1 _ _ _ HGS.out).mono ?_; rintro r w2 ⟨rfl, hb2⟩; have HB2 := hid (HBr.out.trans (hb2.mono HBr.out.size)); have HR2 := hid (HRv.out.below hb2); have HE2 := hid (HEv.out.below hb2); obtain ⟨k0, k1, k2, k3⟩ := HR2.out.c; obtain ⟨n0, n1, n2, n3⟩ := HR2.out.z; clear hb2)
                        | (go_at_call 34; refine (q_Read8 w2 T q n f (HM.out.below HB2.out) x x0 x1 e true (by rw [HRX.out]) (by rw [HRX.out]; rfl)).mono ?_; rintro r w3 ⟨rfl, hs3⟩; have hb3 := hs3.below w2.heap.size; have HB3 := hid (HB2.out.trans (hs3.below _)); have HR3 := hid (HR2.out.below hb3); have HE3 := hid (HE2.out.below hb3); obtain ⟨k0, k1, k2, k3⟩ := HR3.out.c; obtain ⟨n0, n1, n2, n3⟩ := HR3.out.z; obtain ⟨x0', x1', x2', x3', x4'⟩ := HE3.out.cs; clear hs3 hb3)
                        | (go_at_call 78; refine (q_wrong e e0' e1' _).mono ?_; rintro r w4 ⟨rfl, hw4⟩; obtain rfl := hw4.symm; rw [g3])
                        | (go_at_call 80; refine (q_misplaced e e0' e1' 0 (by decide) _).mono ?_; rintro r w4 ⟨rfl, hw4⟩; obtain rfl := hw4.symm; rw [g5'])
                        | (go_at_call 81; refine (q_first e v acc e0' e1' w3).mono ?_; rintro r w4 ⟨rfl, hb4⟩; rw [g6]; have HB4 := hid (HB3.out.trans (hb4.mono HB3.out.size)); have HR4 := hid (HR3.out.below hb4); obtain ⟨k0, k1, k2, k3⟩ := HR4.out.c; obtain ⟨n0, n1, n2, n3⟩ := HR4.out.z; clear hb4))
                      obtain ⟨y0, y1, y2, y3⟩ := HR4.out.y (.int .u64 0) (.int .u64 0) (.int .i64 1) (.bool false)
                      refine bodyPost_ret (by simp [results, Tryz.results57, go_sem, y0, y1, y2, y3]; rfl) rfl ?_
                      refine ⟨?_, below4 HB4.out (Nat.le_succ _) _ _ _ _⟩
                      rw [← HG.out, ← HDD.out, D_leaf (R := rdg (rdm bs n f) v.root) (addr := va) (k := 0) g1' (by rw [HRe.out]) (by rw [HRe.out]; exact g3) (by rw [HRe.out]; exact g4) (by rw [HRe.out]; show num e % _ = 0; rw [← numR_eq e0' g3]; exact g5), HRe.out, wk1_l rfl false g6]
                      rfl
                    · have hpl := plc_ref e va t 0 (by decide) a0 e0' g3 g5
                      rw [pw0] at hpl
                      go_wp2_with (first
                        | (go_at_call 58; refine (q_Guest wv T q n f (HM.out.below HBr.out) v.root (t * 4096 + va / 4096 % 512 * 8) 2 r0 r1 q0 q1 _ _ _ HGS.out).mono ?_; rintro r w2 ⟨rfl, hb2⟩; have HB2 := hid (HBr.out.trans (hb2.mono HBr.out.size)); have HR2 := hid (HRv.out.below hb2); have HE2 := hid (HEv.out.below hb2); obtain ⟨k0, k1, k2, k3⟩ := HR2.out.c; obtain ⟨n0, n1, n2, n3⟩ := HR2.out.z; clear hb2)
                        | (go_at_call 34; refine (q_Read8 w2 T q n f (HM.out.below HB2.out) x x0 x1 e true (by rw [HRX.out]) (by rw [HRX.out]; rfl)).mono ?_; rintro r w3 ⟨rfl, hs3⟩; have hb3 := hs3.below w2.heap.size; have HB3 := hid (HB2.out.trans (hs3.below _)); have HR3 := hid (HR2.out.below hb3); have HE3 := hid (HE2.out.below hb3); obtain ⟨k0, k1, k2, k3⟩ := HR3.out.c; obtain ⟨n0, n1, n2, n3⟩ := HR3.out.z; obtain ⟨x0', x1', x2', x3', x4'⟩ := HE3.out.cs; clear hs3 hb3)
                        | (go_at_call 78; refine (q_wrong e e0' e1' _).mono ?_; rintro r w4 ⟨rfl, hw4⟩; obtain rfl := hw4.symm; rw [g3])
                        | (go_at_call 80; refine (q_misplaced e e0' e1' 0 (by decide) _).mono ?_; rintro r w4 ⟨rfl, hw4⟩; obtain rfl := hw4.symm; rw [g5'])
                        | (go_at_call 81; refine (q_first e v acc e0' e1' w3).mono ?_; rintro r w4 ⟨rfl, hb4⟩; rw [g6]; have HB4 := hid (HB3.out.trans (hb4.mono HB3.out.size)); have HR4 := hid (HR3.out.below hb4); obtain ⟨k0, k1, k2, k3⟩ := HR4.out.c; obtain ⟨n0, n1, n2, n3⟩ := HR4.out.z; clear hb4)
                        | (go_at_call 82; refine (q_put4 e va e0' e1' a0 a1 0 (by decide) w4).mono ?_; rw [pw0]; rintro r w5 ⟨rfl, hb5⟩; have HB5 := hid (HB4.out.trans (hb5.mono HB4.out.size)); have HR5 := hid (HR4.out.below hb5); obtain ⟨k0, k1, k2, k3⟩ := HR5.out.c; obtain ⟨n0, n1, n2, n3⟩ := HR5.out.z; clear hb5))
                      obtain ⟨y0, y1, y2, y3⟩ := HR5.out.y (.int .u64 0) (.int .u64 (numR e * 4096 + va % 4096)) (.int .i64 0) (.bool false)
                      refine bodyPost_ret (by simp [results, Tryz.results57, go_sem, y0, y1, y2, y3]; rfl) rfl ?_
                      refine ⟨?_, below4 HB5.out (Nat.le_succ _) _ _ _ _⟩
                      rw [← HG.out, ← HDD.out, D_leaf (R := rdg (rdm bs n f) v.root) (addr := va) (k := 0) g1' (by rw [HRe.out]) (by rw [HRe.out]; exact g3) (by rw [HRe.out]; exact g4) (by rw [HRe.out]; show num e % _ = 0; rw [← numR_eq e0' g3]; exact g5), HRe.out, wk1_l rfl true g6, if_pos rfl, hpl]
                      rfl
                  · have g5' : decide (numR e % pw 0 ≠ 0) = true := by simp [g5]
                    go_wp2_with (first
                      | (go_at_call 58; refine (q_Guest wv T q n f (HM.out.below HBr.out) v.root (t * 4096 + va / 4096 % 512 * 8) 2 r0 r1 q0 q1 _ _ _ HGS.out).mono ?_; rintro r w2 ⟨rfl, hb2⟩; have HB2 := hid (HBr.out.trans (hb2.mono HBr.out.size)); have HR2 := hid (HRv.out.below hb2); have HE2 := hid (HEv.out.below hb2); obtain ⟨k0, k1, k2, k3⟩ := HR2.out.c; obtain ⟨n0, n1, n2, n3⟩ := HR2.out.z; clear hb2)
                      | (go_at_call 34; refine (q_Read8 w2 T q n f (HM.out.below HB2.out) x x0 x1 e true (by rw [HRX.out]) (by rw [HRX.out]; rfl)).mono ?_; rintro r w3 ⟨rfl, hs3⟩; have hb3 := hs3.below w2.heap.size; have HB3 := hid (HB2.out.trans (hs3.below _)); have HR3 := hid (HR2.out.below hb3); have HE3 := hid (HE2.out.below hb3); obtain ⟨k0, k1, k2, k3⟩ := HR3.out.c; obtain ⟨n0, n1, n2, n3⟩ := HR3.out.z; obtain ⟨x0', x1', x2', x3', x4'⟩ := HE3.out.cs; clear hs3 hb3)
                      | (go_at_call 78; refine (q_wrong e e0' e1' _).mono ?_; rintro r w4 ⟨rfl, hw4⟩; obtain rfl := hw4.symm; rw [g3])
                      | (go_at_call 80; refine (q_misplaced e e0' e1' 0 (by decide) _).mono ?_; rintro r w4 ⟨rfl, hw4⟩; obtain rfl := hw4.symm; rw [g5']))
                    obtain ⟨y0, y1, y2, y3⟩ := HR3.out.y (.int .u64 0) (.int .u64 0) (.int .i64 1) (.bool false)
                    refine bodyPost_ret (by simp [results, Tryz.results57, go_sem, y0, y1, y2, y3]; rfl) rfl ?_
                    refine ⟨?_, below4 HB3.out (Nat.le_succ _) _ _ _ _⟩
                    rw [← HG.out, ← HDD.out, D_mis (R := rdg (rdm bs n f) v.root) (addr := va) (k := 0) g1' (by rw [HRe.out]) (by rw [HRe.out]; exact g3) (by rw [HRe.out]; exact g4) (by rw [HRe.out]; show num e % _ ≠ 0; rw [← numR_eq e0' g3]; exact g5)]
                    rfl
              · go_wp2_with (first
                  | (go_at_call 58; refine (q_Guest wv T q n f (HM.out.below HBr.out) v.root (t * 4096 + va / 4096 % 512 * 8) 2 r0 r1 q0 q1 _ _ _ HGS.out).mono ?_; rintro r w2 ⟨rfl, hb2⟩; have HB2 := hid (HBr.out.trans (hb2.mono HBr.out.size)); have HR2 := hid (HRv.out.below hb2); have HE2 := hid (HEv.out.below hb2); obtain ⟨k0, k1, k2, k3⟩ := HR2.out.c; obtain ⟨n0, n1, n2, n3⟩ := HR2.out.z; clear hb2)
                  | (go_at_call 34; refine (q_Read8 w2 T q n f (HM.out.below HB2.out) x x0 x1 e true (by rw [HRX.out]) (by rw [HRX.out]; rfl)).mono ?_; rintro r w3 ⟨rfl, hs3⟩; have hb3 := hs3.below w2.heap.size; have HB3 := hid (HB2.out.trans (hs3.below _)); have HR3 := hid (HR2.out.below hb3); have HE3 := hid (HE2.out.below hb3); obtain ⟨k0, k1, k2, k3⟩ := HR3.out.c; obtain ⟨n0, n1, n2, n3⟩ := HR3.out.z; obtain ⟨x0', x1', x2', x3', x4'⟩ := HE3.out.cs; clear hs3 hb3)
                  | (go_at_call 78; refine (q_wrong e e0' e1' _).mono ?_; rintro r w4 ⟨rfl, hw4⟩; obtain rfl := hw4.symm; rw [g3]))
                obtain ⟨y0, y1, y2, y3⟩ := HR3.out.y (.int .u64 0) (.int .u64 0) (.int .i64 1) (.bool false)
                refine bodyPost_ret (by simp [results, Tryz.results57, go_sem, y0, y1, y2, y3]; rfl) rfl ?_
                refine ⟨?_, below4 HB3.out (Nat.le_succ _) _ _ _ _⟩
                rw [← HG.out, ← HDD.out, D_wrong (R := rdg (rdm bs n f) v.root) (addr := va) (k := 0) g1' (by rw [HRe.out]) (by rw [HRe.out]; exact g3)]
                rfl
            · have g2' : fl = 3 := by
                have h := rdm_flt (bs := bs) n f x
                rw [HRX.out] at h
                rcases h with h | h
                · exact absurd h g2
                · exact h
              go_wp2_with (first
                | (go_at_call 58; refine (q_Guest wv T q n f (HM.out.below HBr.out) v.root (t * 4096 + va / 4096 % 512 * 8) 2 r0 r1 q0 q1 _ _ _ HGS.out).mono ?_; rintro r w2 ⟨rfl, hb2⟩; have HB2 := hid (HBr.out.trans (hb2.mono HBr.out.size)); have HR2 := hid (HRv.out.below hb2); have HE2 := hid (HEv.out.below hb2); obtain ⟨k0, k1, k2, k3⟩ := HR2.out.c; obtain ⟨n0, n1, n2, n3⟩ := HR2.out.z; clear hb2)
                | (go_at_call 34; refine (q_Read8 w2 T q n f (HM.out.below HB2.out) x x0 x1 e false (by rw [HRX.out]) (by rw [HRX.out]; simp [g2])).mono ?_; rintro r w3 ⟨rfl, hs3⟩; have hb3 := hs3.below w2.heap.size; have HB3 := hid (HB2.out.trans (hs3.below _)); have HR3 := hid (HR2.out.below hb3); have HE3 := hid (HE2.out.below hb3); obtain ⟨k0, k1, k2, k3⟩ := HR3.out.c; obtain ⟨n0, n1, n2, n3⟩ := HR3.out.z; obtain ⟨x0', x1', x2', x3', x4'⟩ := HE3.out.cs; clear hs3 hb3))
              obtain ⟨y0, y1, y2, y3⟩ := HR3.out.y (.int .u64 0) (.int .u64 (t * 4096 + va / 4096 % 512 * 8)) (.int .i64 3) (.bool true)
              refine bodyPost_ret (by simp [results, Tryz.results57, go_sem, y0, y1, y2, y3]; rfl) rfl ?_
              refine ⟨?_, below4 HB3.out (Nat.le_succ _) _ _ _ _⟩
              rw [← HG.out, ← HDD.out, D_fault (R := rdg (rdm bs n f) v.root) (addr := va) (k := 0) g1' (by rw [HRe.out]; exact g2), HRe.out, g2', wk1_f (show (3 : Int) ≠ 0 by decide) (show (3 : Int) ≠ 1 by decide)]
              show _ = Ending.returned (.tuple #[plV ⟨0, atF va 0 t, 3, true⟩, .bool false])
              rw [HAT.out]
              rfl
          · have HRe : Hid (rdg (rdm bs n f) v.root (atF va 0 t) = (0, z)) := by show _ = _; rw [HRG.out, if_pos gz]
            go_wp2_with (first
              | (go_at_call 58; refine (q_Guest wv T q n f (HM.out.below HBr.out) v.root (t * 4096 + va / 4096 % 512 * 8) 2 r0 r1 q0 q1 _ _ _ HGS.out).mono ?_; rintro r w2 ⟨rfl, hb2⟩; have HB2 := hid (HBr.out.trans (hb2.mono HBr.out.size)); have HR2 := hid (HRv.out.below hb2); have HE2 := hid (HEv.out.below hb2); obtain ⟨k0, k1, k2, k3⟩ := HR2.out.c; obtain ⟨n0, n1, n2, n3⟩ := HR2.out.z; clear hb2))
            obtain ⟨y0, y1, y2, y3⟩ := HR2.out.y (.int .u64 0) (.int .u64 (t * 4096 + va / 4096 % 512 * 8)) (.int .i64 z) (.bool true)
            refine bodyPost_ret (by simp [results, Tryz.results57, go_sem, y0, y1, y2, y3]; rfl) rfl ?_
            refine ⟨?_, below4 HB2.out (Nat.le_succ _) _ _ _ _⟩
            rw [← HG.out, ← HDD.out, D_fault (R := rdg (rdm bs n f) v.root) (addr := va) (k := 0) g1' (by rw [HRe.out]; exact gz), HRe.out, wk1_f (show z ≠ 0 from gz) (show z ≠ 1 by omega)]
            show _ = Ending.returned (.tuple #[plV ⟨0, atF va 0 t, z, true⟩, .bool false])
            rw [HAT.out]
            rfl
        · obtain ⟨x, y, z, hgs⟩ : ∃ x y z, gst (rdm bs n f) v.root (atF va 1 t) 2 = (x, y, z) := ⟨_, _, _, rfl⟩
          have hat : atF va 1 t = t * 4096 + va / 2097152 % 512 * 8 := by unfold atF; rw [pw1]; omega
          have g1' : t ≤ 4503599627370495 := by omega
          obtain ⟨q0, q1⟩ := atF_b va 1 t t0 g1'
          obtain ⟨⟨x0, x1⟩, hz⟩ := gst_ok hRd v.root (atF va 1 t) 2 r0 r1 q0 q1
          rw [hgs] at x0 x1 hz
          have x0 : 0 ≤ x := x0
          have x1 : x < 18446744073709551616 := x1
          have hz : z = 0 ∨ z = 2 ∨ z = 3 := hz
          have hrdg : rdg (rdm bs n f) v.root (atF va 1 t) = if z ≠ 0 then (0, z) else rdm bs n f x := by unfold rdg; rw [hgs]
          have HRG := hid hrdg
          have HAT := hid hat
          rw [hat] at hgs q0 q1
          have HGS := hid hgs
          have HDD : Hid (D (rdg (rdm bs n f) v.root) va 1 1 t = r) := hd
          clear hgs hat hd hrdg
          by_cases gz : z = 0
          · subst gz
            obtain ⟨e, fl, hRe⟩ : ∃ e fl, rdm bs n f x = (e, fl) := ⟨_, _, rfl⟩
            have HRX := hid hRe
            have HRe : Hid (rdg (rdm bs n f) v.root (atF va 1 t) = (e, fl)) := by show _ = _; rw [HRG.out, if_neg (by decide)]; exact hRe
            have hk0 := hRd x
            rw [hRe] at hk0
            obtain ⟨⟨e0, e1⟩, _⟩ := hk0
            have e0' : 0 ≤ e := e0
            have e1' : e < 18446744073709551616 := e1
            have b10 := (bit0_eq e e0' e1').2.2.2
            have hn : 0 ≤ numR e := by unfold numR; omega
            have hn2 : numR e < 17592186044416 := by unfold numR; omega
            clear hRe e0 e1
            by_cases g2 : fl = 0
            · subst g2
              cases g3 : wr e
              · have w1' := wr_lt g3
                cases g4 : lf e
                · rw [g4] at b10
                  go_wp2_with (first
                    | (go_at_call 58; refine (q_Guest wv T q n f (HM.out.below HBr.out) v.root (t * 4096 + va / 2097152 % 512 * 8) 2 r0 r1 q0 q1 _ _ _ HGS.out).mono ?_; rintro r w2 ⟨rfl, hb2⟩; have HB2 := hid (HBr.out.trans (hb2.mono HBr.out.size)); have HR2 := hid (HRv.out.below hb2); have HE2 := hid (HEv.out.below hb2); obtain ⟨k0, k1, k2, k3⟩ := HR2.out.c; obtain ⟨n0, n1, n2, n3⟩ := HR2.out.z; clear hb2)
                    | (go_at_call 34; refine (q_Read8 w2 T q n f (HM.out.below HB2.out) x x0 x1 e true (by rw [HRX.out]) (by rw [HRX.out]; rfl)).mono ?_; rintro r w3 ⟨rfl, hs3⟩; have hb3 := hs3.below w2.heap.size; have HB3 := hid (HB2.out.trans (hs3.below _)); have HR3 := hid (HR2.out.below hb3); have HE3 := hid (HE2.out.below hb3); obtain ⟨k0, k1, k2, k3⟩ := HR3.out.c; obtain ⟨n0, n1, n2, n3⟩ := HR3.out.z; obtain ⟨x0', x1', x2', x3', x4'⟩ := HE3.out.cs; clear hs3 hb3)
                    | (go_at_call 78; refine (q_wrong e e0' e1' _).mono ?_; rintro r w4 ⟨rfl, hw4⟩; obtain rfl := hw4.symm; rw [g3])
                    | (go_at_call 79; refine (q_number e e0' e1' _).mono ?_; rintro r w4 ⟨rfl, hw4⟩; obtain rfl := hw4.symm))
                  go_roundw
                  case rel => exact ⟨1, numR e, by decide, by rfl, rfl, hn, by omega, by show D (rdg (rdm bs n f) v.root) va 1 0 (numR e) = r; rw [numR_eq e0' g3, ← HDD.out]; have h := D_next (R := rdg (rdm bs n f) v.root) (addr := va) (wrong := 1) (k := 0) (t := t) g1' (by show (rdg (rdm bs n f) v.root (atF va 1 t)).2 = 0; rw [HRe.out]) (by show wr (rdg (rdm bs n f) v.root (atF va 1 t)).1 = false; rw [HRe.out]; exact g3) (by show lf (rdg (rdm bs n f) v.root (atF va 1 t)).1 = false; rw [HRe.out]; exact g4); rw [show (rdg (rdm bs n f) v.root (atF va (0 + 1) t)).1 = e from congrArg Prod.fst HRe.out] at h; exact h.symm, HB3.out, HE3.out, HR3.out⟩
                  case measure => simp [intOf]
                · rw [g4] at b10
                  by_cases g5 : numR e % pw 1 = 0
                  · have g5' : decide (numR e % pw 1 ≠ 0) = false := by simp [g5]
                    cases g6 : fa e v acc
                    · go_wp2_with (first
                        | (go_at_call 58; refine (q_Guest wv T q n f (HM.out.below HBr.out) v.root (t * 4096 + va / 2097152 % 512 * 8) 2 r0 r1 q0 q1 _ _ _ HGS.out).mono ?_; rintro r w2 ⟨rfl, hb2⟩; have HB2 := hid (HBr.out.trans (hb2.mono HBr.out.size)); have HR2 := hid (HRv.out.below hb2); have HE2 := hid (HEv.out.below hb2); obtain ⟨k0, k1, k2, k3⟩ := HR2.out.c; obtain ⟨n0, n1, n2, n3⟩ := HR2.out.z; clear hb2)
                        | (go_at_call 34; refine (q_Read8 w2 T q n f (HM.out.below HB2.out) x x0 x1 e true (by rw [HRX.out]) (by rw [HRX.out]; rfl)).mono ?_; rintro r w3 ⟨rfl, hs3⟩; have hb3 := hs3.below w2.heap.size; have HB3 := hid (HB2.out.trans (hs3.below _)); have HR3 := hid (HR2.out.below hb3); have HE3 := hid (HE2.out.below hb3); obtain ⟨k0, k1, k2, k3⟩ := HR3.out.c; obtain ⟨n0, n1, n2, n3⟩ := HR3.out.z; obtain ⟨x0', x1', x2', x3', x4'⟩ := HE3.out.cs; clear hs3 hb3)
                        | (go_at_call 78; refine (q_wrong e e0' e1' _).mono ?_; rintro r w4 ⟨rfl, hw4⟩; obtain rfl := hw4.symm; rw [g3])
                        | (go_at_call 80; refine (q_misplaced e e0' e1' 1 (by decide) _).mono ?_; rintro r w4 ⟨rfl, hw4⟩; obtain rfl := hw4.symm; rw [g5'])
                        | (go_at_call 81; refine (q_first e v acc e0' e1' w3).mono ?_; rintro r w4 ⟨rfl, hb4⟩; rw [g6]; have HB4 := hid (HB3.out.trans (hb4.mono HB3.out.size)); have HR4 := hid (HR3.out.below hb4); obtain ⟨k0, k1, k2, k3⟩ := HR4.out.c; obtain ⟨n0, n1, n2, n3⟩ := HR4.out.z; clear hb4))
                      obtain ⟨y0, y1, y2, y3⟩ := HR4.out.y (.int .u64 0) (.int .u64 0) (.int .i64 1) (.bool false)
                      refine bodyPost_ret (by simp [results, Tryz.results57, go_sem, y0, y1, y2, y3]; rfl) rfl ?_
                      refine ⟨?_, below4 HB4.out (Nat.le_succ _) _ _ _ _⟩
                      rw [← HG.out, ← HDD.out, D_leaf (R := rdg (rdm bs n f) v.root) (addr := va) (k := 1) g1' (by rw [HRe.out]) (by rw [HRe.out]; exact g3) (by rw [HRe.out]; exact g4) (by rw [HRe.out]; show num e % _ = 0; rw [← numR_eq e0' g3]; exact g5), HRe.out, wk1_l rfl false g6]
                      rfl
                    · have hpl := plc_ref e va t 1 (by decide) a0 e0' g3 g5
                      rw [pw1] at hpl
                      go_wp2_with (first
                        | (go_at_call 58; refine (q_Guest wv T q n f (HM.out.below HBr.out) v.root (t * 4096 + va / 2097152 % 512 * 8) 2 r0 r1 q0 q1 _ _ _ HGS.out).mono ?_; rintro r w2 ⟨rfl, hb2⟩; have HB2 := hid (HBr.out.trans (hb2.mono HBr.out.size)); have HR2 := hid (HRv.out.below hb2); have HE2 := hid (HEv.out.below hb2); obtain ⟨k0, k1, k2, k3⟩ := HR2.out.c; obtain ⟨n0, n1, n2, n3⟩ := HR2.out.z; clear hb2)
                        | (go_at_call 34; refine (q_Read8 w2 T q n f (HM.out.below HB2.out) x x0 x1 e true (by rw [HRX.out]) (by rw [HRX.out]; rfl)).mono ?_; rintro r w3 ⟨rfl, hs3⟩; have hb3 := hs3.below w2.heap.size; have HB3 := hid (HB2.out.trans (hs3.below _)); have HR3 := hid (HR2.out.below hb3); have HE3 := hid (HE2.out.below hb3); obtain ⟨k0, k1, k2, k3⟩ := HR3.out.c; obtain ⟨n0, n1, n2, n3⟩ := HR3.out.z; obtain ⟨x0', x1', x2', x3', x4'⟩ := HE3.out.cs; clear hs3 hb3)
                        | (go_at_call 78; refine (q_wrong e e0' e1' _).mono ?_; rintro r w4 ⟨rfl, hw4⟩; obtain rfl := hw4.symm; rw [g3])
                        | (go_at_call 80; refine (q_misplaced e e0' e1' 1 (by decide) _).mono ?_; rintro r w4 ⟨rfl, hw4⟩; obtain rfl := hw4.symm; rw [g5'])
                        | (go_at_call 81; refine (q_first e v acc e0' e1' w3).mono ?_; rintro r w4 ⟨rfl, hb4⟩; rw [g6]; have HB4 := hid (HB3.out.trans (hb4.mono HB3.out.size)); have HR4 := hid (HR3.out.below hb4); obtain ⟨k0, k1, k2, k3⟩ := HR4.out.c; obtain ⟨n0, n1, n2, n3⟩ := HR4.out.z; clear hb4)
                        | (go_at_call 82; refine (q_put4 e va e0' e1' a0 a1 1 (by decide) w4).mono ?_; rw [pw1]; rintro r w5 ⟨rfl, hb5⟩; have HB5 := hid (HB4.out.trans (hb5.mono HB4.out.size)); have HR5 := hid (HR4.out.below hb5); obtain ⟨k0, k1, k2, k3⟩ := HR5.out.c; obtain ⟨n0, n1, n2, n3⟩ := HR5.out.z; clear hb5))
                      obtain ⟨y0, y1, y2, y3⟩ := HR5.out.y (.int .u64 0) (.int .u64 (numR e * 4096 + va % 2097152)) (.int .i64 0) (.bool false)
                      refine bodyPost_ret (by simp [results, Tryz.results57, go_sem, y0, y1, y2, y3]; rfl) rfl ?_
                      refine ⟨?_, below4 HB5.out (Nat.le_succ _) _ _ _ _⟩
                      rw [← HG.out, ← HDD.out, D_leaf (R := rdg (rdm bs n f) v.root) (addr := va) (k := 1) g1' (by rw [HRe.out]) (by rw [HRe.out]; exact g3) (by rw [HRe.out]; exact g4) (by rw [HRe.out]; show num e % _ = 0; rw [← numR_eq e0' g3]; exact g5), HRe.out, wk1_l rfl true g6, if_pos rfl, hpl]
                      rfl
                  · have g5' : decide (numR e % pw 1 ≠ 0) = true := by simp [g5]
                    go_wp2_with (first
                      | (go_at_call 58; refine (q_Guest wv T q n f (HM.out.below HBr.out) v.root (t * 4096 + va / 2097152 % 512 * 8) 2 r0 r1 q0 q1 _ _ _ HGS.out).mono ?_; rintro r w2 ⟨rfl, hb2⟩; have HB2 := hid (HBr.out.trans (hb2.mono HBr.out.size)); have HR2 := hid (HRv.out.below hb2); have HE2 := hid (HEv.out.below hb2); obtain ⟨k0, k1, k2, k3⟩ := HR2.out.c; obtain ⟨n0, n1, n2, n3⟩ := HR2.out.z; clear hb2)
                      | (go_at_call 34; refine (q_Read8 w2 T q n f (HM.out.below HB2.out) x x0 x1 e true (by rw [HRX.out]) (by rw [HRX.out]; rfl)).mono ?_; rintro r w3 ⟨rfl, hs3⟩; have hb3 := hs3.below w2.heap.size; have HB3 := hid (HB2.out.trans (hs3.below _)); have HR3 := hid (HR2.out.below hb3); have HE3 := hid (HE2.out.below hb3); obtain ⟨k0, k1, k2, k3⟩ := HR3.out.c; obtain ⟨n0, n1, n2, n3⟩ := HR3.out.z; obtain ⟨x0', x1', x2', x3', x4'⟩ := HE3.out.cs; clear hs3 hb3)
                      | (go_at_call 78; refine (q_wrong e e0' e1' _).mono ?_; rintro r w4 ⟨rfl, hw4⟩; obtain rfl := hw4.symm; rw [g3])
                      | (go_at_call 80; refine (q_misplaced e e0' e1' 1 (by decide) _).mono ?_; rintro r w4 ⟨rfl, hw4⟩; obtain rfl := hw4.symm; rw [g5']))
                    obtain ⟨y0, y1, y2, y3⟩ := HR3.out.y (.int .u64 0) (.int .u64 0) (.int .i64 1) (.bool false)
                    refine bodyPost_ret (by simp [results, Tryz.results57, go_sem, y0, y1, y2, y3]; rfl) rfl ?_
                    refine ⟨?_, below4 HB3.out (Nat.le_succ _) _ _ _ _⟩
                    rw [← HG.out, ← HDD.out, D_mis (R := rdg (rdm bs n f) v.root) (addr := va) (k := 1) g1' (by rw [HRe.out]) (by rw [HRe.out]; exact g3) (by rw [HRe.out]; exact g4) (by rw [HRe.out]; show num e % _ ≠ 0; rw [← numR_eq e0' g3]; exact g5)]
                    rfl
              · go_wp2_with (first
                  | (go_at_call 58; refine (q_Guest wv T q n f (HM.out.below HBr.out) v.root (t * 4096 + va / 2097152 % 512 * 8) 2 r0 r1 q0 q1 _ _ _ HGS.out).mono ?_; rintro r w2 ⟨rfl, hb2⟩; have HB2 := hid (HBr.out.trans (hb2.mono HBr.out.size)); have HR2 := hid (HRv.out.below hb2); have HE2 := hid (HEv.out.below hb2); obtain ⟨k0, k1, k2, k3⟩ := HR2.out.c; obtain ⟨n0, n1, n2, n3⟩ := HR2.out.z; clear hb2)
                  | (go_at_call 34; refine (q_Read8 w2 T q n f (HM.out.below HB2.out) x x0 x1 e true (by rw [HRX.out]) (by rw [HRX.out]; rfl)).mono ?_; rintro r w3 ⟨rfl, hs3⟩; have hb3 := hs3.below w2.heap.size; have HB3 := hid (HB2.out.trans (hs3.below _)); have HR3 := hid (HR2.out.below hb3); have HE3 := hid (HE2.out.below hb3); obtain ⟨k0, k1, k2, k3⟩ := HR3.out.c; obtain ⟨n0, n1, n2, n3⟩ := HR3.out.z; obtain ⟨x0', x1', x2', x3', x4'⟩ := HE3.out.cs; clear hs3 hb3)
                  | (go_at_call 78; refine (q_wrong e e0' e1' _).mono ?_; rintro r w4 ⟨rfl, hw4⟩; obtain rfl := hw4.symm; rw [g3]))
                obtain ⟨y0, y1, y2, y3⟩ := HR3.out.y (.int .u64 0) (.int .u64 0) (.int .i64 1) (.bool false)
                refine bodyPost_ret (by simp [results, Tryz.results57, go_sem, y0, y1, y2, y3]; rfl) rfl ?_
                refine ⟨?_, below4 HB3.out (Nat.le_succ _) _ _ _ _⟩
                rw [← HG.out, ← HDD.out, D_wrong (R := rdg (rdm bs n f) v.root) (addr := va) (k := 1) g1' (by rw [HRe.out]) (by rw [HRe.out]; exact g3)]
                rfl
            · have g2' : fl = 3 := by
                have h := rdm_flt (bs := bs) n f x
                rw [HRX.out] at h
                rcases h with h | h
                · exact absurd h g2
                · exact h
              go_wp2_with (first
                | (go_at_call 58; refine (q_Guest wv T q n f (HM.out.below HBr.out) v.root (t * 4096 + va / 2097152 % 512 * 8) 2 r0 r1 q0 q1 _ _ _ HGS.out).mono ?_; rintro r w2 ⟨rfl, hb2⟩; have HB2 := hid (HBr.out.trans (hb2.mono HBr.out.size)); have HR2 := hid (HRv.out.below hb2); have HE2 := hid (HEv.out.below hb2); obtain ⟨k0, k1, k2, k3⟩ := HR2.out.c; obtain ⟨n0, n1, n2, n3⟩ := HR2.out.z; clear hb2)
                | (go_at_call 34; refine (q_Read8 w2 T q n f (HM.out.below HB2.out) x x0 x1 e false (by rw [HRX.out]) (by rw [HRX.out]; simp [g2])).mono ?_; rintro r w3 ⟨rfl, hs3⟩; have hb3 := hs3.below w2.heap.size; have HB3 := hid (HB2.out.trans (hs3.below _)); have HR3 := hid (HR2.out.below hb3); have HE3 := hid (HE2.out.below hb3); obtain ⟨k0, k1, k2, k3⟩ := HR3.out.c; obtain ⟨n0, n1, n2, n3⟩ := HR3.out.z; obtain ⟨x0', x1', x2', x3', x4'⟩ := HE3.out.cs; clear hs3 hb3))
              obtain ⟨y0, y1, y2, y3⟩ := HR3.out.y (.int .u64 0) (.int .u64 (t * 4096 + va / 2097152 % 512 * 8)) (.int .i64 3) (.bool true)
              refine bodyPost_ret (by simp [results, Tryz.results57, go_sem, y0, y1, y2, y3]; rfl) rfl ?_
              refine ⟨?_, below4 HB3.out (Nat.le_succ _) _ _ _ _⟩
              rw [← HG.out, ← HDD.out, D_fault (R := rdg (rdm bs n f) v.root) (addr := va) (k := 1) g1' (by rw [HRe.out]; exact g2), HRe.out, g2', wk1_f (show (3 : Int) ≠ 0 by decide) (show (3 : Int) ≠ 1 by decide)]
              show _ = Ending.returned (.tuple #[plV ⟨0, atF va 1 t, 3, true⟩, .bool false])
              rw [HAT.out]
              rfl
          · have HRe : Hid (rdg (rdm bs n f) v.root (atF va 1 t) = (0, z)) := by show _ = _; rw [HRG.out, if_pos gz]
            go_wp2_with (first
              | (go_at_call 58; refine (q_Guest wv T q n f (HM.out.below HBr.out) v.root (t * 4096 + va / 2097152 % 512 * 8) 2 r0 r1 q0 q1 _ _ _ HGS.out).mono ?_; rintro r w2 ⟨rfl, hb2⟩; have HB2 := hid (HBr.out.trans (hb2.mono HBr.out.size)); have HR2 := hid (HRv.out.below hb2); have HE2 := hid (HEv.out.below hb2); obtain ⟨k0, k1, k2, k3⟩ := HR2.out.c; obtain ⟨n0, n1, n2, n3⟩ := HR2.out.z; clear hb2))
            obtain ⟨y0, y1, y2, y3⟩ := HR2.out.y (.int .u64 0) (.int .u64 (t * 4096 + va / 2097152 % 512 * 8)) (.int .i64 z) (.bool true)
            refine bodyPost_ret (by simp [results, Tryz.results57, go_sem, y0, y1, y2, y3]; rfl) rfl ?_
            refine ⟨?_, below4 HB2.out (Nat.le_succ _) _ _ _ _⟩
            rw [← HG.out, ← HDD.out, D_fault (R := rdg (rdm bs n f) v.root) (addr := va) (k := 1) g1' (by rw [HRe.out]; exact gz), HRe.out, wk1_f (show z ≠ 0 from gz) (show z ≠ 1 by omega)]
            show _ = Ending.returned (.tuple #[plV ⟨0, atF va 1 t, z, true⟩, .bool false])
            rw [HAT.out]
            rfl
        · obtain ⟨x, y, z, hgs⟩ : ∃ x y z, gst (rdm bs n f) v.root (atF va 2 t) 2 = (x, y, z) := ⟨_, _, _, rfl⟩
          have hat : atF va 2 t = t * 4096 + va / 1073741824 % 512 * 8 := by unfold atF; rw [pw2]; omega
          have g1' : t ≤ 4503599627370495 := by omega
          obtain ⟨q0, q1⟩ := atF_b va 2 t t0 g1'
          obtain ⟨⟨x0, x1⟩, hz⟩ := gst_ok hRd v.root (atF va 2 t) 2 r0 r1 q0 q1
          rw [hgs] at x0 x1 hz
          have x0 : 0 ≤ x := x0
          have x1 : x < 18446744073709551616 := x1
          have hz : z = 0 ∨ z = 2 ∨ z = 3 := hz
          have hrdg : rdg (rdm bs n f) v.root (atF va 2 t) = if z ≠ 0 then (0, z) else rdm bs n f x := by unfold rdg; rw [hgs]
          have HRG := hid hrdg
          have HAT := hid hat
          rw [hat] at hgs q0 q1
          have HGS := hid hgs
          have HDD : Hid (D (rdg (rdm bs n f) v.root) va 1 2 t = r) := hd
          clear hgs hat hd hrdg
          by_cases gz : z = 0
          · subst gz
            obtain ⟨e, fl, hRe⟩ : ∃ e fl, rdm bs n f x = (e, fl) := ⟨_, _, rfl⟩
            have HRX := hid hRe
            have HRe : Hid (rdg (rdm bs n f) v.root (atF va 2 t) = (e, fl)) := by show _ = _; rw [HRG.out, if_neg (by decide)]; exact hRe
            have hk0 := hRd x
            rw [hRe] at hk0
            obtain ⟨⟨e0, e1⟩, _⟩ := hk0
            have e0' : 0 ≤ e := e0
            have e1' : e < 18446744073709551616 := e1
            have b10 := (bit0_eq e e0' e1').2.2.2
            have hn : 0 ≤ numR e := by unfold numR; omega
            have hn2 : numR e < 17592186044416 := by unfold numR; omega
            clear hRe e0 e1
            by_cases g2 : fl = 0
            · subst g2
              cases g3 : wr e
              · have w1' := wr_lt g3
                cases g4 : lf e
                · rw [g4] at b10
                  go_wp2_with (first
                    | (go_at_call 58; refine (q_Guest wv T q n f (HM.out.below HBr.out) v.root (t * 4096 + va / 1073741824 % 512 * 8) 2 r0 r1 q0 q1 _ _ _ HGS.out).mono ?_; rintro r w2 ⟨rfl, hb2⟩; have HB2 := hid (HBr.out.trans (hb2.mono HBr.out.size)); have HR2 := hid (HRv.out.below hb2); have HE2 := hid (HEv.out.below hb2); obtain ⟨k0, k1, k2, k3⟩ := HR2.out.c; obtain ⟨n0, n1, n2, n3⟩ := HR2.out.z; clear hb2)
                    | (go_at_call 34; refine (q_Read8 w2 T q n f (HM.out.below HB2.out) x x0 x1 e true (by rw [HRX.out]) (by rw [HRX.out]; rfl)).mono ?_; rintro r w3 ⟨rfl, hs3⟩; have hb3 := hs3.below w2.heap.size; have HB3 := hid (HB2.out.trans (hs3.below _)); have HR3 := hid (HR2.out.below hb3); have HE3 := hid (HE2.out.below hb3); obtain ⟨k0, k1, k2, k3⟩ := HR3.out.c; obtain ⟨n0, n1, n2, n3⟩ := HR3.out.z; obtain ⟨x0', x1', x2', x3', x4'⟩ := HE3.out.cs; clear hs3 hb3)
                    | (go_at_call 78; refine (q_wrong e e0' e1' _).mono ?_; rintro r w4 ⟨rfl, hw4⟩; obtain rfl := hw4.symm; rw [g3])
                    | (go_at_call 79; refine (q_number e e0' e1' _).mono ?_; rintro r w4 ⟨rfl, hw4⟩; obtain rfl := hw4.symm))
                  go_roundw
                  case rel => exact ⟨2, numR e, by decide, by rfl, rfl, hn, by omega, by show D (rdg (rdm bs n f) v.root) va 1 1 (numR e) = r; rw [numR_eq e0' g3, ← HDD.out]; have h := D_next (R := rdg (rdm bs n f) v.root) (addr := va) (wrong := 1) (k := 1) (t := t) g1' (by show (rdg (rdm bs n f) v.root (atF va 2 t)).2 = 0; rw [HRe.out]) (by show wr (rdg (rdm bs n f) v.root (atF va 2 t)).1 = false; rw [HRe.out]; exact g3) (by show lf (rdg (rdm bs n f) v.root (atF va 2 t)).1 = false; rw [HRe.out]; exact g4); rw [show (rdg (rdm bs n f) v.root (atF va (1 + 1) t)).1 = e from congrArg Prod.fst HRe.out] at h; exact h.symm, HB3.out, HE3.out, HR3.out⟩
                  case measure => simp [intOf]
                · rw [g4] at b10
                  by_cases g5 : numR e % pw 2 = 0
                  · have g5' : decide (numR e % pw 2 ≠ 0) = false := by simp [g5]
                    cases g6 : fa e v acc
                    · go_wp2_with (first
                        | (go_at_call 58; refine (q_Guest wv T q n f (HM.out.below HBr.out) v.root (t * 4096 + va / 1073741824 % 512 * 8) 2 r0 r1 q0 q1 _ _ _ HGS.out).mono ?_; rintro r w2 ⟨rfl, hb2⟩; have HB2 := hid (HBr.out.trans (hb2.mono HBr.out.size)); have HR2 := hid (HRv.out.below hb2); have HE2 := hid (HEv.out.below hb2); obtain ⟨k0, k1, k2, k3⟩ := HR2.out.c; obtain ⟨n0, n1, n2, n3⟩ := HR2.out.z; clear hb2)
                        | (go_at_call 34; refine (q_Read8 w2 T q n f (HM.out.below HB2.out) x x0 x1 e true (by rw [HRX.out]) (by rw [HRX.out]; rfl)).mono ?_; rintro r w3 ⟨rfl, hs3⟩; have hb3 := hs3.below w2.heap.size; have HB3 := hid (HB2.out.trans (hs3.below _)); have HR3 := hid (HR2.out.below hb3); have HE3 := hid (HE2.out.below hb3); obtain ⟨k0, k1, k2, k3⟩ := HR3.out.c; obtain ⟨n0, n1, n2, n3⟩ := HR3.out.z; obtain ⟨x0', x1', x2', x3', x4'⟩ := HE3.out.cs; clear hs3 hb3)
                        | (go_at_call 78; refine (q_wrong e e0' e1' _).mono ?_; rintro r w4 ⟨rfl, hw4⟩; obtain rfl := hw4.symm; rw [g3])
                        | (go_at_call 80; refine (q_misplaced e e0' e1' 2 (by decide) _).mono ?_; rintro r w4 ⟨rfl, hw4⟩; obtain rfl := hw4.symm; rw [g5'])
                        | (go_at_call 81; refine (q_first e v acc e0' e1' w3).mono ?_; rintro r w4 ⟨rfl, hb4⟩; rw [g6]; have HB4 := hid (HB3.out.trans (hb4.mono HB3.out.size)); have HR4 := hid (HR3.out.below hb4); obtain ⟨k0, k1, k2, k3⟩ := HR4.out.c; obtain ⟨n0, n1, n2, n3⟩ := HR4.out.z; clear hb4))
                      obtain ⟨y0, y1, y2, y3⟩ := HR4.out.y (.int .u64 0) (.int .u64 0) (.int .i64 1) (.bool false)
                      refine bodyPost_ret (by simp [results, Tryz.results57, go_sem, y0, y1, y2, y3]; rfl) rfl ?_
                      refine ⟨?_, below4 HB4.out (Nat.le_succ _) _ _ _ _⟩
                      rw [← HG.out, ← HDD.out, D_leaf (R := rdg (rdm bs n f) v.root) (addr := va) (k := 2) g1' (by rw [HRe.out]) (by rw [HRe.out]; exact g3) (by rw [HRe.out]; exact g4) (by rw [HRe.out]; show num e % _ = 0; rw [← numR_eq e0' g3]; exact g5), HRe.out, wk1_l rfl false g6]
                      rfl
                    · have hpl := plc_ref e va t 2 (by decide) a0 e0' g3 g5
                      rw [pw2] at hpl
                      go_wp2_with (first
                        | (go_at_call 58; refine (q_Guest wv T q n f (HM.out.below HBr.out) v.root (t * 4096 + va / 1073741824 % 512 * 8) 2 r0 r1 q0 q1 _ _ _ HGS.out).mono ?_; rintro r w2 ⟨rfl, hb2⟩; have HB2 := hid (HBr.out.trans (hb2.mono HBr.out.size)); have HR2 := hid (HRv.out.below hb2); have HE2 := hid (HEv.out.below hb2); obtain ⟨k0, k1, k2, k3⟩ := HR2.out.c; obtain ⟨n0, n1, n2, n3⟩ := HR2.out.z; clear hb2)
                        | (go_at_call 34; refine (q_Read8 w2 T q n f (HM.out.below HB2.out) x x0 x1 e true (by rw [HRX.out]) (by rw [HRX.out]; rfl)).mono ?_; rintro r w3 ⟨rfl, hs3⟩; have hb3 := hs3.below w2.heap.size; have HB3 := hid (HB2.out.trans (hs3.below _)); have HR3 := hid (HR2.out.below hb3); have HE3 := hid (HE2.out.below hb3); obtain ⟨k0, k1, k2, k3⟩ := HR3.out.c; obtain ⟨n0, n1, n2, n3⟩ := HR3.out.z; obtain ⟨x0', x1', x2', x3', x4'⟩ := HE3.out.cs; clear hs3 hb3)
                        | (go_at_call 78; refine (q_wrong e e0' e1' _).mono ?_; rintro r w4 ⟨rfl, hw4⟩; obtain rfl := hw4.symm; rw [g3])
                        | (go_at_call 80; refine (q_misplaced e e0' e1' 2 (by decide) _).mono ?_; rintro r w4 ⟨rfl, hw4⟩; obtain rfl := hw4.symm; rw [g5'])
                        | (go_at_call 81; refine (q_first e v acc e0' e1' w3).mono ?_; rintro r w4 ⟨rfl, hb4⟩; rw [g6]; have HB4 := hid (HB3.out.trans (hb4.mono HB3.out.size)); have HR4 := hid (HR3.out.below hb4); obtain ⟨k0, k1, k2, k3⟩ := HR4.out.c; obtain ⟨n0, n1, n2, n3⟩ := HR4.out.z; clear hb4)
                        | (go_at_call 82; refine (q_put4 e va e0' e1' a0 a1 2 (by decide) w4).mono ?_; rw [pw2]; rintro r w5 ⟨rfl, hb5⟩; have HB5 := hid (HB4.out.trans (hb5.mono HB4.out.size)); have HR5 := hid (HR4.out.below hb5); obtain ⟨k0, k1, k2, k3⟩ := HR5.out.c; obtain ⟨n0, n1, n2, n3⟩ := HR5.out.z; clear hb5))
                      obtain ⟨y0, y1, y2, y3⟩ := HR5.out.y (.int .u64 0) (.int .u64 (numR e * 4096 + va % 1073741824)) (.int .i64 0) (.bool false)
                      refine bodyPost_ret (by simp [results, Tryz.results57, go_sem, y0, y1, y2, y3]; rfl) rfl ?_
                      refine ⟨?_, below4 HB5.out (Nat.le_succ _) _ _ _ _⟩
                      rw [← HG.out, ← HDD.out, D_leaf (R := rdg (rdm bs n f) v.root) (addr := va) (k := 2) g1' (by rw [HRe.out]) (by rw [HRe.out]; exact g3) (by rw [HRe.out]; exact g4) (by rw [HRe.out]; show num e % _ = 0; rw [← numR_eq e0' g3]; exact g5), HRe.out, wk1_l rfl true g6, if_pos rfl, hpl]
                      rfl
                  · have g5' : decide (numR e % pw 2 ≠ 0) = true := by simp [g5]
                    go_wp2_with (first
                      | (go_at_call 58; refine (q_Guest wv T q n f (HM.out.below HBr.out) v.root (t * 4096 + va / 1073741824 % 512 * 8) 2 r0 r1 q0 q1 _ _ _ HGS.out).mono ?_; rintro r w2 ⟨rfl, hb2⟩; have HB2 := hid (HBr.out.trans (hb2.mono HBr.out.size)); have HR2 := hid (HRv.out.below hb2); have HE2 := hid (HEv.out.below hb2); obtain ⟨k0, k1, k2, k3⟩ := HR2.out.c; obtain ⟨n0, n1, n2, n3⟩ := HR2.out.z; clear hb2)
                      | (go_at_call 34; refine (q_Read8 w2 T q n f (HM.out.below HB2.out) x x0 x1 e true (by rw [HRX.out]) (by rw [HRX.out]; rfl)).mono ?_; rintro r w3 ⟨rfl, hs3⟩; have hb3 := hs3.below w2.heap.size; have HB3 := hid (HB2.out.trans (hs3.below _)); have HR3 := hid (HR2.out.below hb3); have HE3 := hid (HE2.out.below hb3); obtain ⟨k0, k1, k2, k3⟩ := HR3.out.c; obtain ⟨n0, n1, n2, n3⟩ := HR3.out.z; obtain ⟨x0', x1', x2', x3', x4'⟩ := HE3.out.cs; clear hs3 hb3)
                      | (go_at_call 78; refine (q_wrong e e0' e1' _).mono ?_; rintro r w4 ⟨rfl, hw4⟩; obtain rfl := hw4.symm; rw [g3])
                      | (go_at_call 80; refine (q_misplaced e e0' e1' 2 (by decide) _).mono ?_; rintro r w4 ⟨rfl, hw4⟩; obtain rfl := hw4.symm; rw [g5']))
                    obtain ⟨y0, y1, y2, y3⟩ := HR3.out.y (.int .u64 0) (.int .u64 0) (.int .i64 1) (.bool false)
                    refine bodyPost_ret (by simp [results, Tryz.results57, go_sem, y0, y1, y2, y3]; rfl) rfl ?_
                    refine ⟨?_, below4 HB3.out (Nat.le_succ _) _ _ _ _⟩
                    rw [← HG.out, ← HDD.out, D_mis (R := rdg (rdm bs n f) v.root) (addr := va) (k := 2) g1' (by rw [HRe.out]) (by rw [HRe.out]; exact g3) (by rw [HRe.out]; exact g4) (by rw [HRe.out]; show num e % _ ≠ 0; rw [← numR_eq e0' g3]; exact g5)]
                    rfl
              · go_wp2_with (first
                  | (go_at_call 58; refine (q_Guest wv T q n f (HM.out.below HBr.out) v.root (t * 4096 + va / 1073741824 % 512 * 8) 2 r0 r1 q0 q1 _ _ _ HGS.out).mono ?_; rintro r w2 ⟨rfl, hb2⟩; have HB2 := hid (HBr.out.trans (hb2.mono HBr.out.size)); have HR2 := hid (HRv.out.below hb2); have HE2 := hid (HEv.out.below hb2); obtain ⟨k0, k1, k2, k3⟩ := HR2.out.c; obtain ⟨n0, n1, n2, n3⟩ := HR2.out.z; clear hb2)
                  | (go_at_call 34; refine (q_Read8 w2 T q n f (HM.out.below HB2.out) x x0 x1 e true (by rw [HRX.out]) (by rw [HRX.out]; rfl)).mono ?_; rintro r w3 ⟨rfl, hs3⟩; have hb3 := hs3.below w2.heap.size; have HB3 := hid (HB2.out.trans (hs3.below _)); have HR3 := hid (HR2.out.below hb3); have HE3 := hid (HE2.out.below hb3); obtain ⟨k0, k1, k2, k3⟩ := HR3.out.c; obtain ⟨n0, n1, n2, n3⟩ := HR3.out.z; obtain ⟨x0', x1', x2', x3', x4'⟩ := HE3.out.cs; clear hs3 hb3)
                  | (go_at_call 78; refine (q_wrong e e0' e1' _).mono ?_; rintro r w4 ⟨rfl, hw4⟩; obtain rfl := hw4.symm; rw [g3]))
                obtain ⟨y0, y1, y2, y3⟩ := HR3.out.y (.int .u64 0) (.int .u64 0) (.int .i64 1) (.bool false)
                refine bodyPost_ret (by simp [results, Tryz.results57, go_sem, y0, y1, y2, y3]; rfl) rfl ?_
                refine ⟨?_, below4 HB3.out (Nat.le_succ _) _ _ _ _⟩
                rw [← HG.out, ← HDD.out, D_wrong (R := rdg (rdm bs n f) v.root) (addr := va) (k := 2) g1' (by rw [HRe.out]) (by rw [HRe.out]; exact g3)]
                rfl
            · have g2' : fl = 3 := by
                have h := rdm_flt (bs := bs) n f x
                rw [HRX.out] at h
                rcases h with h | h
                · exact absurd h g2
                · exact h
              go_wp2_with (first
                | (go_at_call 58; refine (q_Guest wv T q n f (HM.out.below HBr.out) v.root (t * 4096 + va / 1073741824 % 512 * 8) 2 r0 r1 q0 q1 _ _ _ HGS.out).mono ?_; rintro r w2 ⟨rfl, hb2⟩; have HB2 := hid (HBr.out.trans (hb2.mono HBr.out.size)); have HR2 := hid (HRv.out.below hb2); have HE2 := hid (HEv.out.below hb2); obtain ⟨k0, k1, k2, k3⟩ := HR2.out.c; obtain ⟨n0, n1, n2, n3⟩ := HR2.out.z; clear hb2)
                | (go_at_call 34; refine (q_Read8 w2 T q n f (HM.out.below HB2.out) x x0 x1 e false (by rw [HRX.out]) (by rw [HRX.out]; simp [g2])).mono ?_; rintro r w3 ⟨rfl, hs3⟩; have hb3 := hs3.below w2.heap.size; have HB3 := hid (HB2.out.trans (hs3.below _)); have HR3 := hid (HR2.out.below hb3); have HE3 := hid (HE2.out.below hb3); obtain ⟨k0, k1, k2, k3⟩ := HR3.out.c; obtain ⟨n0, n1, n2, n3⟩ := HR3.out.z; obtain ⟨x0', x1', x2', x3', x4'⟩ := HE3.out.cs; clear hs3 hb3))
              obtain ⟨y0, y1, y2, y3⟩ := HR3.out.y (.int .u64 0) (.int .u64 (t * 4096 + va / 1073741824 % 512 * 8)) (.int .i64 3) (.bool true)
              refine bodyPost_ret (by simp [results, Tryz.results57, go_sem, y0, y1, y2, y3]; rfl) rfl ?_
              refine ⟨?_, below4 HB3.out (Nat.le_succ _) _ _ _ _⟩
              rw [← HG.out, ← HDD.out, D_fault (R := rdg (rdm bs n f) v.root) (addr := va) (k := 2) g1' (by rw [HRe.out]; exact g2), HRe.out, g2', wk1_f (show (3 : Int) ≠ 0 by decide) (show (3 : Int) ≠ 1 by decide)]
              show _ = Ending.returned (.tuple #[plV ⟨0, atF va 2 t, 3, true⟩, .bool false])
              rw [HAT.out]
              rfl
          · have HRe : Hid (rdg (rdm bs n f) v.root (atF va 2 t) = (0, z)) := by show _ = _; rw [HRG.out, if_pos gz]
            go_wp2_with (first
              | (go_at_call 58; refine (q_Guest wv T q n f (HM.out.below HBr.out) v.root (t * 4096 + va / 1073741824 % 512 * 8) 2 r0 r1 q0 q1 _ _ _ HGS.out).mono ?_; rintro r w2 ⟨rfl, hb2⟩; have HB2 := hid (HBr.out.trans (hb2.mono HBr.out.size)); have HR2 := hid (HRv.out.below hb2); have HE2 := hid (HEv.out.below hb2); obtain ⟨k0, k1, k2, k3⟩ := HR2.out.c; obtain ⟨n0, n1, n2, n3⟩ := HR2.out.z; clear hb2))
            obtain ⟨y0, y1, y2, y3⟩ := HR2.out.y (.int .u64 0) (.int .u64 (t * 4096 + va / 1073741824 % 512 * 8)) (.int .i64 z) (.bool true)
            refine bodyPost_ret (by simp [results, Tryz.results57, go_sem, y0, y1, y2, y3]; rfl) rfl ?_
            refine ⟨?_, below4 HB2.out (Nat.le_succ _) _ _ _ _⟩
            rw [← HG.out, ← HDD.out, D_fault (R := rdg (rdm bs n f) v.root) (addr := va) (k := 2) g1' (by rw [HRe.out]; exact gz), HRe.out, wk1_f (show z ≠ 0 from gz) (show z ≠ 1 by omega)]
            show _ = Ending.returned (.tuple #[plV ⟨0, atF va 2 t, z, true⟩, .bool false])
            rw [HAT.out]
            rfl
end Go.Proofs.YtlfdokkopgmfjaaGreatDoor.C
