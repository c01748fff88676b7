/- The document's page: both stages. -/
import Derived.Test.YtlfdokkopgmfjaaGreatDoorCPU
import Derived.Test.YtlfdokkopgmfjaaGreatDoorMC3
import Derived.BigRegion
namespace Go.Proofs.YtlfdokkopgmfjaaGreatDoor.C
open Go.RowKit
set_option linter.unusedVariables false
set_option maxRecDepth 100000
theorem gst_zero (R : Int → Int × Int) (root gpa acc : Int) (h : (gst R root gpa acc).2.2 ≠ 0) : (gst R root gpa acc).1 = 0 := by
  revert h
  unfold gst
  split
  · intro h; exact absurd rfl h
  · split
    · intro _; rfl
    · split
      · intro _; rfl
      · split
        · intro h; exact absurd rfl h
        · intro _; rfl
theorem thr_wk (R : Int → Int × Int) (v : EnvV) (va acc : Int) (hx : ext va = true) (P : PlV) (dn : Bool) (hP : wk1 (D (rdg R v.root) va 1 2 (v.satp % 17592186044416)) v va acc = (P, dn)) :
    thr R v va acc = if dn = true then plOf R v.root P.gpa acc else P := by
  unfold thr
  unfold wk1 at hP
  rw [hx, if_neg (by decide)]
  generalize D (rdg R v.root) va 1 2 (v.satp % 17592186044416) = r at *
  by_cases g1 : r.fault = 1
  · rw [if_pos g1] at hP ⊢; cases hP; rfl
  · rw [if_neg g1] at hP ⊢
    by_cases g0 : r.fault = 0
    · rw [if_neg (by rw [g0]; decide)] at hP ⊢
      cases h : fa r.leaf v acc
      · rw [h] at hP; cases hP; rfl
      · rw [h] at hP; cases hP; rfl
    · rw [if_pos g0] at hP ⊢; cases hP; rfl
set_option maxHeartbeats 2000000 in
theorem q_Translate (w : World) (T : Nat → Prop) (q n : Nat) {bs : Int} (f : Nat → Int) (hm : RMem w T q bs n f) (v : EnvV) (va acc : Int) (a0 : 0 ≤ va) (a1 : va < 18446744073709551616) (s0 : 0 ≤ v.satp) (s1 : v.satp < 18446744073709551616) (r0 : 0 ≤ v.root) (r1 : v.root < 18446744073709551616) (Q : PlV) (hQ : tr (rdm bs n f) v va acc = Q) :
    Calls Tryz.prog 33 #[.pointer (some ⟨q, 0, none⟩), .agg #[.int .u64 v.satp, .int .u64 v.root, .bool v.user, .bool v.sum, .bool v.mxr], .int .u64 va, .int .i64 acc] w fun r w' => r = .returned (.agg #[.int .u64 Q.pa, .int .u64 Q.gpa, .int .i64 Q.fault, .bool Q.walk]) ∧ Below w.heap.size w w' := by
  have HM := hid hm
  have hRd := rdm_ok (bs := bs) n f hm.byt
  clear hm
  obtain ⟨wa, hwa⟩ : ∃ wa, wa = (w.alloc (.cells #[.int .u64 v.satp, .int .u64 v.root, .bool v.user, .bool v.sum, .bool v.mxr] 47)).alloc (.cells #[.int .u64 0, .int .u64 0, .int .i64 0, .bool false] 86) := ⟨_, rfl⟩
  have HA : Hid (Below w.heap.size w wa) := by rw [hwa]; exact ((Below.refl _ _).alloc (Nat.le_refl _) _).alloc (by simp) _
  have HE : Hid (EB wa w.heap.size v.satp v.root v.user v.sum v.mxr) := by
    rw [hwa]; exact (Below.heap_alloc _ _ _ (by simp)).trans (heap_alloc_new w _)
  have HRB : Hid (B4 wa (w.heap.size + 1) (.int .u64 0) (.int .u64 0) (.int .i64 0) (.bool false)) := by
    rw [hwa]
    have := heap_alloc_new (w.alloc (.cells #[.int .u64 v.satp, .int .u64 v.root, .bool v.user, .bool v.sum, .bool v.mxr] 47)) (.cells #[.int .u64 0, .int .u64 0, .int .i64 0, .bool false] 86)
    have e1 : (w.alloc (.cells #[.int .u64 v.satp, .int .u64 v.root, .bool v.user, .bool v.sum, .bool v.mxr] 47)).heap.size = w.heap.size + 1 := by simp
    rw [e1] at this
    exact this
  have HWA := hid hwa
  clear hwa
  go_enter Tryz.func33, Tryz.ntmps33
  by_cases h0 : v.satp / 1152921504606846976 = 0
  · obtain ⟨x, y, z, hg⟩ : ∃ x y z, gst (rdm bs n f) v.root va acc = (x, y, z) := ⟨_, _, _, rfl⟩
    have hz := gst_zero (rdm bs n f) v.root va acc
    rw [hg] at hz
    have hz : z ≠ 0 → x = 0 := hz
    have hq : Q = ⟨x, va, z, false⟩ := by rw [← hQ]; unfold tr plOf; rw [if_pos h0, hg]
    subst hq
    have HG := hid hg
    have HZ := hid hz
    clear hQ hg hz
    by_cases gz : z = 0
    · subst gz
      go_wp2_with (first
        | (go_at_call 58; rw [← HWA.out]; refine (q_Guest wa T q n f (HM.out.below HA.out) v.root va acc r0 r1 a0 a1 _ _ _ HG.out).mono ?_; rintro r w2 ⟨rfl, hb2⟩; have HB2 := hid (HA.out.trans (hb2.mono HA.out.size)); have HR2 := hid (HRB.out.below hb2); obtain ⟨k0, k1, k2, k3⟩ := HR2.out.c; obtain ⟨n0, n1, n2, n3⟩ := HR2.out.z; clear hb2))
      obtain ⟨y0, y1, y2, y3⟩ := HR2.out.y (.int .u64 x) (.int .u64 va) (.int .i64 0) (.bool false)
      refine bodyPost_ret (by simp [results, Tryz.results33, go_sem, y0, y1, y2, y3]; rfl) rfl ?_
      exact ⟨rfl, below4 HB2.out (Nat.le_succ _) _ _ _ _⟩
    · obtain rfl := HZ.out gz
      go_wp2_with (first
        | (go_at_call 58; rw [← HWA.out]; refine (q_Guest wa T q n f (HM.out.below HA.out) v.root va acc r0 r1 a0 a1 _ _ _ HG.out).mono ?_; rintro r w2 ⟨rfl, hb2⟩; have HB2 := hid (HA.out.trans (hb2.mono HA.out.size)); have HR2 := hid (HRB.out.below hb2); obtain ⟨k0, k1, k2, k3⟩ := HR2.out.c; obtain ⟨n0, n1, n2, n3⟩ := HR2.out.z; clear hb2))
      obtain ⟨y0, y1, y2, y3⟩ := HR2.out.y (.int .u64 0) (.int .u64 va) (.int .i64 z) (.bool false)
      refine bodyPost_ret (by simp [results, Tryz.results33, go_sem, y0, y1, y2, y3]; rfl) rfl ?_
      exact ⟨rfl, below4 HB2.out (Nat.le_succ _) _ _ _ _⟩
  · by_cases h8 : v.satp / 1152921504606846976 = 8
    · have hq : thr (rdm bs n f) v va acc = Q := by rw [← hQ]; unfold tr; rw [if_neg h0, if_pos h8]
      clear hQ
      cases hx : ext va
      · have hq' : Q = ⟨0, 0, 1, false⟩ := by rw [← hq]; unfold thr; rw [hx, if_pos rfl]
        subst hq'
        have hx2 : ¬ (va < 274877906944 ∨ 18446743798831644672 ≤ va) := by simpa [ext] using hx
        have hge : 549755813888 ≤ va + 274877906944 := by omega
        have hlt : va + 274877906944 < 18446744073709551616 := by omega
        clear hq hx
        go_wp2_with fail
        go_returns
        exact ⟨rfl, ((Below.refl _ _).alloc (Nat.le_refl _) _).alloc (by simp) _⟩
      · obtain ⟨P, dn, hP⟩ : ∃ P dn, wk1 (D (rdg (rdm bs n f) v.root) va 1 2 (v.satp % 17592186044416)) v va acc = (P, dn) := ⟨_, _, rfl⟩
        have hx2 : va < 274877906944 ∨ 18446743798831644672 ≤ va := by simpa [ext] using hx
        have hw : IntKind.u64.wrap (va + 274877906944) < 549755813888 := by rw [IntKind.wrap_u64]; omega
        rw [thr_wk (rdm bs n f) v va acc hx P dn hP] at hq
        have hok := D_ok (rdg_ok hRd v.root r0 r1) va 1 2 (v.satp % 17592186044416) (by decide) (by omega) (by omega)
        cases dn
        · rw [if_neg (by decide)] at hq
          subst hq
          have HP := hid hP
          clear hP hx
          go_wp2_with (first
            | (go_at_call 57; rw [← HWA.out]; refine (q_walk wa T q n f (HM.out.below HA.out) v va acc a0 a1 s0 s1 r0 r1 P false HP.out).mono ?_; rintro r w2 ⟨he, hb2⟩; unfold plV at he; subst he; have HB2 : Hid (Below wa.heap.size wa (w2.alloc (.cells #[.int .u64 P.pa, .int .u64 P.gpa, .int .i64 P.fault, .bool P.walk] 86))) := hb2.alloc hb2.size _; have HR2 := hid (HRB.out.below HB2.out); have HE2 := hid (HE.out.below HB2.out); obtain ⟨k0, k1, k2, k3⟩ := HR2.out.c; obtain ⟨n0, n1, n2, n3⟩ := HR2.out.z; obtain ⟨j0, j1, j2, j3, j4⟩ := HE2.out.cs; have HM2 := hid ((HM.out.below HA.out).below HB2.out); clear hb2))
          obtain ⟨y0, y1, y2, y3⟩ := HR2.out.y (.int .u64 P.pa) (.int .u64 P.gpa) (.int .i64 P.fault) (.bool P.walk)
          refine bodyPost_ret (by simp [results, Tryz.results33, go_sem, y0, y1, y2, y3]; rfl) rfl ?_
          exact ⟨rfl, below4 (HA.out.trans (HB2.out.mono HA.out.size)) (Nat.le_succ _) _ _ _ _⟩
        · rw [if_pos rfl] at hq
          have hpg : 0 ≤ P.gpa ∧ P.gpa < 18446744073709551616 := by
            have hb := plc_b hok va
            have h := hP
            unfold wk1 at h
            split at h
            · cases h
            · split at h
              · cases h
              · split at h
                · cases h; exact hb
                · cases h
          obtain ⟨pg0, pg1⟩ := hpg
          obtain ⟨x, y, z, hg⟩ : ∃ x y z, gst (rdm bs n f) v.root P.gpa acc = (x, y, z) := ⟨_, _, _, rfl⟩
          have hz := gst_zero (rdm bs n f) v.root P.gpa acc
          rw [hg] at hz
          have hz : z ≠ 0 → x = 0 := hz
          have hq' : Q = ⟨x, P.gpa, z, false⟩ := by rw [← hq]; unfold plOf; rw [hg]
          subst hq'
          have HG := hid hg
          have HZ := hid hz
          have HP := hid hP
          clear hq hg hz hP hx
          by_cases gz : z = 0
          · subst gz
            go_wp2_with (first
              | (go_at_call 57; rw [← HWA.out]; refine (q_walk wa T q n f (HM.out.below HA.out) v va acc a0 a1 s0 s1 r0 r1 P true HP.out).mono ?_; rintro r w2 ⟨he, hb2⟩; unfold plV at he; subst he; have HB2 : Hid (Below wa.heap.size wa (w2.alloc (.cells #[.int .u64 P.pa, .int .u64 P.gpa, .int .i64 P.fault, .bool P.walk] 86))) := hb2.alloc hb2.size _; have HR2 := hid (HRB.out.below HB2.out); have HE2 := hid (HE.out.below HB2.out); obtain ⟨k0, k1, k2, k3⟩ := HR2.out.c; obtain ⟨n0, n1, n2, n3⟩ := HR2.out.z; obtain ⟨j0, j1, j2, j3, j4⟩ := HE2.out.cs; have HM2 := hid ((HM.out.below HA.out).below HB2.out); clear hb2)
              | (go_at_call 58; refine (q_Guest (w2.alloc (.cells #[.int .u64 P.pa, .int .u64 P.gpa, .int .i64 P.fault, .bool P.walk] 86)) T q n f HM2.out v.root P.gpa acc r0 r1 pg0 pg1 _ _ _ HG.out).mono ?_; rintro r w3 ⟨rfl, hb3⟩; have HB3 := hid hb3; have HR3 := hid (HR2.out.below hb3); obtain ⟨k0, k1, k2, k3⟩ := HR3.out.c; obtain ⟨n0, n1, n2, n3⟩ := HR3.out.z; clear hb3))
            obtain ⟨y0, y1, y2, y3⟩ := HR3.out.y (.int .u64 x) (.int .u64 P.gpa) (.int .i64 0) (.bool false)
            refine bodyPost_ret (by simp [results, Tryz.results33, go_sem, y0, y1, y2, y3]; rfl) rfl ?_
            have e1 := HA.out.trans (HB2.out.mono HA.out.size)
            exact ⟨rfl, below4 (e1.trans (HB3.out.mono e1.size)) (Nat.le_succ _) _ _ _ _⟩
          · obtain rfl := HZ.out gz
            go_wp2_with (first
              | (go_at_call 57; rw [← HWA.out]; refine (q_walk wa T q n f (HM.out.below HA.out) v va acc a0 a1 s0 s1 r0 r1 P true HP.out).mono ?_; rintro r w2 ⟨he, hb2⟩; unfold plV at he; subst he; have HB2 : Hid (Below wa.heap.size wa (w2.alloc (.cells #[.int .u64 P.pa, .int .u64 P.gpa, .int .i64 P.fault, .bool P.walk] 86))) := hb2.alloc hb2.size _; have HR2 := hid (HRB.out.below HB2.out); have HE2 := hid (HE.out.below HB2.out); obtain ⟨k0, k1, k2, k3⟩ := HR2.out.c; obtain ⟨n0, n1, n2, n3⟩ := HR2.out.z; obtain ⟨j0, j1, j2, j3, j4⟩ := HE2.out.cs; have HM2 := hid ((HM.out.below HA.out).below HB2.out); clear hb2)
              | (go_at_call 58; refine (q_Guest (w2.alloc (.cells #[.int .u64 P.pa, .int .u64 P.gpa, .int .i64 P.fault, .bool P.walk] 86)) T q n f HM2.out v.root P.gpa acc r0 r1 pg0 pg1 _ _ _ HG.out).mono ?_; rintro r w3 ⟨rfl, hb3⟩; have HB3 := hid hb3; have HR3 := hid (HR2.out.below hb3); obtain ⟨k0, k1, k2, k3⟩ := HR3.out.c; obtain ⟨n0, n1, n2, n3⟩ := HR3.out.z; clear hb3))
            obtain ⟨y0, y1, y2, y3⟩ := HR3.out.y (.int .u64 0) (.int .u64 P.gpa) (.int .i64 z) (.bool false)
            refine bodyPost_ret (by simp [results, Tryz.results33, go_sem, y0, y1, y2, y3]; rfl) rfl ?_
            have e1 := HA.out.trans (HB2.out.mono HA.out.size)
            exact ⟨rfl, below4 (e1.trans (HB3.out.mono e1.size)) (Nat.le_succ _) _ _ _ _⟩
    · have hq : Q = ⟨0, 0, 1, false⟩ := by rw [← hQ]; unfold tr; rw [if_neg h0, if_neg h8]
      subst hq
      clear hQ
      have h0' : (v.satp / 1152921504606846976 != 0) = true := by simpa using h0
      have h8' : (v.satp / 1152921504606846976 != 8) = true := by simpa using h8
      go_wp2_with fail
      go_returns
      exact ⟨rfl, ((Below.refl _ _).alloc (Nat.le_refl _) _).alloc (by simp) _⟩
end Go.Proofs.YtlfdokkopgmfjaaGreatDoor.C
namespace Go.Proofs.YtlfdokkopgmfjaaGreatDoor.C
open Go.RowKit
set_option linter.unusedVariables false
set_option maxRecDepth 100000
end Go.Proofs.YtlfdokkopgmfjaaGreatDoor.C
