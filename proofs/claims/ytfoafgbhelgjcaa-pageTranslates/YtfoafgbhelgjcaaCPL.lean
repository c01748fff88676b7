/- Package page: Translate. -/
import Derived.Test.YtfoafgbhelgjcaaCPK
namespace Go.Proofs.Ytfoafgbhelgjcaa.C
open Go.RowKit
set_option linter.unusedVariables false
set_option maxRecDepth 100000

def envV (v : EnvV) : Value := .agg #[.int .u64 v.satp, .int .u64 v.root, .bool v.user, .bool v.sum, .bool v.mxr]
set_option maxHeartbeats 1000000 in
set_option maxRecDepth 100000 in
theorem c_Both (w : World) (S : Nat → Prop) (p n : Nat) (f : Nat → Int) (hm : Mem w S p 0 n f) (cm ce : Nat) (v : EnvV) (hcp : Cap w cm ce p v.root) (va acc : Int) (a0 : 0 ≤ va) (a1 : va < 18446744073709551616) (s0 : 0 ≤ v.satp) (s1 : v.satp < 18446744073709551616) (r0 : 0 ≤ v.root) (r1 : v.root < 18446744073709551616) (P : PlV) (hP : tr (rdm n f) v va acc = P) :
    Calls Try.prog 66 #[.pointer (some ⟨p, 0, none⟩), .agg #[.int .u64 v.satp, .int .u64 v.root, .bool v.user, .bool v.sum, .bool v.mxr], .int .u64 va, .int .i64 acc, .func (.func 67) #[] #[.pointer (some ⟨cm, 0, none⟩), .pointer (some ⟨ce, 0, none⟩)]] w fun r w' => r = .returned (.agg #[.int .u64 P.pa, .int .u64 P.gpa, .int .i64 P.fault, .bool P.walk]) ∧ Below w.heap.size w w' := by
  have HM := hid hm
  have HCP := hid hcp
  clear hm hcp
  obtain ⟨wa, hwa⟩ : ∃ wa, wa = (w.alloc (.cells #[.int .u64 v.satp, .int .u64 v.root, .bool v.user, .bool v.sum, .bool v.mxr] 83)).alloc (.cells #[.int .u64 0, .int .u64 0, .int .i64 0, .bool false] 93) := ⟨_, rfl⟩
  have HA : Hid (Below w.heap.size w wa) := by rw [hwa]; exact ((Below.refl _ _).alloc (Nat.le_refl _) _).alloc (by simp) _
  have HR : Hid (B4 wa (w.heap.size + 1) (.int .u64 0) (.int .u64 0) (.int .i64 0) (.bool false)) := by
    rw [hwa]
    have := heap_alloc_new (w.alloc (.cells #[.int .u64 v.satp, .int .u64 v.root, .bool v.user, .bool v.sum, .bool v.mxr] 83)) (.cells #[.int .u64 0, .int .u64 0, .int .i64 0, .bool false] 93)
    have e1 : (w.alloc (.cells #[.int .u64 v.satp, .int .u64 v.root, .bool v.user, .bool v.sum, .bool v.mxr] 83)).heap.size = w.heap.size + 1 := by simp
    rw [e1] at this
    exact this
  have HWA := hid hwa
  clear hwa
  go_enter Try.func66, Try.ntmps66
  by_cases h0 : v.satp / 1152921504606846976 = 0
  · have hQ : plOf (rdm n f) v.root va acc = P := by rw [← hP]; unfold tr; rw [if_pos h0]
    have HP := hid hQ
    clear hP hQ
    go_wp2_with (first
      | (go_at_call 90; rw [← HWA.out]; refine (c_placeOf wa S p n f (HM.out.below HA.out) cm ce v.root (HCP.out.below HA.out) va acc r0 r1 a0 a1).mono ?_; rw [HP.out]; rintro e w1 ⟨he, hb1⟩; unfold plV at he; subst he; have HB1 := hid hb1; have HR1 := hid (HR.out.below hb1); obtain ⟨k0, k1, k2, k3⟩ := HR1.out.c; obtain ⟨z0, z1, z2, z3⟩ := HR1.out.z; clear hb1))
    obtain ⟨y0, y1, y2, y3⟩ := HR1.out.y (.int .u64 P.pa) (.int .u64 P.gpa) (.int .i64 P.fault) (.bool P.walk)
    refine bodyPost_ret (by simp [results, Try.results66, go_sem, y0, y1, y2, y3]; rfl) rfl ?_
    exact ⟨rfl, below4 (HA.out.trans (HB1.out.mono HA.out.size)) (Nat.le_succ _) _ _ _ _⟩
  · by_cases h8 : v.satp / 1152921504606846976 = 8
    · have hQ : thr (rdm n f) v va acc = P := by rw [← hP]; unfold tr; rw [if_neg h0, if_pos h8]
      have HP := hid hQ
      clear hP hQ
      go_wp2_with (first
        | (go_at_call 91; rw [← HWA.out]; refine (c_throughBoth wa S p n f (HM.out.below HA.out) cm ce v (HCP.out.below HA.out) va acc a0 a1 s0 s1 r0 r1).mono ?_; rw [HP.out]; rintro e w1 ⟨he, hb1⟩; unfold plV at he; subst he; have HB1 := hid hb1; have HR1 := hid (HR.out.below hb1); obtain ⟨k0, k1, k2, k3⟩ := HR1.out.c; obtain ⟨z0, z1, z2, z3⟩ := HR1.out.z; clear hb1))
      obtain ⟨y0, y1, y2, y3⟩ := HR1.out.y (.int .u64 P.pa) (.int .u64 P.gpa) (.int .i64 P.fault) (.bool P.walk)
      refine bodyPost_ret (by simp [results, Try.results66, go_sem, y0, y1, y2, y3]; rfl) rfl ?_
      exact ⟨rfl, below4 (HA.out.trans (HB1.out.mono HA.out.size)) (Nat.le_succ _) _ _ _ _⟩
    · have hQ : P = ⟨0, 0, 1, false⟩ := by rw [← hP]; unfold tr; rw [if_neg h0, if_neg h8]
      subst hQ
      clear hP
      have h0' : (v.satp / 1152921504606846976 == 0) = false := by simpa using h0
      have h8' : (v.satp / 1152921504606846976 == 8) = false := by simpa using h8
      go_wp2_with fail
      go_returns
      exact ⟨rfl, ((Below.refl _ _).alloc (Nat.le_refl _) _).alloc (by simp) _⟩
set_option maxHeartbeats 1000000 in
set_option maxRecDepth 100000 in
theorem c_Translate (w : World) (S : Nat → Prop) (p n : Nat) (f : Nat → Int) (hm : Mem w S p 0 n f) (v : EnvV) (va acc : Int) (a0 : 0 ≤ va) (a1 : va < 18446744073709551616) (s0 : 0 ≤ v.satp) (s1 : v.satp < 18446744073709551616) (r0 : 0 ≤ v.root) (r1 : v.root < 18446744073709551616) (P : PlV) (hP : tr (rdm n f) v va acc = P) :
    Calls Try.prog 41 #[.pointer (some ⟨p, 0, none⟩), .agg #[.int .u64 v.satp, .int .u64 v.root, .bool v.user, .bool v.sum, .bool v.mxr], .int .u64 va, .int .i64 acc] w fun r w' => r = .returned (.agg #[.int .u64 P.pa, .int .u64 P.gpa, .int .i64 P.fault, .bool P.walk]) ∧ Below w.heap.size w w' := by
  have HM := hid hm
  have HP := hid hP
  clear hm hP
  obtain ⟨wa, hwa⟩ : ∃ wa, wa = ((w.alloc (.cells #[.pointer (some ⟨p, 0, none⟩)] 26)).alloc (.cells #[.int .u64 v.satp, .int .u64 v.root, .bool v.user, .bool v.sum, .bool v.mxr] 83)).alloc (.cells #[.int .u64 0, .int .u64 0, .int .i64 0, .bool false] 93) := ⟨_, rfl⟩
  have HA : Hid (Below w.heap.size w wa) := by rw [hwa]; exact (((Below.refl _ _).alloc (Nat.le_refl _) _).alloc (by simp) _).alloc (by simp; omega) _
  have HCP : Hid (Cap wa w.heap.size (w.heap.size + 1) p v.root) := by
    rw [hwa]
    have e0 : (((w.alloc (.cells #[.pointer (some ⟨p, 0, none⟩)] 26)).alloc (.cells #[.int .u64 v.satp, .int .u64 v.root, .bool v.user, .bool v.sum, .bool v.mxr] 83)).alloc (.cells #[.int .u64 0, .int .u64 0, .int .i64 0, .bool false] 93)).heap[w.heap.size]? = some (.cells #[.pointer (some ⟨p, 0, none⟩)] 26 (0, 0)) :=
      (Below.heap_alloc _ _ _ (by simp; omega)).trans ((Below.heap_alloc _ _ _ (by simp)).trans (heap_alloc_new w _))
    have s1 : (w.alloc (.cells #[.pointer (some ⟨p, 0, none⟩)] 26)).heap.size = w.heap.size + 1 := by simp
    have e1 : (((w.alloc (.cells #[.pointer (some ⟨p, 0, none⟩)] 26)).alloc (.cells #[.int .u64 v.satp, .int .u64 v.root, .bool v.user, .bool v.sum, .bool v.mxr] 83)).alloc (.cells #[.int .u64 0, .int .u64 0, .int .i64 0, .bool false] 93)).heap[w.heap.size + 1]? = some (.cells #[.int .u64 v.satp, .int .u64 v.root, .bool v.user, .bool v.sum, .bool v.mxr] 83 (0, 0)) := by
      rw [← s1]
      exact (Below.heap_alloc _ _ _ (by simp)).trans (heap_alloc_new _ _)
    exact ⟨by rw [cell_of_row _ _ 0 _ _ _ e0]; rfl, by rw [cell_of_row _ _ 1 _ _ _ e1]; rfl, lt_of_block e0, lt_of_block e1⟩
  have HR : Hid (B4 wa (w.heap.size + 1 + 1) (.int .u64 0) (.int .u64 0) (.int .i64 0) (.bool false)) := by
    rw [hwa]
    have := heap_alloc_new ((w.alloc (.cells #[.pointer (some ⟨p, 0, none⟩)] 26)).alloc (.cells #[.int .u64 v.satp, .int .u64 v.root, .bool v.user, .bool v.sum, .bool v.mxr] 83)) (.cells #[.int .u64 0, .int .u64 0, .int .i64 0, .bool false] 93)
    have e1 : ((w.alloc (.cells #[.pointer (some ⟨p, 0, none⟩)] 26)).alloc (.cells #[.int .u64 v.satp, .int .u64 v.root, .bool v.user, .bool v.sum, .bool v.mxr] 83)).heap.size = w.heap.size + 1 + 1 := by simp
    rw [e1] at this
    exact this
  have HWA := hid hwa
  clear hwa
  go_enter Try.func41, Try.ntmps41
  go_wp2_with (first
    | (go_at_call 66; rw [← HWA.out]; refine (c_Both wa S p n f (HM.out.below HA.out) w.heap.size (w.heap.size + 1) v HCP.out va acc a0 a1 s0 s1 r0 r1 P HP.out).mono ?_; rintro e w1 ⟨rfl, hb1⟩; have HB1 := hid hb1; have HR1 := hid (HR.out.below hb1); obtain ⟨k0, k1, k2, k3⟩ := HR1.out.c; obtain ⟨z0, z1, z2, z3⟩ := HR1.out.z; clear hb1))
  obtain ⟨y0, y1, y2, y3⟩ := HR1.out.y (.int .u64 P.pa) (.int .u64 P.gpa) (.int .i64 P.fault) (.bool P.walk)
  refine bodyPost_ret (by simp [results, Try.results41, go_sem, y0, y1, y2, y3]; rfl) rfl ?_
  exact ⟨rfl, below4 (HA.out.trans (HB1.out.mono HA.out.size)) (by omega) _ _ _ _⟩
end Go.Proofs.Ytfoafgbhelgjcaa.C
