/- PageOff answers true: the walk. -/
import Derived.Test.YtfoafgbhelgjcaaCPEQ
import Derived.Test.YtfoafgbhelgjcaaMC4
namespace Go.Proofs.Ytfoafgbhelgjcaa.C
open Go.RowKit
set_option linter.unusedVariables false
set_option maxRecDepth 100000

theorem tr_root0 (R : Int → Int × Int) (v : EnvV) (hv : v.root = 0) (va acc : Int) (hR : RdOk R) (s0 : 0 ≤ v.satp) : (tr R v va acc).fault = 0 → (tr R v va acc).pa = (tr R v va acc).gpa := by
  have hp : ∀ g, plOf R v.root g acc = ⟨g, g, 0, false⟩ := fun g => by unfold plOf gst; rw [if_pos hv]
  unfold tr
  split
  · rw [hp]; intro _; rfl
  · split
    · unfold thr
      split
      · intro h; exact absurd h (show (1 : Int) ≠ 0 by decide)
      · split
        · intro h; exact absurd h (show (1 : Int) ≠ 0 by decide)
        · split
          · rename_i h; intro h2; exact absurd h2 h
          · split
            · rw [hp]; intro _; rfl
            · intro h; exact absurd h (show (1 : Int) ≠ 0 by decide)
    · intro h; exact absurd h (show (1 : Int) ≠ 0 by decide)
theorem tr_off (R : Int → Int × Int) (v : EnvV) (hv : v.root = 0) (hs : v.satp / 1152921504606846976 = 0) (va acc : Int) : tr R v va acc = ⟨va, va, 0, false⟩ := by
  unfold tr plOf gst; rw [if_pos hs, if_pos hv]
set_option maxHeartbeats 1000000 in
set_option maxRecDepth 100000 in
theorem w_PageOff (w : World) (ad : Option Addr) (la cap ab ao : Nat) (X : Nat → Int × Int) (hX : Cl w ad la cap ab ao X) (a b : Int) (c d e : Bool) (sa0 : 0 ≤ a) (sa1 : a < 18446744073709551616) (b0 : 0 ≤ b) (b1 : b < 18446744073709551616) (va : Int) (g0 : 0 ≤ va) (g1 : va < 18446744073709551616) (acc : Int) (ac0 : -9223372036854775808 ≤ acc) (ac1 : acc ≤ 9223372036854775807) :
    Calls Try.prog 13 #[.agg #[.slice ad la cap, .int .u64 a, .int .u64 b, .bool c, .bool d, .bool e], .int .u64 va, .int .i64 acc] w fun r w' => r = .returned (.bool true) ∧ Below w.heap.size w w' := by
  obtain ⟨wc, hwc⟩ : ∃ wc, wc = w.alloc (.cells #[.slice ad la cap, .int .u64 a, .int .u64 b, .bool c, .bool d, .bool e] 85) := ⟨_, rfl⟩
  have HA : Hid (Below w.heap.size w wc) := by rw [hwc]; exact (Below.refl _ _).alloc (Nat.le_refl _) _
  have HX : Hid (Cl wc ad la cap ab ao X) := Cl.below hX HA.out
  have HC : Hid (CB wc w.heap.size ad la cap a b c d e) := by rw [hwc]; exact heap_alloc_new w _
  have HWC := hid hwc
  obtain ⟨P, hP⟩ : ∃ P, tr (rdm 8 (fcl 8 X la)) ⟨a, 0, c, d, e⟩ va acc = P := ⟨_, rfl⟩
  have HP := hid hP
  have hRd : RdOk (rdm 8 (fcl 8 X la)) := rdm_ok 8 _ (fcl_byt 8 X la)
  have hpf := tr_root0 (rdm 8 (fcl 8 X la)) ⟨a, 0, c, d, e⟩ rfl va acc hRd sa0
  rw [hP] at hpf
  have HPF := hid hpf
  have HQ := hid (tr_off (rdm 8 (fcl 8 X la)) ⟨a % 1152921504606846976, 0, c, d, e⟩ rfl (by show a % 1152921504606846976 / 1152921504606846976 = 0; omega) va acc)
  clear hX hwc hP hpf
  go_enter Try.func13, Try.ntmps13
  have heq := run_eqP
  obtain ⟨Pa, Pg, Pf, Pw⟩ := P
  by_cases hf : Pf = 0
  · have hpe : (Pa != Pg) = false := by simpa using HPF.out hf
    subst hf
    go_wp2_with (first
      | (go_at_call 36; rw [← HWC.out]; refine (c_memory wc ad la cap ab ao X HX.out a b c d e).mono ?_; rintro r w1 ⟨p, q, U, rfl, ht, hb1, hu⟩; have HC1 : Hid (CB (w1.alloc (.cells #[.pointer (some ⟨p, 0, none⟩), .pointer (some ⟨q, 0, none⟩)] 29)) w.heap.size ad la cap a b c d e) := (HC.out.below hb1).below ((Below.refl _ _).alloc (Nat.le_refl _) _); obtain ⟨k1, k2, k3, k4, k5⟩ := HC1.out.cs; obtain ⟨S, T, h1, h2, h3, h4⟩ := ht; have HB := hid (HA.out.trans (hb1.mono HA.out.size)); obtain ⟨we, hwe⟩ : ∃ we, we = (w1.alloc (.cells #[.pointer (some ⟨p, 0, none⟩), .pointer (some ⟨q, 0, none⟩)] 29)).alloc (.cells #[.int .u64 a, .int .u64 0, .bool c, .bool d, .bool e] 83) := ⟨_, rfl⟩; have HBe : Hid (Below w1.heap.size w1 we) := (by rw [hwe]; exact ((Below.refl _ _).alloc (Nat.le_refl _) _).alloc (by simp) _); have HTe : Hid (TB we w1.heap.size p q) := (by rw [hwe]; exact (TB.new w1 p q).below ((Below.refl _ _).alloc (Nat.le_refl _) _)); have HEe : Hid (EB we (w1.heap.size + 1) a 0 c d e) := (by rw [hwe]; exact eb_new w1 _ _ _ _ _ _); have HWE := hid hwe; have HSl0 : Hid (∀ k, S k → k < w1.heap.size) := fun k hk => h1.lt hk; have HM := hid (h1.below HBe.out); clear h1 h2 h3 h4 hb1 hu hwe)
      | (go_at_call 41; rw [← HWE.out]; refine (c_Translate we S p 8 _ HM.out ⟨a, 0, c, d, e⟩ va acc g0 g1 sa0 sa1 (show (0 : Int) ≤ 0 by decide) (show (0 : Int) < 18446744073709551616 by decide) ⟨Pa, Pg, 0, Pw⟩ HP.out).mono ?_; rintro r w2 ⟨rfl, hb2⟩; have HB2 := hid hb2; have HB2a : Hid (Below we.heap.size we (w2.alloc (.cells #[.int .u64 Pa, .int .u64 Pg, .int .i64 0, .bool Pw] 93))) := hb2.alloc hb2.size _; have HE2 := hid (HEe.out.below HB2a.out); obtain ⟨x0, x1, x2, x3, x4⟩ := HE2.out.cs; have xz := HE2.out.z 0; have HT2 := hid (HTe.out.below HB2a.out); have t0 := HT2.out.c0; have HM2 := hid (HM.out.below HB2a.out); have HSl : Hid (∀ k, S k → k < w1.heap.size) := HSl0; have HSz : Hid (w1.heap.size + 1 < w2.heap.size) := Nat.lt_of_lt_of_le (lt_of_block HEe.out) hb2.size; clear hb2)
      | (go_at_call 41; refine (c_Translate ((w2.alloc (.cells #[.int .u64 Pa, .int .u64 Pg, .int .i64 0, .bool Pw] 93)).setCell ⟨w1.heap.size + 1, 0, none⟩ (.int .u64 (a % 1152921504606846976))) S p 8 _ (HM2.out.only (T := (· = w1.heap.size + 1)) ((Only.refl (S := (· = w1.heap.size + 1)) _).setCell (.inl rfl) _) (fun k hk e => by have := HSl.out k hk; omega)) ⟨a % 1152921504606846976, 0, c, d, e⟩ va acc g0 g1 (show 0 ≤ a % 1152921504606846976 by omega) (show a % 1152921504606846976 < 18446744073709551616 by omega) (show (0 : Int) ≤ 0 by decide) (show (0 : Int) < 18446744073709551616 by decide) ⟨va, va, 0, false⟩ HQ.out).mono ?_; rintro r w3 ⟨rfl, hb3⟩; have HB3 := hid hb3; have HR3 : Hid (B4 w3 w2.heap.size (.int .u64 Pa) (.int .u64 Pg) (.int .i64 0) (.bool Pw)) := B4.below (heap_setCell_other' _ _ _ _ (heap_alloc_new w2 _) (Nat.ne_of_gt HSz.out)) hb3; obtain ⟨m0, m1, m2, m3⟩ := HR3.out.c; obtain ⟨n0, n1, n2, n3⟩ := HR3.out.z; obtain ⟨o0, o1, o2, o3⟩ := HR3.out.y (.int .u64 va) (.int .u64 va) (.int .i64 0) (.bool false); clear hb3)
      | (go_at_call 40; refine (c_awake4 _).mono ?_; rintro r w6 ⟨rfl, hb6⟩; have HB6 := hid hb6; clear hb6))
    go_ret
    have e1 := HB.out.trans (HBe.out.mono HB.out.size)
    have e2 := e1.trans (HB2a.out.mono e1.size)
    have l1 : w.heap.size ≤ w1.heap.size + 1 := Nat.le_succ_of_le HB.out.size
    have e3 := e2.setCell (p := ⟨w1.heap.size + 1, 0, none⟩) l1 (.int .u64 (a % 1152921504606846976))
    have e4 := e3.trans (HB3.out.mono e3.size)
    have e5 := below4 e4 (Nat.le_trans e1.size HB2.out.size) (.int .u64 va) (.int .u64 va) (.int .i64 0) (.bool false)
    exact ⟨rfl, e5.trans (HB6.out.mono e5.size)⟩
  · have hf' : (Pf == 0) = false := by simpa using hf
    go_wp2_with (first
      | (go_at_call 36; rw [← HWC.out]; refine (c_memory wc ad la cap ab ao X HX.out a b c d e).mono ?_; rintro r w1 ⟨p, q, U, rfl, ht, hb1, hu⟩; have HC1 : Hid (CB (w1.alloc (.cells #[.pointer (some ⟨p, 0, none⟩), .pointer (some ⟨q, 0, none⟩)] 29)) w.heap.size ad la cap a b c d e) := (HC.out.below hb1).below ((Below.refl _ _).alloc (Nat.le_refl _) _); obtain ⟨k1, k2, k3, k4, k5⟩ := HC1.out.cs; obtain ⟨S, T, h1, h2, h3, h4⟩ := ht; have HB := hid (HA.out.trans (hb1.mono HA.out.size)); obtain ⟨we, hwe⟩ : ∃ we, we = (w1.alloc (.cells #[.pointer (some ⟨p, 0, none⟩), .pointer (some ⟨q, 0, none⟩)] 29)).alloc (.cells #[.int .u64 a, .int .u64 0, .bool c, .bool d, .bool e] 83) := ⟨_, rfl⟩; have HBe : Hid (Below w1.heap.size w1 we) := (by rw [hwe]; exact ((Below.refl _ _).alloc (Nat.le_refl _) _).alloc (by simp) _); have HTe : Hid (TB we w1.heap.size p q) := (by rw [hwe]; exact (TB.new w1 p q).below ((Below.refl _ _).alloc (Nat.le_refl _) _)); have HEe : Hid (EB we (w1.heap.size + 1) a 0 c d e) := (by rw [hwe]; exact eb_new w1 _ _ _ _ _ _); have HWE := hid hwe; have HSl0 : Hid (∀ k, S k → k < w1.heap.size) := fun k hk => h1.lt hk; have HM := hid (h1.below HBe.out); clear h1 h2 h3 h4 hb1 hu hwe)
      | (go_at_call 41; rw [← HWE.out]; refine (c_Translate we S p 8 _ HM.out ⟨a, 0, c, d, e⟩ va acc g0 g1 sa0 sa1 (show (0 : Int) ≤ 0 by decide) (show (0 : Int) < 18446744073709551616 by decide) ⟨Pa, Pg, Pf, Pw⟩ HP.out).mono ?_; rintro r w2 ⟨rfl, hb2⟩; have HB2 := hid hb2; have HB2a : Hid (Below we.heap.size we (w2.alloc (.cells #[.int .u64 Pa, .int .u64 Pg, .int .i64 Pf, .bool Pw] 93))) := hb2.alloc hb2.size _; have HE2 := hid (HEe.out.below HB2a.out); obtain ⟨x0, x1, x2, x3, x4⟩ := HE2.out.cs; have xz := HE2.out.z 0; have HT2 := hid (HTe.out.below HB2a.out); have t0 := HT2.out.c0; have HM2 := hid (HM.out.below HB2a.out); have HSl : Hid (∀ k, S k → k < w1.heap.size) := HSl0; have HSz : Hid (w1.heap.size + 1 < w2.heap.size) := Nat.lt_of_lt_of_le (lt_of_block HEe.out) hb2.size; clear hb2)
      | (go_at_call 41; refine (c_Translate ((w2.alloc (.cells #[.int .u64 Pa, .int .u64 Pg, .int .i64 Pf, .bool Pw] 93)).setCell ⟨w1.heap.size + 1, 0, none⟩ (.int .u64 (a % 1152921504606846976))) S p 8 _ (HM2.out.only (T := (· = w1.heap.size + 1)) ((Only.refl (S := (· = w1.heap.size + 1)) _).setCell (.inl rfl) _) (fun k hk e => by have := HSl.out k hk; omega)) ⟨a % 1152921504606846976, 0, c, d, e⟩ va acc g0 g1 (show 0 ≤ a % 1152921504606846976 by omega) (show a % 1152921504606846976 < 18446744073709551616 by omega) (show (0 : Int) ≤ 0 by decide) (show (0 : Int) < 18446744073709551616 by decide) ⟨va, va, 0, false⟩ HQ.out).mono ?_; rintro r w3 ⟨rfl, hb3⟩; have HB3 := hid hb3; have HR3 : Hid (B4 w3 w2.heap.size (.int .u64 Pa) (.int .u64 Pg) (.int .i64 Pf) (.bool Pw)) := B4.below (heap_setCell_other' _ _ _ _ (heap_alloc_new w2 _) (Nat.ne_of_gt HSz.out)) hb3; obtain ⟨m0, m1, m2, m3⟩ := HR3.out.c; obtain ⟨n0, n1, n2, n3⟩ := HR3.out.z; obtain ⟨o0, o1, o2, o3⟩ := HR3.out.y (.int .u64 va) (.int .u64 va) (.int .i64 0) (.bool false); clear hb3)
      | (go_at_call 40; refine (c_awake4 _).mono ?_; rintro r w6 ⟨rfl, hb6⟩; have HB6 := hid hb6; clear hb6))
    go_ret
    have e1 := HB.out.trans (HBe.out.mono HB.out.size)
    have e2 := e1.trans (HB2a.out.mono e1.size)
    have l1 : w.heap.size ≤ w1.heap.size + 1 := Nat.le_succ_of_le HB.out.size
    have e3 := e2.setCell (p := ⟨w1.heap.size + 1, 0, none⟩) l1 (.int .u64 (a % 1152921504606846976))
    have e4 := e3.trans (HB3.out.mono e3.size)
    have e5 := below4 e4 (Nat.le_trans e1.size HB2.out.size) (.int .u64 va) (.int .u64 va) (.int .i64 0) (.bool false)
    exact ⟨rfl, e5.trans (HB6.out.mono e5.size)⟩
end Go.Proofs.Ytfoafgbhelgjcaa.C
