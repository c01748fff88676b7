/- The document's page: the second stage. -/
import Derived.Test.YtlfdokkopgmfjaaGreatDoorMC5
namespace Go.Proofs.YtlfdokkopgmfjaaGreatDoor.C
open Go.RowKit
set_option linter.unusedVariables false
set_option maxRecDepth 100000
theorem bits_and_i64_nat (a b : Nat) (ha : a < 9223372036854775808) (hb : b < 9223372036854775808) : bits .and .i64 (a : Int) (b : Int) = ((a &&& b : Nat) : Int) := by
  have hx : a &&& b ≤ b := Nat.and_le_right
  have h1 : (BitVec.ofInt 64 (a : Int)).toNat = a := by rw [BitVec.ofInt_natCast, BitVec.toNat_ofNat]; exact Nat.mod_eq_of_lt (by omega)
  have h2 : (BitVec.ofInt 64 (b : Int)).toNat = b := by rw [BitVec.ofInt_natCast, BitVec.toNat_ofNat]; exact Nat.mod_eq_of_lt (by omega)
  show IntKind.i64.wrap ((BitVec.ofInt 64 (a : Int) &&& BitVec.ofInt 64 (b : Int)).toNat : Int) = _
  rw [BitVec.toNat_and, h1, h2, IntKind.wrap_i64]
  omega
theorem bits_or_i64_nat (a b : Nat) (ha : a < 4294967296) (hb : b < 4294967296) : bits .or .i64 (a : Int) (b : Int) = ((a ||| b : Nat) : Int) := by
  have hx : a ||| b < 2 ^ 32 := Nat.or_lt_two_pow ha hb
  have h1 : (BitVec.ofInt 64 (a : Int)).toNat = a := by rw [BitVec.ofInt_natCast, BitVec.toNat_ofNat]; exact Nat.mod_eq_of_lt (by omega)
  have h2 : (BitVec.ofInt 64 (b : Int)).toNat = b := by rw [BitVec.ofInt_natCast, BitVec.toNat_ofNat]; exact Nat.mod_eq_of_lt (by omega)
  show IntKind.i64.wrap ((BitVec.ofInt 64 (a : Int) ||| BitVec.ofInt 64 (b : Int)).toNat : Int) = _
  rw [BitVec.toNat_or, h1, h2, IntKind.wrap_i64]
  omega
theorem and_lo_i (e : Int) (h0 : 0 ≤ e) (h1 : e < 9223372036854775808) (m : Nat) (hm : m < 256) : bits .and .i64 e (m : Int) = ((lo e &&& m : Nat) : Int) := by
  obtain ⟨n, rfl⟩ := Int.eq_ofNat_of_zero_le h0
  rw [bits_and_i64_nat _ _ (by omega) (by omega), land_low n m hm]
  have : lo (n : Int) = n % 256 := by unfold lo; omega
  rw [this]
theorem perm_low : ∀ k : Fin 256, pmN k.val = if (hsN k.val 4 && hsN k.val 128) = true then (k.val &&& 10) ||| 4 else k.val &&& 10 := of_decide_eq_true (by kernel_rfl)
theorem pm_ref (e : Int) : pm e = if (hs e 4 && hs e 128) = true then (((lo e &&& 10) ||| 4 : Nat) : Int) else ((lo e &&& 10 : Nat) : Int) := by
  have h := perm_low ⟨lo e, lo_lt e⟩
  rw [pm_N]
  have h' : pmN (lo e) = if (hs e 4 && hs e 128) = true then (lo e &&& 10) ||| 4 else lo e &&& 10 := h
  rw [h']
  split <;> rfl
theorem q_Read8 (w : World) (S : Nat → Prop) (p n : Nat) {bs : Int} (f : Nat → Int) (h : RMem w S p bs n f) (a : Int) (a0 : 0 ≤ a) (a1 : a < 18446744073709551616) (v : Int) (ok : Bool) (hv : (rdm bs n f a).1 = v) (ho : decide ((rdm bs n f a).2 = 0) = ok) :
    Calls Tryz.prog 34 #[.pointer (some ⟨p, 0, none⟩), .int .u64 a, .int .i64 8] w fun e w' => e = .returned (.tuple #[.int .u64 v, .bool ok]) ∧ Still w w' := by
  subst hv ho
  by_cases q : bs ≤ a ∧ a + 8 ≤ bs + 4096 * n
  · have hr : rdm bs n f a = (nu (fun j => f ((a - bs).toNat + j)) 8, 0) := by unfold rdm; rw [if_pos q]
    rw [hr]
    exact q_Read w S p bs n f h (a - bs).toNat 8 (by omega) (by decide) a (by omega)
  · have hr : rdm bs n f a = (0, 3) := by unfold rdm; rw [if_neg q]
    rw [hr]
    exact q_Read_bad w S p bs n f h a 8 a0 a1 (by decide) (by decide) (by simp [wid, hasB]; omega)
/-- the level that is left, and what the rest of the walk comes to -/
def Gd (R : Int → Int × Int) (gpa wrong : Int) (r : DR) : Nat → Int → Prop
  | 0, _ => r.fault = wrong
  | k + 1, t => D R gpa wrong k t = r
def fd2R (r : DR) (acc gpa : Int) : Int × Int × Int := if r.fault ≠ 0 then (0, 0, r.fault) else if al r.leaf acc = true then (plc r gpa, pm r.leaf, 0) else (0, 0, 2)
theorem plc_ref (e gpa t : Int) (k : Nat) (hk : k ≤ 2) (g0 : 0 ≤ gpa) (h0 : 0 ≤ e) (h : wr e = false) (hz : numR e % pw k = 0) : plc ⟨0, t, k, e⟩ gpa = numR e * 4096 + gpa % (4096 * pw k) := by
  unfold plc
  rw [← numR_eq h0 h]
  show (numR e + gpa / 4096 % pw k) * 4096 + gpa % 4096 = _
  rcases (show k = 0 ∨ k = 1 ∨ k = 2 by omega) with rfl | rfl | rfl
  · rw [pw0]; omega
  · rw [pw1]; omega
  · rw [pw2]; omega
theorem rdm_flt (n : Nat) {bs : Int} (f : Nat → Int) (a : Int) : (rdm bs n f a).2 = 0 ∨ (rdm bs n f a).2 = 3 := by
  unfold rdm; split
  · exact .inl rfl
  · exact .inr rfl
set_option maxHeartbeats 4000000 in
theorem q_Guest (w : World) (T : Nat → Prop) (q n : Nat) {bs : Int} (f : Nat → Int) (hm : RMem w T q bs n f) (root gpa acc : Int) (s0 : 0 ≤ root) (s1 : root < 18446744073709551616) (a0 : 0 ≤ gpa) (a1 : gpa < 18446744073709551616) (x y z : Int) (hg : gst (rdm bs n f) root gpa acc = (x, y, z)) :
    Calls Tryz.prog 58 #[.pointer (some ⟨q, 0, none⟩), .int .u64 root, .int .u64 gpa, .int .i64 acc] w fun r w' => r = .returned (.tuple #[.int .u64 x, .int .i64 y, .int .i64 z]) ∧ Below w.heap.size w w' := by
  have HM := hid hm
  have hRd := rdm_ok (bs := bs) n f hm.byt
  clear hm
  unfold gst at hg
  go_enter Tryz.func58, Tryz.ntmps58
  by_cases h0 : root = 0
  · rw [if_pos h0] at hg
    cases hg
    go_wp2_with fail
    go_ret3
    exact ⟨rfl, Below.refl _ _⟩
  · rw [if_neg h0] at hg
    by_cases h1 : 549755813888 ≤ gpa
    · rw [if_pos h1] at hg
      cases hg
      go_wp2_with fail
      go_ret3
      exact ⟨rfl, Below.refl _ _⟩
    · rw [if_neg h1] at hg
      obtain ⟨r, hr⟩ : ∃ r, D (rdm bs n f) gpa 2 2 root = r := ⟨_, rfl⟩
      rw [hr] at hg
      have HG : Hid ((.returned (.tuple #[.int .u64 (fd2R r acc gpa).1, .int .i64 (fd2R r acc gpa).2.1, .int .i64 (fd2R r acc gpa).2.2]) : Ending) = .returned (.tuple #[.int .u64 x, .int .i64 y, .int .i64 z])) := by
        show _ = _
        have : fd2R r acc gpa = (x, y, z) := hg
        rw [this]
      have HR := hid hr
      clear hr hg
      go_wp2_with fail
      go_loopw [11, 12] (fun tv lv wv => ∃ (m : Nat) (t : Int), m ≤ 3 ∧ lv = .int .i64 ((m : Int) - 1) ∧ tv = .int .u64 t ∧ 0 ≤ t ∧ t < 18446744073709551616 ∧ Gd (rdm bs n f) gpa 2 r m t ∧ Below w.heap.size w wv) (fun _ lv _ => (intOf lv + 1).toNat)
      case atStart => exact ⟨3, root, by decide, rfl, rfl, s0, s1, HR.out, Below.refl _ _⟩
      case round =>
        rename World => wv
        obtain ⟨m, t, hm3, rfl, rfl, t0, t1, hd, hb⟩ := hrel
        have HBr := hid hb
        clear hb
        rcases (show m = 0 ∨ m = 1 ∨ m = 2 ∨ m = 3 by omega) with rfl | rfl | rfl | rfl
        · have hd' : r.fault = 2 := hd
          clear hd
          go_wp2_with fail
          go_ret3
          refine ⟨?_, HBr.out⟩
          rw [← HG.out]
          unfold fd2R; rw [if_pos (by rw [hd']; decide), hd']
          rfl
        · obtain ⟨e, fl, hRe⟩ : ∃ e fl, rdm bs n f (atF gpa 0 t) = (e, fl) := ⟨_, _, rfl⟩
          have hat : atF gpa 0 t = t * 4096 + gpa / 4096 % 512 * 8 := by unfold atF; rw [pw0]; omega
          have hk0 := hRd (atF gpa 0 t)
          rw [hRe] at hk0
          obtain ⟨⟨e0, e1⟩, hfl⟩ := hk0
          have e0' : 0 ≤ e := e0
          have e1' : e < 18446744073709551616 := e1
          have b10 := (bit0_eq e e0' e1').2.2.2
          have b4 := (bit_eq e e0' e1').2.1
          have b128 := (bit_eq e e0' e1').2.2.2.2.2.1
          have hn : 0 ≤ numR e := by unfold numR; omega
          have hn2 : numR e < 17592186044416 := by unfold numR; omega
          have HRe := hid hRe
          have HFL := hid hfl
          have HAT := hid hat
          have HDD : Hid (D (rdm bs n f) gpa 2 0 t = r) := hd
          clear hRe hfl hat hd e0 e1
          by_cases g1 : 4503599627370495 < t
          · go_wp2_with fail
            go_ret3
            refine ⟨?_, HBr.out⟩
            rw [← HG.out, ← HDD.out, D_high g1]
            rfl
          · have g1' : t ≤ 4503599627370495 := by omega
            obtain ⟨q0, q1⟩ := atF_b gpa 0 t t0 g1'
            rw [HAT.out] at q0 q1
            by_cases g2 : fl = 0
            · subst g2
              cases g3 : wr e
              · have w1' := wr_lt g3
                have ha10 : bits .and .i64 e 10 = _ := and_lo_i e e0' (by omega) 10 (by decide)
                have hor4 : bits .or .i64 ((lo e &&& 10 : Nat) : Int) 4 = _ := bits_or_i64_nat (lo e &&& 10) 4 (by have : lo e &&& 10 ≤ 10 := Nat.and_le_right; omega) (by decide)
                cases g4 : lf e
                · rw [g4] at b10
                  go_wp2_with (first
                    | (go_at_call 34; refine (q_Read8 wv T q n f (HM.out.below HBr.out) _ q0 q1 e true (by rw [← HAT.out, HRe.out]) (by rw [← HAT.out, HRe.out]; rfl)).mono ?_; rintro r w3 ⟨rfl, hs3⟩; have HB3 : Hid (Below w.heap.size w w3) := HBr.out.trans (hs3.below _); clear hs3)
                    | (go_at_call 78; refine (q_wrong e e0' e1' _).mono ?_; rintro r w4 ⟨rfl, hw4⟩; obtain rfl := hw4.symm; rw [g3])
                    | (go_at_call 79; refine (q_number e e0' e1' _).mono ?_; rintro r w4 ⟨rfl, hw4⟩; obtain rfl := hw4.symm))
                  go_roundw
                  case rel => exact ⟨0, numR e, by decide, by rfl, rfl, hn, by omega, by show r.fault = 2; rw [← HDD.out, D_end (R := rdm bs n f) (addr := gpa) g1' (by rw [HRe.out]) (by rw [HRe.out]; exact g3) (by rw [HRe.out]; exact g4)], HB3.out⟩
                  case measure => simp [intOf]
                · rw [g4] at b10
                  by_cases g5 : numR e % pw 0 = 0
                  · have g5' : decide (numR e % pw 0 ≠ 0) = false := by simp [g5]
                    cases g6 : al e acc
                    · go_wp2_with (first
                        | (go_at_call 34; refine (q_Read8 wv T q n f (HM.out.below HBr.out) _ q0 q1 e true (by rw [← HAT.out, HRe.out]) (by rw [← HAT.out, HRe.out]; rfl)).mono ?_; rintro r w3 ⟨rfl, hs3⟩; have HB3 : Hid (Below w.heap.size w w3) := HBr.out.trans (hs3.below _); clear hs3)
                        | (go_at_call 78; refine (q_wrong e e0' e1' _).mono ?_; rintro r w4 ⟨rfl, hw4⟩; obtain rfl := hw4.symm; rw [g3])
                        | (go_at_call 80; refine (q_misplaced e e0' e1' 0 (by decide) _).mono ?_; rintro r w4 ⟨rfl, hw4⟩; obtain rfl := hw4.symm; rw [g5'])
                        | (go_at_call 83; refine (q_lets e acc e0' e1' _).mono ?_; rintro r w4 ⟨rfl, hw4⟩; obtain rfl := hw4.symm; rw [g6]))
                      go_ret3
                      refine ⟨?_, HB3.out⟩
                      rw [← HG.out, ← HDD.out, D_leaf (R := rdm bs n f) (addr := gpa) (k := 0) g1' (by rw [HRe.out]) (by rw [HRe.out]; exact g3) (by rw [HRe.out]; exact g4) (by rw [HRe.out]; show num e % _ = 0; rw [← numR_eq e0' g3]; exact g5), HRe.out]
                      unfold fd2R; rw [if_neg (show ¬ ((0 : Int) ≠ 0) by decide)]; show _ = Ending.returned _; rw [g6]; rfl
                    · have hpl := plc_ref e gpa t 0 (by decide) a0 e0' g3 g5
                      rw [pw0] at hpl
                      cases c4 : (hs e 4 && hs e 128)
                      · have hpm : pm e = _ := pm_ref e
                        rw [c4, if_neg (by decide)] at hpm
                        cases d4 : hs e 4
                        · rw [d4] at b4
                          go_wp2_with (first
                            | (go_at_call 34; refine (q_Read8 wv T q n f (HM.out.below HBr.out) _ q0 q1 e true (by rw [← HAT.out, HRe.out]) (by rw [← HAT.out, HRe.out]; rfl)).mono ?_; rintro r w3 ⟨rfl, hs3⟩; have HB3 : Hid (Below w.heap.size w w3) := HBr.out.trans (hs3.below _); clear hs3)
                            | (go_at_call 78; refine (q_wrong e e0' e1' _).mono ?_; rintro r w4 ⟨rfl, hw4⟩; obtain rfl := hw4.symm; rw [g3])
                            | (go_at_call 80; refine (q_misplaced e e0' e1' 0 (by decide) _).mono ?_; rintro r w4 ⟨rfl, hw4⟩; obtain rfl := hw4.symm; rw [g5'])
                            | (go_at_call 83; refine (q_lets e acc e0' e1' _).mono ?_; rintro r w4 ⟨rfl, hw4⟩; obtain rfl := hw4.symm; rw [g6])
                            | (go_at_call 82; refine (q_put4 e gpa e0' e1' a0 a1 0 (by decide) _).mono ?_; rw [pw0]; rintro r w4 ⟨rfl, hb4⟩; have HB4 := hid (HB3.out.trans (hb4.mono HB3.out.size)); clear hb4))
                          go_ret3
                          refine ⟨?_, HB4.out⟩
                          rw [← HG.out, ← HDD.out, D_leaf (R := rdm bs n f) (addr := gpa) (k := 0) g1' (by rw [HRe.out]) (by rw [HRe.out]; exact g3) (by rw [HRe.out]; exact g4) (by rw [HRe.out]; show num e % _ = 0; rw [← numR_eq e0' g3]; exact g5), HRe.out]
                          unfold fd2R
                          rw [if_neg (show ¬ ((0 : Int) ≠ 0) by decide), if_pos (show al e acc = true from g6), hpl]
                          show _ = Ending.returned (.tuple #[_, .int .i64 (pm e), _])
                          rw [hpm]
                          rfl
                        · have d128 : hs e 128 = false := by rw [d4] at c4; simpa using c4
                          rw [d4] at b4
                          rw [d128] at b128
                          go_wp2_with (first
                            | (go_at_call 34; refine (q_Read8 wv T q n f (HM.out.below HBr.out) _ q0 q1 e true (by rw [← HAT.out, HRe.out]) (by rw [← HAT.out, HRe.out]; rfl)).mono ?_; rintro r w3 ⟨rfl, hs3⟩; have HB3 : Hid (Below w.heap.size w w3) := HBr.out.trans (hs3.below _); clear hs3)
                            | (go_at_call 78; refine (q_wrong e e0' e1' _).mono ?_; rintro r w4 ⟨rfl, hw4⟩; obtain rfl := hw4.symm; rw [g3])
                            | (go_at_call 80; refine (q_misplaced e e0' e1' 0 (by decide) _).mono ?_; rintro r w4 ⟨rfl, hw4⟩; obtain rfl := hw4.symm; rw [g5'])
                            | (go_at_call 83; refine (q_lets e acc e0' e1' _).mono ?_; rintro r w4 ⟨rfl, hw4⟩; obtain rfl := hw4.symm; rw [g6])
                            | (go_at_call 82; refine (q_put4 e gpa e0' e1' a0 a1 0 (by decide) _).mono ?_; rw [pw0]; rintro r w4 ⟨rfl, hb4⟩; have HB4 := hid (HB3.out.trans (hb4.mono HB3.out.size)); clear hb4))
                          go_ret3
                          refine ⟨?_, HB4.out⟩
                          rw [← HG.out, ← HDD.out, D_leaf (R := rdm bs n f) (addr := gpa) (k := 0) g1' (by rw [HRe.out]) (by rw [HRe.out]; exact g3) (by rw [HRe.out]; exact g4) (by rw [HRe.out]; show num e % _ = 0; rw [← numR_eq e0' g3]; exact g5), HRe.out]
                          unfold fd2R
                          rw [if_neg (show ¬ ((0 : Int) ≠ 0) by decide), if_pos (show al e acc = true from g6), hpl]
                          show _ = Ending.returned (.tuple #[_, .int .i64 (pm e), _])
                          rw [hpm]
                          rfl
                      · have hpm : pm e = _ := pm_ref e
                        rw [c4, if_pos rfl] at hpm
                        obtain ⟨d4, d128⟩ := Bool.and_eq_true_iff.1 c4
                        rw [d4] at b4
                        rw [d128] at b128
                        go_wp2_with (first
                          | (go_at_call 34; refine (q_Read8 wv T q n f (HM.out.below HBr.out) _ q0 q1 e true (by rw [← HAT.out, HRe.out]) (by rw [← HAT.out, HRe.out]; rfl)).mono ?_; rintro r w3 ⟨rfl, hs3⟩; have HB3 : Hid (Below w.heap.size w w3) := HBr.out.trans (hs3.below _); clear hs3)
                          | (go_at_call 78; refine (q_wrong e e0' e1' _).mono ?_; rintro r w4 ⟨rfl, hw4⟩; obtain rfl := hw4.symm; rw [g3])
                          | (go_at_call 80; refine (q_misplaced e e0' e1' 0 (by decide) _).mono ?_; rintro r w4 ⟨rfl, hw4⟩; obtain rfl := hw4.symm; rw [g5'])
                          | (go_at_call 83; refine (q_lets e acc e0' e1' _).mono ?_; rintro r w4 ⟨rfl, hw4⟩; obtain rfl := hw4.symm; rw [g6])
                          | (go_at_call 82; refine (q_put4 e gpa e0' e1' a0 a1 0 (by decide) _).mono ?_; rw [pw0]; rintro r w4 ⟨rfl, hb4⟩; have HB4 := hid (HB3.out.trans (hb4.mono HB3.out.size)); clear hb4))
                        go_ret3
                        refine ⟨?_, HB4.out⟩
                        rw [← HG.out, ← HDD.out, D_leaf (R := rdm bs n f) (addr := gpa) (k := 0) g1' (by rw [HRe.out]) (by rw [HRe.out]; exact g3) (by rw [HRe.out]; exact g4) (by rw [HRe.out]; show num e % _ = 0; rw [← numR_eq e0' g3]; exact g5), HRe.out]
                        unfold fd2R
                        rw [if_neg (show ¬ ((0 : Int) ≠ 0) by decide), if_pos (show al e acc = true from g6), hpl]
                        show _ = Ending.returned (.tuple #[_, .int .i64 (pm e), _])
                        rw [hpm]
                        rfl
                  · have g5' : decide (numR e % pw 0 ≠ 0) = true := by simp [g5]
                    go_wp2_with (first
                      | (go_at_call 34; refine (q_Read8 wv T q n f (HM.out.below HBr.out) _ q0 q1 e true (by rw [← HAT.out, HRe.out]) (by rw [← HAT.out, HRe.out]; rfl)).mono ?_; rintro r w3 ⟨rfl, hs3⟩; have HB3 : Hid (Below w.heap.size w w3) := HBr.out.trans (hs3.below _); clear hs3)
                      | (go_at_call 78; refine (q_wrong e e0' e1' _).mono ?_; rintro r w4 ⟨rfl, hw4⟩; obtain rfl := hw4.symm; rw [g3])
                      | (go_at_call 80; refine (q_misplaced e e0' e1' 0 (by decide) _).mono ?_; rintro r w4 ⟨rfl, hw4⟩; obtain rfl := hw4.symm; rw [g5']))
                    go_ret3
                    refine ⟨?_, HB3.out⟩
                    rw [← HG.out, ← HDD.out, D_mis (R := rdm bs n f) (addr := gpa) (k := 0) g1' (by rw [HRe.out]) (by rw [HRe.out]; exact g3) (by rw [HRe.out]; exact g4) (by rw [HRe.out]; show num e % _ ≠ 0; rw [← numR_eq e0' g3]; exact g5)]
                    rfl
              · go_wp2_with (first
                  | (go_at_call 34; refine (q_Read8 wv T q n f (HM.out.below HBr.out) _ q0 q1 e true (by rw [← HAT.out, HRe.out]) (by rw [← HAT.out, HRe.out]; rfl)).mono ?_; rintro r w3 ⟨rfl, hs3⟩; have HB3 : Hid (Below w.heap.size w w3) := HBr.out.trans (hs3.below _); clear hs3)
                  | (go_at_call 78; refine (q_wrong e e0' e1' _).mono ?_; rintro r w4 ⟨rfl, hw4⟩; obtain rfl := hw4.symm; rw [g3]))
                go_ret3
                refine ⟨?_, HB3.out⟩
                rw [← HG.out, ← HDD.out, D_wrong (R := rdm bs n f) (addr := gpa) (k := 0) g1' (by rw [HRe.out]) (by rw [HRe.out]; exact g3)]
                rfl
            · have g2' : fl = 3 := by
                have h := rdm_flt (bs := bs) n f (atF gpa 0 t)
                rw [HRe.out] at h
                rcases h with h | h
                · exact absurd h g2
                · exact h
              go_wp2_with (go_at_call 34; refine (q_Read8 wv T q n f (HM.out.below HBr.out) _ q0 q1 e false (by rw [← HAT.out, HRe.out]) (by rw [← HAT.out, HRe.out]; simp [g2])).mono ?_; rintro r w3 ⟨rfl, hs3⟩; have HB3 : Hid (Below w.heap.size w w3) := HBr.out.trans (hs3.below _); clear hs3)
              go_ret3
              refine ⟨?_, HB3.out⟩
              rw [← HG.out, ← HDD.out, D_fault (R := rdm bs n f) (addr := gpa) (k := 0) g1' (by rw [HRe.out]; exact g2), HRe.out, g2']
              rfl
        · obtain ⟨e, fl, hRe⟩ : ∃ e fl, rdm bs n f (atF gpa 1 t) = (e, fl) := ⟨_, _, rfl⟩
          have hat : atF gpa 1 t = t * 4096 + gpa / 2097152 % 512 * 8 := by unfold atF; rw [pw1]; omega
          have hk0 := hRd (atF gpa 1 t)
          rw [hRe] at hk0
          obtain ⟨⟨e0, e1⟩, hfl⟩ := hk0
          have e0' : 0 ≤ e := e0
          have e1' : e < 18446744073709551616 := e1
          have b10 := (bit0_eq e e0' e1').2.2.2
          have b4 := (bit_eq e e0' e1').2.1
          have b128 := (bit_eq e e0' e1').2.2.2.2.2.1
          have hn : 0 ≤ numR e := by unfold numR; omega
          have hn2 : numR e < 17592186044416 := by unfold numR; omega
          have HRe := hid hRe
          have HFL := hid hfl
          have HAT := hid hat
          have HDD : Hid (D (rdm bs n f) gpa 2 1 t = r) := hd
          clear hRe hfl hat hd e0 e1
          by_cases g1 : 4503599627370495 < t
          · go_wp2_with fail
            go_ret3
            refine ⟨?_, HBr.out⟩
            rw [← HG.out, ← HDD.out, D_high g1]
            rfl
          · have g1' : t ≤ 4503599627370495 := by omega
            obtain ⟨q0, q1⟩ := atF_b gpa 1 t t0 g1'
            rw [HAT.out] at q0 q1
            by_cases g2 : fl = 0
            · subst g2
              cases g3 : wr e
              · have w1' := wr_lt g3
                have ha10 : bits .and .i64 e 10 = _ := and_lo_i e e0' (by omega) 10 (by decide)
                have hor4 : bits .or .i64 ((lo e &&& 10 : Nat) : Int) 4 = _ := bits_or_i64_nat (lo e &&& 10) 4 (by have : lo e &&& 10 ≤ 10 := Nat.and_le_right; omega) (by decide)
                cases g4 : lf e
                · rw [g4] at b10
                  go_wp2_with (first
                    | (go_at_call 34; refine (q_Read8 wv T q n f (HM.out.below HBr.out) _ q0 q1 e true (by rw [← HAT.out, HRe.out]) (by rw [← HAT.out, HRe.out]; rfl)).mono ?_; rintro r w3 ⟨rfl, hs3⟩; have HB3 : Hid (Below w.heap.size w w3) := HBr.out.trans (hs3.below _); clear hs3)
                    | (go_at_call 78; refine (q_wrong e e0' e1' _).mono ?_; rintro r w4 ⟨rfl, hw4⟩; obtain rfl := hw4.symm; rw [g3])
                    | (go_at_call 79; refine (q_number e e0' e1' _).mono ?_; rintro r w4 ⟨rfl, hw4⟩; obtain rfl := hw4.symm))
                  go_roundw
                  case rel => exact ⟨1, numR e, by decide, by rfl, rfl, hn, by omega, by show D (rdm bs n f) gpa 2 0 (numR e) = r; rw [numR_eq e0' g3, ← HDD.out]; have h := D_next (R := rdm bs n f) (addr := gpa) (wrong := 2) (k := 0) (t := t) g1' (by show (rdm bs n f (atF gpa 1 t)).2 = 0; rw [HRe.out]) (by show wr (rdm bs n f (atF gpa 1 t)).1 = false; rw [HRe.out]; exact g3) (by show lf (rdm bs n f (atF gpa 1 t)).1 = false; rw [HRe.out]; exact g4); rw [show (rdm bs n f (atF gpa (0 + 1) t)).1 = e from congrArg Prod.fst HRe.out] at h; exact h.symm, HB3.out⟩
                  case measure => simp [intOf]
                · rw [g4] at b10
                  by_cases g5 : numR e % pw 1 = 0
                  · have g5' : decide (numR e % pw 1 ≠ 0) = false := by simp [g5]
                    cases g6 : al e acc
                    · go_wp2_with (first
                        | (go_at_call 34; refine (q_Read8 wv T q n f (HM.out.below HBr.out) _ q0 q1 e true (by rw [← HAT.out, HRe.out]) (by rw [← HAT.out, HRe.out]; rfl)).mono ?_; rintro r w3 ⟨rfl, hs3⟩; have HB3 : Hid (Below w.heap.size w w3) := HBr.out.trans (hs3.below _); clear hs3)
                        | (go_at_call 78; refine (q_wrong e e0' e1' _).mono ?_; rintro r w4 ⟨rfl, hw4⟩; obtain rfl := hw4.symm; rw [g3])
                        | (go_at_call 80; refine (q_misplaced e e0' e1' 1 (by decide) _).mono ?_; rintro r w4 ⟨rfl, hw4⟩; obtain rfl := hw4.symm; rw [g5'])
                        | (go_at_call 83; refine (q_lets e acc e0' e1' _).mono ?_; rintro r w4 ⟨rfl, hw4⟩; obtain rfl := hw4.symm; rw [g6]))
                      go_ret3
                      refine ⟨?_, HB3.out⟩
                      rw [← HG.out, ← HDD.out, D_leaf (R := rdm bs n f) (addr := gpa) (k := 1) g1' (by rw [HRe.out]) (by rw [HRe.out]; exact g3) (by rw [HRe.out]; exact g4) (by rw [HRe.out]; show num e % _ = 0; rw [← numR_eq e0' g3]; exact g5), HRe.out]
                      unfold fd2R; rw [if_neg (show ¬ ((0 : Int) ≠ 0) by decide)]; show _ = Ending.returned _; rw [g6]; rfl
                    · have hpl := plc_ref e gpa t 1 (by decide) a0 e0' g3 g5
                      rw [pw1] at hpl
                      cases c4 : (hs e 4 && hs e 128)
                      · have hpm : pm e = _ := pm_ref e
                        rw [c4, if_neg (by decide)] at hpm
                        cases d4 : hs e 4
                        · rw [d4] at b4
                          go_wp2_with (first
                            | (go_at_call 34; refine (q_Read8 wv T q n f (HM.out.below HBr.out) _ q0 q1 e true (by rw [← HAT.out, HRe.out]) (by rw [← HAT.out, HRe.out]; rfl)).mono ?_; rintro r w3 ⟨rfl, hs3⟩; have HB3 : Hid (Below w.heap.size w w3) := HBr.out.trans (hs3.below _); clear hs3)
                            | (go_at_call 78; refine (q_wrong e e0' e1' _).mono ?_; rintro r w4 ⟨rfl, hw4⟩; obtain rfl := hw4.symm; rw [g3])
                            | (go_at_call 80; refine (q_misplaced e e0' e1' 1 (by decide) _).mono ?_; rintro r w4 ⟨rfl, hw4⟩; obtain rfl := hw4.symm; rw [g5'])
                            | (go_at_call 83; refine (q_lets e acc e0' e1' _).mono ?_; rintro r w4 ⟨rfl, hw4⟩; obtain rfl := hw4.symm; rw [g6])
                            | (go_at_call 82; refine (q_put4 e gpa e0' e1' a0 a1 1 (by decide) _).mono ?_; rw [pw1]; rintro r w4 ⟨rfl, hb4⟩; have HB4 := hid (HB3.out.trans (hb4.mono HB3.out.size)); clear hb4))
                          go_ret3
                          refine ⟨?_, HB4.out⟩
                          rw [← HG.out, ← HDD.out, D_leaf (R := rdm bs n f) (addr := gpa) (k := 1) g1' (by rw [HRe.out]) (by rw [HRe.out]; exact g3) (by rw [HRe.out]; exact g4) (by rw [HRe.out]; show num e % _ = 0; rw [← numR_eq e0' g3]; exact g5), HRe.out]
                          unfold fd2R
                          rw [if_neg (show ¬ ((0 : Int) ≠ 0) by decide), if_pos (show al e acc = true from g6), hpl]
                          show _ = Ending.returned (.tuple #[_, .int .i64 (pm e), _])
                          rw [hpm]
                          rfl
                        · have d128 : hs e 128 = false := by rw [d4] at c4; simpa using c4
                          rw [d4] at b4
                          rw [d128] at b128
                          go_wp2_with (first
                            | (go_at_call 34; refine (q_Read8 wv T q n f (HM.out.below HBr.out) _ q0 q1 e true (by rw [← HAT.out, HRe.out]) (by rw [← HAT.out, HRe.out]; rfl)).mono ?_; rintro r w3 ⟨rfl, hs3⟩; have HB3 : Hid (Below w.heap.size w w3) := HBr.out.trans (hs3.below _); clear hs3)
                            | (go_at_call 78; refine (q_wrong e e0' e1' _).mono ?_; rintro r w4 ⟨rfl, hw4⟩; obtain rfl := hw4.symm; rw [g3])
                            | (go_at_call 80; refine (q_misplaced e e0' e1' 1 (by decide) _).mono ?_; rintro r w4 ⟨rfl, hw4⟩; obtain rfl := hw4.symm; rw [g5'])
                            | (go_at_call 83; refine (q_lets e acc e0' e1' _).mono ?_; rintro r w4 ⟨rfl, hw4⟩; obtain rfl := hw4.symm; rw [g6])
                            | (go_at_call 82; refine (q_put4 e gpa e0' e1' a0 a1 1 (by decide) _).mono ?_; rw [pw1]; rintro r w4 ⟨rfl, hb4⟩; have HB4 := hid (HB3.out.trans (hb4.mono HB3.out.size)); clear hb4))
                          go_ret3
                          refine ⟨?_, HB4.out⟩
                          rw [← HG.out, ← HDD.out, D_leaf (R := rdm bs n f) (addr := gpa) (k := 1) g1' (by rw [HRe.out]) (by rw [HRe.out]; exact g3) (by rw [HRe.out]; exact g4) (by rw [HRe.out]; show num e % _ = 0; rw [← numR_eq e0' g3]; exact g5), HRe.out]
                          unfold fd2R
                          rw [if_neg (show ¬ ((0 : Int) ≠ 0) by decide), if_pos (show al e acc = true from g6), hpl]
                          show _ = Ending.returned (.tuple #[_, .int .i64 (pm e), _])
                          rw [hpm]
                          rfl
                      · have hpm : pm e = _ := pm_ref e
                        rw [c4, if_pos rfl] at hpm
                        obtain ⟨d4, d128⟩ := Bool.and_eq_true_iff.1 c4
                        rw [d4] at b4
                        rw [d128] at b128
                        go_wp2_with (first
                          | (go_at_call 34; refine (q_Read8 wv T q n f (HM.out.below HBr.out) _ q0 q1 e true (by rw [← HAT.out, HRe.out]) (by rw [← HAT.out, HRe.out]; rfl)).mono ?_; rintro r w3 ⟨rfl, hs3⟩; have HB3 : Hid (Below w.heap.size w w3) := HBr.out.trans (hs3.below _); clear hs3)
                          | (go_at_call 78; refine (q_wrong e e0' e1' _).mono ?_; rintro r w4 ⟨rfl, hw4⟩; obtain rfl := hw4.symm; rw [g3])
                          | (go_at_call 80; refine (q_misplaced e e0' e1' 1 (by decide) _).mono ?_; rintro r w4 ⟨rfl, hw4⟩; obtain rfl := hw4.symm; rw [g5'])
                          | (go_at_call 83; refine (q_lets e acc e0' e1' _).mono ?_; rintro r w4 ⟨rfl, hw4⟩; obtain rfl := hw4.symm; rw [g6])
                          | (go_at_call 82; refine (q_put4 e gpa e0' e1' a0 a1 1 (by decide) _).mono ?_; rw [pw1]; rintro r w4 ⟨rfl, hb4⟩; have HB4 := hid (HB3.out.trans (hb4.mono HB3.out.size)); clear hb4))
                        go_ret3
                        refine ⟨?_, HB4.out⟩
                        rw [← HG.out, ← HDD.out, D_leaf (R := rdm bs n f) (addr := gpa) (k := 1) g1' (by rw [HRe.out]) (by rw [HRe.out]; exact g3) (by rw [HRe.out]; exact g4) (by rw [HRe.out]; show num e % _ = 0; rw [← numR_eq e0' g3]; exact g5), HRe.out]
                        unfold fd2R
                        rw [if_neg (show ¬ ((0 : Int) ≠ 0) by decide), if_pos (show al e acc = true from g6), hpl]
                        show _ = Ending.returned (.tuple #[_, .int .i64 (pm e), _])
                        rw [hpm]
                        rfl
                  · have g5' : decide (numR e % pw 1 ≠ 0) = true := by simp [g5]
                    go_wp2_with (first
                      | (go_at_call 34; refine (q_Read8 wv T q n f (HM.out.below HBr.out) _ q0 q1 e true (by rw [← HAT.out, HRe.out]) (by rw [← HAT.out, HRe.out]; rfl)).mono ?_; rintro r w3 ⟨rfl, hs3⟩; have HB3 : Hid (Below w.heap.size w w3) := HBr.out.trans (hs3.below _); clear hs3)
                      | (go_at_call 78; refine (q_wrong e e0' e1' _).mono ?_; rintro r w4 ⟨rfl, hw4⟩; obtain rfl := hw4.symm; rw [g3])
                      | (go_at_call 80; refine (q_misplaced e e0' e1' 1 (by decide) _).mono ?_; rintro r w4 ⟨rfl, hw4⟩; obtain rfl := hw4.symm; rw [g5']))
                    go_ret3
                    refine ⟨?_, HB3.out⟩
                    rw [← HG.out, ← HDD.out, D_mis (R := rdm bs n f) (addr := gpa) (k := 1) g1' (by rw [HRe.out]) (by rw [HRe.out]; exact g3) (by rw [HRe.out]; exact g4) (by rw [HRe.out]; show num e % _ ≠ 0; rw [← numR_eq e0' g3]; exact g5)]
                    rfl
              · go_wp2_with (first
                  | (go_at_call 34; refine (q_Read8 wv T q n f (HM.out.below HBr.out) _ q0 q1 e true (by rw [← HAT.out, HRe.out]) (by rw [← HAT.out, HRe.out]; rfl)).mono ?_; rintro r w3 ⟨rfl, hs3⟩; have HB3 : Hid (Below w.heap.size w w3) := HBr.out.trans (hs3.below _); clear hs3)
                  | (go_at_call 78; refine (q_wrong e e0' e1' _).mono ?_; rintro r w4 ⟨rfl, hw4⟩; obtain rfl := hw4.symm; rw [g3]))
                go_ret3
                refine ⟨?_, HB3.out⟩
                rw [← HG.out, ← HDD.out, D_wrong (R := rdm bs n f) (addr := gpa) (k := 1) g1' (by rw [HRe.out]) (by rw [HRe.out]; exact g3)]
                rfl
            · have g2' : fl = 3 := by
                have h := rdm_flt (bs := bs) n f (atF gpa 1 t)
                rw [HRe.out] at h
                rcases h with h | h
                · exact absurd h g2
                · exact h
              go_wp2_with (go_at_call 34; refine (q_Read8 wv T q n f (HM.out.below HBr.out) _ q0 q1 e false (by rw [← HAT.out, HRe.out]) (by rw [← HAT.out, HRe.out]; simp [g2])).mono ?_; rintro r w3 ⟨rfl, hs3⟩; have HB3 : Hid (Below w.heap.size w w3) := HBr.out.trans (hs3.below _); clear hs3)
              go_ret3
              refine ⟨?_, HB3.out⟩
              rw [← HG.out, ← HDD.out, D_fault (R := rdm bs n f) (addr := gpa) (k := 1) g1' (by rw [HRe.out]; exact g2), HRe.out, g2']
              rfl
        · obtain ⟨e, fl, hRe⟩ : ∃ e fl, rdm bs n f (atF gpa 2 t) = (e, fl) := ⟨_, _, rfl⟩
          have hat : atF gpa 2 t = t * 4096 + gpa / 1073741824 % 512 * 8 := by unfold atF; rw [pw2]; omega
          have hk0 := hRd (atF gpa 2 t)
          rw [hRe] at hk0
          obtain ⟨⟨e0, e1⟩, hfl⟩ := hk0
          have e0' : 0 ≤ e := e0
          have e1' : e < 18446744073709551616 := e1
          have b10 := (bit0_eq e e0' e1').2.2.2
          have b4 := (bit_eq e e0' e1').2.1
          have b128 := (bit_eq e e0' e1').2.2.2.2.2.1
          have hn : 0 ≤ numR e := by unfold numR; omega
          have hn2 : numR e < 17592186044416 := by unfold numR; omega
          have HRe := hid hRe
          have HFL := hid hfl
          have HAT := hid hat
          have HDD : Hid (D (rdm bs n f) gpa 2 2 t = r) := hd
          clear hRe hfl hat hd e0 e1
          by_cases g1 : 4503599627370495 < t
          · go_wp2_with fail
            go_ret3
            refine ⟨?_, HBr.out⟩
            rw [← HG.out, ← HDD.out, D_high g1]
            rfl
          · have g1' : t ≤ 4503599627370495 := by omega
            obtain ⟨q0, q1⟩ := atF_b gpa 2 t t0 g1'
            rw [HAT.out] at q0 q1
            by_cases g2 : fl = 0
            · subst g2
              cases g3 : wr e
              · have w1' := wr_lt g3
                have ha10 : bits .and .i64 e 10 = _ := and_lo_i e e0' (by omega) 10 (by decide)
                have hor4 : bits .or .i64 ((lo e &&& 10 : Nat) : Int) 4 = _ := bits_or_i64_nat (lo e &&& 10) 4 (by have : lo e &&& 10 ≤ 10 := Nat.and_le_right; omega) (by decide)
                cases g4 : lf e
                · rw [g4] at b10
                  go_wp2_with (first
                    | (go_at_call 34; refine (q_Read8 wv T q n f (HM.out.below HBr.out) _ q0 q1 e true (by rw [← HAT.out, HRe.out]) (by rw [← HAT.out, HRe.out]; rfl)).mono ?_; rintro r w3 ⟨rfl, hs3⟩; have HB3 : Hid (Below w.heap.size w w3) := HBr.out.trans (hs3.below _); clear hs3)
                    | (go_at_call 78; refine (q_wrong e e0' e1' _).mono ?_; rintro r w4 ⟨rfl, hw4⟩; obtain rfl := hw4.symm; rw [g3])
                    | (go_at_call 79; refine (q_number e e0' e1' _).mono ?_; rintro r w4 ⟨rfl, hw4⟩; obtain rfl := hw4.symm))
                  go_roundw
                  case rel => exact ⟨2, numR e, by decide, by rfl, rfl, hn, by omega, by show D (rdm bs n f) gpa 2 1 (numR e) = r; rw [numR_eq e0' g3, ← HDD.out]; have h := D_next (R := rdm bs n f) (addr := gpa) (wrong := 2) (k := 1) (t := t) g1' (by show (rdm bs n f (atF gpa 2 t)).2 = 0; rw [HRe.out]) (by show wr (rdm bs n f (atF gpa 2 t)).1 = false; rw [HRe.out]; exact g3) (by show lf (rdm bs n f (atF gpa 2 t)).1 = false; rw [HRe.out]; exact g4); rw [show (rdm bs n f (atF gpa (1 + 1) t)).1 = e from congrArg Prod.fst HRe.out] at h; exact h.symm, HB3.out⟩
                  case measure => simp [intOf]
                · rw [g4] at b10
                  by_cases g5 : numR e % pw 2 = 0
                  · have g5' : decide (numR e % pw 2 ≠ 0) = false := by simp [g5]
                    cases g6 : al e acc
                    · go_wp2_with (first
                        | (go_at_call 34; refine (q_Read8 wv T q n f (HM.out.below HBr.out) _ q0 q1 e true (by rw [← HAT.out, HRe.out]) (by rw [← HAT.out, HRe.out]; rfl)).mono ?_; rintro r w3 ⟨rfl, hs3⟩; have HB3 : Hid (Below w.heap.size w w3) := HBr.out.trans (hs3.below _); clear hs3)
                        | (go_at_call 78; refine (q_wrong e e0' e1' _).mono ?_; rintro r w4 ⟨rfl, hw4⟩; obtain rfl := hw4.symm; rw [g3])
                        | (go_at_call 80; refine (q_misplaced e e0' e1' 2 (by decide) _).mono ?_; rintro r w4 ⟨rfl, hw4⟩; obtain rfl := hw4.symm; rw [g5'])
                        | (go_at_call 83; refine (q_lets e acc e0' e1' _).mono ?_; rintro r w4 ⟨rfl, hw4⟩; obtain rfl := hw4.symm; rw [g6]))
                      go_ret3
                      refine ⟨?_, HB3.out⟩
                      rw [← HG.out, ← HDD.out, D_leaf (R := rdm bs n f) (addr := gpa) (k := 2) g1' (by rw [HRe.out]) (by rw [HRe.out]; exact g3) (by rw [HRe.out]; exact g4) (by rw [HRe.out]; show num e % _ = 0; rw [← numR_eq e0' g3]; exact g5), HRe.out]
                      unfold fd2R; rw [if_neg (show ¬ ((0 : Int) ≠ 0) by decide)]; show _ = Ending.returned _; rw [g6]; rfl
                    · have hpl := plc_ref e gpa t 2 (by decide) a0 e0' g3 g5
                      rw [pw2] at hpl
                      cases c4 : (hs e 4 && hs e 128)
                      · have hpm : pm e = _ := pm_ref e
                        rw [c4, if_neg (by decide)] at hpm
                        cases d4 : hs e 4
                        · rw [d4] at b4
                          go_wp2_with (first
                            | (go_at_call 34; refine (q_Read8 wv T q n f (HM.out.below HBr.out) _ q0 q1 e true (by rw [← HAT.out, HRe.out]) (by rw [← HAT.out, HRe.out]; rfl)).mono ?_; rintro r w3 ⟨rfl, hs3⟩; have HB3 : Hid (Below w.heap.size w w3) := HBr.out.trans (hs3.below _); clear hs3)
                            | (go_at_call 78; refine (q_wrong e e0' e1' _).mono ?_; rintro r w4 ⟨rfl, hw4⟩; obtain rfl := hw4.symm; rw [g3])
                            | (go_at_call 80; refine (q_misplaced e e0' e1' 2 (by decide) _).mono ?_; rintro r w4 ⟨rfl, hw4⟩; obtain rfl := hw4.symm; rw [g5'])
                            | (go_at_call 83; refine (q_lets e acc e0' e1' _).mono ?_; rintro r w4 ⟨rfl, hw4⟩; obtain rfl := hw4.symm; rw [g6])
                            | (go_at_call 82; refine (q_put4 e gpa e0' e1' a0 a1 2 (by decide) _).mono ?_; rw [pw2]; rintro r w4 ⟨rfl, hb4⟩; have HB4 := hid (HB3.out.trans (hb4.mono HB3.out.size)); clear hb4))
                          go_ret3
                          refine ⟨?_, HB4.out⟩
                          rw [← HG.out, ← HDD.out, D_leaf (R := rdm bs n f) (addr := gpa) (k := 2) g1' (by rw [HRe.out]) (by rw [HRe.out]; exact g3) (by rw [HRe.out]; exact g4) (by rw [HRe.out]; show num e % _ = 0; rw [← numR_eq e0' g3]; exact g5), HRe.out]
                          unfold fd2R
                          rw [if_neg (show ¬ ((0 : Int) ≠ 0) by decide), if_pos (show al e acc = true from g6), hpl]
                          show _ = Ending.returned (.tuple #[_, .int .i64 (pm e), _])
                          rw [hpm]
                          rfl
                        · have d128 : hs e 128 = false := by rw [d4] at c4; simpa using c4
                          rw [d4] at b4
                          rw [d128] at b128
                          go_wp2_with (first
                            | (go_at_call 34; refine (q_Read8 wv T q n f (HM.out.below HBr.out) _ q0 q1 e true (by rw [← HAT.out, HRe.out]) (by rw [← HAT.out, HRe.out]; rfl)).mono ?_; rintro r w3 ⟨rfl, hs3⟩; have HB3 : Hid (Below w.heap.size w w3) := HBr.out.trans (hs3.below _); clear hs3)
                            | (go_at_call 78; refine (q_wrong e e0' e1' _).mono ?_; rintro r w4 ⟨rfl, hw4⟩; obtain rfl := hw4.symm; rw [g3])
                            | (go_at_call 80; refine (q_misplaced e e0' e1' 2 (by decide) _).mono ?_; rintro r w4 ⟨rfl, hw4⟩; obtain rfl := hw4.symm; rw [g5'])
                            | (go_at_call 83; refine (q_lets e acc e0' e1' _).mono ?_; rintro r w4 ⟨rfl, hw4⟩; obtain rfl := hw4.symm; rw [g6])
                            | (go_at_call 82; refine (q_put4 e gpa e0' e1' a0 a1 2 (by decide) _).mono ?_; rw [pw2]; rintro r w4 ⟨rfl, hb4⟩; have HB4 := hid (HB3.out.trans (hb4.mono HB3.out.size)); clear hb4))
                          go_ret3
                          refine ⟨?_, HB4.out⟩
                          rw [← HG.out, ← HDD.out, D_leaf (R := rdm bs n f) (addr := gpa) (k := 2) g1' (by rw [HRe.out]) (by rw [HRe.out]; exact g3) (by rw [HRe.out]; exact g4) (by rw [HRe.out]; show num e % _ = 0; rw [← numR_eq e0' g3]; exact g5), HRe.out]
                          unfold fd2R
                          rw [if_neg (show ¬ ((0 : Int) ≠ 0) by decide), if_pos (show al e acc = true from g6), hpl]
                          show _ = Ending.returned (.tuple #[_, .int .i64 (pm e), _])
                          rw [hpm]
                          rfl
                      · have hpm : pm e = _ := pm_ref e
                        rw [c4, if_pos rfl] at hpm
                        obtain ⟨d4, d128⟩ := Bool.and_eq_true_iff.1 c4
                        rw [d4] at b4
                        rw [d128] at b128
                        go_wp2_with (first
                          | (go_at_call 34; refine (q_Read8 wv T q n f (HM.out.below HBr.out) _ q0 q1 e true (by rw [← HAT.out, HRe.out]) (by rw [← HAT.out, HRe.out]; rfl)).mono ?_; rintro r w3 ⟨rfl, hs3⟩; have HB3 : Hid (Below w.heap.size w w3) := HBr.out.trans (hs3.below _); clear hs3)
                          | (go_at_call 78; refine (q_wrong e e0' e1' _).mono ?_; rintro r w4 ⟨rfl, hw4⟩; obtain rfl := hw4.symm; rw [g3])
                          | (go_at_call 80; refine (q_misplaced e e0' e1' 2 (by decide) _).mono ?_; rintro r w4 ⟨rfl, hw4⟩; obtain rfl := hw4.symm; rw [g5'])
                          | (go_at_call 83; refine (q_lets e acc e0' e1' _).mono ?_; rintro r w4 ⟨rfl, hw4⟩; obtain rfl := hw4.symm; rw [g6])
                          | (go_at_call 82; refine (q_put4 e gpa e0' e1' a0 a1 2 (by decide) _).mono ?_; rw [pw2]; rintro r w4 ⟨rfl, hb4⟩; have HB4 := hid (HB3.out.trans (hb4.mono HB3.out.size)); clear hb4))
                        go_ret3
                        refine ⟨?_, HB4.out⟩
                        rw [← HG.out, ← HDD.out, D_leaf (R := rdm bs n f) (addr := gpa) (k := 2) g1' (by rw [HRe.out]) (by rw [HRe.out]; exact g3) (by rw [HRe.out]; exact g4) (by rw [HRe.out]; show num e % _ = 0; rw [← numR_eq e0' g3]; exact g5), HRe.out]
                        unfold fd2R
                        rw [if_neg (show ¬ ((0 : Int) ≠ 0) by decide), if_pos (show al e acc = true from g6), hpl]
                        show _ = Ending.returned (.tuple #[_, .int .i64 (pm e), _])
                        rw [hpm]
                        rfl
                  · have g5' : decide (numR e % pw 2 ≠ 0) = true := by simp [g5]
                    go_wp2_with (first
                      | (go_at_call 34; refine (q_Read8 wv T q n f (HM.out.below HBr.out) _ q0 q1 e true (by rw [← HAT.out, HRe.out]) (by rw [← HAT.out, HRe.out]; rfl)).mono ?_; rintro r w3 ⟨rfl, hs3⟩; have HB3 : Hid (Below w.heap.size w w3) := HBr.out.trans (hs3.below _); clear hs3)
                      | (go_at_call 78; refine (q_wrong e e0' e1' _).mono ?_; rintro r w4 ⟨rfl, hw4⟩; obtain rfl := hw4.symm; rw [g3])
                      | (go_at_call 80; refine (q_misplaced e e0' e1' 2 (by decide) _).mono ?_; rintro r w4 ⟨rfl, hw4⟩; obtain rfl := hw4.symm; rw [g5']))
                    go_ret3
                    refine ⟨?_, HB3.out⟩
                    rw [← HG.out, ← HDD.out, D_mis (R := rdm bs n f) (addr := gpa) (k := 2) g1' (by rw [HRe.out]) (by rw [HRe.out]; exact g3) (by rw [HRe.out]; exact g4) (by rw [HRe.out]; show num e % _ ≠ 0; rw [← numR_eq e0' g3]; exact g5)]
                    rfl
              · go_wp2_with (first
                  | (go_at_call 34; refine (q_Read8 wv T q n f (HM.out.below HBr.out) _ q0 q1 e true (by rw [← HAT.out, HRe.out]) (by rw [← HAT.out, HRe.out]; rfl)).mono ?_; rintro r w3 ⟨rfl, hs3⟩; have HB3 : Hid (Below w.heap.size w w3) := HBr.out.trans (hs3.below _); clear hs3)
                  | (go_at_call 78; refine (q_wrong e e0' e1' _).mono ?_; rintro r w4 ⟨rfl, hw4⟩; obtain rfl := hw4.symm; rw [g3]))
                go_ret3
                refine ⟨?_, HB3.out⟩
                rw [← HG.out, ← HDD.out, D_wrong (R := rdm bs n f) (addr := gpa) (k := 2) g1' (by rw [HRe.out]) (by rw [HRe.out]; exact g3)]
                rfl
            · have g2' : fl = 3 := by
                have h := rdm_flt (bs := bs) n f (atF gpa 2 t)
                rw [HRe.out] at h
                rcases h with h | h
                · exact absurd h g2
                · exact h
              go_wp2_with (go_at_call 34; refine (q_Read8 wv T q n f (HM.out.below HBr.out) _ q0 q1 e false (by rw [← HAT.out, HRe.out]) (by rw [← HAT.out, HRe.out]; simp [g2])).mono ?_; rintro r w3 ⟨rfl, hs3⟩; have HB3 : Hid (Below w.heap.size w w3) := HBr.out.trans (hs3.below _); clear hs3)
              go_ret3
              refine ⟨?_, HB3.out⟩
              rw [← HG.out, ← HDD.out, D_fault (R := rdm bs n f) (addr := gpa) (k := 2) g1' (by rw [HRe.out]; exact g2), HRe.out, g2']
              rfl
end Go.Proofs.YtlfdokkopgmfjaaGreatDoor.C
