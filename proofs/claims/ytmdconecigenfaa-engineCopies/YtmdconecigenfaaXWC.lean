/- EngineCopies: a copy of just its bytes. -/
import Derived.Test.YtmdconecigenfaaXX
namespace Go.Proofs.Ytmdconecigenfaa
open Go.RowKit
open C (Only hid Mem Still ret_int ret_bool put byt nu hasB RMem TB Cl fcl Tw c_Place c_Same)
set_option linter.unusedVariables false
set_option maxRecDepth 100000

theorem cpF0 (f : Nat → Int) (x y : Int) : cpF 0 f x y = put f y.toNat 8 (byt (nu (fun j => f (x.toNat + j)) 8)) := by unfold cpF; rw [Int.sub_zero, Int.sub_zero]
set_option maxHeartbeats 2000000 in
theorem w_EngineCopies (W : World) (ad : Option Addr) (la cap ab ao : Nat) (X : Nat → Int × Int) (hX : Cl W ad la cap ab ao X) (s : Int) (s0 : -9223372036854775808 ≤ s) (s1 : s ≤ 9223372036854775807) (d : Int) (d0 : -9223372036854775808 ≤ d) (d1 : d ≤ 9223372036854775807) (n : Int) (n0 : -9223372036854775808 ≤ n) (n1 : n ≤ 9223372036854775807) :
    Calls Try.prog 3 #[.slice ad la cap, .int .i64 s, .int .i64 d, .int .i64 n] W fun e w' => e = .returned (.bool true) ∧ Below W.heap.size W w' := by
  obtain ⟨xx, hxx, xx0, xx1⟩ : ∃ xx : Int, s % 512 = xx ∧ 0 ≤ xx ∧ xx < 512 := ⟨_, rfl, by omega, by omega⟩
  obtain ⟨yy, hyy, yy0, yy1⟩ : ∃ yy : Int, d % 512 = yy ∧ 0 ≤ yy ∧ yy < 512 := ⟨_, rfl, by omega, by omega⟩
  obtain ⟨zz, hzz, zz0, zz1⟩ : ∃ zz : Int, n % 512 = zz ∧ 0 ≤ zz ∧ zz < 512 := ⟨_, rfl, by omega, by omega⟩
  have Hxx := hid hxx
  have Hyy := hid hyy
  have Hzz := hid hzz
  have HX := hid hX
  clear hX hxx hyy hzz
  have T0 : Hid True := hid trivial
  have T1 : Hid True := hid trivial
  have T2 : Hid True := hid trivial
  have TW : Hid True := hid trivial
  have P0 : Hid True := hid trivial
  have P1 : Hid True := hid trivial
  have P2 : Hid True := hid trivial
  go_enter Try.func3, Try.ntmps3
  go_wp2_with (first
    | (go_at_call 7; refine (C.c_Memory _ 6 (by decide) (by decide) ad la cap ab ao X HX.out).mono ?_; rintro r w1 ⟨p, q, U, rfl, ht, hb, hu⟩; have HT := hid ht; have HB := hid hb; have HU := hid hu; clear ht hb hu)
    | (go_at_call 8; refine (x_Flat _ p).mono ?_; rintro r w2 ⟨rfl, f1, f2⟩; obtain ⟨S, T, hL⟩ := lay_flat (Below.refl _ _) HT.out HB.out HU.out f1 f2; have HL := hid hL; clear f1 f2 hL)
    | (go_at_call 9; have t := P0; clear t P0; refine (c_Place s 512 (by decide) (by decide) s0 s1 _).mono ?_; rw [Hxx.out]; rintro r wz ⟨rfl, hwz⟩; obtain rfl := hwz.symm)
    | (go_at_call 9; have t := P1; clear t P1; refine (c_Place d 512 (by decide) (by decide) d0 d1 _).mono ?_; rw [Hyy.out]; rintro r wz ⟨rfl, hwz⟩; obtain rfl := hwz.symm)
    | (go_at_call 9; have t := P2; clear t P2; refine (c_Place n 512 (by decide) (by decide) n0 n1 _).mono ?_; rw [Hzz.out]; rintro r wz ⟨rfl, hwz⟩; obtain rfl := hwz.symm)
    | (go_at_call 10; have t := T0; clear t T0; refine (f_Write _ _ _ _ _ _ _ _ _ _ _ _ _ HL.out 0 8 (8 * xx) (by omega) (by omega) (by decide) (by decide) true rfl (eu (fun _ => 0) 0 (8 * xx)) (f_W8 (fun _ => 0) rfl (8 * xx)).1).mono ?_; rintro r wx1 ⟨rfl, hL⟩; have HLx1 := hid hL; clear hL)
    | (go_at_call 10; have t := T1; clear t T1; refine (f_Write _ _ _ _ _ _ _ _ _ _ _ _ _ HLx1.out 8 8 (8192 + 8 * yy) (by omega) (by omega) (by decide) (by decide) true rfl (eu (eu (fun _ => 0) 0 (8 * xx)) 1 (8192 + 8 * yy)) (f_W8 (eu (fun _ => 0) 0 (8 * xx)) rfl (8192 + 8 * yy)).2.1).mono ?_; rintro r wx2 ⟨rfl, hL⟩; have HLx2 := hid hL; clear hL)
    | (go_at_call 10; have t := T2; clear t T2; refine (f_Write _ _ _ _ _ _ _ _ _ _ _ _ _ HLx2.out 16 8 (8 + 8 * zz) (by omega) (by omega) (by decide) (by decide) true rfl (eu (eu (eu (fun _ => 0) 0 (8 * xx)) 1 (8192 + 8 * yy)) 2 (8 + 8 * zz)) (f_W8 (eu (eu (fun _ => 0) 0 (8 * xx)) 1 (8192 + 8 * yy)) rfl (8 + 8 * zz)).2.2.1).mono ?_; rintro r wx3 ⟨rfl, hL⟩; have HLx3 := hid hL; clear hL)
    | (go_at_call 10; have t := TW; clear t TW; refine (f_Write _ _ _ _ _ _ _ _ _ _ _ _ _ HLx3.out 24 4 1 (by decide) (by decide) (by decide) (by decide) true rfl (bgE (eu (eu (eu (fun _ => 0) 0 (8 * xx)) 1 (8192 + 8 * yy)) 2 (8 + 8 * zz))) ((f_W4 (eu (eu (eu (fun _ => 0) 0 (8 * xx)) 1 (8192 + 8 * yy)) 2 (8 + 8 * zz)) 1).trans (cm_1 (eu (eu (eu (fun _ => 0) 0 (8 * xx)) 1 (8192 + 8 * yy)) 2 (8 + 8 * zz)) rfl))).mono ?_; rintro r wx4 ⟨rfl, hL⟩; have HLb := hid (FL.rn hL (v' := (e0 p).wr (rB (8 * xx) (8192 + 8 * yy) (8 + 8 * zz))) rfl); clear hL))
  obtain ⟨N, hN⟩ : ∃ N : Nat, (N : Int) = zz + 1 := ⟨(zz + 1).toNat, by omega⟩
  have hok : okB (8 * xx) (8192 + 8 * yy) (8 + 8 * zz) = true := by unfold okB; simp; omega
  have HS0 := hid (FL.rn HLb.out (v' := (e0 p).wr (rS (8 * xx) (8192 + 8 * yy) (8 + 8 * zz) 0 1)) (by rw [rB_S, hok]; rfl))
  clear HL HLx1 HLx2 HLx3 HLb HT HB HU HX hok
  obtain ⟨e, he⟩ : ∃ e, e = w1.heap.size + 1 := ⟨_, rfl⟩
  obtain ⟨b, hb⟩ : ∃ b, b = w1.heap.size := ⟨_, rfl⟩
  rw [← he, ← hb] at HS0
  rw [← he, ← hb]
  clear he hb
  go_loopw [15] (fun i wr => ∃ (c : Nat) (S1 T1 : Nat → Prop) (f : Nat → Int), c ≤ N ∧ i = .int .u64 (8 * (c : Int)) ∧ FL W wr b e ((e0 p).wr (rS (8 * xx) (8192 + 8 * yy) (8 + 8 * zz) (8 * (c : Int)) (if c = N then 2 else 1))) S1 T1 p q 0 6 f f) (fun i _ => N - ((intOf i).toNat / 8))
  case atStart => exact ⟨0, _, _, _, by omega, rfl, by rw [if_neg (by omega)]; exact HS0.out⟩
  case round =>
    clear HS0
    obtain ⟨c, S1, T1, f, hc, rfl, hl⟩ := hrel
    by_cases hlt : c < N
    · rw [if_neg (by omega)] at hl
      have HC := hid hl
      have hby := hl.mm.byt
      have HNU : Hid (∀ m : Nat, 0 ≤ nu (fun j => f (m + j)) 8 ∧ nu (fun j => f (m + j)) 8 < 18446744073709551616) := hid (fun m => C.nu_lt _ (fun j => hby _) 8)
      have hst := fl_ok p 0 6 f (8 * xx) (8192 + 8 * yy) (8 + 8 * zz) (8 * (c : Int)) (by rw [w64_id (by omega) (by omega)]; exact has_in (by omega) (by omega)) (by rw [w64_id (by omega) (by omega)]; exact has_in (by omega) (by omega)) (by omega) (by omega)
      rw [w64_id (show (0 : Int) ≤ 8 * xx + 8 * (c : Int) by omega) (by omega), w64_id (show (0 : Int) ≤ 8192 + 8 * yy + 8 * (c : Int) by omega) (by omega)] at hst
      clear hl hby
      by_cases hlast : c + 1 = N
      · have he8 : (8 * (c : Int) + 8 == 8 + 8 * zz) = true := by simp; omega
        rw [he8] at hst
        have hcm : ¬ (8 * (c : Int) + 8 < 8 + 8 * zz) := by omega
        have HST := hid hst
        clear hst
        go_wp2_with (first
    | (go_at_call 11; refine (f_Step _ _ _ _ _ _ _ _ _ _ _ _ _ HC.out 0 0 false (rS (8 * xx) (8192 + 8 * yy) (8 + 8 * zz) (8 * (c : Int) + 8) 2) (cpF 0 f (8 * xx + 8 * (c : Int)) (8192 + 8 * yy + 8 * (c : Int))) HST.out).mono ?_; rintro r w4 ⟨rfl, S4, hL⟩; have H4 := hid hL; have d0 := H4.out.tb.c0; have d1 := H4.out.tb.c1; have dl := lt_of_block H4.out.tb; clear hL)
    | (go_at_call 12; have H4b := hid (H4.out.below ((Below.refl _ _).alloc (Nat.le_refl _) (.cells #[.int .i64 0, .int .i64 0] 35))); refine (x_BusyB _ _ _ H4b.out.eg false rfl).mono ?_; rintro r wb ⟨rfl, hw⟩; obtain rfl := hw.symm)
    | (go_at_call 13; refine (C.q_Read _ T1 q 0 6 f H4b.out.rm (8 * xx + 8 * (c : Int)).toNat 8 (by omega) (by decide) _ (by omega)).mono ?_; rintro r w5 ⟨rfl, hs⟩; have H5 := hid (H4b.out.below (hs.below _)); have d0 := H5.out.tb.c0; have d1 := H5.out.tb.c1; clear hs)
    | (go_at_call 14; refine (C.q_Write _ T1 q 0 6 f H5.out.rm (8192 + 8 * yy + 8 * (c : Int)).toNat 8 (by omega) (by decide) _ (by omega) _ (HNU.out _).1 (HNU.out _).2).mono ?_; rintro r w6 ⟨T6, rfl, z1, z2, z3⟩; have H6 := hid (H5.out.turnR z2 z1 z3); clear z1 z2 z3))
        go_roundw
        case rel =>
          have h6 := H6.out
          rw [cpF0] at h6
          exact ⟨c + 1, S4, T6, _, by omega, by go_num, by rw [if_pos (by omega), show (8 * ((c + 1 : Nat) : Int)) = 8 * (c : Int) + 8 by omega]; exact h6⟩
        case measure => simp [intOf]; omega
      · have he8 : (8 * (c : Int) + 8 == 8 + 8 * zz) = false := by simp; omega
        rw [he8] at hst
        have hcm : 8 * (c : Int) + 8 < 8 + 8 * zz := by omega
        have HST := hid hst
        clear hst
        go_wp2_with (first
    | (go_at_call 11; refine (f_Step _ _ _ _ _ _ _ _ _ _ _ _ _ HC.out 0 0 false (rS (8 * xx) (8192 + 8 * yy) (8 + 8 * zz) (8 * (c : Int) + 8) 1) (cpF 0 f (8 * xx + 8 * (c : Int)) (8192 + 8 * yy + 8 * (c : Int))) HST.out).mono ?_; rintro r w4 ⟨rfl, S4, hL⟩; have H4 := hid hL; have d0 := H4.out.tb.c0; have d1 := H4.out.tb.c1; have dl := lt_of_block H4.out.tb; clear hL)
    | (go_at_call 12; have H4b := hid (H4.out.below ((Below.refl _ _).alloc (Nat.le_refl _) (.cells #[.int .i64 0, .int .i64 0] 35))); refine (x_BusyB _ _ _ H4b.out.eg true rfl).mono ?_; rintro r wb ⟨rfl, hw⟩; obtain rfl := hw.symm)
    | (go_at_call 13; refine (C.q_Read _ T1 q 0 6 f H4b.out.rm (8 * xx + 8 * (c : Int)).toNat 8 (by omega) (by decide) _ (by omega)).mono ?_; rintro r w5 ⟨rfl, hs⟩; have H5 := hid (H4b.out.below (hs.below _)); have d0 := H5.out.tb.c0; have d1 := H5.out.tb.c1; clear hs)
    | (go_at_call 14; refine (C.q_Write _ T1 q 0 6 f H5.out.rm (8192 + 8 * yy + 8 * (c : Int)).toNat 8 (by omega) (by decide) _ (by omega) _ (HNU.out _).1 (HNU.out _).2).mono ?_; rintro r w6 ⟨T6, rfl, z1, z2, z3⟩; have H6 := hid (H5.out.turnR z2 z1 z3); clear z1 z2 z3))
        go_roundw
        case rel =>
          have h6 := H6.out
          rw [cpF0] at h6
          exact ⟨c + 1, S4, T6, _, by omega, by go_num, by rw [if_neg (by omega), show (8 * ((c + 1 : Nat) : Int)) = 8 * (c : Int) + 8 by omega]; exact h6⟩
        case measure => simp [intOf]; omega
    · obtain rfl : c = N := by omega
      rw [if_pos rfl] at hl
      have HC := hid hl
      have c0 := hl.tb.c0
      have c1 := hl.tb.c1
      clear hl
      go_wp2_with (first
        | (go_at_call 15; refine (f_Read _ _ _ _ _ _ _ _ _ _ _ _ _ HC.out 32 4 (by decide) (by decide) true rfl 2 rfl).mono ?_; rintro r w6 ⟨rfl, hL⟩; have HD := hid hL; have c0 := HD.out.tb.c0; have c1 := HD.out.tb.c1; clear hL)
        | (go_at_call 16; refine (c_Same _ _ _ p q 0 6 _ HD.out.mm HD.out.rm).mono ?_; rintro r w7 ⟨rfl, hb⟩; have HE := hid (HD.out.below hb); clear hb)
        | (go_at_call 17; refine (l_awake8 _).mono ?_; rintro r w8 ⟨rfl, hb⟩; have HB8 := hid hb; clear hb))
      go_ret
      exact ⟨rfl, HE.out.new.trans (HB8.out.mono HE.out.new.size)⟩
end Go.Proofs.Ytmdconecigenfaa
