/- EngineEnds: a copy ends, done just if all its places were there. -/
import Derived.Test.YtmdconecigenfaaXX
import Derived.Deep.DeepCutAuto
namespace Go.Proofs.Ytmdconecigenfaa
open Go.RowKit
open C (Only hid Mem Still ret_int ret_bool put byt nu hasB RMem TB Cl fcl Tw c_Place c_Same)
set_option linter.unusedVariables false
set_option maxRecDepth 100000

theorem cl00 (w : World) : Cl w none 0 0 0 0 X1 := ⟨Nat.le_refl _, by decide, fun h => absurd h (by decide), fun i h => absurd h (by omega), fun i h => absurd h (by omega)⟩
def okJ (a b : Int) (j : Nat) : Bool := hasB 0 4 (w64 (a + 8 * (j : Int))) 8 && hasB 0 4 (w64 (b + 8 * (j : Int))) 8
def fts (a b k : Int) : Bool := decide (a ≤ 16384) && decide (b ≤ 16384) && decide (k ≤ 16384 - a) && decide (k ≤ 16384 - b)
theorem fts_ok {a b k : Int} (a0 : 0 ≤ a) (b0 : 0 ≤ b) (h : fts a b k = true) (j : Nat) (hj : 8 * (j : Int) + 8 ≤ k) : hasB 0 4 (w64 (a + 8 * (j : Int))) 8 = true ∧ hasB 0 4 (w64 (b + 8 * (j : Int))) 8 = true := by
  simp [fts] at h
  rw [w64_id (by omega) (by omega), w64_id (by omega) (by omega)]
  exact ⟨has_in (by omega) (by omega), has_in (by omega) (by omega)⟩
theorem fts_no {a b k : Int} {N : Nat} (a0 : 0 ≤ a) (a1 : a < 18446744073709551616) (b0 : 0 ≤ b) (b1 : b < 18446744073709551616) (hN : 0 < N) (hN1 : N ≤ 512) (hk : k = 8 * (N : Int)) (h : fts a b k = false) : ∃ j, j < N ∧ okJ a b j = false := by
  rcases Classical.em (∃ j, j < N ∧ okJ a b j = false) with q | q
  · exact q
  · exfalso
    have all : ∀ j, j < N → okJ a b j = true := fun j hj => by
      cases z : okJ a b j
      · exact absurd ⟨j, hj, z⟩ q
      · rfl
    have h0 := all 0 hN
    have h1 := all (N - 1) (by omega)
    simp [okJ, hasB, w64] at h0 h1
    have : fts a b k = true := by simp [fts]; omega
    rw [h] at this
    cases this
theorem first_bad (P : Nat → Bool) : ∀ N, (∃ j, j < N ∧ P j = false) → ∃ J, J < N ∧ P J = false ∧ ∀ j, j < J → P j = true
  | 0, ⟨j, hj, _⟩ => absurd hj (by omega)
  | N + 1, ⟨j, hj, hp⟩ => by
    by_cases h : ∃ i, i < N ∧ P i = false
    · obtain ⟨J, h1, h2, h3⟩ := first_bad P N h
      exact ⟨J, by omega, h2, h3⟩
    · have : j = N := by
        rcases Nat.lt_or_ge j N with z | z
        · exact absurd ⟨j, z, hp⟩ h
        · omega
      subst this
      exact ⟨j, by omega, hp, fun i hi => by
        cases z : P i
        · exact absurd ⟨i, hi, z⟩ h
        · rfl⟩
set_option maxHeartbeats 2000000 in
theorem w_EE1 (W : World) (s : Int) (s0 : 0 ≤ s) (s1 : s < 18446744073709551616) (d : Int) (d0 : 0 ≤ d) (d1 : d < 18446744073709551616) (n : Int) (n0 : -9223372036854775808 ≤ n) (n1 : n ≤ 9223372036854775807) (hft : fts (s / 8 * 8) (d / 8 * 8) (8 + 8 * (n % 512)) = true) :
    Calls Try.prog 5 #[.int .u64 s, .int .u64 d, .int .i64 n] W fun e w' => e = .returned (.bool true) ∧ Below W.heap.size W w' := by
  obtain ⟨zz, hzz, zz0, zz1⟩ : ∃ zz : Int, n % 512 = zz ∧ 0 ≤ zz ∧ zz < 512 := ⟨_, rfl, by omega, by omega⟩
  have Hzz := hid hzz
  rw [hzz] at hft
  have HFT := hid hft
  clear hzz hft
  have T0 : Hid True := hid trivial
  have T1 : Hid True := hid trivial
  have T2 : Hid True := hid trivial
  have TW : Hid True := hid trivial
  have hok : okB (s / 8 * 8) (d / 8 * 8) (8 + 8 * zz) = true := by unfold okB; simp; omega
  obtain ⟨N, hN⟩ : ∃ N : Nat, (N : Int) = zz + 1 := ⟨(zz + 1).toNat, by omega⟩
  go_enter Try.func5, Try.ntmps5
  go_wp2_with (first
    | (go_at_call 18; refine (l_flat _ none 0 0 0 0 X1 (cl00 _)).mono ?_; rintro r w1 ⟨e, p, q, U, rfl, g1, g2, g3, g4, g5⟩; obtain ⟨S, T, hL⟩ := FlPost.lay g1 g2 g3 g4 g5; have HL := hid hL; clear g1 g2 g3 g4 g5 hL)
    | (go_at_call 9; refine (c_Place n 512 (by decide) (by decide) n0 n1 _).mono ?_; rw [Hzz.out]; rintro r wz ⟨rfl, hwz⟩; obtain rfl := hwz.symm)
    | (go_at_call 10; have t := T0; clear t T0; refine (f_Write _ _ _ _ _ _ _ _ _ _ _ _ _ HL.out 0 8 (s / 8 * 8) (by omega) (by omega) (by decide) (by decide) true rfl (eu (fun _ => 0) 0 (s / 8 * 8)) (f_W8 (fun _ => 0) rfl (s / 8 * 8)).1).mono ?_; rintro r wx1 ⟨rfl, hL⟩; have HLx1 := hid hL; clear hL)
    | (go_at_call 10; have t := T1; clear t T1; refine (f_Write _ _ _ _ _ _ _ _ _ _ _ _ _ HLx1.out 8 8 (d / 8 * 8) (by omega) (by omega) (by decide) (by decide) true rfl (eu (eu (fun _ => 0) 0 (s / 8 * 8)) 1 (d / 8 * 8)) (f_W8 (eu (fun _ => 0) 0 (s / 8 * 8)) rfl (d / 8 * 8)).2.1).mono ?_; rintro r wx2 ⟨rfl, hL⟩; have HLx2 := hid hL; clear hL)
    | (go_at_call 10; have t := T2; clear t T2; refine (f_Write _ _ _ _ _ _ _ _ _ _ _ _ _ HLx2.out 16 8 (8 + 8 * zz) (by omega) (by omega) (by decide) (by decide) true rfl (eu (eu (eu (fun _ => 0) 0 (s / 8 * 8)) 1 (d / 8 * 8)) 2 (8 + 8 * zz)) (f_W8 (eu (eu (fun _ => 0) 0 (s / 8 * 8)) 1 (d / 8 * 8)) rfl (8 + 8 * zz)).2.2.1).mono ?_; rintro r wx3 ⟨rfl, hL⟩; have HLx3 := hid hL; clear hL)
    | (go_at_call 10; have t := TW; clear t TW; refine (f_Write _ _ _ _ _ _ _ _ _ _ _ _ _ HLx3.out 24 4 1 (by decide) (by decide) (by decide) (by decide) true rfl (bgE (eu (eu (eu (fun _ => 0) 0 (s / 8 * 8)) 1 (d / 8 * 8)) 2 (8 + 8 * zz))) ((f_W4 (eu (eu (eu (fun _ => 0) 0 (s / 8 * 8)) 1 (d / 8 * 8)) 2 (8 + 8 * zz)) 1).trans (cm_1 (eu (eu (eu (fun _ => 0) 0 (s / 8 * 8)) 1 (d / 8 * 8)) 2 (8 + 8 * zz)) rfl))).mono ?_; rintro r wx4 ⟨rfl, hL⟩; have HLb := hid (FL.rn hL (v' := (e0 p).wr (rB (s / 8 * 8) (d / 8 * 8) (8 + 8 * zz))) rfl); clear hL))
  have HS0 := hid (FL.rn HLb.out (v' := (e0 p).wr (rS (s / 8 * 8) (d / 8 * 8) (8 + 8 * zz) 0 1)) (by rw [rB_S, hok]; rfl))
  clear HL HLx1 HLx2 HLx3 HLb hok
  obtain ⟨b, hb⟩ : ∃ b, b = w1.heap.size := ⟨_, rfl⟩
  rw [← hb] at HS0
  rw [← hb]
  clear hb
  go_loopw [13] (fun i wr => ∃ (c : Nat) (S1 : Nat → Prop) (f : Nat → Int), c ≤ N ∧ i = .int .u64 c ∧ FL W wr b e ((e0 p).wr (rS (s / 8 * 8) (d / 8 * 8) (8 + 8 * zz) (8 * (c : Int)) (if c = N then 2 else 1))) S1 T p q 0 4 f (fcl 4 X1 0)) (fun i _ => N - (intOf i).toNat)
  case atStart => exact ⟨0, _, _, by omega, rfl, by rw [if_neg (by omega)]; exact HS0.out⟩
  case round =>
    clear HS0
    obtain ⟨c, S1, f, hc, rfl, hl⟩ := hrel
    by_cases hlt : c < N
    · rw [if_neg (by omega)] at hl
      have HC := hid hl
      have hk := fts_ok (show 0 ≤ s / 8 * 8 by omega) (show 0 ≤ d / 8 * 8 by omega) HFT.out c (by omega)
      have hst := fl_ok p 0 4 f (s / 8 * 8) (d / 8 * 8) (8 + 8 * zz) (8 * (c : Int)) hk.1 hk.2 (by omega) (by omega)
      clear hl hk
      have hq : (bif 8 * (c : Int) + 8 == 8 + 8 * zz then (2 : Int) else 1) = if c + 1 = N then 2 else 1 := by
        by_cases z : c + 1 = N
        · rw [show (8 * (c : Int) + 8 == 8 + 8 * zz) = true by simp; omega, if_pos z]; rfl
        · rw [show (8 * (c : Int) + 8 == 8 + 8 * zz) = false by simp; omega, if_neg z]; rfl
      rw [hq] at hst
      have HST := hid hst
      clear hst hq
      go_wp2_with (first
        | (go_at_call 12; refine (x_BusyB _ _ _ HC.out.eg true rfl).mono ?_; rintro r wb ⟨rfl, hw⟩; obtain rfl := hw.symm)
        | (go_at_call 11; refine (f_Step _ _ _ _ _ _ _ _ _ _ _ _ _ HC.out 0 0 false _ _ HST.out).mono ?_; rintro r w4 ⟨rfl, S4, hL⟩; have H4 := hid hL; clear hL))
      go_roundw
      case rel => exact ⟨c + 1, S4, _, by omega, by go_num, by rw [show (8 * ((c + 1 : Nat) : Int)) = 8 * (c : Int) + 8 by omega]; exact H4.out⟩
      case measure => simp [intOf]; omega
    · obtain rfl : c = N := by omega
      rw [if_pos rfl] at hl
      have HC := hid hl
      clear hl
      go_upto_region 12 with (first
        | (go_at_call 12; refine (x_BusyB _ _ _ HC.out.eg false rfl).mono ?_; rintro r wb ⟨rfl, hw⟩; obtain rfl := hw.symm)
        | (go_at_call 15; refine (f_Read _ _ _ _ _ _ _ _ _ _ _ _ _ HC.out 32 4 (by decide) (by decide) true rfl 2 rfl).mono ?_; rintro r w5 ⟨rfl, hL⟩; have H5 := hid hL; clear hL))
      obtain ⟨wo, hwo⟩ : ∃ wo, w5 = wo := ⟨_, rfl⟩
      rw [hwo] at H5 ⊢
      clear hwo
      go_cut [16] (fun x wx => x = .bool true ∧ wx = wo)
      case first =>
        have hft := HFT.out
        simp [fts] at hft
        obtain ⟨⟨⟨g1, g2⟩, g3⟩, g4⟩ := hft
        go_wp2
        go_meet
        exact ⟨rfl, rfl⟩
      case rest =>
        obtain ⟨rfl, rfl⟩ := hcut
        have TX : Hid True := hid trivial
        have g5 : ¬ ((c : Int) > (8 + 8 * zz) / 8) := by omega
        have g7 : (8 + 8 * zz) / 8 = (c : Int) := by omega
        go_wp2_with (first
          | (go_at_call 12; refine (x_BusyB _ _ _ H5.out.eg false rfl).mono ?_; rintro r wb ⟨rfl, hw⟩; obtain rfl := hw.symm)
          | (go_at_call 11; refine (f_Step _ _ _ _ _ _ _ _ _ _ _ _ _ H5.out 0 0 false _ _ (st_idle _ _ _ rfl)).mono ?_; rintro r w6 ⟨rfl, S6, hL⟩; have H6 := hid hL; clear hL)
          | (go_at_call 15; refine (f_Read _ _ _ _ _ _ _ _ _ _ _ _ _ H6.out 32 4 (by decide) (by decide) true rfl 2 rfl).mono ?_; rintro r w7 ⟨rfl, hL⟩; have H7 := hid hL; clear hL)
          | (go_at_call 17; refine (l_awake8 _).mono ?_; rintro r w8 ⟨rfl, hb⟩; have HB8 := hid hb; clear hb))
        go_ret
        exact ⟨rfl, H7.out.new.trans (HB8.out.mono H7.out.new.size)⟩
set_option maxHeartbeats 2000000 in
theorem w_EE0 (W : World) (s : Int) (s0 : 0 ≤ s) (s1 : s < 18446744073709551616) (d : Int) (d0 : 0 ≤ d) (d1 : d < 18446744073709551616) (n : Int) (n0 : -9223372036854775808 ≤ n) (n1 : n ≤ 9223372036854775807) (hft : fts (s / 8 * 8) (d / 8 * 8) (8 + 8 * (n % 512)) = false) :
    Calls Try.prog 5 #[.int .u64 s, .int .u64 d, .int .i64 n] W fun e w' => e = .returned (.bool true) ∧ Below W.heap.size W w' := by
  obtain ⟨zz, hzz, zz0, zz1⟩ : ∃ zz : Int, n % 512 = zz ∧ 0 ≤ zz ∧ zz < 512 := ⟨_, rfl, by omega, by omega⟩
  have Hzz := hid hzz
  rw [hzz] at hft
  have HFT := hid hft
  clear hzz hft
  have T0 : Hid True := hid trivial
  have T1 : Hid True := hid trivial
  have T2 : Hid True := hid trivial
  have TW : Hid True := hid trivial
  have hok : okB (s / 8 * 8) (d / 8 * 8) (8 + 8 * zz) = true := by unfold okB; simp; omega
  obtain ⟨N, hN⟩ : ∃ N : Nat, (N : Int) = zz + 1 := ⟨(zz + 1).toNat, by omega⟩
  obtain ⟨J, hJ, hJ0, hJ1⟩ := first_bad (okJ (s / 8 * 8) (d / 8 * 8)) N (fts_no (by omega) (by omega) (by omega) (by omega) (by omega) (by omega) (by omega) HFT.out)
  have HJ0 := hid hJ0
  have HJ1 := hid hJ1
  clear hJ0 hJ1
  go_enter Try.func5, Try.ntmps5
  go_wp2_with (first
    | (go_at_call 18; refine (l_flat _ none 0 0 0 0 X1 (cl00 _)).mono ?_; rintro r w1 ⟨e, p, q, U, rfl, g1, g2, g3, g4, g5⟩; obtain ⟨S, T, hL⟩ := FlPost.lay g1 g2 g3 g4 g5; have HL := hid hL; clear g1 g2 g3 g4 g5 hL)
    | (go_at_call 9; refine (c_Place n 512 (by decide) (by decide) n0 n1 _).mono ?_; rw [Hzz.out]; rintro r wz ⟨rfl, hwz⟩; obtain rfl := hwz.symm)
    | (go_at_call 10; have t := T0; clear t T0; refine (f_Write _ _ _ _ _ _ _ _ _ _ _ _ _ HL.out 0 8 (s / 8 * 8) (by omega) (by omega) (by decide) (by decide) true rfl (eu (fun _ => 0) 0 (s / 8 * 8)) (f_W8 (fun _ => 0) rfl (s / 8 * 8)).1).mono ?_; rintro r wx1 ⟨rfl, hL⟩; have HLx1 := hid hL; clear hL)
    | (go_at_call 10; have t := T1; clear t T1; refine (f_Write _ _ _ _ _ _ _ _ _ _ _ _ _ HLx1.out 8 8 (d / 8 * 8) (by omega) (by omega) (by decide) (by decide) true rfl (eu (eu (fun _ => 0) 0 (s / 8 * 8)) 1 (d / 8 * 8)) (f_W8 (eu (fun _ => 0) 0 (s / 8 * 8)) rfl (d / 8 * 8)).2.1).mono ?_; rintro r wx2 ⟨rfl, hL⟩; have HLx2 := hid hL; clear hL)
    | (go_at_call 10; have t := T2; clear t T2; refine (f_Write _ _ _ _ _ _ _ _ _ _ _ _ _ HLx2.out 16 8 (8 + 8 * zz) (by omega) (by omega) (by decide) (by decide) true rfl (eu (eu (eu (fun _ => 0) 0 (s / 8 * 8)) 1 (d / 8 * 8)) 2 (8 + 8 * zz)) (f_W8 (eu (eu (fun _ => 0) 0 (s / 8 * 8)) 1 (d / 8 * 8)) rfl (8 + 8 * zz)).2.2.1).mono ?_; rintro r wx3 ⟨rfl, hL⟩; have HLx3 := hid hL; clear hL)
    | (go_at_call 10; have t := TW; clear t TW; refine (f_Write _ _ _ _ _ _ _ _ _ _ _ _ _ HLx3.out 24 4 1 (by decide) (by decide) (by decide) (by decide) true rfl (bgE (eu (eu (eu (fun _ => 0) 0 (s / 8 * 8)) 1 (d / 8 * 8)) 2 (8 + 8 * zz))) ((f_W4 (eu (eu (eu (fun _ => 0) 0 (s / 8 * 8)) 1 (d / 8 * 8)) 2 (8 + 8 * zz)) 1).trans (cm_1 (eu (eu (eu (fun _ => 0) 0 (s / 8 * 8)) 1 (d / 8 * 8)) 2 (8 + 8 * zz)) rfl))).mono ?_; rintro r wx4 ⟨rfl, hL⟩; have HLb := hid (FL.rn hL (v' := (e0 p).wr (rB (s / 8 * 8) (d / 8 * 8) (8 + 8 * zz))) rfl); clear hL))
  have HS0 := hid (FL.rn HLb.out (v' := (e0 p).wr (rS (s / 8 * 8) (d / 8 * 8) (8 + 8 * zz) 0 1)) (by rw [rB_S, hok]; rfl))
  clear HL HLx1 HLx2 HLx3 HLb hok
  obtain ⟨b, hb⟩ : ∃ b, b = w1.heap.size := ⟨_, rfl⟩
  rw [← hb] at HS0
  rw [← hb]
  clear hb
  go_loopw [13] (fun i wr => ∃ (c : Nat) (S1 : Nat → Prop) (f : Nat → Int), c ≤ J + 1 ∧ i = .int .u64 c ∧ FL W wr b e ((e0 p).wr (if c ≤ J then rS (s / 8 * 8) (d / 8 * 8) (8 + 8 * zz) (8 * (c : Int)) 1 else rS (s / 8 * 8) (d / 8 * 8) (8 + 8 * zz) (8 * (J : Int)) 3)) S1 T p q 0 4 f (fcl 4 X1 0)) (fun i _ => J + 1 - (intOf i).toNat)
  case atStart => exact ⟨0, _, _, by omega, rfl, by rw [if_pos (by omega)]; exact HS0.out⟩
  case round =>
    clear HS0
    obtain ⟨c, S1, f, hc, rfl, hl⟩ := hrel
    by_cases hlt : c ≤ J
    · rw [if_pos hlt] at hl
      have HC := hid hl
      obtain ⟨f', hst⟩ : ∃ f', stN (FlG p 0 4) (rS (s / 8 * 8) (d / 8 * 8) (8 + 8 * zz) (8 * (c : Int)) 1) f = ((0, 0, false), (if c + 1 ≤ J then rS (s / 8 * 8) (d / 8 * 8) (8 + 8 * zz) (8 * ((c + 1 : Nat) : Int)) 1 else rS (s / 8 * 8) (d / 8 * 8) (8 + 8 * zz) (8 * (J : Int)) 3), f') := by
        by_cases z : c = J
        · subst z
          exact ⟨f, by rw [if_neg (by omega)]; exact fl_no p 0 4 f _ _ _ _ HJ0.out⟩
        · have hk := HJ1.out c (by omega)
          have hk' : hasB 0 4 (w64 ((s / 8 * 8) + 8 * (c : Int))) 8 = true ∧ hasB 0 4 (w64 ((d / 8 * 8) + 8 * (c : Int))) 8 = true := by simpa [okJ] using hk
          refine ⟨cpF 0 f (w64 ((s / 8 * 8) + 8 * (c : Int))) (w64 ((d / 8 * 8) + 8 * (c : Int))), (fl_ok p 0 4 f (s / 8 * 8) (d / 8 * 8) (8 + 8 * zz) (8 * (c : Int)) hk'.1 hk'.2 (by omega) (by omega)).trans ?_⟩
          rw [if_pos (by omega), show (8 * (c : Int) + 8 == 8 + 8 * zz) = false by simp; omega, show (8 * ((c + 1 : Nat) : Int)) = 8 * (c : Int) + 8 by omega]
          rfl
      have HST := hid hst
      clear hst hl
      go_wp2_with (first
        | (go_at_call 12; refine (x_BusyB _ _ _ HC.out.eg true rfl).mono ?_; rintro r wb ⟨rfl, hw⟩; obtain rfl := hw.symm)
        | (go_at_call 11; refine (f_Step _ _ _ _ _ _ _ _ _ _ _ _ _ HC.out 0 0 false _ _ HST.out).mono ?_; rintro r w4 ⟨rfl, S4, hL⟩; have H4 := hid hL; clear hL))
      go_roundw
      case rel => exact ⟨c + 1, S4, _, by omega, by go_num, H4.out⟩
      case measure => simp [intOf]; omega
    · obtain rfl : c = J + 1 := by omega
      rw [if_neg (by omega)] at hl
      have HC := hid hl
      clear hl
      go_upto_region 12 with (first
        | (go_at_call 12; refine (x_BusyB _ _ _ HC.out.eg false rfl).mono ?_; rintro r wb ⟨rfl, hw⟩; obtain rfl := hw.symm)
        | (go_at_call 15; refine (f_Read _ _ _ _ _ _ _ _ _ _ _ _ _ HC.out 32 4 (by decide) (by decide) true rfl 3 rfl).mono ?_; rintro r w5 ⟨rfl, hL⟩; have H5 := hid hL; clear hL))
      obtain ⟨wo, hwo⟩ : ∃ wo, w5 = wo := ⟨_, rfl⟩
      rw [hwo] at H5 ⊢
      clear hwo
      go_cut [16] (fun x wx => x = .bool false ∧ wx = wo)
      case first =>
        have hft := HFT.out
        simp [fts] at hft
        by_cases g1 : s / 8 * 8 ≤ 16384
        · by_cases g2 : d / 8 * 8 ≤ 16384
          · by_cases g3 : 8 + 8 * zz ≤ 16384 - s / 8 * 8
            · have g4 := hft g1 g2 g3
              have g5 : ¬ (8 + 8 * zz ≤ 16384 - d / 8 * 8) := by omega
              go_wp2
              go_meet
              exact ⟨rfl, rfl⟩
            · go_wp2
              go_meet
              exact ⟨rfl, rfl⟩
          · go_wp2
            go_meet
            exact ⟨rfl, rfl⟩
        · go_wp2
          go_meet
          exact ⟨rfl, rfl⟩
      case rest =>
        obtain ⟨rfl, rfl⟩ := hcut
        have TX : Hid True := hid trivial
        have g5 : ¬ (((J + 1 : Nat) : Int) > (8 + 8 * zz) / 8) := by omega
        go_wp2_with (first
          | (go_at_call 12; refine (x_BusyB _ _ _ H5.out.eg false rfl).mono ?_; rintro r wb ⟨rfl, hw⟩; obtain rfl := hw.symm)
          | (go_at_call 11; refine (f_Step _ _ _ _ _ _ _ _ _ _ _ _ _ H5.out 0 0 false _ _ (st_idle _ _ _ rfl)).mono ?_; rintro r w6 ⟨rfl, S6, hL⟩; have H6 := hid hL; clear hL)
          | (go_at_call 15; refine (f_Read _ _ _ _ _ _ _ _ _ _ _ _ _ H6.out 32 4 (by decide) (by decide) true rfl 3 rfl).mono ?_; rintro r w7 ⟨rfl, hL⟩; have H7 := hid hL; clear hL)
          | (go_at_call 17; refine (l_awake8 _).mono ?_; rintro r w8 ⟨rfl, hb⟩; have HB8 := hid hb; clear hb))
        go_ret
        exact ⟨rfl, H7.out.new.trans (HB8.out.mono H7.out.new.size)⟩
theorem w_EngineEnds (W : World) (s : Int) (s0 : 0 ≤ s) (s1 : s < 18446744073709551616) (d : Int) (d0 : 0 ≤ d) (d1 : d < 18446744073709551616) (n : Int) (n0 : -9223372036854775808 ≤ n) (n1 : n ≤ 9223372036854775807) :
    Calls Try.prog 5 #[.int .u64 s, .int .u64 d, .int .i64 n] W fun e w' => e = .returned (.bool true) ∧ Below W.heap.size W w' := by
  cases h : fts (s / 8 * 8) (d / 8 * 8) (8 + 8 * (n % 512))
  · exact w_EE0 W s s0 s1 d d0 d1 n n0 n1 h
  · exact w_EE1 W s s0 s1 d d0 d1 n n0 n1 h
end Go.Proofs.Ytmdconecigenfaa
