/- The ring keeps its records in order. -/
import Derived.Test.YtfoafgbhelgjcaaMH3
import Derived.Deep.DeepCutAuto
namespace Go.Proofs.Ytfoafgbhelgjcaa
open Go.RowKit
open C (Only hid Mem Still ret_int ret_bool put byt nu fcl c_Place)
set_option linter.unusedVariables false
set_option maxRecDepth 100000

/-- the records in their order: kept ones of device 1, then those of device 2 -/
def Gr (K j : Nat) : Int × Int × Int := if j < K then (1, 1, 8 * (j : Int)) else (2, 1, 8 * ((j - K : Nat) : Int))
set_option maxHeartbeats 4000000 in
theorem w_IommuRings (W : World) (x : Int) (x0 : -9223372036854775808 ≤ x) (x1 : x ≤ 9223372036854775807) (y : Int) (y0 : -9223372036854775808 ≤ y) (y1 : y ≤ 9223372036854775807) (z : Int) (z0 : -9223372036854775808 ≤ z) (z1 : z ≤ 9223372036854775807) :
    Calls Try.prog 4 #[.int .i64 x, .int .i64 y, .int .i64 z] W fun e w' => e = .returned (.bool true) ∧ Below W.heap.size W w' := by
  obtain ⟨a, ha⟩ : ∃ a : Nat, x % 300 = a := ⟨(x % 300).toNat, by omega⟩
  have a1 : a < 300 := by omega
  have HA := hid ha
  clear ha
  go_enter Try.func4, Try.ntmps4
  go_wp2_with (first
    | (go_at_call 18; refine (l_New _ 2 (by decide) (by decide) none 0 0 0 0 _ (cl0 _)).mono ?_; rintro e w1 ⟨u, t, m, xx, q, F, T, rfl, hs, -, -, hb, hf⟩; have H1 := hid (LW.start (T := T) (t := t) (m := m) (x := xx) (q := q) (Below.refl W.heap.size W) hs hb hf (.pointer (some ⟨xx, 0, none⟩)) (.pointer (some ⟨m, 0, none⟩)) (.pointer (some ⟨q, 0, none⟩))); clear hs hb hf)
    | (go_at_call 21; refine (s_Ring _ F u _ 8 _ 2 [] H1.out.us 0 rfl (by decide) 0 rfl).mono ?_; rintro e w2 ⟨rfl, hs2, ht2⟩; have H2 := hid (H1.out.step hs2 ht2); have c2 := H2.out.c; clear hs2 ht2)
    | (go_at_call 19; refine (c_Place x 300 (by decide) (by decide) x0 x1 _).mono ?_; rw [HA.out]; rintro e w3 ⟨rfl, hw3⟩; obtain rfl := hw3.symm))
  obtain ⟨ob, hob⟩ : ∃ ob, w1.heap.size = ob := ⟨_, rfl⟩
  rw [hob] at H2 c2
  rw [hob]
  have K0 : min a 255 ≤ 255 := Nat.min_le_right _ _
  have K1 : min a 255 ≤ a := Nat.min_le_left _ _
  have K2 : 255 < a → min a 255 = 255 := fun h => Nat.min_eq_right (by omega)
  have K3 : a ≤ 255 → min a 255 = a := fun h => Nat.min_eq_left h
  generalize hK : min a 255 = K at K0 K1 K2 K3
  clear H1 hob hK c2
  go_loopw [10] (fun i wr => ∃ (k : Nat) (F : Nat → Prop) (v : UV) (f : Nat → Int), k ≤ a ∧ i = .int .i64 k ∧ LW W wr F ob u v 8 f 2 [] ∧ Rg v f (Gr K) 0 (min k 255) (decide (255 < k)) ∧ v.root = fun _ => 0) (fun i _ => a - (intOf i).toNat)
  case atStart => exact ⟨0, F, _, _, by omega, rfl, H2.out, ⟨rfl, rfl, rfl, fun i hi => absurd hi (Nat.not_lt_zero i)⟩, rfl⟩
  case round =>
    clear H2 HA
    obtain ⟨k, F, v, f, hk, rfl, hl, hg, hr⟩ := hrel
    have HL := hid hl
    have HG := hid hg
    have HR := hid hr
    have c0 := hl.c
    clear hl hg hr
    by_cases hlt : k < a
    · go_wp2_with ((go_at_call 22; refine (s_AccessNone wr F u v 8 f 2 [] HL.out.us 1 (8 * (k : Int)) false rfl (by omega) (by omega) (by omega) (by rw [HR.out])).mono ?_; rintro e w4 ⟨rfl, F4, hs4, ht4⟩; have H4 := hid (HL.out.step hs4 ht4); have G4 := hid (HG.out.recd HL.out.us.ok 1 1 (8 * (k : Int)) (by decide) (by decide) (by decide) (by decide) (by omega) (by omega) (fun q => by rw [show 0 + min k 255 = k by omega]; unfold Gr; rw [if_pos (by omega)])); clear hs4 ht4))
      go_roundw
      case rel =>
        refine ⟨k + 1, F4, _, _, by omega, by go_num, H4.out, ?_, by rw [rcV_root]; exact HR.out⟩
        have := G4.out
        rwa [show (if min k 255 < 255 then min k 255 + 1 else min k 255) = min (k + 1) 255 by split <;> omega, show (if min k 255 < 255 then decide (255 < k) else true) = decide (255 < k + 1) by split <;> simp <;> omega] at this
      case measure => simp [intOf]; omega
    · obtain rfl : k = a := by omega
      go_upto_if 60 with fail
      obtain ⟨wo, hwo⟩ : ∃ wo, wr = wo := ⟨_, rfl⟩
      rw [hwo] at HL c0 ⊢
      clear hwo wr
      go_cut [11] (fun s wx => s = .int .i64 K ∧ wx = wo)
      case first =>
        by_cases h255 : 255 < k
        · go_wp2
          go_meet
          exact ⟨by rw [K2 h255]; rfl, rfl⟩
        · go_wp2
          go_meet
          exact ⟨by rw [K3 (by omega)], rfl⟩
      case rest =>
        obtain ⟨rfl, rfl⟩ := hcut
        obtain ⟨tt, htt⟩ : ∃ tt : Nat, y % ((K : Int) + 1) = tt := ⟨(y % ((K : Int) + 1)).toNat, by have := Int.emod_nonneg y (show ((K : Int) + 1) ≠ 0 by omega); omega⟩
        have t1 : tt ≤ K := by have := Int.emod_lt_of_pos y (show 0 < (K : Int) + 1 by omega); omega
        have HTT := hid htt
        have hlost : decide (255 < k) = decide ((K : Int) < (k : Int)) := by
          by_cases h255 : 255 < k
          · have := K2 h255; simp; omega
          · have := K3 (by omega); simp; omega
        rw [hlost, show min k 255 = K by omega] at HG
        have HGa := HG
        clear htt hlost HG
        go_wp2_with ((go_at_call 19; refine (c_Place y ((K : Int) + 1) (by omega) (by omega) y0 y1 _).mono ?_; rw [HTT.out]; rintro e w3 ⟨rfl, hw3⟩; obtain rfl := hw3.symm))
        go_loopw [13] (fun i wr => ∃ (j : Nat) (F : Nat → Prop) (v : UV) (f : Nat → Int), j ≤ tt ∧ i = .int .i64 j ∧ LW W wr F ob u v 8 f 2 [] ∧ Rg v f (Gr K) j (K - j) (decide ((K : Int) < (k : Int))) ∧ v.root = fun _ => 0) (fun i _ => tt - (intOf i).toNat)
        case atStart => exact ⟨0, F, v, f, by omega, rfl, HL.out, HGa.out, HR.out⟩
        case round =>
          clear HL HGa HR c0
          obtain ⟨j, F, v, f, hj, rfl, hl, hg, hr⟩ := hrel
          have HL := hid hl
          have HG := hid hg
          have HR := hid hr
          have c0 := hl.c
          clear hl hg hr
          by_cases hlt : j < tt
          · go_wp2_with ((go_at_call 26; refine (s_NextG wr F u v 8 f 2 [] HL.out.us (Gr K) j HG.out.rl (by rw [HG.out.count]; omega) 1 1 (8 * (j : Int)) (by unfold Gr; rw [if_pos (by omega)])).mono ?_; rintro e w4 ⟨rfl, hs4, ht4, hr4⟩; have H4 := hid (HL.out.step hs4 ht4); have c4 := H4.out.c; clear hs4 ht4 hr4))
            go_roundw
            case rel =>
              refine ⟨j + 1, F, _, _, by omega, by go_num, H4.out.alloc _, ?_, HR.out⟩
              have := HG.out.next (by omega)
              rwa [show K - j - 1 = K - (j + 1) by omega] at this
            case measure => simp [intOf]; omega
          · obtain rfl : j = tt := by omega
            obtain ⟨wo, hwo⟩ : ∃ wo, wr = wo := ⟨_, rfl⟩
            rw [hwo] at HL c0 ⊢
            clear hwo wr
            obtain ⟨bb, hbb⟩ : ∃ bb : Nat, z % 40 = bb := ⟨(z % 40).toNat, by omega⟩
            have b1 : bb < 40 := by omega
            have HBB := hid hbb
            clear hbb
            go_wp2_with (first
              | (go_at_call 27; refine (m_Overflow _ u v HL.out.us.iu).mono ?_; rw [HG.out.lost]; rintro e w4 ⟨rfl, hw4⟩; obtain rfl := hw4.symm)
              | (go_at_call 29; refine (s_Clear _ F u v 8 f 2 [] HL.out.us).mono ?_; rintro e w5 ⟨rfl, hs5, ht5⟩; have H5 := hid (HL.out.step hs5 ht5); have c5 := H5.out.c; clear hs5 ht5)
              | (go_at_call 19; refine (c_Place z 40 (by decide) (by decide) z0 z1 _).mono ?_; rw [HBB.out]; rintro e w6 ⟨rfl, hw6⟩; obtain rfl := hw6.symm))
            have G5 := hid HG.out.clear
            go_loopw [17] (fun i wr => ∃ (k2 : Nat) (F : Nat → Prop) (v : UV) (f : Nat → Int), k2 ≤ bb ∧ i = .int .i64 k2 ∧ LW W wr F ob u v 8 f 2 [] ∧ Rg v f (Gr K) j (min (K - j + k2) 255) (decide (255 < K - j + k2)) ∧ v.root = fun _ => 0) (fun i _ => bb - (intOf i).toNat)
            case atStart =>
              refine ⟨0, F, _, f, by omega, rfl, H5.out, ?_, HR.out⟩
              have := G5.out
              rwa [show min (K - j + 0) 255 = K - j by omega, show decide (255 < K - j + 0) = false by simp; omega]
            case round =>
              clear HL HG HR c0 H5 G5 c5
              obtain ⟨k2, F, v, f, hk2, rfl, hl, hg, hr⟩ := hrel
              have HL := hid hl
              have HG := hid hg
              have HR := hid hr
              have c0 := hl.c
              clear hl hg hr
              by_cases hlt2 : k2 < bb
              · go_wp2_with ((go_at_call 22; refine (s_AccessNone wr F u v 8 f 2 [] HL.out.us 2 (8 * (k2 : Int)) true rfl (by omega) (by omega) (by omega) (by rw [HR.out])).mono ?_; rintro e w4 ⟨rfl, F4, hs4, ht4⟩; have H4 := hid (HL.out.step hs4 ht4); have G4 := hid (HG.out.recd HL.out.us.ok 2 1 (8 * (k2 : Int)) (by decide) (by decide) (by decide) (by decide) (by omega) (by omega) (fun q => by rw [show j + min (K - j + k2) 255 = K + k2 by omega]; unfold Gr; rw [if_neg (by omega), show K + k2 - K = k2 by omega])); clear hs4 ht4))
                go_roundw
                case rel =>
                  refine ⟨k2 + 1, F4, _, _, by omega, by go_num, H4.out, ?_, by rw [rcV_root]; exact HR.out⟩
                  have := G4.out
                  rwa [show (if min (K - j + k2) 255 < 255 then min (K - j + k2) 255 + 1 else min (K - j + k2) 255) = min (K - j + (k2 + 1)) 255 by split <;> omega, show (if min (K - j + k2) 255 < 255 then decide (255 < K - j + k2) else true) = decide (255 < K - j + (k2 + 1)) by split <;> simp <;> omega] at this
                case measure => simp [intOf]; omega
              · obtain rfl : k2 = bb := by omega
                go_upto_if 116 with fail
                obtain ⟨wo2, hwo2⟩ : ∃ wo2, wr = wo2 := ⟨_, rfl⟩
                rw [hwo2] at HL c0 ⊢
                clear hwo2 wr
                have f0 : min k2 (255 - (K - j)) ≤ k2 := Nat.min_le_left _ _
                have f1 : min k2 (255 - (K - j)) ≤ 255 - (K - j) := Nat.min_le_right _ _
                have f2 : 255 - (K - j) < k2 → min k2 (255 - (K - j)) = 255 - (K - j) := fun h => Nat.min_eq_right (by omega)
                have f3 : k2 ≤ 255 - (K - j) → min k2 (255 - (K - j)) = k2 := fun h => Nat.min_eq_left h
                generalize min k2 (255 - (K - j)) = FF at f0 f1 f2 f3
                go_cut [19] (fun s wx => s = .int .i64 FF ∧ wx = wo2)
                case first =>
                  by_cases hf : 255 - ((K : Int) - (j : Int)) < (k2 : Int)
                  · go_wp2
                    go_meet
                    exact ⟨by rw [f2 (by omega)]; congr 1; omega, rfl⟩
                  · go_wp2
                    go_meet
                    exact ⟨by rw [f3 (by omega)], rfl⟩
                case rest =>
                  obtain ⟨rfl, rfl⟩ := hcut
                  have hl2 : decide (255 < K - j + k2) = decide ((FF : Int) < (k2 : Int)) := by
                    by_cases hf : 255 - (K - j) < k2
                    · have := f2 hf; simp; omega
                    · have := f3 (by omega); simp; omega
                  have hc2 : min (K - j + k2) 255 = K - j + FF := by
                    by_cases hf : 255 - (K - j) < k2
                    · have := f2 hf; omega
                    · have := f3 (by omega); omega
                  rw [hl2, hc2] at HG
                  have HGb := HG
                  clear hl2 hc2 HG
                  go_wp2_with fail
                  go_loopw [20] (fun i wr => ∃ (q4 : Nat) (F : Nat → Prop) (v : UV) (f : Nat → Int), j ≤ q4 ∧ q4 ≤ K ∧ i = .int .i64 q4 ∧ LW W wr F ob u v 8 f 2 [] ∧ Rg v f (Gr K) q4 (K - q4 + FF) (decide ((FF : Int) < (k2 : Int)))) (fun i _ => K - (intOf i).toNat)
                  case atStart => exact ⟨j, F, v, f, by omega, by omega, rfl, HL.out, HGb.out⟩
                  case round =>
                    clear HL HGb HR c0
                    obtain ⟨q4, F, v, f, hq, hq', rfl, hl, hg⟩ := hrel
                    have HL := hid hl
                    have HG := hid hg
                    have c0 := hl.c
                    clear hl hg
                    by_cases hlt4 : q4 < K
                    · go_wp2_with ((go_at_call 26; refine (s_NextG wr F u v 8 f 2 [] HL.out.us (Gr K) q4 HG.out.rl (by rw [HG.out.count]; omega) 1 1 (8 * (q4 : Int)) (by unfold Gr; rw [if_pos (by omega)])).mono ?_; rintro e w4 ⟨rfl, hs4, ht4, hr4⟩; have H4 := hid (HL.out.step hs4 ht4); have c4 := H4.out.c; clear hs4 ht4 hr4))
                      go_roundw
                      case rel =>
                        refine ⟨q4 + 1, F, _, _, by omega, by omega, by go_num, H4.out.alloc _, ?_⟩
                        have := HG.out.next (by omega)
                        rwa [show K - q4 + FF - 1 = K - (q4 + 1) + FF by omega] at this
                      case measure => simp [intOf]; omega
                    · obtain rfl : q4 = K := by omega
                      obtain ⟨wo4, hwo4⟩ : ∃ wo4, wr = wo4 := ⟨_, rfl⟩
                      rw [hwo4] at HL c0 ⊢
                      clear hwo4 wr
                      go_wp2_with fail
                      go_loopw [23] (fun i wr => ∃ (q5 : Nat) (F : Nat → Prop) (v : UV) (f : Nat → Int), q5 ≤ FF ∧ i = .int .i64 q5 ∧ LW W wr F ob u v 8 f 2 [] ∧ Rg v f (Gr q4) (q4 + q5) (FF - q5) (decide ((FF : Int) < (k2 : Int)))) (fun i _ => FF - (intOf i).toNat)
                      case atStart => exact ⟨0, F, v, f, by omega, rfl, HL.out, by have := HG.out; rwa [show q4 - q4 + FF = FF - 0 by omega] at this⟩
                      case round =>
                        clear HL HG c0
                        obtain ⟨q5, F, v, f, hq5, rfl, hl, hg⟩ := hrel
                        have HL := hid hl
                        have HG := hid hg
                        have c0 := hl.c
                        clear hl hg
                        by_cases hlt5 : q5 < FF
                        · go_wp2_with ((go_at_call 26; refine (s_NextG wr F u v 8 f 2 [] HL.out.us (Gr q4) (q4 + q5) HG.out.rl (by rw [HG.out.count]; omega) 2 1 (8 * (q5 : Int)) (by unfold Gr; rw [if_neg (by omega), show q4 + q5 - q4 = q5 by omega])).mono ?_; rintro e w4 ⟨rfl, hs4, ht4, hr4⟩; have H4 := hid (HL.out.step hs4 ht4); have c4 := H4.out.c; clear hs4 ht4 hr4))
                          go_roundw
                          case rel =>
                            refine ⟨q5 + 1, F, _, _, by omega, by go_num, H4.out.alloc _, ?_⟩
                            have := HG.out.next (by omega)
                            rwa [show FF - q5 - 1 = FF - (q5 + 1) by omega] at this
                          case measure => simp [intOf]; omega
                        · obtain rfl : q5 = FF := by omega
                          obtain ⟨wo5, hwo5⟩ : ∃ wo5, wr = wo5 := ⟨_, rfl⟩
                          rw [hwo5] at HL c0 ⊢
                          clear hwo5 wr
                          go_wp2_with (first
                            | (go_at_call 26; refine (s_Next_no _ F u v 8 f 2 [] HL.out.us (by rw [HG.out.count]; omega)).mono ?_; rintro e w7 ⟨rfl, hb7⟩; have H7 := hid ((HL.out.below hb7).alloc (.cells #[.int .i64 0, .int .i64 0, .int .u64 0] 51)); have c7 := H7.out.c; clear hb7)
                            | (go_at_call 27; refine (m_Overflow _ u v H7.out.us.iu).mono ?_; rw [HG.out.lost]; rintro e w8 ⟨rfl, hw8⟩; obtain rfl := hw8.symm)
                            | (go_at_call 28; refine (l_awake _).mono ?_; rintro e w9 ⟨rfl, hb9⟩; have HB9 := hid hb9; clear hb9))
                          go_ret
                          exact ⟨rfl, H7.out.new.trans (HB9.out.mono H7.out.new.size)⟩
end Go.Proofs.Ytfoafgbhelgjcaa
