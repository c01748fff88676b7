/- EngineBounds: the walk. -/
import Derived.Test.YtajnjmjogaacpaaGreatMH6
namespace Go.Proofs.YtajnjmjogaacpaaGreat
open Go.RowKit Go.Deep Go.ChangeShapes
open C
set_option linter.unusedVariables false
theorem info_cellE : (Tryz.prog.info? 26).map (fun i => (i.zero, i.size, i.bytes)) = some (some (.agg #[.int .i64 0, .int .u64 0]), 2, 16) := by kernel_rfl
theorem uE_sCell : Tryz.prog.underlying 22 = some (.slice 26) := by kernel_rfl
set_option maxHeartbeats 4000000 in
set_option maxRecDepth 100000 in
theorem w_EngineBounds0 (W : World) (ad : Option Addr) (la cap ab ao : Nat) (X : Nat → Int × Int) (hX : Cl W ad la cap ab ao X) (hla : la ≤ 8796093022208) (root : Int) (r0 : 0 ≤ root) (r1 : root < 18446744073709551616) (bd : Option Addr) (lb cbp bb bo : Nat) (Y : Nat → EOpV) (hY : Ec W bd lb cbp bb bo Y) :
    Calls Tryz.prog 3 #[.slice ad la cap, .int .u64 root, .slice bd lb cbp] W fun e w' => e = .returned (.bool true) ∧ Below W.heap.size W w' := by
  have HX := hid hX
  have HYe := hid hY
  have HN := hid hX.num
  clear hX hY
  obtain ⟨i0, hi, hz0, hz1, hz2⟩ := info_parts info_cellE
  go_enter Tryz.func3, Tryz.ntmps3
  go_wp2_with fail
  go_loopw [7, 8] (fun v i wr => ∃ k : Nat, k ≤ la ∧ i = .int .i64 k ∧ wr.ownsRow W.heap.size 26 2 v k (cy (Yof7 X) k) ∧ Below W.heap.size W wr) (fun _ i _ => la - (intOf i).toNat)
  case atStart => exact ⟨0, by omega, rfl, World.ownsRow_nil _ _ _ _, Below.refl _ _⟩
  case round =>
    obtain ⟨k, hk, rfl, hown, hb⟩ := hrel
    have HO := hid hown
    have HB := hid hb
    clear hown hb
    by_cases hlt : k < la
    · obtain ⟨rfl, hab⟩ := HX.out.at0 (by omega)
      obtain ⟨x0, x1⟩ := (Cl.below HX.out HB.out).cell k hlt
      obtain ⟨⟨v0, v1⟩, u0, u1⟩ := HN.out k hlt
      have HY : Hid (cy (Yof7 X) (k + 1) = cy (Yof7 X) k ++ [.int .i64 ((X k).1 % 3584), .int .u64 (lowV7 (X k).2)]) := rfl
      obtain ⟨A, hA⟩ : ∃ A, (X k).1 = A := ⟨_, rfl⟩
      obtain ⟨V, hV⟩ : ∃ V, (X k).2 = V := ⟨_, rfl⟩
      rw [hA] at x0 v0 v1 HY
      rw [hV] at x1 u0 u1 HY
      clear hA hV
      have hN : bits .and .u64 (V / 1024) 17592186044415 = numR V := and_mask44 (V / 1024) (by omega) (by omega)
      have hL := lf_and V u0 u1
      have h3 : (lf V = true ∧ lowV7 V = V) ∨ (lf V = false ∧ numR V ≤ 6 ∧ lowV7 V = V) ∨ (lf V = false ∧ 6 < numR V ∧ bits .andNot .u64 V 18014398509480960 = lowV7 V) := by
        unfold lowV7
        cases hl : lf V
        · by_cases hn : numR V ≤ 6
          · exact .inr (.inl ⟨rfl, hn, if_pos (.inr hn)⟩)
          · exact .inr (.inr ⟨rfl, by omega, by rw [clear_num V u0 u1, if_neg (by intro q; rcases q with q | q; cases q; exact hn q)]⟩)
        · exact .inl ⟨rfl, if_pos (.inl rfl)⟩
      rcases h3 with ⟨hl, hz⟩ | ⟨hl, hn, hz⟩ | ⟨hl, hn, hz⟩
      all_goals
        rw [hl] at hL
        simp only [Bool.not_true, Bool.not_false] at hL
        have HZ := hid hz
        clear hz
        go_wp2_with (first
          | (go_at_call 4; refine (c_Place A 3584 (by decide) (by decide) v0 v1 _).mono ?_; rintro r w1 ⟨rfl, hw1⟩; obtain rfl := hw1.symm)
          | (at_builtin; refine wpList_append_own _ rfl _ _ 22 rfl W.heap.size 26 i0 (.agg #[.int .i64 0, .int .u64 0]) 2 16 uE_sCell hi hz0 hz1 hz2 rfl (by decide) _ k (cy (Yof7 X) k) rfl (HO.out.alloc _) ⟨wr.heap.size, 0, none⟩ 1 1 [.int .i64 (A % 3584), .int .u64 (lowV7 V)] rfl rfl (by
              intro j u hj
              match j, hj with
              | 0, hj => simp at hj; subst hj; simp [Addr.add]
              | 1, hj => simp at hj; subst hj; simp [Addr.add, HZ.out]) (by intro u hu; simp at hu; rcases hu with rfl | rfl <;> rfl) (by unfold maxLen; omega) (by omega) (by have := HB.out.size; simp; omega) ?_; intro v' w2 hown hgrow _; have HO3 := hid hown; have HG3 := hid hgrow; clear hown hgrow))
        go_roundw
        case rel => exact ⟨k + 1, by omega, by go_num, by rw [HY.out]; exact HO3.out, (HB.out.alloc HB.out.size _).grown HG3.out (by have := HB.out.size; simp; omega) (fun r q => own_ge HO.out q)⟩
        case measure => simp [intOf]; omega
    · obtain rfl : k = la := by omega
      have hYn : ∀ i, i < k → (-9223372036854775808 ≤ (Yof7 X i).1 ∧ (Yof7 X i).1 ≤ 9223372036854775807) ∧ 0 ≤ (Yof7 X i).2 ∧ (Yof7 X i).2 < 18446744073709551616 := fun i hi => by
        obtain ⟨⟨v0, v1⟩, u0, u1⟩ := HN.out i hi
        have := (lowV_ok7 _ u0 u1).1
        refine ⟨⟨?_, ?_⟩, this⟩
        · show -9223372036854775808 ≤ (X i).1 % 3584; omega
        · show (X i).1 % 3584 ≤ 9223372036854775807; omega
      obtain ⟨ad1, cap1, ab1, rfl, hcl⟩ := cl_of_own HO.out (by omega) hYn
      have HCL := hid hcl
      have HYN := hid hYn
      clear hcl hYn HO
      obtain ⟨b, hbd⟩ : ∃ b, b = fcl 8 (Yof7 X) k := ⟨_, rfl⟩
      have hroot : 0 ≤ root % 7 ∧ root % 7 ≤ 6 := by omega
      go_wp2_with ((go_at_call 5; refine (l_New _ 8 (by decide) (by decide) ad1 _ cap1 ab1 _ (Yof7 X) HCL.out).mono ?_; rintro e1 w1 ⟨u, t, m, d, q, F, G, rfl, hp, hrm, hdj, hb1, hf1⟩; have HP1 := hid hp; have HB1 := hid hb1; have HF1 := hid hf1; clear hp hb1 hrm hdj hf1))
      obtain ⟨wc, hwc⟩ : ∃ wc, w1.alloc (.cells #[.pointer (some ⟨u, 0, none⟩), .pointer (some ⟨d, 0, none⟩), .pointer (some ⟨m, 0, none⟩), .pointer (some ⟨q, 0, none⟩)] 36) = wc := ⟨_, rfl⟩
      have hbc : Below w1.heap.size w1 wc := hwc ▸ (Below.refl _ _).alloc (Nat.le_refl _) _
      have ho : wc.heap[w1.heap.size]? = some (.cells #[.pointer (some ⟨u, 0, none⟩), .pointer (some ⟨d, 0, none⟩), .pointer (some ⟨m, 0, none⟩), .pointer (some ⟨q, 0, none⟩)] 36 (0, 0)) := hwc ▸ heap_alloc_new w1 _
      have hnF : ¬ F w1.heap.size := fun z => by have := HP1.out.lt z; omega
      have HNF := hid hnF
      rw [hwc]
      have HU := hid (HP1.out.below hbc)
      have HBc := hid ((HB.out.trans (HB1.out.mono HB.out.size)).trans (hbc.mono (Nat.le_trans HB.out.size HB1.out.size)))
      have HBF : Hid (∀ k, F k → W.heap.size ≤ k) := hid (fun k z => Nat.le_trans HB.out.size (HF1.out k (.inl z)))
      have HO := hid ho
      clear hwc hbc ho HP1 HB1 hnF
      go_at_call 6
      refine (s_Ring wc F u (v0 t m) 8 _ 8 [] HU.out 28672 (by decide) (by decide) 28672 rfl).mono ?_
      rintro e2 w2 ⟨rfl, hu2, t2⟩
      have ho2 := t2.1.old HO.out HNF.out
      have c0 : w2.cell? ⟨w1.heap.size, 0, none⟩ = some (.pointer (some ⟨u, 0, none⟩)) := cell_of_row w2 _ 0 _ _ _ ho2
      have c2 : w2.cell? ⟨w1.heap.size, 2, none⟩ = some (.pointer (some ⟨m, 0, none⟩)) := cell_of_row w2 _ 2 _ _ _ ho2
      have HU2 := hid hu2
      have T2 := hid t2
      have HO2 := hid ho2
      clear hu2 t2 ho2 HU HO
      go_wp2_with (first
        | (go_at_call 7; refine (s_SetAny w2 F u _ 8 _ 8 [] HU2.out 3 (root % 7) (by omega) (by omega)).mono ?_; rintro e3 w3 ⟨c3, v3, rfl, hu3, t3, hv3⟩; have HU3 := hid hu3; have T3 := hid t3; have HV3 := hid hv3; have ho3 := t3.1.old HO2.out HNF.out; have c0 : w3.cell? ⟨w1.heap.size, 0, none⟩ = some (.pointer (some ⟨u, 0, none⟩)) := cell_of_row w3 _ 0 _ _ _ ho3; have c2 : w3.cell? ⟨w1.heap.size, 2, none⟩ = some (.pointer (some ⟨m, 0, none⟩)) := cell_of_row w3 _ 2 _ _ _ ho3; have HO3 := hid ho3; clear hu3 t3 hv3 ho3)
        | (go_at_call 8; refine (x_New _ 3 m u (by decide)).mono ?_; rintro e4 w4 ⟨e, rfl, he, f1, f2⟩; have F1 := hid f1; have F2 := hid f2; have HE := hid he; clear f1 f2 he))
      have hsb : ∃ x, Sb (fcl 8 (Yof7 X) k) x ⟨v3, fcl 8 (Yof7 X) k, []⟩ := by
        have hby := HU3.out.byt
        have hok := yof_ok X k HN.out
        rcases HV3.out with rfl | ⟨-, rfl⟩
        · exact ⟨0, Sb.start hby hok t m⟩
        · exact ⟨root % 7, Sb.set hby hok t m _ hroot.1 hroot.2⟩
      have hvm : v3.m = m ∧ v3.t = t := by rcases HV3.out with rfl | ⟨-, rfl⟩ <;> exact ⟨rfl, rfl⟩
      obtain ⟨x, hsb⟩ := hsb
      have z1 := HBc.out.size
      have z2 := T2.out.1.size
      have z3 := T3.out.1.size
      have heb : EB W w4 w1.heap.size (.cells #[.pointer (some ⟨u, 0, none⟩), .pointer (some ⟨d, 0, none⟩), .pointer (some ⟨m, 0, none⟩), .pointer (some ⟨q, 0, none⟩)] 36 (0, 0)) u m t e (eU 3 m u) F ⟨v3, fcl 8 (Yof7 X) k, []⟩ (fcl 8 (Yof7 X) k) x := by
        have hq := HE.out
        refine ⟨⟨HU3.out.below F2.out, hvm.1, hvm.2⟩, hsb, F1.out, rfl, rfl, rfl, e0_b 0, rfl, (F2.out.block _ (lt_of_block HO3.out)).trans HO3.out, ⟨HNF.out, ?_⟩, ?_, fun k z => ?_⟩
        · have := lt_of_block HO3.out; omega
        · exact ((HBc.out.trans (T2.out.1.below _ z1 HBF.out)).trans (T3.out.1.below _ (by omega) HBF.out)).trans (F2.out.mono (by omega))
        · rcases z with z | z
          · omega
          · exact HBF.out k z
      have HEB := hid heb
      clear heb hsb HU2 HU3 HO2 HO3 T2 T3 F1 F2 HE HBF HBc
      generalize fcl 8 (Yof7 X) k = fb at *
      generalize w1.heap.size = ob at *
      go_loopw [14] (fun i wr => ∃ (j : Nat) (v : EV), j ≤ lb ∧ i = .int .i64 j ∧ EB W wr ob (.cells #[.pointer (some ⟨u, 0, none⟩), .pointer (some ⟨d, 0, none⟩), .pointer (some ⟨m, 0, none⟩), .pointer (some ⟨q, 0, none⟩)] 36 (0, 0)) u m t e v F ⟨v3, fb, []⟩ fb x) (fun i _ => lb - (intOf i).toNat)
      case atStart => exact ⟨0, eU 3 m u, by omega, rfl, HEB.out⟩
      case round =>
        clear HEB
        obtain ⟨j, v, hj, rfl, hp⟩ := hrel
        have hlc := HYe.out.len
        have hcm := HYe.out.cap
        have HP := hid hp
        clear hp
        by_cases hjt : j < lb
        · obtain ⟨rfl, hbb⟩ := HYe.out.at0 (by omega)
          have hcell := fun i hi => (HYe.out.below HP.out.new).cell j hjt i hi
          have y1 := hcell 1 (by decide)
          have y2 := hcell 2 (by decide)
          have y3 := hcell 3 (by decide)
          simp [EOpV.cs] at y1 y2 y3
          obtain ⟨⟨k0, k1⟩, ⟨s0, s1⟩, ⟨o0, o1⟩, ⟨g0, g1⟩, -⟩ := HYe.out.num j hjt
          clear hcell
          go_wp2_with fail
          refine wp_region_mid_dn 16 (by kernel_rfl) (by kernel_rfl) (by kernel_rfl) (by decide) (by kernel_rfl) ?_
          simp only [List.take, List.drop]
          repeat (go_big_quiet_step (fail))
          refine wpQuiet_nil ?_
          intro _ hwq
          obtain ⟨nq, hwq⟩ := hwq
          subst hwq
          refine wpOp_step rfl (fun K hK => ?_)
          go_simp
          have hp6 := HP.out.below (below_dn (Below.refl _ _) nq)
          refine (x_Write _ e v hp6.eg hp6.rb _ _ _ g0 g1 o0 o1).mono ?_
          rintro e5 w5 ⟨rfl, h5, h6⟩
          refine hK _ _ ?_
          have H5 := hid (hp6.write h5 h6 rfl rfl rfl (by cases okE (Y j).off (Y j).size; exact hp6.rb; exact wrE_b hp6.rb g0 g1) (by cases okE (Y j).off (Y j).size; exact hp6.r6; exact wr6 hp6.r6 _ _ _))
          clear hK h5 h6 hp6
          go_simp
          repeat (go_big_quiet_step (fail))
          refine wpQuiet_nil ?_
          intro nr
          go_wp2
          go_roundw
          case rel => exact ⟨j + 1, _, by omega, by go_num, H5.out.below (below_dn (Below.refl _ _) nr)⟩
          case measure => simp [intOf]; omega
        · obtain rfl : j = lb := by omega
          have hR := HP.out.read
          have hnn : ∀ (z : Bool) (w : World), (Op.unary .not (.bool z)).run Tryz.prog w = .ok (.bool (!z)) w := fun _ _ => rfl
          cases hbz : (v.r 3 == 1)
          · obtain ⟨s5, hs5⟩ : ∃ s5 : Us, s5 = ⟨v3, fb, []⟩ := ⟨_, rfl⟩
            rw [← hs5] at hR
            have HS5 := hid hs5
            clear hs5
            have HBy := hid (fun j hj => (HS5.out ▸ HP.out.sb : Sb fb x s5).byte u m t v.r HP.out.rb HP.out.r6 _ _ rfl rfl j hj)
            obtain ⟨g, hg⟩ : ∃ g, g = (stN (UG u 8 8 m t 3) v.r s5).2.2.f := ⟨_, rfl⟩
            have HG := hid hg
            rw [← hg] at HBy
            clear hg
            go_wp2_with (first
              | (go_at_call 10; refine hR.mono ?_; rintro r w6 ⟨rfl, hq⟩; have HQ6 := hid hq; clear hq)
              | (go_at_call 11; refine (x_Busy _ e v HQ6.out.eg).mono ?_; rw [hbz]; rintro r w7 ⟨rfl, hw⟩; obtain rfl := hw.symm; have k2 : w6.cell? ⟨ob, 2, none⟩ = some (.pointer (some ⟨m, 0, none⟩)) := cell_of_row w6 _ 2 _ _ _ HQ6.out.on)
              | (go_at_call 14; refine HQ6.out.copy.mono ?_; rintro r wk ⟨cp, rfl, hS⟩)
              | (go_at_call 15; refine hS.mono ?_; rw [← HG.out]; rintro r wl ⟨⟨a1, a2, a3, rfl⟩, hl⟩; have HL := hid hl; clear hl))
            clear k2 hR HQ6
            go_loopw [22] (fun i wr => ∃ a : Nat, a ≤ 7 ∧ i = .int .u64 a ∧ Hid (Ls2 W wr ob (.cells #[.pointer (some ⟨u, 0, none⟩), .pointer (some ⟨d, 0, none⟩), .pointer (some ⟨m, 0, none⟩), .pointer (some ⟨q, 0, none⟩)] 36 (0, 0)) m cp s5.f g)) (fun i _ => 7 - (intOf i).toNat)
            case atStart => exact ⟨0, by omega, rfl, HL⟩
            case round =>
              clear HL
              obtain ⟨a, ha, rfl, hp⟩ := hrel
              by_cases hat : a < 7
              · have k3 : wr.cell? ⟨ob, 2, none⟩ = some (.pointer (some ⟨m, 0, none⟩)) := cell_of_row wr _ 2 _ _ _ hp.out.on
                obtain ⟨of, hof⟩ : ∃ of : Nat, of = 4096 * a := ⟨_, rfl⟩
                have hW : Hid (IntKind.u64.wrap ((a : Int) * 4096) = (of : Int)) := by show _ = _; rw [IntKind.wrap_u64]; omega
                have hof2 : of + 4096 ≤ 28672 := by omega
                have HOF := hid hof
                clear hof
                have TB1 : Hid True := hid trivial
                go_wp2_with (first
                  | (go_at_call 16; have tk := TB1; clear tk TB1; refine (hp.out.bytes of (by omega) _ (by first | exact hW.out | (have := HOF.out; omega))).mono ?_; rintro r w10 ⟨d1, rfl, r1, hl, hB2⟩; have k4 : w10.cell? ⟨ob, 2, none⟩ = some (.pointer (some ⟨m, 0, none⟩)) := cell_of_row w10 _ 2 _ _ _ hl.on; clear hl r1)
                  | (go_at_call 16; refine hB2.mono ?_; rintro r w11 ⟨d2, rfl, r1, r2, hl⟩; have HR1 := hid r1; have HR2 := hid r2; have HL11 := hid hl; clear hl r1 r2))
                clear k3 k4 hp
                go_loopw [27] (fun i w12 => ∃ kk : Nat, kk ≤ 4096 ∧ i = .int .u64 kk ∧ Hid (Ls2 W w12 ob (.cells #[.pointer (some ⟨u, 0, none⟩), .pointer (some ⟨d, 0, none⟩), .pointer (some ⟨m, 0, none⟩), .pointer (some ⟨q, 0, none⟩)] 36 (0, 0)) m cp s5.f g ∧ w12.heap[d1]? = some (.cells (row (fun j => s5.f (of + j)) 0 4096).toArray 5 (0, 0)) ∧ w12.heap[d2]? = some (.cells (row (fun j => g (of + j)) 0 4096).toArray 5 (0, 0)))) (fun i _ => 4096 - (intOf i).toNat)
                case atStart => exact ⟨0, by omega, rfl, HL11.out, HR1.out, HR2.out⟩
                case round =>
                  clear HL11 HR1 HR2
                  obtain ⟨kk, hk, rfl, hp⟩ := hrel
                  by_cases hkt : kk < 4096
                  · have x1 := row_cell hp.out.2.1 kk hkt
                    have x2 := row_cell hp.out.2.2 kk hkt
                    simp only [Nat.zero_add] at x1 x2
                    have hy := HBy.out (of + kk) (by omega)
                    by_cases he : g (of + kk) = s5.f (of + kk)
                    · rw [he] at x2
                      generalize s5.f (of + kk) = z1 at *
                      clear he hy
                      go_wp2_with fail
                      go_quiet (fail)
                      go_wp2_with fail
                      go_roundw
                      case rel => exact ⟨kk + 1, by omega, by go_num, hp.out.1.below (below_dn (Below.refl _ _) _), hp.out.2.1, hp.out.2.2⟩
                      case measure => first | (simp [intOf]; done) | (simp [intOf]; omega)
                    · exact absurd (hy.resolve_left he).1 (by simpa using hbz)
                  · obtain rfl : kk = 4096 := by omega
                    go_wp2_with fail
                    go_roundw
                    case rel => exact ⟨a + 1, by omega, by go_num, hp.out.1⟩
                    case measure => first | (simp [intOf]; done) | (simp [intOf]; omega)
              · obtain rfl : a = 7 := by omega
                go_wp2_with (go_at_call 17; refine (l_awake8 _).mono ?_; rintro r w9 ⟨rfl, hb⟩; have HB9 := hid hb; clear hb)
                go_ret
                exact ⟨rfl, hp.out.new.trans (HB9.out.mono hp.out.new.size)⟩
          · obtain ⟨PA, hPA⟩ : ∃ PA, PA = (acN 8 fb x (v.r 1) 8 true).2 := ⟨_, rfl⟩
            obtain ⟨LT, hLT⟩ : ∃ LT, LT = decide ((acN 8 fb x (v.r 1) 8 true).1 = 0) := ⟨_, rfl⟩
            have hPb : LT = true → 0 ≤ PA ∧ PA + 8 ≤ 32768 := fun q => by
              have := HP.out.okP (by rw [← hLT]; exact q)
              rw [← hPA] at this
              simp [hasB] at this
              omega
            have HPA := hid hPA
            have HLT := hid hLT
            clear hPA hLT
            go_wp2_with (first
              | (go_at_call 10; refine hR.mono ?_; rintro r w6 ⟨rfl, hq⟩; have HQ6 := hid hq; clear hq)
              | (go_at_call 11; refine (x_Busy _ e v HQ6.out.eg).mono ?_; rw [hbz]; rintro r w7 ⟨rfl, hw⟩; obtain rfl := hw.symm; have k0 : w6.cell? ⟨ob, 0, none⟩ = some (.pointer (some ⟨u, 0, none⟩)) := cell_of_row w6 _ 0 _ _ _ HQ6.out.on)
              | (go_at_call 12; refine HQ6.out.acc.mono ?_; rw [← HPA.out, ← HLT.out]; rintro r w8 ⟨rfl, F8, s8, hq⟩; have HQ8 := hid hq; clear hq))
            clear k0 hR HQ6
            go_loopw [20] (fun i wr => ∃ (k : Nat) (s : Us), k ≤ 3 ∧ i = .int .i64 k ∧ Hid (EB W wr ob (.cells #[.pointer (some ⟨u, 0, none⟩), .pointer (some ⟨d, 0, none⟩), .pointer (some ⟨m, 0, none⟩), .pointer (some ⟨q, 0, none⟩)] 36 (0, 0)) u m t e v F8 s fb x)) (fun i _ => 3 - (intOf i).toNat)
            case atStart => exact ⟨0, s8, by omega, rfl, HQ8⟩
            case round =>
              clear HQ8
              obtain ⟨kn, s5, hkn, rfl, hp⟩ := hrel
              by_cases hk3 : kn < 3
              · have k0 : wr.cell? ⟨ob, 0, none⟩ = some (.pointer (some ⟨u, 0, none⟩)) := cell_of_row wr _ 0 _ _ _ hp.out.on
                go_wp2_with (go_at_call 13; refine hp.out.next.mono ?_; rintro r w9 ⟨⟨a1, a2, a3, a4, rfl⟩, s9, hq⟩; have HQ9 := hid hq; clear hq)
                go_roundw
                case rel => first | exact ⟨kn + 1, s9, by omega, by go_num, HQ9⟩ | (refine ⟨_, _, _, _, _, _, _, _, ⟨kn + 1, s9, by omega, ?_, HQ9⟩, rfl⟩; go_num)
                case measure => first | (simp [intOf]; done) | (simp [intOf]; omega)
              · obtain rfl : kn = 3 := by omega
                have k2 : wr.cell? ⟨ob, 2, none⟩ = some (.pointer (some ⟨m, 0, none⟩)) := cell_of_row wr _ 2 _ _ _ hp.out.on
                have HBy := hid (fun j hj => hp.out.sb.byte u m t v.r hp.out.rb hp.out.r6 PA LT HPA.out HLT.out j hj)
                obtain ⟨g, hg⟩ : ∃ g, g = (stN (UG u 8 8 m t 3) v.r s5).2.2.f := ⟨_, rfl⟩
                have HG := hid hg
                rw [← hg] at HBy
                clear hg
                have hCp := hp.out.copy
                clear hp
                go_wp2_with (first
                  | (go_at_call 14; refine hCp.mono ?_; rintro r wk ⟨cp, rfl, hS⟩)
                  | (go_at_call 15; refine hS.mono ?_; rw [← HG.out]; rintro r wl ⟨⟨a1, a2, a3, rfl⟩, hl⟩; have HL := hid hl; clear hl))
                clear k2 hCp
                go_loopw [22] (fun i wr => ∃ a : Nat, a ≤ 7 ∧ i = .int .u64 a ∧ Hid (Ls2 W wr ob (.cells #[.pointer (some ⟨u, 0, none⟩), .pointer (some ⟨d, 0, none⟩), .pointer (some ⟨m, 0, none⟩), .pointer (some ⟨q, 0, none⟩)] 36 (0, 0)) m cp s5.f g)) (fun i _ => 7 - (intOf i).toNat)
                case atStart => exact ⟨0, by omega, rfl, HL⟩
                case round =>
                  clear HL
                  obtain ⟨a, ha, rfl, hp⟩ := hrel
                  by_cases hat : a < 7
                  · have k3 : wr.cell? ⟨ob, 2, none⟩ = some (.pointer (some ⟨m, 0, none⟩)) := cell_of_row wr _ 2 _ _ _ hp.out.on
                    obtain ⟨of, hof⟩ : ∃ of : Nat, of = 4096 * a := ⟨_, rfl⟩
                    have hW : Hid (IntKind.u64.wrap ((a : Int) * 4096) = (of : Int)) := by show _ = _; rw [IntKind.wrap_u64]; omega
                    have hof2 : of + 4096 ≤ 28672 := by omega
                    have HOF := hid hof
                    clear hof
                    have TB1 : Hid True := hid trivial
                    go_wp2_with (first
                      | (go_at_call 16; have tk := TB1; clear tk TB1; refine (hp.out.bytes of (by omega) _ (by first | exact hW.out | (have := HOF.out; omega))).mono ?_; rintro r w10 ⟨d1, rfl, r1, hl, hB2⟩; have k4 : w10.cell? ⟨ob, 2, none⟩ = some (.pointer (some ⟨m, 0, none⟩)) := cell_of_row w10 _ 2 _ _ _ hl.on; clear hl r1)
                      | (go_at_call 16; refine hB2.mono ?_; rintro r w11 ⟨d2, rfl, r1, r2, hl⟩; have HR1 := hid r1; have HR2 := hid r2; have HL11 := hid hl; clear hl r1 r2))
                    clear k3 k4 hp
                    go_loopw [27] (fun i w12 => ∃ kk : Nat, kk ≤ 4096 ∧ i = .int .u64 kk ∧ Hid (Ls2 W w12 ob (.cells #[.pointer (some ⟨u, 0, none⟩), .pointer (some ⟨d, 0, none⟩), .pointer (some ⟨m, 0, none⟩), .pointer (some ⟨q, 0, none⟩)] 36 (0, 0)) m cp s5.f g ∧ w12.heap[d1]? = some (.cells (row (fun j => s5.f (of + j)) 0 4096).toArray 5 (0, 0)) ∧ w12.heap[d2]? = some (.cells (row (fun j => g (of + j)) 0 4096).toArray 5 (0, 0)))) (fun i _ => 4096 - (intOf i).toNat)
                    case atStart => exact ⟨0, by omega, rfl, HL11.out, HR1.out, HR2.out⟩
                    case round =>
                      clear HL11 HR1 HR2
                      obtain ⟨kk, hk, rfl, hp⟩ := hrel
                      by_cases hkt : kk < 4096
                      · have x1 := row_cell hp.out.2.1 kk hkt
                        have x2 := row_cell hp.out.2.2 kk hkt
                        simp only [Nat.zero_add] at x1 x2
                        have hy := HBy.out (of + kk) (by omega)
                        by_cases he : g (of + kk) = s5.f (of + kk)
                        · rw [he] at x2
                          generalize s5.f (of + kk) = z1 at *
                          clear he hy
                          go_wp2_with fail
                          go_quiet (fail)
                          go_wp2_with fail
                          go_roundw
                          case rel => exact ⟨kk + 1, by omega, by go_num, hp.out.1.below (below_dn (Below.refl _ _) _), hp.out.2.1, hp.out.2.2⟩
                          case measure => first | (simp [intOf]; done) | (simp [intOf]; omega)
                        · obtain ⟨y1, y2, y3, y4⟩ := hy.resolve_left he
                          subst y2
                          generalize s5.f (of + kk) = z1 at *
                          generalize g (of + kk) = z2 at *
                          have hne : (z1 == z2) = false := by simp; exact fun q => he q.symm
                          have hne2 : (z1 != z2) = true := by simp [bne, hne]
                          have hne3 : decide (z1 = z2) = false := by simp; exact fun q => he q.symm
                          obtain ⟨pb0, pb1⟩ := hPb rfl
                          have HOFx := HOF.out
                          have hw8 : IntKind.u64.wrap (PA + 8) = PA + 8 := by rw [IntKind.wrap_u64]; omega
                          have q1 : decide ((a : Int) * 4096 + (kk : Int) < PA) = false := by simp; omega
                          have q2 : decide (PA + 8 ≤ (a : Int) * 4096 + (kk : Int)) = false := by simp; omega
                          clear hPb hy HOFx y3 y4 he
                          go_wp2_with fail
                          go_quiet (fail)
                          go_wp2_with fail
                          go_roundw
                          case rel => exact ⟨kk + 1, by omega, by go_num, hp.out.1.below (below_dn (Below.refl _ _) _), hp.out.2.1, hp.out.2.2⟩
                          case measure => first | (simp [intOf]; done) | (simp [intOf]; omega)
                      · obtain rfl : kk = 4096 := by omega
                        go_wp2_with fail
                        go_roundw
                        case rel => exact ⟨a + 1, by omega, by go_num, hp.out.1⟩
                        case measure => first | (simp [intOf]; done) | (simp [intOf]; omega)
                  · obtain rfl : a = 7 := by omega
                    go_wp2_with (go_at_call 17; refine (l_awake8 _).mono ?_; rintro r w9 ⟨rfl, hb⟩; have HB9 := hid hb; clear hb)
                    go_ret
                    exact ⟨rfl, hp.out.new.trans (HB9.out.mono hp.out.new.size)⟩
end Go.Proofs.YtajnjmjogaacpaaGreat
