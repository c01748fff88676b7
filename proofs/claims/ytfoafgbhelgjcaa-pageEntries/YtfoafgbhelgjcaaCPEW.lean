/- PageEntries answers true: the walk. -/
import Derived.Test.YtfoafgbhelgjcaaCPEO
import Derived.Test.YtfoafgbhelgjcaaMC4
import Derived.Test.YtfoafgbhelgjcaaCPEQ
import Derived.Test.YtfoafgbhelgjcaaCPL
namespace Go.Proofs.Ytfoafgbhelgjcaa.C
open Go.RowKit
set_option linter.unusedVariables false
set_option maxRecDepth 100000

theorem CB.c0 {w : World} {b : Nat} {ad : Option Addr} {la cap : Nat} {a r : Int} {c d e : Bool} (h : CB w b ad la cap a r c d e) : w.cell? ⟨b, 0, none⟩ = some (.slice ad la cap) := by rw [cell_of_row w b 0 _ _ _ h]; rfl
theorem own_ge {w : World} {base : Nat} {e : TypeId} {size : Nat} {v : Value} {n : Nat} {xs : List Value} (h : w.ownsRow base e size v n xs) {r : Nat} (q : v.ownBlock = some r) : base ≤ r := by
  rcases h.2 with ⟨rfl, _⟩ | ⟨g, cap, cur, rfl, hg, _⟩
  · simp [Value.ownBlock] at q
  · simp [Value.ownBlock] at q; omega
theorem put_low (f : Nat → Int) (off n : Nat) (g : Nat → Int) (j : Nat) (h : j < off) : put f off n g j = f j := by
  unfold put
  rw [if_neg (by omega)]
theorem info_cell : (Try.prog.info? 71).map (fun i => (i.zero, i.size, i.bytes)) = some (some (.agg #[.int .i64 0, .int .u64 0]), 2, 16) := by kernel_rfl
theorem uE_sCell : Try.prog.underlying 22 = some (.slice 71) := by kernel_rfl
set_option maxHeartbeats 4000000 in
set_option maxRecDepth 100000 in
theorem w_PageEntries (w : World) (ad : Option Addr) (la cap ab ao : Nat) (X : Nat → Int × Int) (hX : Cl w ad la cap ab ao X) (a b : Int) (c d e : Bool) (sa0 : 0 ≤ a) (sa1 : a < 18446744073709551616) (b0 : 0 ≤ b) (b1 : b < 18446744073709551616) (va : Int) (g0 : 0 ≤ va) (g1 : va < 18446744073709551616) (acc : Int) (c0 : -9223372036854775808 ≤ acc) (c1 : acc ≤ 9223372036854775807) (ad' : Option Addr) (la' cap' ab' ao' : Nat) (X' : Nat → Int × Int) (hX' : Cl w ad' la' cap' ab' ao' X') (hla : la ≤ 8796093022208) :
    Calls Try.prog 15 #[.agg #[.slice ad la cap, .int .u64 a, .int .u64 b, .bool c, .bool d, .bool e], .int .u64 va, .int .i64 acc, .slice ad' la' cap'] w fun r w' => r = .returned (.bool true) ∧ Below w.heap.size w w' := by
  obtain ⟨wc, hwc⟩ : ∃ wc, wc = w.alloc (.cells #[.slice ad la cap, .int .u64 a, .int .u64 b, .bool c, .bool d, .bool e] 85) := ⟨_, rfl⟩
  have HA : Hid (Below w.heap.size w wc) := by rw [hwc]; exact (Below.refl _ _).alloc (Nat.le_refl _) _
  have HX : Hid (Cl wc ad la cap ab ao X) := Cl.below hX HA.out
  have HX' : Hid (Cl wc ad' la' cap' ab' ao' X') := Cl.below hX' HA.out
  have HC : Hid (CB wc w.heap.size ad la cap a b c d e) := by rw [hwc]; exact heap_alloc_new w _
  have HWC := hid hwc
  have HN := hid hX.num
  have hsw : wc.heap.size = w.heap.size + 1 := by rw [hwc]; simp
  clear hX hX' hwc
  obtain ⟨i0, hi, hz0, hz1, hz2⟩ := info_parts info_cell
  go_enter Try.func15, Try.ntmps15
  go_wp2_with fail
  go_loopw [9, 10] (fun v i wr => ∃ k : Nat, k ≤ la ∧ i = .int .i64 k ∧ wr.ownsRow wc.heap.size 71 2 v k (cy (Yof X) k) ∧ Below wc.heap.size wc wr) (fun _ i _ => la - (intOf i).toNat)
  case atStart => exact ⟨0, by omega, rfl, World.ownsRow_nil _ _ _ _, by rw [HWC.out]; exact Below.refl _ _⟩
  case round =>
    obtain ⟨k, hk, rfl, hown, hb⟩ := hrel
    have HO := hid hown
    have HB := hid hb
    have HC1 := hid (HC.out.below hb)
    obtain ⟨k1, k2, k3, k4, k5⟩ := HC1.out.cs
    have k0 := HC1.out.c0
    clear hown hb
    by_cases hlt : k < la
    · obtain ⟨rfl, hab⟩ := HX.out.at0 (by omega)
      obtain ⟨x0, x1⟩ := (Cl.below HX.out HB.out).cell k hlt
      obtain ⟨⟨v0, v1⟩, u0, u1⟩ := HN.out k hlt
      have HY : Hid (cy (Yof X) (k + 1) = cy (Yof X) k ++ [.int .i64 ((X k).1 % 3072), .int .u64 (lowV (X k).2)]) := rfl
      obtain ⟨A, hA⟩ : ∃ A, (X k).1 = A := ⟨_, rfl⟩
      obtain ⟨V, hV⟩ : ∃ V, (X k).2 = V := ⟨_, rfl⟩
      rw [hA] at x0 v0 v1 HY
      rw [hV] at x1 u0 u1 HY
      clear hA hV
      have hN : bits .and .u64 (V / 1024) 17592186044415 = numR V := and_mask44 (V / 1024) (by omega) (by omega)
      have hL := lf_and V u0 u1
      have h3 : (lf V = true ∧ lowV V = V) ∨ (lf V = false ∧ numR V ≤ 5 ∧ lowV V = V) ∨ (lf V = false ∧ 5 < numR V ∧ bits .andNot .u64 V 18014398509480960 = lowV V) := by
        unfold lowV
        cases hl : lf V
        · by_cases hn : numR V ≤ 5
          · exact .inr (.inl ⟨rfl, hn, if_pos (.inr hn)⟩)
          · exact .inr (.inr ⟨rfl, by omega, by rw [clear_num V u0 u1, if_neg (by intro q; rcases q with q | q; cases q; exact hn q)]⟩)
        · exact .inl ⟨rfl, if_pos (.inl rfl)⟩
      rcases h3 with ⟨hl, hz⟩ | ⟨hl, hn, hz⟩ | ⟨hl, hn, hz⟩
      all_goals
        rw [hl] at hL
        simp only [Bool.not_true, Bool.not_false] at hL
        have HZ := hid hz
        clear hz
        go_wp2_with (first
          | (go_at_call 19; refine (c_Place A 3072 (by decide) (by decide) v0 v1 _).mono ?_; rintro r w1 ⟨rfl, hw1⟩; obtain rfl := hw1.symm)
          | (at_builtin; refine wpList_append_own _ rfl _ _ 22 rfl wc.heap.size 71 i0 (.agg #[.int .i64 0, .int .u64 0]) 2 16 uE_sCell hi hz0 hz1 hz2 rfl (by decide) _ k (cy (Yof X) k) rfl (HO.out.alloc _) ⟨wr.heap.size, 0, none⟩ 1 1 [.int .i64 (A % 3072), .int .u64 (lowV V)] rfl rfl (by
              intro j u hj
              match j, hj with
              | 0, hj => simp at hj; subst hj; simp [Addr.add]
              | 1, hj => simp at hj; subst hj; simp [Addr.add, HZ.out]) (by intro u hu; simp at hu; rcases hu with rfl | rfl <;> rfl) (by unfold maxLen; omega) (by omega) (by have := HB.out.size; simp; omega) ?_; intro v' w2 hown hgrow _; have HO3 := hid hown; have HG3 := hid hgrow; clear hown hgrow))
        go_roundw
        case rel => exact ⟨k + 1, by omega, by go_num, by rw [HY.out]; exact HO3.out, (HB.out.alloc HB.out.size _).grown HG3.out (by have := HB.out.size; simp; omega) (fun r q => own_ge HO.out q)⟩
        case measure => simp [intOf]; omega
    · obtain rfl : k = la := by omega
      have hYn : ∀ i, i < k → (-9223372036854775808 ≤ (Yof X i).1 ∧ (Yof X i).1 ≤ 9223372036854775807) ∧ 0 ≤ (Yof X i).2 ∧ (Yof X i).2 < 18446744073709551616 := fun i hi => by
        obtain ⟨⟨v0, v1⟩, u0, u1⟩ := HN.out i hi
        have := (lowV_ok _ u0 u1).1
        refine ⟨⟨?_, ?_⟩, this⟩
        · show -9223372036854775808 ≤ (X i).1 % 3072; omega
        · show (X i).1 % 3072 ≤ 9223372036854775807; omega
      obtain ⟨ad1, cap1, ab1, rfl, hcl⟩ := cl_of_own HO.out (by omega) hYn
      have HCL := hid hcl
      have HYN := hid hYn
      clear hcl hYn HO
      obtain ⟨wo, rfl⟩ : ∃ wo : World, wo = wr := ⟨_, rfl⟩
      have hs1 : bits .or .u64 (bits .andNot .u64 a 17592186044415) (a % 6) = a / 17592186044416 * 17592186044416 + a % 6 := by rw [clear_low a sa0 sa1, or_low a (a % 6) sa0 sa1 (by omega) (by omega)]
      have hs2 : (a / 17592186044416 * 17592186044416 + a % 6).tmod 1152921504606846976 = (a / 17592186044416 * 17592186044416 + a % 6) % 1152921504606846976 := Int.tmod_eq_emod_of_nonneg (by omega)
      obtain ⟨s1, es1⟩ : ∃ s1, a / 17592186044416 * 17592186044416 + a % 6 = s1 := ⟨_, rfl⟩
      obtain ⟨s2, es2⟩ : ∃ s2, (a / 17592186044416 * 17592186044416 + a % 6) % 1152921504606846976 = s2 := ⟨_, rfl⟩
      obtain ⟨rt, hrt⟩ : ∃ rt, b % 6 = rt := ⟨_, rfl⟩
      have hr5 : 0 ≤ rt ∧ rt ≤ 5 := by omega
      have HS : Hid ((0 ≤ s1 ∧ s1 < 18446744073709551616 ∧ s1 % 17592186044416 ≤ 5) ∧ (0 ≤ s2 ∧ s2 < 18446744073709551616 ∧ s2 % 17592186044416 ≤ 5 ∧ s2 / 1152921504606846976 = 0)) := by
        show (_ ∧ _ ∧ _) ∧ (_ ∧ _ ∧ _ ∧ _); omega
      rw [es1] at hs1 hs2
      rw [← es1, es2, es1] at hs2
      clear es1 es2
      have h2 : (∃ sp, rt = 0 ∧ s1 = sp ∧ 0 ≤ sp ∧ sp < 18446744073709551616 ∧ sp % 17592186044416 ≤ 5 ∧ (rt ≠ 0 → sp / 1152921504606846976 = 0)) ∨ (∃ sp, rt ≠ 0 ∧ s2 = sp ∧ 0 ≤ sp ∧ sp < 18446744073709551616 ∧ sp % 17592186044416 ≤ 5 ∧ (rt ≠ 0 → sp / 1152921504606846976 = 0)) := by
        by_cases q : rt = 0
        · exact .inl ⟨s1, q, rfl, HS.out.1.1, HS.out.1.2.1, HS.out.1.2.2, fun z => absurd q z⟩
        · exact .inr ⟨s2, q, rfl, HS.out.2.1, HS.out.2.2.1, HS.out.2.2.2.1, fun _ => HS.out.2.2.2.2⟩
      rcases h2 with ⟨sp, hr0, rfl, p0, p1, p2, p3⟩ | ⟨sp, hr0, rfl, p0, p1, p2, p3⟩
      · subst hr0
        obtain ⟨we, hwe⟩ : ∃ we, we = wo.alloc (.cells #[.int .u64 s1, .int .u64 0, .bool c, .bool d, .bool e] 83) := ⟨_, rfl⟩
        have HBe : Hid (Below wo.heap.size wo we) := by rw [hwe]; exact (Below.refl _ _).alloc (Nat.le_refl _) _
        have HWE := hid hwe
        have HEe : Hid (EB we wo.heap.size s1 0 c d e) := by rw [hwe]; exact heap_alloc_new wo _
        clear hwe
        go_wp2_with (first
          | (go_at_call 43; rw [← HWE.out]; refine (c_Memory we 8 (by decide) (by decide) ad1 k cap1 ab1 0 (Yof X) (Cl.below HCL.out HBe.out)).mono ?_; rintro r w1 ⟨p, q, U, rfl, ht, hb1, hu⟩; have HT1 := hid ht; have HB1 := hid hb1; have HU1 := hid hu; clear ht hb1 hu; obtain ⟨wf, hwf⟩ : ∃ wf, wf = w1.alloc (.cells #[.pointer (some ⟨p, 0, none⟩), .pointer (some ⟨q, 0, none⟩)] 29) := ⟨_, rfl⟩; have HBf : Hid (Below w1.heap.size w1 wf) := (by rw [hwf]; exact (Below.refl _ _).alloc (Nat.le_refl _) _); have HTf : Hid (TB wf w1.heap.size p q) := (by rw [hwf]; exact TB.new w1 p q); have HWF := hid hwf; clear hwf)
          | (go_at_call 43; rw [← HWF.out]; refine (c_Memory wf 8 (by decide) (by decide) ad1 k cap1 ab1 0 (Yof X) (Cl.below (Cl.below (Cl.below HCL.out HBe.out) HB1.out) HBf.out)).mono ?_; rintro r w2 ⟨p', q', U', rfl, ht, hb1, hu⟩; have HT2 := hid ht; have HB2 := hid hb1; have HU2 := hid hu; clear ht hb1 hu))
        obtain ⟨wg, hwg⟩ : ∃ wg, wg = w2.alloc (.cells #[.pointer (some ⟨p', 0, none⟩), .pointer (some ⟨q', 0, none⟩)] 29) := ⟨_, rfl⟩
        have HBg : Hid (Below w2.heap.size w2 wg) := by rw [hwg]; exact (Below.refl _ _).alloc (Nat.le_refl _) _
        have HTg : Hid (TB wg w2.heap.size p' q') := by rw [hwg]; exact TB.new w2 p' q'
        have HEg : Hid (EB wg wo.heap.size s1 0 c d e) := (((HEe.out.below HB1.out).below HBf.out).below HB2.out).below HBg.out
        have HTs : Hid (TB wg w1.heap.size p q) := (HTf.out.below HB2.out).below HBg.out
        have HM1 : Hid (Tw wg U p q 8 (fcl 8 (Yof X) k)) := Tw.below (Tw.below (Tw.below HT1.out HBf.out) HB2.out) HBg.out
        have HM2 : Hid (Tw wg U' p' q' 8 (fcl 8 (Yof X) k)) := Tw.below HT2.out HBg.out
        have z1 := HBe.out.size
        have z2 := HB1.out.size
        have z3 := HBf.out.size
        have z4 := HB2.out.size
        have z5 := HBg.out.size
        have z0 := HB.out.size
        have z6 := lt_of_block HEe.out
        have z7 := lt_of_block HTf.out
        have z8 := lt_of_block HTg.out
        have z9 : ∀ j, U j → j < w1.heap.size := fun j hj => Tw.lt HT1.out hj
        have HBz : Hid (Below wc.heap.size wc wg) := HB.out.trans ((HBe.out.trans ((HB1.out.mono (by omega)).trans ((HBf.out.mono (by omega)).trans ((HB2.out.mono (by omega)).trans (HBg.out.mono (by omega)))))).mono z0)
        have HZ9 := hid z9
        have HU9 : Hid (∀ j, U' j → j < w2.heap.size) := fun j hj => Tw.lt HT2.out hj
        have HWG := hid hwg
        clear hwg z9
        rw [← HWG.out]
        go_loopw [18] (fun i wr => ∃ (m : Nat) (V : Nat → Prop) (g : Nat → Int), m ≤ la' ∧ i = .int .i64 m ∧ Tw wr V p' q' 8 g ∧ Only (fun j => wf.heap.size ≤ j ∧ j ≠ w2.heap.size) wg wr ∧ (∀ j, V j → wf.heap.size ≤ j ∧ j ≠ w2.heap.size) ∧ ∀ j, j < 24576 → fcl 8 (Yof X) k j = g j) (fun i _ => la' - (intOf i).toNat)
        case atStart => exact ⟨0, U', _, by omega, rfl, HM2.out, Only.refl _, fun j hj => ⟨HU2.out j hj, by have := HU9.out j hj; omega⟩, fun _ _ => rfl⟩
        case round =>
          obtain ⟨m, V, g, hm, rfl, ht, ho, hv, hg⟩ := hrel
          have hTg := ho.old HTg.out (fun z => z.2 rfl)
          have HT := hid ht
          have HO := hid ho
          have HV := hid hv
          have HG := hid hg
          have HTx := hid hTg
          clear ht ho hv hg hTg
          by_cases hlt : m < la'
          · obtain ⟨rfl, hab⟩ := HX'.out.at0 (by omega)
            have HBx : Hid (Below wc.heap.size wc wr) := HBz.out.trans (HO.out.below _ (by omega) (fun j z => by have := z.1; omega))
            obtain ⟨x0, x1⟩ := (Cl.below HX'.out HBx.out).cell m hlt
            obtain ⟨⟨v0, v1⟩, u0, u1⟩ := HX'.out.num m hlt
            obtain ⟨pl, hpl⟩ : ∃ pl : Nat, (X' m).1 % 1024 = pl := ⟨((X' m).1 % 1024).toNat, by omega⟩
            have hpl2 : pl < 1024 := by omega
            obtain ⟨A, hA⟩ : ∃ A, (X' m).1 = A := ⟨_, rfl⟩
            obtain ⟨vv, hV⟩ : ∃ vv, (X' m).2 = vv := ⟨_, rfl⟩
            have HPL := hid hpl
            rw [hA] at x0 v0 v1 HPL
            rw [hV] at x1 u0 u1
            have t0 := (show TB wr w2.heap.size p' q' from HTx.out).c0
            have t1 := (show TB wr w2.heap.size p' q' from HTx.out).c1
            obtain ⟨of, hof⟩ : ∃ of : Nat, of = 24576 + 8 * pl := ⟨_, rfl⟩
            have HW2 : Hid (IntKind.u64.wrap (IntKind.i64.wrap (24576 + IntKind.i64.wrap (8 * (pl : Int)))) = (of : Int)) := off_wrap2 pl of hpl2 hof
            have hlc' := HX'.out.len
            have hcm' := HX'.out.cap
            have hof1 : 24576 ≤ of := by omega
            have hof2 : of + 8 ≤ 4096 * 8 := by omega
            have HOF := hid hof1
            have HOF2 := hid hof2
            clear hpl hA hV hof hof1 hof2
            go_wp2_with fail
            go_region_law (first
              | (refine step_call rfl 19 (.tmp 104) (.const (.int .i64 1024)) _ _ rfl (.int .i64 A) (.int .i64 1024) (by go_simp) rfl (Try.call19 _ _) (c_Place A 1024 (by decide) (by decide) v0 v1 _) ?_; rintro e w4 ⟨rfl, hw4⟩; obtain rfl := hw4.symm; rw [HPL.out]; refine ⟨_, rfl, ?_⟩)
              | (refine step_call4 rfl 44 (.tmp 99) (.tmp 108) (.const (.int .i64 8)) (.tmp 113) _ rfl (.agg #[.pointer (some ⟨p', 0, none⟩), .pointer (some ⟨q', 0, none⟩)]) (.int .u64 (of : Int)) (.int .i64 8) (.int .u64 vv) (by go_simp) (by go_simp; exact HW2.out) rfl (by go_simp) (Try.call44 _ _) (c_TwoWrite wr.drew V p' q' 8 _ (Tw.below HT.out ((Below.refl _ _).drew)) of HOF2.out vv u0 u1 _ rfl) ?_; rintro e w4 ⟨rfl, U4, ht4, ho4, hu4⟩; have HT4 := hid ht4; have HO4 := hid ho4; have HU4 := hid hu4; clear ht4 ho4 hu4; refine ⟨_, rfl, ?_⟩))
            all_goals
              go_wp2_with fail
              go_roundw
              case rel => exact ⟨m + 1, U4, _, by omega, by go_num, HT4.out, HO.out.drew.trans' HO4.out (fun j _ hj => HV.out j hj), fun j hj => by
                rcases HU4.out j hj with z | z
                · exact HV.out j z
                · have z' : wr.heap.size ≤ j := z
                  have := HO.out.size
                  omega, fun j hj => by rw [HG.out j hj]; exact (put_low _ _ _ _ _ (Nat.lt_of_lt_of_le hj HOF.out)).symm⟩
              case measure => simp [intOf]; omega
          · obtain rfl : m = la' := by omega
            have hag : Agr (fcl 8 (Yof X) k) g := ⟨HG.out, fcl_tab (Yof X) k (fun i hi => by
                obtain ⟨_, u0, u1⟩ := HN.out i hi
                obtain ⟨h1, h2⟩ := lowV_ok _ u0 u1
                exact ⟨⟨show 0 ≤ (X i).1 % 3072 by omega, show (X i).1 % 3072 < 3072 by omega⟩, h1, h2⟩), Tw.byt HM1.out⟩
            have htr := agr_tr hag ⟨s1, 0, c, d, e⟩ va acc (show (0 : Int) ≤ 0 by decide) (show (0 : Int) ≤ 5 by decide) p0 p2 p3
            obtain ⟨P, hP⟩ : ∃ P, tr (rdm 8 (fcl 8 (Yof X) k)) ⟨s1, 0, c, d, e⟩ va acc = P := ⟨_, rfl⟩
            rw [hP] at htr
            obtain ⟨Pa, Pg, Pf, Pw⟩ := P
            have HP := hid hP
            have HQ := hid htr.symm
            have heq := run_eqP
            have hm1 := Tw.only HM1.out HO.out (fun j hj z => by have := HZ9.out j hj; have := z.1; omega)
            obtain ⟨S, T, h1, h2, h3, h4⟩ := hm1
            have HMs := hid h1
            clear h1 h2 h3 h4
            obtain ⟨S', T', h1, h2, h3, h4⟩ := HT.out
            have HMt := hid h1
            clear h1 h2 h3 h4 hP htr hag
            have hE := HO.out.old HEg.out (fun z => by have := z.1; omega)
            have hT := HO.out.old HTs.out (fun z => by have := z.1; omega)
            have HE9 : Hid (EB wr wo.heap.size s1 0 c d e) := hE
            have HT9 : Hid (TB wr w1.heap.size p q) := hT
            have HT8 : Hid (TB wr w2.heap.size p' q') := HTx.out
            clear hE hT
            have l0 := lt_of_block HE9.out
            have l1 := lt_of_block HT9.out
            have l2 := lt_of_block HT8.out
            go_wp2_with fail
            have f0 : ∀ x : WB wr, x.w.cell? ⟨w1.heap.size, 0, none⟩ = some (.pointer (some ⟨p, 0, none⟩)) := fun x => x.cell l1 HT9.out.c0
            have f1 : ∀ x : WB wr, x.w.cell? ⟨w2.heap.size, 0, none⟩ = some (.pointer (some ⟨p', 0, none⟩)) := fun x => x.cell l2 HT8.out.c0
            have y0 : ∀ x : WB wr, x.w.cell? ⟨wo.heap.size, 0, none⟩ = some (.int .u64 s1) := fun x => x.cell l0 HE9.out.cs.1
            have y1 : ∀ x : WB wr, x.w.cell? ⟨wo.heap.size, 1, none⟩ = some (.int .u64 0) := fun x => x.cell l0 HE9.out.cs.2.1
            have y2 : ∀ x : WB wr, x.w.cell? ⟨wo.heap.size, 2, none⟩ = some (.bool c) := fun x => x.cell l0 HE9.out.cs.2.2.1
            have y3 : ∀ x : WB wr, x.w.cell? ⟨wo.heap.size, 3, none⟩ = some (.bool d) := fun x => x.cell l0 HE9.out.cs.2.2.2.1
            have y4 : ∀ x : WB wr, x.w.cell? ⟨wo.heap.size, 4, none⟩ = some (.bool e) := fun x => x.cell l0 HE9.out.cs.2.2.2.2
            have TK : Hid True := trivial
            refine wp_region_wb (by kernel_rfl) (by kernel_rfl) ?_
            repeat
              refine wpQuiet_step (fun K hK => ?_)
              go_simp
              first
                | (refine hK _ ?_; clear hK K)
                | (refine ⟨_, fun _ => rfl, hK _ ?_⟩; clear hK K)
                | (refine ⟨.agg #[.int .u64 Pa, .int .u64 Pg, .int .i64 Pf, .bool Pw], fun x => ?_, hK _ ?_⟩
                   · first
                       | (have tk := TK; go_at_call 41; exact Calls.wb x (c_Translate x.w S p 8 _ (HMs.out.below x.h) ⟨s1, 0, c, d, e⟩ va acc g0 g1 p0 p1 (show (0 : Int) ≤ 0 by decide) (show (0 : Int) < 18446744073709551616 by decide) ⟨Pa, Pg, Pf, Pw⟩ HP.out))
                       | (go_at_call 41; exact Calls.wb x (c_Translate x.w S' p' 8 _ (HMt.out.below x.h) ⟨s1, 0, c, d, e⟩ va acc g0 g1 p0 p1 (show (0 : Int) ≤ 0 by decide) (show (0 : Int) < 18446744073709551616 by decide) ⟨Pa, Pg, Pf, Pw⟩ HQ.out))
                   clear hK K
                   try clear TK)
                | (refine ⟨.bool true, fun x => ?_, hK _ ?_⟩
                   · (go_at_call 40; exact Calls.wb x (c_awake4 x.w))
                   clear hK K)
            refine wpQuiet_nil ?_
            intro w9 hw9
            obtain ⟨x, rfl⟩ := hw9
            go_wp2_with fail
            go_ret
            have q1 := HBz.out.trans (HO.out.below wc.heap.size (by omega) (fun j z => by have := z.1; omega))
            have q2 := HA.out.trans (q1.mono (by omega))
            exact ⟨rfl, q2.trans (x.h.mono q2.size)⟩
      · have HR6 : Hid (rt < 18446744073709551616) := by show _ < _; omega
        have hrn : (rt != 0) = true := by simpa using hr0
        obtain ⟨we, hwe⟩ : ∃ we, we = wo.alloc (.cells #[.int .u64 s2, .int .u64 rt, .bool c, .bool d, .bool e] 83) := ⟨_, rfl⟩
        have HBe : Hid (Below wo.heap.size wo we) := by rw [hwe]; exact (Below.refl _ _).alloc (Nat.le_refl _) _
        have HWE := hid hwe
        have HEe : Hid (EB we wo.heap.size s2 rt c d e) := by rw [hwe]; exact heap_alloc_new wo _
        clear hwe
        go_wp2_with (first
          | (go_at_call 43; rw [← HWE.out]; refine (c_Memory we 8 (by decide) (by decide) ad1 k cap1 ab1 0 (Yof X) (Cl.below HCL.out HBe.out)).mono ?_; rintro r w1 ⟨p, q, U, rfl, ht, hb1, hu⟩; have HT1 := hid ht; have HB1 := hid hb1; have HU1 := hid hu; clear ht hb1 hu; obtain ⟨wf, hwf⟩ : ∃ wf, wf = w1.alloc (.cells #[.pointer (some ⟨p, 0, none⟩), .pointer (some ⟨q, 0, none⟩)] 29) := ⟨_, rfl⟩; have HBf : Hid (Below w1.heap.size w1 wf) := (by rw [hwf]; exact (Below.refl _ _).alloc (Nat.le_refl _) _); have HTf : Hid (TB wf w1.heap.size p q) := (by rw [hwf]; exact TB.new w1 p q); have HWF := hid hwf; clear hwf)
          | (go_at_call 43; rw [← HWF.out]; refine (c_Memory wf 8 (by decide) (by decide) ad1 k cap1 ab1 0 (Yof X) (Cl.below (Cl.below (Cl.below HCL.out HBe.out) HB1.out) HBf.out)).mono ?_; rintro r w2 ⟨p', q', U', rfl, ht, hb1, hu⟩; have HT2 := hid ht; have HB2 := hid hb1; have HU2 := hid hu; clear ht hb1 hu))
        obtain ⟨wg, hwg⟩ : ∃ wg, wg = w2.alloc (.cells #[.pointer (some ⟨p', 0, none⟩), .pointer (some ⟨q', 0, none⟩)] 29) := ⟨_, rfl⟩
        have HBg : Hid (Below w2.heap.size w2 wg) := by rw [hwg]; exact (Below.refl _ _).alloc (Nat.le_refl _) _
        have HTg : Hid (TB wg w2.heap.size p' q') := by rw [hwg]; exact TB.new w2 p' q'
        have HEg : Hid (EB wg wo.heap.size s2 rt c d e) := (((HEe.out.below HB1.out).below HBf.out).below HB2.out).below HBg.out
        have HTs : Hid (TB wg w1.heap.size p q) := (HTf.out.below HB2.out).below HBg.out
        have HM1 : Hid (Tw wg U p q 8 (fcl 8 (Yof X) k)) := Tw.below (Tw.below (Tw.below HT1.out HBf.out) HB2.out) HBg.out
        have HM2 : Hid (Tw wg U' p' q' 8 (fcl 8 (Yof X) k)) := Tw.below HT2.out HBg.out
        have z1 := HBe.out.size
        have z2 := HB1.out.size
        have z3 := HBf.out.size
        have z4 := HB2.out.size
        have z5 := HBg.out.size
        have z0 := HB.out.size
        have z6 := lt_of_block HEe.out
        have z7 := lt_of_block HTf.out
        have z8 := lt_of_block HTg.out
        have z9 : ∀ j, U j → j < w1.heap.size := fun j hj => Tw.lt HT1.out hj
        have HBz : Hid (Below wc.heap.size wc wg) := HB.out.trans ((HBe.out.trans ((HB1.out.mono (by omega)).trans ((HBf.out.mono (by omega)).trans ((HB2.out.mono (by omega)).trans (HBg.out.mono (by omega)))))).mono z0)
        have HZ9 := hid z9
        have HU9 : Hid (∀ j, U' j → j < w2.heap.size) := fun j hj => Tw.lt HT2.out hj
        have HWG := hid hwg
        clear hwg z9
        rw [← HWG.out]
        go_loopw [18] (fun i wr => ∃ (m : Nat) (V : Nat → Prop) (g : Nat → Int), m ≤ la' ∧ i = .int .i64 m ∧ Tw wr V p' q' 8 g ∧ Only (fun j => wf.heap.size ≤ j ∧ j ≠ w2.heap.size) wg wr ∧ (∀ j, V j → wf.heap.size ≤ j ∧ j ≠ w2.heap.size) ∧ ∀ j, j < 24576 → fcl 8 (Yof X) k j = g j) (fun i _ => la' - (intOf i).toNat)
        case atStart => exact ⟨0, U', _, by omega, rfl, HM2.out, Only.refl _, fun j hj => ⟨HU2.out j hj, by have := HU9.out j hj; omega⟩, fun _ _ => rfl⟩
        case round =>
          obtain ⟨m, V, g, hm, rfl, ht, ho, hv, hg⟩ := hrel
          have hTg := ho.old HTg.out (fun z => z.2 rfl)
          have HT := hid ht
          have HO := hid ho
          have HV := hid hv
          have HG := hid hg
          have HTx := hid hTg
          clear ht ho hv hg hTg
          by_cases hlt : m < la'
          · obtain ⟨rfl, hab⟩ := HX'.out.at0 (by omega)
            have HBx : Hid (Below wc.heap.size wc wr) := HBz.out.trans (HO.out.below _ (by omega) (fun j z => by have := z.1; omega))
            obtain ⟨x0, x1⟩ := (Cl.below HX'.out HBx.out).cell m hlt
            obtain ⟨⟨v0, v1⟩, u0, u1⟩ := HX'.out.num m hlt
            obtain ⟨pl, hpl⟩ : ∃ pl : Nat, (X' m).1 % 1024 = pl := ⟨((X' m).1 % 1024).toNat, by omega⟩
            have hpl2 : pl < 1024 := by omega
            obtain ⟨A, hA⟩ : ∃ A, (X' m).1 = A := ⟨_, rfl⟩
            obtain ⟨vv, hV⟩ : ∃ vv, (X' m).2 = vv := ⟨_, rfl⟩
            have HPL := hid hpl
            rw [hA] at x0 v0 v1 HPL
            rw [hV] at x1 u0 u1
            have t0 := (show TB wr w2.heap.size p' q' from HTx.out).c0
            have t1 := (show TB wr w2.heap.size p' q' from HTx.out).c1
            obtain ⟨of, hof⟩ : ∃ of : Nat, of = 24576 + 8 * pl := ⟨_, rfl⟩
            have HW2 : Hid (IntKind.u64.wrap (IntKind.i64.wrap (24576 + IntKind.i64.wrap (8 * (pl : Int)))) = (of : Int)) := off_wrap2 pl of hpl2 hof
            have hlc' := HX'.out.len
            have hcm' := HX'.out.cap
            have hof1 : 24576 ≤ of := by omega
            have hof2 : of + 8 ≤ 4096 * 8 := by omega
            have HOF := hid hof1
            have HOF2 := hid hof2
            clear hpl hA hV hof hof1 hof2
            go_wp2_with fail
            go_region_law (first
              | (refine step_call rfl 19 (.tmp 104) (.const (.int .i64 1024)) _ _ rfl (.int .i64 A) (.int .i64 1024) (by go_simp) rfl (Try.call19 _ _) (c_Place A 1024 (by decide) (by decide) v0 v1 _) ?_; rintro e w4 ⟨rfl, hw4⟩; obtain rfl := hw4.symm; rw [HPL.out]; refine ⟨_, rfl, ?_⟩)
              | (refine step_call4 rfl 44 (.tmp 99) (.tmp 108) (.const (.int .i64 8)) (.tmp 113) _ rfl (.agg #[.pointer (some ⟨p', 0, none⟩), .pointer (some ⟨q', 0, none⟩)]) (.int .u64 (of : Int)) (.int .i64 8) (.int .u64 vv) (by go_simp) (by go_simp; exact HW2.out) rfl (by go_simp) (Try.call44 _ _) (c_TwoWrite wr.drew V p' q' 8 _ (Tw.below HT.out ((Below.refl _ _).drew)) of HOF2.out vv u0 u1 _ rfl) ?_; rintro e w4 ⟨rfl, U4, ht4, ho4, hu4⟩; have HT4 := hid ht4; have HO4 := hid ho4; have HU4 := hid hu4; clear ht4 ho4 hu4; refine ⟨_, rfl, ?_⟩))
            all_goals
              go_wp2_with fail
              go_roundw
              case rel => exact ⟨m + 1, U4, _, by omega, by go_num, HT4.out, HO.out.drew.trans' HO4.out (fun j _ hj => HV.out j hj), fun j hj => by
                rcases HU4.out j hj with z | z
                · exact HV.out j z
                · have z' : wr.heap.size ≤ j := z
                  have := HO.out.size
                  omega, fun j hj => by rw [HG.out j hj]; exact (put_low _ _ _ _ _ (Nat.lt_of_lt_of_le hj HOF.out)).symm⟩
              case measure => simp [intOf]; omega
          · obtain rfl : m = la' := by omega
            have hag : Agr (fcl 8 (Yof X) k) g := ⟨HG.out, fcl_tab (Yof X) k (fun i hi => by
                obtain ⟨_, u0, u1⟩ := HN.out i hi
                obtain ⟨h1, h2⟩ := lowV_ok _ u0 u1
                exact ⟨⟨show 0 ≤ (X i).1 % 3072 by omega, show (X i).1 % 3072 < 3072 by omega⟩, h1, h2⟩), Tw.byt HM1.out⟩
            have htr := agr_tr hag ⟨s2, rt, c, d, e⟩ va acc hr5.1 hr5.2 p0 p2 p3
            obtain ⟨P, hP⟩ : ∃ P, tr (rdm 8 (fcl 8 (Yof X) k)) ⟨s2, rt, c, d, e⟩ va acc = P := ⟨_, rfl⟩
            rw [hP] at htr
            obtain ⟨Pa, Pg, Pf, Pw⟩ := P
            have HP := hid hP
            have HQ := hid htr.symm
            have heq := run_eqP
            have hm1 := Tw.only HM1.out HO.out (fun j hj z => by have := HZ9.out j hj; have := z.1; omega)
            obtain ⟨S, T, h1, h2, h3, h4⟩ := hm1
            have HMs := hid h1
            clear h1 h2 h3 h4
            obtain ⟨S', T', h1, h2, h3, h4⟩ := HT.out
            have HMt := hid h1
            clear h1 h2 h3 h4 hP htr hag
            have hE := HO.out.old HEg.out (fun z => by have := z.1; omega)
            have hT := HO.out.old HTs.out (fun z => by have := z.1; omega)
            have HE9 : Hid (EB wr wo.heap.size s2 rt c d e) := hE
            have HT9 : Hid (TB wr w1.heap.size p q) := hT
            have HT8 : Hid (TB wr w2.heap.size p' q') := HTx.out
            clear hE hT
            have l0 := lt_of_block HE9.out
            have l1 := lt_of_block HT9.out
            have l2 := lt_of_block HT8.out
            go_wp2_with fail
            have f0 : ∀ x : WB wr, x.w.cell? ⟨w1.heap.size, 0, none⟩ = some (.pointer (some ⟨p, 0, none⟩)) := fun x => x.cell l1 HT9.out.c0
            have f1 : ∀ x : WB wr, x.w.cell? ⟨w2.heap.size, 0, none⟩ = some (.pointer (some ⟨p', 0, none⟩)) := fun x => x.cell l2 HT8.out.c0
            have y0 : ∀ x : WB wr, x.w.cell? ⟨wo.heap.size, 0, none⟩ = some (.int .u64 s2) := fun x => x.cell l0 HE9.out.cs.1
            have y1 : ∀ x : WB wr, x.w.cell? ⟨wo.heap.size, 1, none⟩ = some (.int .u64 rt) := fun x => x.cell l0 HE9.out.cs.2.1
            have y2 : ∀ x : WB wr, x.w.cell? ⟨wo.heap.size, 2, none⟩ = some (.bool c) := fun x => x.cell l0 HE9.out.cs.2.2.1
            have y3 : ∀ x : WB wr, x.w.cell? ⟨wo.heap.size, 3, none⟩ = some (.bool d) := fun x => x.cell l0 HE9.out.cs.2.2.2.1
            have y4 : ∀ x : WB wr, x.w.cell? ⟨wo.heap.size, 4, none⟩ = some (.bool e) := fun x => x.cell l0 HE9.out.cs.2.2.2.2
            have TK : Hid True := trivial
            refine wp_region_wb (by kernel_rfl) (by kernel_rfl) ?_
            repeat
              refine wpQuiet_step (fun K hK => ?_)
              go_simp
              first
                | (refine hK _ ?_; clear hK K)
                | (refine ⟨_, fun _ => rfl, hK _ ?_⟩; clear hK K)
                | (refine ⟨.agg #[.int .u64 Pa, .int .u64 Pg, .int .i64 Pf, .bool Pw], fun x => ?_, hK _ ?_⟩
                   · first
                       | (have tk := TK; go_at_call 41; exact Calls.wb x (c_Translate x.w S p 8 _ (HMs.out.below x.h) ⟨s2, rt, c, d, e⟩ va acc g0 g1 p0 p1 hr5.1 HR6.out ⟨Pa, Pg, Pf, Pw⟩ HP.out))
                       | (go_at_call 41; exact Calls.wb x (c_Translate x.w S' p' 8 _ (HMt.out.below x.h) ⟨s2, rt, c, d, e⟩ va acc g0 g1 p0 p1 hr5.1 HR6.out ⟨Pa, Pg, Pf, Pw⟩ HQ.out))
                   clear hK K
                   try clear TK)
                | (refine ⟨.bool true, fun x => ?_, hK _ ?_⟩
                   · (go_at_call 40; exact Calls.wb x (c_awake4 x.w))
                   clear hK K)
            refine wpQuiet_nil ?_
            intro w9 hw9
            obtain ⟨x, rfl⟩ := hw9
            go_wp2_with fail
            go_ret
            have q1 := HBz.out.trans (HO.out.below wc.heap.size (by omega) (fun j z => by have := z.1; omega))
            have q2 := HA.out.trans (q1.mono (by omega))
            exact ⟨rfl, q2.trans (x.h.mono q2.size)⟩
end Go.Proofs.Ytfoafgbhelgjcaa.C
