/- Devices know nothing of one another. -/
import Derived.Test.YtfoafgbhelgjcaaIT
import Derived.Test.YtfoafgbhelgjcaaHQM
import Derived.Deep.DeepCutAuto
namespace Go.Proofs.Ytfoafgbhelgjcaa
open Go.RowKit
open C (Only hid Mem Still ret_int ret_bool put byt nu fcl c_Place Cl)
set_option linter.unusedVariables false
set_option maxRecDepth 100000

theorem Sc.less {w : World} {ad : Option Addr} {la cap ab ao : Nat} {X : Nat → OpV} (h : Sc w ad la cap ab ao X) {n : Nat} (hn : n ≤ la) : Sc w ad n cap ab ao X :=
  ⟨Nat.le_trans hn h.len, h.cap, fun q => h.at0 (by omega), fun i hi => h.cell i (by omega), fun i hi => h.num i (by omega)⟩
set_option maxHeartbeats 4000000 in
theorem w_IommuAlone (W : World) (ad : Option Addr) (la cap ab ao : Nat) (X : Nat → Int × Int) (hX : Cl W ad la cap ab ao X) (r : Int) (r0 : 0 ≤ r) (r1 : r < 18446744073709551616) (o : Int) (o0 : 0 ≤ o) (o1 : o < 18446744073709551616) (bd : Option Addr) (lb cbp bb bo : Nat) (Y : Nat → OpV) (hY : Sc W bd lb cbp bb bo Y) (cd : Option Addr) (lc ccp cb' co : Nat) (Z : Nat → OpV) (hZ : Sc W cd lc ccp cb' co Z) :
    Calls Try.prog 5 #[.slice ad la cap, .int .u64 r, .int .u64 o, .slice bd lb cbp, .slice cd lc ccp] W fun e w' => e = .returned (.bool true) ∧ Below W.heap.size W w' := by
  have HX := hid hX
  have HY0 := hid hY
  have HZ0 := hid hZ
  have lb1 : lb ≤ 9223372036854775807 := Nat.le_trans hY.len hY.cap
  have lc1 : lc ≤ 9223372036854775807 := Nat.le_trans hZ.len hZ.cap
  have lb2 := hY.len
  have lc2 := hZ.len
  have cb1 := hY.cap
  have cc1 := hZ.cap
  have T1 : Hid True := trivial
  clear hX hY hZ
  go_enter Try.func5, Try.ntmps5
  go_upto_if 48 with (first
    | (have tk := T1; go_at_call 18; refine (l_New _ 64 (by decide) (by decide) ad la cap ab ao X HX.out).mono ?_; clear tk T1; rintro e w1 ⟨u, t, m, xx, q, F, T, rfl, hs, -, -, hb, hf⟩; have H1 := hid (LW.start (T := T) (t := t) (m := m) (x := xx) (q := q) (Below.refl W.heap.size W) hs hb hf (.pointer (some ⟨xx, 0, none⟩)) (.pointer (some ⟨m, 0, none⟩)) (.pointer (some ⟨q, 0, none⟩))); clear hs hb hf)
    | (go_at_call 18; refine (l_New _ 64 (by decide) (by decide) ad la cap ab ao X (HX.out.below H1.out.new)).mono ?_; rintro e w2 ⟨u2, t2, m2, xx2, q2, F2, T2, rfl, hs, -, -, hb, hf⟩; have H2 := hid (L2.start (T2 := T2) H1.out hb hs hf (.pointer (some ⟨xx2, 0, none⟩)) (.pointer (some ⟨m2, 0, none⟩)) (.pointer (some ⟨q2, 0, none⟩))); have ca := H2.out.a.c; have cb := H2.out.b.c; clear hs hb hf))
  obtain ⟨oa, hoa⟩ : ∃ oa, w1.heap.size = oa := ⟨_, rfl⟩
  obtain ⟨ob, hob⟩ : ∃ ob, w2.heap.size = ob := ⟨_, rfl⟩
  rw [hoa, hob] at H2
  rw [hoa] at ca
  rw [hob] at cb
  rw [hoa, hob]
  clear hoa hob H1
  obtain ⟨wq, hwq⟩ : ∃ wq, w2.alloc (.cells #[.pointer (some ⟨u2, 0, none⟩), .pointer (some ⟨xx2, 0, none⟩), .pointer (some ⟨m2, 0, none⟩), .pointer (some ⟨q2, 0, none⟩)] 31) = wq := ⟨_, rfl⟩
  rw [hwq] at H2 ca cb
  rw [hwq]
  clear hwq
  go_cut [3] (fun s wx => ∃ n1, n1 ≤ lb ∧ s = .slice bd n1 cbp ∧ wx = wq)
  case first =>
    by_cases h30 : 30 < lb
    · obtain ⟨rfl, -⟩ := HY0.out.at0 (by omega)
      go_wp2
      go_meet
      exact ⟨30, by omega, rfl, rfl⟩
    · go_wp2
      go_meet
      exact ⟨lb, by omega, rfl, rfl⟩
  case rest =>
    obtain ⟨n1, hn1, rfl, rfl⟩ := hcut
    go_upto_if 53 with fail
    go_cut [4] (fun s wx => ∃ n2, n2 ≤ lc ∧ s = .slice cd n2 ccp ∧ wx = wc)
    case first =>
      by_cases h30 : 30 < lc
      · obtain ⟨rfl, -⟩ := HZ0.out.at0 (by omega)
        go_wp2
        go_meet
        exact ⟨30, by omega, rfl, rfl⟩
      · go_wp2
        go_meet
        exact ⟨lc, by omega, rfl, rfl⟩
    case rest =>
      obtain ⟨n2, hn2, rfl, rfl⟩ := hcut
      have HY := hid (HY0.out.less hn1)
      have HZ := hid (HZ0.out.less hn2)
      have n1b : n1 ≤ 9223372036854775807 := by omega
      have n2b : n2 ≤ 9223372036854775807 := by omega
      clear HY0 HZ0
      have T3 : Hid True := trivial
      have T4 : Hid True := trivial
      go_wp2_with (first
        | (have tk := T3; go_at_call 20; refine (s_SetV _ F u _ 8 _ 64 [] H2.out.a.us 0 r r0 r1).mono ?_; clear tk T3; rintro e w3 ⟨c3, rfl, hs3, ht3⟩; have H3 := hid (H2.out.stepA hs3 ht3); have ca3 := H3.out.a.c; have cb3 := H3.out.b.c; clear hs3 ht3)
        | (have tk := T4; go_at_call 20; refine (s_SetV _ F2 u2 _ 8 _ 64 [] H3.out.b.us 0 r r0 r1).mono ?_; clear tk T4; rintro e w4 ⟨c4, rfl, hs4, ht4⟩; have H4 := hid (H3.out.stepB hs4 ht4); have cb4 := H4.out.b.c; clear hs4 ht4)
        | (go_at_call 20; refine (s_SetV _ F2 u2 _ 8 _ 64 [] H4.out.b.us 1 o o0 o1).mono ?_; rintro e w5 ⟨c5, rfl, hs5, ht5⟩; have H5 := hid (H4.out.stepB hs5 ht5); clear hs5 ht5))
      clear ca cb ca3 cb3 cb4 H2 H3 H4
      have hby : ∀ j, 0 ≤ fcl 8 X la j ∧ fcl 8 X la j < 256 := H5.out.a.us.byt
      generalize fcl 8 X la = f at H5 hby
      have hr5 : (stV (v0 t m) 0 r).root (Int.toNat 0) = (stV (stV (v0 t2 m2) 0 r) 1 o).root (Int.toNat 0) := by
        have e1 : (stV (stV (v0 t2 m2) 0 r) 1 o).root (Int.toNat 0) = (stV (v0 t2 m2) 0 r).root (Int.toNat 0) := by
          rw [stV]
          split
          · rfl
          · rfl
        rw [e1, stV_root (v := v0 t m) (v' := v0 t2 m2) rfl 0 r]
      have o1' : (stV (v0 t m) 0 r).there = false := stV_there _ _ _
      have o2' : (stV (stV (v0 t2 m2) 0 r) 1 o).there = false := by rw [stV_there, stV_there]; rfl
      have HI := hid (And.intro hr5 (And.intro o1' o2'))
      clear hr5 o1' o2'
      go_loopw [15] (fun i wr => ∃ (k : Nat) (F : Nat → Prop) (v : UV) (L : List E.TV) (F2 : Nat → Prop) (v2 : UV) (M : List E.TV), k ≤ n1 ∧ i = .int .i64 k ∧ L2 W wr F oa u v f L F2 ob u2 v2 f M 64 ∧ v.root (Int.toNat 0) = v2.root (Int.toNat 0) ∧ v.there = false ∧ v2.there = false ∧ Tr 8 f v L ∧ Tr 8 f v2 M) (fun i _ => n1 - (intOf i).toNat)
      case atStart => exact ⟨0, F, _, [], F2, _, [], by omega, rfl, H5.out, HI.out.1, HI.out.2.1, HI.out.2.2, Tr.nil _ _ _, Tr.nil _ _ _⟩
      case round =>
        clear H5 HI
        obtain ⟨k, F, v, L, F2, v2, M, hk, rfl, hl, hr, ha, hb, hT, hT2⟩ := hrel
        have HL := hid hl
        have HI := hid (And.intro ha (And.intro hT hb))
        have HIR := hid hr
        have HIT := hid hT2
        clear hl hr ha hb hT hT2
        by_cases hlt : k < n1
        · obtain ⟨rfl, hab⟩ := HY.out.at0 (by omega)
          have HYK : Hid (∀ {w : World}, Sc w (some ⟨bb, bo, none⟩) n1 cbp bb bo Y → w.cell? ⟨bb, bo + k * 8, none⟩ = some (.int .i64 (Y k).kind) ∧ w.cell? ⟨bb, bo + k * 8 + 1, none⟩ = some (.int .i64 (Y k).dev) ∧ w.cell? ⟨bb, bo + k * 8 + 2, none⟩ = some (.int .i64 (Y k).size) ∧ w.cell? ⟨bb, bo + k * 8 + 3, none⟩ = some (.int .u64 (Y k).addr) ∧ w.cell? ⟨bb, bo + k * 8 + 4, none⟩ = some (.int .u64 (Y k).data) ∧ w.cell? ⟨bb, bo + k * 8 + 5, none⟩ = some (.bool (Y k).write) ∧ w.cell? ⟨bb, bo + k * 8 + 6, none⟩ = some (.int .i64 (Y k).guest) ∧ w.cell? ⟨bb, bo + k * 8 + 7, none⟩ = some (.int .i64 (Y k).irq)) := fun h => h.cells k hlt
          by_cases hi : k < n2
          · obtain ⟨rfl, hac⟩ := HZ.out.at0 (by omega)
            obtain ⟨g0, g1, g2, g3, g4, g5, g6, g7⟩ := (HZ.out.below HL.out.a.new).cells k hi
            obtain ⟨zk, zd, ⟨zs0, zs1⟩, ⟨za0, za1⟩, zda⟩ := HZ.out.num k hi
            generalize Z k = z at g0 g1 g2 g3 g4 g5 g6 g7 zk zd zs0 zs1 za0 za1 zda
            obtain ⟨k0, p0, M0, h0⟩ : ∃ k0 p0 M0, acF 8 f v2 64 M 1 z.addr z.size z.write = (k0, p0, M0) := ⟨_, _, _, rfl⟩
            obtain ⟨-, tr0⟩ := acF_true hby HL.out.b.us.ok.root HIT.out za0 za1 h0
            have H0 := hid h0
            have cb := HL.out.b.c
            clear h0
            go_wp2_with fail
            refine wp_region_last_lit (by simp) (by kernel_rfl) (by kernel_rfl) (by kernel_rfl) ?_
            simp only [List.dropLast, List.getLast]
            repeat (go_big_quiet_step (fail))
            refine wpQuiet_nil ?_
            intro _ hwq
            obtain ⟨nq, hwq⟩ := hwq
            subst hwq
            go_wp2_with ((go_at_call 22; refine (s_Access _ F2 u2 v2 8 f 64 M (HL.out.below (below_dn (Below.refl _ _) nq)).b.us 1 z.addr z.size z.write rfl za0 za1 zs0 zs1 _ _ _ H0.out).mono ?_; rintro e w5 ⟨rfl, F5, hs5, ht5⟩; have H5 := hid ((HL.out.below (below_dn (Below.refl _ _) nq)).stepB hs5 ht5); clear hs5 ht5))
            have H6O : Hid ((bkV v2 k0).there = false) := bkV_off HI.out.2.2
            have H6R : Hid (v.root (Int.toNat 0) = (bkV v2 k0).root (Int.toNat 0)) := by show _ = _; rw [bkV_root]; exact HIR.out
            have H6T : Hid (Tr 8 f (bkV v2 k0) M0) := fun e he => by rw [bkV_root]; exact tr0 e he
            rw [bkF_off HI.out.2.2] at H5
            clear tr0 g0 g1 g2 g3 g4 g5 g6 g7 cb
            generalize bkV v2 k0 = v5 at H5 H6O H6R H6T
            obtain ⟨x0, x1, x2, x3, x4, x5, x6, x7⟩ := (HY.out.below H5.out.a.new).cells k hlt
            obtain ⟨nk, nd, ⟨s0, s1⟩, ⟨a0, a1⟩, nda⟩ := HY.out.num k hlt
            generalize Y k = y at x0 x1 x2 x3 x4 x5 x6 x7 nk nd s0 s1 a0 a1 nda HYK
            obtain ⟨k1, p1, L1, h1⟩ : ∃ k1 p1 L1, acF 8 f v 64 L 0 y.addr y.size y.write = (k1, p1, L1) := ⟨_, _, _, rfl⟩
            obtain ⟨k2, p2, M2, h2⟩ : ∃ k2 p2 M2, acF 8 f v5 64 M0 0 y.addr y.size y.write = (k2, p2, M2) := ⟨_, _, _, rfl⟩
            obtain ⟨t1, tr1⟩ := acF_true hby H5.out.a.us.ok.root HI.out.2.1 a0 a1 h1
            obtain ⟨t2, tr2⟩ := acF_true hby H5.out.b.us.ok.root H6T.out a0 a1 h2
            rw [show (v5).root (Int.toNat 0) = v.root (Int.toNat 0) from H6R.out.symm, t1] at t2
            cases t2
            have H1 := hid h1
            have H2 := hid h2
            have TR1 := hid tr1
            have TR2 := hid tr2
            have ca := H5.out.a.c
            clear h1 h2 tr1 tr2 t1

            refine wp_region_mid_dn 17 (by kernel_rfl) (by kernel_rfl) (by kernel_rfl) (by decide) (by kernel_rfl) ?_
            simp only [List.take, List.drop]
            repeat (go_big_quiet_step (fail))
            refine wpQuiet_nil ?_
            intro _ hwq
            obtain ⟨nq, hwq⟩ := hwq
            subst hwq
            refine wpOp_step rfl (fun K hK => ?_)
            go_simp
            refine (s_Access _ F u v 8 f 64 L (H5.out.below (below_dn (Below.refl _ _) nq)).a.us 0 y.addr y.size y.write rfl a0 a1 s0 s1 _ _ _ H1.out).mono ?_
            rintro e w6 ⟨rfl, F6, hs6, ht6⟩
            refine hK _ _ ?_
            clear hK K
            have H6 := hid ((H5.out.below (below_dn (Below.refl _ _) nq)).stepA hs6 ht6)
            clear hs6 ht6 ca x0 x1 x2 x3 x4 x5 x6 x7
            repeat (go_big_quiet_step (fail))
            refine wpQuiet_nil ?_
            intro _ hwq
            obtain ⟨nr, hwq⟩ := hwq
            subst hwq
            have H7 := hid (H6.out.below (below_dn (Below.refl _ _) nr))
            obtain ⟨w7, hw7⟩ : ∃ w7, w6.drewN nr = w7 := ⟨_, rfl⟩
            rw [hw7] at H7
            rw [hw7]
            clear hw7 H6 w6
            obtain ⟨x0, x1, x2, x3, x4, x5, x6, x7⟩ := HYK.out (HY.out.below H7.out.a.new)
            have cb := H7.out.b.c
            go_wp2_with fail
            refine wp_region_mid_dn 17 (by kernel_rfl) (by kernel_rfl) (by kernel_rfl) (by decide) (by kernel_rfl) ?_
            simp only [List.take, List.drop]
            repeat (go_big_quiet_step (fail))
            refine wpQuiet_nil ?_
            intro _ hwq
            obtain ⟨nq, hwq⟩ := hwq
            subst hwq
            refine wpOp_step rfl (fun K hK => ?_)
            go_simp
            refine (s_Access _ F5 u2 v5 8 f 64 M0 (H7.out.below (below_dn (Below.refl _ _) nq)).b.us 0 y.addr y.size y.write rfl a0 a1 s0 s1 _ _ _ H2.out).mono ?_
            rintro e w8 ⟨rfl, F8, hs8, ht8⟩
            refine hK _ _ ?_
            clear hK K
            have H8 := hid ((H7.out.below (below_dn (Below.refl _ _) nq)).stepB hs8 ht8)
            clear hs8 ht8 cb x0 x1 x2 x3 x4 x5 x6 x7
            repeat (go_big_quiet_step (fail))
            refine wpQuiet_nil ?_
            intro _ hwq
            obtain ⟨nr, hwq⟩ := hwq
            subst hwq
            have H9 := hid (H8.out.below (below_dn (Below.refl _ _) nr))
            obtain ⟨w9, hw9⟩ : ∃ w9, w8.drewN nr = w9 := ⟨_, rfl⟩
            rw [hw9] at H9
            rw [hw9]
            clear hw9 H8 w8
            go_wp2_with fail
            go_roundw
            case rel =>
              have e8 := H9.out
              rw [bkF_off HI.out.1, bkF_off H6O.out] at e8
              refine ⟨k + 1, F6, _, _, F8, _, _, by omega, by go_num, e8, by rw [bkV_root, bkV_root]; exact H6R.out, bkV_off HI.out.1, bkV_off H6O.out, ?_, ?_⟩
              · intro e he
                rw [bkV_root]
                exact TR1.out e he
              · intro e he
                rw [bkV_root]
                exact TR2.out e he
            case measure => simp [intOf]; omega
          · have H6O := hid HI.out.2.2
            have H6R := HIR
            have H6T := HIT
            have hi' : ¬ (k : Int) < (n2 : Int) := by omega
            obtain ⟨x0, x1, x2, x3, x4, x5, x6, x7⟩ := (HY.out.below HL.out.a.new).cells k hlt
            obtain ⟨nk, nd, ⟨s0, s1⟩, ⟨a0, a1⟩, nda⟩ := HY.out.num k hlt
            generalize Y k = y at x0 x1 x2 x3 x4 x5 x6 x7 nk nd s0 s1 a0 a1 nda HYK
            obtain ⟨k1, p1, L1, h1⟩ : ∃ k1 p1 L1, acF 8 f v 64 L 0 y.addr y.size y.write = (k1, p1, L1) := ⟨_, _, _, rfl⟩
            obtain ⟨k2, p2, M2, h2⟩ : ∃ k2 p2 M2, acF 8 f v2 64 M 0 y.addr y.size y.write = (k2, p2, M2) := ⟨_, _, _, rfl⟩
            obtain ⟨t1, tr1⟩ := acF_true hby HL.out.a.us.ok.root HI.out.2.1 a0 a1 h1
            obtain ⟨t2, tr2⟩ := acF_true hby HL.out.b.us.ok.root H6T.out a0 a1 h2
            rw [show (v2).root (Int.toNat 0) = v.root (Int.toNat 0) from H6R.out.symm, t1] at t2
            cases t2
            have H1 := hid h1
            have H2 := hid h2
            have TR1 := hid tr1
            have TR2 := hid tr2
            have ca := HL.out.a.c
            clear h1 h2 tr1 tr2 t1
            go_wp2_with fail
            refine wp_region_mid_dn 17 (by kernel_rfl) (by kernel_rfl) (by kernel_rfl) (by decide) (by kernel_rfl) ?_
            simp only [List.take, List.drop]
            repeat (go_big_quiet_step (fail))
            refine wpQuiet_nil ?_
            intro _ hwq
            obtain ⟨nq, hwq⟩ := hwq
            subst hwq
            refine wpOp_step rfl (fun K hK => ?_)
            go_simp
            refine (s_Access _ F u v 8 f 64 L (HL.out.below (below_dn (Below.refl _ _) nq)).a.us 0 y.addr y.size y.write rfl a0 a1 s0 s1 _ _ _ H1.out).mono ?_
            rintro e w6 ⟨rfl, F6, hs6, ht6⟩
            refine hK _ _ ?_
            clear hK K
            have H6 := hid ((HL.out.below (below_dn (Below.refl _ _) nq)).stepA hs6 ht6)
            clear hs6 ht6 ca x0 x1 x2 x3 x4 x5 x6 x7
            repeat (go_big_quiet_step (fail))
            refine wpQuiet_nil ?_
            intro _ hwq
            obtain ⟨nr, hwq⟩ := hwq
            subst hwq
            have H7 := hid (H6.out.below (below_dn (Below.refl _ _) nr))
            obtain ⟨w7, hw7⟩ : ∃ w7, w6.drewN nr = w7 := ⟨_, rfl⟩
            rw [hw7] at H7
            rw [hw7]
            clear hw7 H6 w6
            obtain ⟨x0, x1, x2, x3, x4, x5, x6, x7⟩ := HYK.out (HY.out.below H7.out.a.new)
            have cb := H7.out.b.c
            go_wp2_with fail
            refine wp_region_mid_dn 17 (by kernel_rfl) (by kernel_rfl) (by kernel_rfl) (by decide) (by kernel_rfl) ?_
            simp only [List.take, List.drop]
            repeat (go_big_quiet_step (fail))
            refine wpQuiet_nil ?_
            intro _ hwq
            obtain ⟨nq, hwq⟩ := hwq
            subst hwq
            refine wpOp_step rfl (fun K hK => ?_)
            go_simp
            refine (s_Access _ F2 u2 v2 8 f 64 M (H7.out.below (below_dn (Below.refl _ _) nq)).b.us 0 y.addr y.size y.write rfl a0 a1 s0 s1 _ _ _ H2.out).mono ?_
            rintro e w8 ⟨rfl, F8, hs8, ht8⟩
            refine hK _ _ ?_
            clear hK K
            have H8 := hid ((H7.out.below (below_dn (Below.refl _ _) nq)).stepB hs8 ht8)
            clear hs8 ht8 cb x0 x1 x2 x3 x4 x5 x6 x7
            repeat (go_big_quiet_step (fail))
            refine wpQuiet_nil ?_
            intro _ hwq
            obtain ⟨nr, hwq⟩ := hwq
            subst hwq
            have H9 := hid (H8.out.below (below_dn (Below.refl _ _) nr))
            obtain ⟨w9, hw9⟩ : ∃ w9, w8.drewN nr = w9 := ⟨_, rfl⟩
            rw [hw9] at H9
            rw [hw9]
            clear hw9 H8 w8
            go_wp2_with fail
            go_roundw
            case rel =>
              have e8 := H9.out
              rw [bkF_off HI.out.1, bkF_off H6O.out] at e8
              refine ⟨k + 1, F6, _, _, F8, _, _, by omega, by go_num, e8, by rw [bkV_root, bkV_root]; exact H6R.out, bkV_off HI.out.1, bkV_off H6O.out, ?_, ?_⟩
              · intro e he
                rw [bkV_root]
                exact TR1.out e he
              · intro e he
                rw [bkV_root]
                exact TR2.out e he
            case measure => simp [intOf]; omega
        · obtain rfl : k = n1 := by omega
          go_wp2_with ((go_at_call 28; refine (l_awake _).mono ?_; rintro e w9 ⟨rfl, hb9⟩; have HB9 := hid hb9; clear hb9))
          go_ret
          exact ⟨rfl, HL.out.a.new.trans (HB9.out.mono HL.out.a.new.size)⟩
end Go.Proofs.Ytfoafgbhelgjcaa
