/- Shootdowns: the walk. -/
import Derived.Test.YtdncendokbjnjaaMH8
namespace Go.Proofs.Ytdncendokbjnjaa
open Go.RowKit
open C (Only hid Mem RMem Still ret_bool ret_int c_Place)
set_option linter.unusedVariables false
set_option maxRecDepth 100000

theorem own_ptr {w : World} {base : Nat} {e : TypeId} {b k c : Nat} {P : Nat → Nat} (h : w.ownsRow base e 1 (.slice (some ⟨b, 0, none⟩) k c) k (ptrs P k)) {i : Nat} (hi : i < k) : w.cell? ⟨b, i, none⟩ = some (.pointer (some ⟨P i, 0, none⟩)) := by
  obtain ⟨b', cp, cur, e1, e2, e3, e4, e5⟩ := C.own_some h (by omega)
  cases e1
  rw [cell_of_row w b i _ _ _ e3]
  have := ptrs_at P k i hi
  rw [← e5, List.getElem?_take_of_lt hi] at this
  simpa using this
theorem Sb.cellR {W w : World} {p g h : Nat} {d : Nat → Nat} {u uu : Value} {P G Q : Nat → Nat} {L : Nat → List E.TV} {q gh : Nat} {V VV : Nat → Value} (S : Sb W w p g h d u P G L q gh V uu Q VV) {ad : Option Addr} {c : Nat} (hu : uu = .slice ad h c) {i : Nat} (hi : i < h) : ∃ b, ad = some ⟨b, 0, none⟩ ∧ w.cell? ⟨b, i, none⟩ = some (.pointer (some ⟨Q i, 0, none⟩)) ∧ Ug uu b := by
  obtain ⟨b, cp, cur, e1, e2, e3, e4, e5⟩ := C.own_some S.rl (by omega)
  rw [hu] at e1
  simp only [Value.slice.injEq] at e1
  refine ⟨b, e1.1, ?_, by rw [hu, e1.1]; rfl⟩
  rw [cell_of_row w b i _ _ _ e3]
  have := ptrs_at Q h i hi
  rw [← e5, List.getElem?_take_of_lt hi] at this
  simpa using this
set_option maxHeartbeats 8000000 in
theorem w_StageShoots (W : World) (a0 : Int) (b0 : -9223372036854775808 ≤ a0) (b0' : a0 ≤ 9223372036854775807) (ad1 : Option Addr) (la1 cap1 ab1 ao1 : Nat) (X1 : Nat → ShoV) (hX1 : Shc W ad1 la1 cap1 ab1 ao1 X1) :
    Calls Try.prog 5 #[.int .i64 a0, .slice ad1 la1 cap1] W fun r w' => r = .returned (.bool true) ∧ Below W.heap.size W w' := by
  obtain ⟨i0, hi0, hz0, hz1, hz2⟩ := info_parts info_pT
  obtain ⟨j0, hj0, hy0, hy1, hy2⟩ := info_parts info_pR
  have HX1 := hid hX1
  have l1 := hX1.len
  have l1' := hX1.cap
  clear hX1
  by_cases ha : 1 ≤ a0 ∧ a0 ≤ 8
  · obtain ⟨h, rfl⟩ : ∃ h : Nat, a0 = h := ⟨a0.toNat, by omega⟩
    have h1 : 1 ≤ h := by omega
    have h8 : h ≤ 8 := by omega
    have hN := sh_New W h h1 h8
    clear ha b0 b0'
    go_enter Try.func5, Try.ntmps5
    go_wp2_with (first
      | (go_at_call 26; refine hN.mono ?_; rintro r w1 ⟨p, rfl, g, k1, k2, k3, k4⟩; have H1 := hid k1; have H2 := hid k2; have H3 := hid k3; have H4 := hid k4; have hM := hh_New w1 h h1 h8; clear k1 k2 k3 k4)
      | (go_at_call 27; refine hM.mono ?_; rintro r w2 ⟨q, rfl, gh, k1, k2, k3, k4⟩; have H5 := hid k1; have H6 := hid k2; have H7 := hid k4; clear k1 k2 k3 k4))
    clear hN hM
    have HS0 : Hid (Sk W w2 p g h (.slice none 0 0) 0 (fun _ => 0) (fun _ => 0) q gh (.slice none 0 0) (fun _ => 0)) := ⟨H1.out.below H6.out, ⟨World.ownsRow_nil _ _ _ _, fun i hi => by omega, fun i j hi => by omega, fun i j hi => by omega, fun i hi => by omega⟩, H2.out.trans (H6.out.mono H2.out.size), H5.out, World.ownsRow_nil _ _ _ _, fun i hi => by omega, fun i j hi => by omega, fun i hi => by omega⟩
    have HGH : Hid (W.heap.size ≤ gh) := Nat.le_trans H2.out.size H7.out
    clear H1 H2 H5 H6 H7
    go_loopw [9, 10, 11, 12, 13, 14, 15] (fun u uu i x1 x2 x3 x4 wr => ∃ (k : Nat) (P G Q : Nat → Nat), k ≤ h ∧ i = .int .i64 k ∧ Hid (Sk W wr p g h u k P G q gh uu Q)) (fun u uu i x1 x2 x3 x4 _ => h - (intOf i).toNat)
    case atStart => exact ⟨0, _, _, _, by omega, rfl, HS0.out⟩
    case round =>
      obtain ⟨k, P, G, Q, hk, rfl, hI⟩ := hrel
      obtain ⟨ad, cp, rfl, -⟩ := own_sliceS hI.out.ts.ls
      obtain ⟨ad2, cp2, rfl, -⟩ := own_sliceS hI.out.rl
      by_cases hlt : k < h
      · have hT := E.c_New wr 8 (by decide) (by decide) 8 rfl
        have hzW := hI.out.new.size
        go_upto_region 16 with (first
          | (go_at_call 28; refine hT.mono ?_; rintro r w3 ⟨tp, tg, rfl, k1, k2, k3⟩; have K1 := hid k1; have K2 := hid k2; have K3 := hid k3; have hR := E.r_New w3 8 (by decide) (by decide) 8 rfl; clear k1 k2 k3)
          | (go_at_call 29; refine hR.mono ?_; rintro r w4 ⟨rfl, k1, k2⟩; have K4 := hid k1; have K5 := hid k2; clear k1 k2))
        clear hT hR
        have z3 := K2.out.size
        have z4 := K5.out.size
        have HB4 : Hid (Below wr.heap.size wr w4) := K2.out.trans (K5.out.mono z3)
        have HO4 : Hid (w4.ownsRow W.heap.size 79 1 (.slice ad k cp) k (ptrs P k)) := own_onlyB hI.out.ts.ls (T := fun _ => False) (.ofBelow HB4.out) (fun _ _ z => z)
        go_upto_region 17 with (at_builtin; refine wpList_append_own _ rfl (.tmp 60) (.tmp 62) 77 rfl W.heap.size 79 i0 (.pointer none) 1 8 u_spT hi0 hz0 hz1 hz2 rfl (by decide) (.slice ad k cp) k (ptrs P k) rfl (own_old2 HO4.out ((Below.refl _ _).alloc (Nat.le_refl _) _).block) ⟨w4.heap.size, 0, none⟩ 1 1 [.pointer (some ⟨tp, 0, none⟩)] rfl rfl (one_cell w4 (.pointer (some ⟨tp, 0, none⟩)) 79) (by intro u hu; simp at hu; subst hu; rfl) (show k + 1 ≤ 9223372036854775807 by omega) (by omega) (by simp; omega) ?_; intro u' w5 hown hgrow _; have HO5 := hid hown; have HG5 : Hid (Only (Ug (.slice ad k cp)) w4 w5) := (Only.ofBelow ((Below.refl _ _).alloc (Nat.le_refl _) _)).trans (grown_ug hgrow); obtain ⟨ad', cp', rfl, -⟩ := own_sliceS hown; clear hown hgrow)
        have HO6 : Hid (w5.ownsRow W.heap.size 82 1 (.slice ad2 k cp2) k (ptrs Q k)) := own_onlyB (own_onlyB hI.out.rl (T := fun _ => False) (.ofBelow HB4.out) (fun _ _ z => z)) HG5.out fun y hy hz => by
          obtain ⟨c, hc⟩ := own_typ (own_zero hI.out.rl) hy
          obtain ⟨c', hc'⟩ := own_typ (own_zero hI.out.ts.ls) hz
          rw [hc] at hc'; simp at hc'
        have z5 := HG5.out.size
        go_wp2_with (at_builtin; refine wpList_append_own _ rfl (.tmp 64) (.tmp 66) 78 rfl W.heap.size 82 j0 (.pointer none) 1 8 u_spR hj0 hy0 hy1 hy2 rfl (by decide) (.slice ad2 k cp2) k (ptrs Q k) rfl (own_old2 HO6.out ((Below.refl _ _).alloc (Nat.le_refl _) _).block) ⟨w5.heap.size, 0, none⟩ 1 1 [.pointer (some ⟨w3.heap.size, 0, none⟩)] rfl rfl (one_cell w5 (.pointer (some ⟨w3.heap.size, 0, none⟩)) 82) (by intro u hu; simp at hu; subst hu; rfl) (show k + 1 ≤ 9223372036854775807 by omega) (by omega) (by simp; omega) ?_; intro u' w6 hown hgrow _; have HO7 := hid hown; have HG7 : Hid (Only (Ug (.slice ad2 k cp2)) w5 w6) := (Only.ofBelow ((Below.refl _ _).alloc (Nat.le_refl _) _)).trans (grown_ug hgrow); clear hown hgrow)
        go_roundw
        case rel => exact ⟨k + 1, _, _, _, by omega, by go_num, hI.out.add K2.out K1.out K3.out K5.out K4.out rfl HG5.out HO5.out HG7.out HO7.out⟩
        case measure => first | (simp [intOf]; done) | (simp [intOf]; omega)
      · have hkh : k = h := by omega
        have HB : Hid (Sb W wr p g h (fun _ => 0) (.slice ad h cp) P G (fun _ => []) q gh (fun _ => .slice none 0 0) (.slice ad2 h cp2) Q (fun _ => .slice none 0 0)) := (show Sk W wr p g h (.slice ad h cp) h P G q gh (.slice ad2 h cp2) Q from hkh ▸ hI.out).fin H3.out H4.out HGH.out
        subst hkh
        clear hI HS0 hk
        go_wp2_with fail
        clear hlt
        go_loopw [16, 17, 18, 19, 20, 21] (fun i x1 x2 x3 x4 x5 wr => ∃ (n : Nat) (d : Nat → Nat) (L : Nat → List E.TV) (V VV : Nat → Value), n ≤ la1 ∧ i = .int .i64 n ∧ Hid (Sb W wr p g k d (.slice ad k cp) P G L q gh V (.slice ad2 k cp2) Q VV)) (fun i x1 x2 x3 x4 x5 _ => la1 - (intOf i).toNat)
        case atStart => exact ⟨0, _, _, _, _, by omega, rfl, HB.out⟩
        case round =>
          obtain ⟨n, d, L, V, VV, hn, rfl, hI⟩ := hrel
          clear HB
          by_cases hlt1 : n < la1
          · have hX := HX1.out.below hI.out.f.new
            have had1 := (HX1.out.at0 (by omega)).1
            have q0 := hX.cell n hlt1 0 (by decide)
            have q1 := hX.cell n hlt1 1 (by decide)
            have q2 := hX.cell n hlt1 2 (by decide)
            have q3 := hX.cell n hlt1 3 (by decide)
            have hnum := hX.num n hlt1
            have hb0 := hnum.kind
            have hb1 := hnum.hart
            have hb2 := hnum.vmid
            have hb3 := hnum.page
            generalize X1 n = xx at q0 q1 q2 q3 hb0 hb1 hb2 hb3
            obtain ⟨xk, xh, xv, xp⟩ := xx
            simp only [ShoV.cs] at q0 q1 q2 q3 hb0 hb1 hb2 hb3
            replace q0 : wr.cell? ⟨ab1, ao1 + n * 4, none⟩ = some (.int .i64 xk) := q0
            replace q1 : wr.cell? ⟨ab1, ao1 + n * 4 + 1, none⟩ = some (.int .i64 xh) := q1
            replace q2 : wr.cell? ⟨ab1, ao1 + n * 4 + 2, none⟩ = some (.int .i64 xv) := q2
            replace q3 : wr.cell? ⟨ab1, ao1 + n * 4 + 3, none⟩ = some (.int .u64 xp) := q3
            subst had1
            clear hX hnum
            go_upto_region 22 with fail
            obtain ⟨wx, hwx⟩ : ∃ wx, wx = wr.alloc (.cells #[.int .i64 xk, .int .i64 xh, .int .i64 xv, .int .u64 xp] 86) := ⟨_, rfl⟩
            have HSx : Hid (Sb W wx p g k d (.slice ad k cp) P G L q gh V (.slice ad2 k cp2) Q VV) := hwx ▸ hI.out.below ((Below.refl _ _).alloc (Nat.le_refl _) _)
            have HX : Hid (wx.heap[wr.heap.size]? = some (.cells #[.int .i64 xk, .int .i64 xh, .int .i64 xv, .int .u64 xp] 86 (0, 0))) := hwx ▸ heap_alloc_new wr _
            rw [← hwx]
            clear hwx q0 q1 q2 q3 hI
            generalize wr.heap.size = xb at HX ⊢
            have x0 : wx.cell? ⟨xb, 0, none⟩ = some (.int .i64 xk) := cell_of_row wx xb 0 _ _ _ HX.out
            have x1 : wx.cell? ⟨xb, 1, none⟩ = some (.int .i64 xh) := cell_of_row wx xb 1 _ _ _ HX.out
            have x2 : wx.cell? ⟨xb, 2, none⟩ = some (.int .i64 xv) := cell_of_row wx xb 2 _ _ _ HX.out
            have x3 : wx.cell? ⟨xb, 3, none⟩ = some (.int .u64 xp) := cell_of_row wx xb 3 _ _ _ HX.out
            obtain ⟨j, hj⟩ : ∃ j : Nat, (j : Int) = xh % (k : Int) := ⟨(xh % (k : Int)).toNat, by have := Int.emod_nonneg xh (show (k : Int) ≠ 0 by omega); omega⟩
            have hjk : j < k := by have := Int.emod_lt_of_pos xh (show (0 : Int) < k by omega); omega
            have hPl := c_Place xh k (by omega) (by omega) hb1.1 hb1.2
            rw [← hj] at hPl
            have hPk := c_Place xk 3 (by decide) (by decide) hb0.1 hb0.2
            obtain ⟨kd, hkd⟩ : ∃ kd : Int, kd = xk % 3 := ⟨_, rfl⟩
            have hkd3 : kd = 0 ∨ kd = 1 ∨ kd = 2 := by omega
            rw [← hkd] at hPk
            clear hj hkd hb0 hb1
            obtain ⟨bt, rfl, hct⟩ := HSx.out.f.ts.cell rfl hjk
            obtain ⟨bu, rfl, hcu, -⟩ := HSx.out.cellR rfl hjk
            have T1 : Hid True := trivial
            rcases hkd3 with rfl | rfl | rfl
            case' inl =>
              have hPo := sb_Post HSx.out xv
              go_upto_region 35 with (first
                | (go_at_call 16; have t := T1; clear t T1; refine (hPl _).mono ?_; rintro r w3 ⟨rfl, hw⟩; obtain rfl := hw.symm)
                | (go_at_call 16; refine (hPk _).mono ?_; rintro r w3 ⟨rfl, hw⟩; obtain rfl := hw.symm)
                | (go_at_call 30; (with_reducible refine hPo.mono ?_); rintro r w4 ⟨rfl, k1, k2⟩; have hP2 := k2; have y2 : w4.cell? ⟨xb, 2, none⟩ = some (.int .i64 xv) := cell_of_row w4 xb 2 _ _ _ (k1.old HX.out fun e => by have := HSx.out.f.sh.tab; rw [← e, HX.out] at this; simp at this); clear k1 k2)
                | (go_at_call 31; (with_reducible refine hP2.mono ?_); rintro r w5 ⟨rfl, d5, V5, k1⟩; have HS5 : Hid (∃ d5 L5 V5 VV5, Sb W w5 p g k d5 (.slice (some ⟨bt, 0, none⟩) k cp) P G L5 q gh V5 (.slice (some ⟨bu, 0, none⟩) k cp2) Q VV5) := ⟨_, _, _, _, k1⟩; clear k1))
              clear hPo hP2 y2
            case' inr.inl =>
              go_upto_region 28 with (first
                | (go_at_call 16; have t := T1; clear t T1; refine (hPl _).mono ?_; rintro r w3 ⟨rfl, hw⟩; obtain rfl := hw.symm)
                | (go_at_call 16; refine (hPk _).mono ?_; rintro r w3 ⟨rfl, hw⟩; obtain rfl := hw.symm))
              have hwd : ∃ w0, w0 = wx.drew := ⟨_, rfl⟩
              obtain ⟨w0, hw0⟩ := hwd
              have HS0 : Hid (Sb W w0 p g k d (.slice (some ⟨bt, 0, none⟩) k cp) P G L q gh V (.slice (some ⟨bu, 0, none⟩) k cp2) Q VV) := by rw [hw0]; exact HSx.out.below (Below.refl _ _).drew
              have HCT : Hid (w0.cell? ⟨bt, j, none⟩ = some (.pointer (some ⟨P j, 0, none⟩)) ∧ w0.cell? ⟨bu, j, none⟩ = some (.pointer (some ⟨Q j, 0, none⟩))) := by rw [hw0]; exact ⟨hct, hcu⟩
              have HC6 := hid (sb_Serve HS0.out j hjk)
              refine wp_region_any (by kernel_rfl) ?_
              rw [show ({ wx with drawn := wx.drawn + 1 } : World) = w0 from hw0.symm]
              have HLD : Hid (∀ {listed : Array Bool} (w : World), VP w0 (fun w1 => Only (fun x => x = g ∨ E.Ft (P j) (G j) x) w0 w1 ∧ Calls Try.prog 33 #[.pointer (some ⟨q, 0, none⟩), .int .i64 j, .pointer (some ⟨Q j, 0, none⟩)] w1 fun r w2 => r = .returned (.int .i64 (vl (d j) 16).length) ∧ ∃ d' L' V' VV', Sb W w2 p g k d' (.slice (some ⟨bt, 0, none⟩) k cp) P G L' q gh V' (.slice (some ⟨bu, 0, none⟩) k cp2) Q VV') (fun w2 => ∃ d' L' V' VV', Sb W w2 p g k d' (.slice (some ⟨bt, 0, none⟩) k cp) P G L' q gh V' (.slice (some ⟨bu, 0, none⟩) k cp2) Q VV') 6 13 listed w → w.cell? ⟨bt, j, none⟩ = some (.pointer (some ⟨P j, 0, none⟩)) ∧ w.cell? ⟨bu, j, none⟩ = some (.pointer (some ⟨Q j, 0, none⟩))) := fun {listed} w hw => by
                cases h6 : listed.getD 6 false
                · rw [hw.c0 h6]
                  exact ⟨HCT.out.1, HCT.out.2⟩
                · cases h13 : listed.getD 13 false
                  · obtain ⟨ho, -⟩ := hw.c1 h6 h13
                    have hT : ∀ x, (x = g ∨ E.Ft (P j) (G j) x) → x = g ∨ (∃ i, i < k ∧ E.Ft (P i) (G i) x) := fun x hx => hx.imp id fun z => ⟨j, hjk, z⟩
                    refine ⟨own_ptr (own_onlyB HS0.out.f.ts.ls ho fun y hy z => ?_) hjk, own_ptr (HS0.out.hsP ho hT).2 hjk⟩
                    obtain ⟨c, hc⟩ := own_typ (own_zero HS0.out.f.ts.ls) hy
                    rcases HS0.out.tyP (hT y z) hc with e | e | e <;> exact absurd e (by decide)
                  · obtain ⟨d', L', V', VV', S'⟩ := (hw.c2 h13).1
                    obtain ⟨b1, e1, e2⟩ := S'.f.ts.cell rfl hjk
                    obtain ⟨b2, e3, e4, -⟩ := S'.cellR rfl hjk
                    cases e1
                    cases e3
                    exact ⟨e2, e4⟩
              clear hw0
              refine wpAny_fq (fun dd => if dd = 97 then .pointer (some ⟨p, 0, none⟩) else if dd = 98 then .int .i64 (j : Int) else if dd = 99 then .slice (some ⟨bt, 0, none⟩) k cp else if dd = 100 then .int .i64 (j : Int) else if dd = 101 then .pointer (some ⟨bt, j, none⟩) else if dd = 102 then .pointer (some ⟨P j, 0, none⟩) else if dd = 103 then .int .i64 (vl (d j) 16).length else if dd = 104 then .pointer (some ⟨q, 0, none⟩) else if dd = 105 then .int .i64 (j : Int) else if dd = 106 then .slice (some ⟨bu, 0, none⟩) k cp2 else if dd = 107 then .int .i64 (j : Int) else if dd = 108 then .pointer (some ⟨bu, j, none⟩) else if dd = 109 then .pointer (some ⟨Q j, 0, none⟩) else if dd = 110 then .int .i64 (vl (d j) 16).length else if dd = 111 then .bool false else undef) (VP w0 (fun w1 => Only (fun x => x = g ∨ E.Ft (P j) (G j) x) w0 w1 ∧ Calls Try.prog 33 #[.pointer (some ⟨q, 0, none⟩), .int .i64 j, .pointer (some ⟨Q j, 0, none⟩)] w1 fun r w2 => r = .returned (.int .i64 (vl (d j) 16).length) ∧ ∃ d' L' V' VV', Sb W w2 p g k d' (.slice (some ⟨bt, 0, none⟩) k cp) P G L' q gh V' (.slice (some ⟨bu, 0, none⟩) k cp2) Q VV') (fun w2 => ∃ d' L' V' VV', Sb W w2 p g k d' (.slice (some ⟨bt, 0, none⟩) k cp) P G L' q gh V' (.slice (some ⟨bu, 0, none⟩) k cp2) Q VV') 6 13) ?step ?fin ?start
              case start => exact ⟨fun _ => rfl, fun a => absurd a (by decide), fun a => absurd a (by decide)⟩
              case step =>
                rintro listed fr wr ⟨hF, hW⟩ i hj
                obtain ⟨hl, o, ho, he⟩ := mem_ready.1 hj
                have hjl : i < listed.size := by rw [hF.ls]; exact (Array.getElem?_eq_some_iff.1 ho).1
                clear hj
                have HF := hid hF
                have HW := hid hW
                have HE := hid he
                have HL := hid hl
                clear hF hW he hl
                match i, ho with
                | 0, ho =>
                  obtain rfl := Option.some.inj ho
                  have e5 : fr.tmps[5]?.getD undef = .pointer (some ⟨p, 0, none⟩) := HF.out.base 5 (by kernel_rfl) rfl
                  exact wp_q rfl rfl (by simp [execOp, go_sem, e5]; try rfl) ⟨HF.out.put (by kernel_rfl) rfl rfl rfl (of_decide_eq_true rfl), HW.out.q hjl (by decide) (by decide)⟩
                | 1, ho =>
                  obtain rfl := Option.some.inj ho
                  have e18 : fr.tmps[18]?.getD undef = .int .i64 (j : Int) := HF.out.base 18 (by kernel_rfl) rfl
                  exact wp_q rfl rfl (by simp [execOp, go_sem, e18]; try rfl) ⟨HF.out.put (by kernel_rfl) rfl rfl rfl (of_decide_eq_true rfl), HW.out.q hjl (by decide) (by decide)⟩
                | 2, ho =>
                  obtain rfl := Option.some.inj ho
                  have e9 : fr.tmps[9]?.getD undef = .slice (some ⟨bt, 0, none⟩) k cp := HF.out.base 9 (by kernel_rfl) rfl
                  exact wp_q rfl rfl (by simp [execOp, go_sem, e9]; try rfl) ⟨HF.out.put (by kernel_rfl) rfl rfl rfl (of_decide_eq_true rfl), HW.out.q hjl (by decide) (by decide)⟩
                | 3, ho =>
                  obtain rfl := Option.some.inj ho
                  have e18 : fr.tmps[18]?.getD undef = .int .i64 (j : Int) := HF.out.base 18 (by kernel_rfl) rfl
                  exact wp_q rfl rfl (by simp [execOp, go_sem, e18]; try rfl) ⟨HF.out.put (by kernel_rfl) rfl rfl rfl (of_decide_eq_true rfl), HW.out.q hjl (by decide) (by decide)⟩
                | 4, ho =>
                  obtain rfl := Option.some.inj ho
                  have e99 : fr.tmps[99]?.getD undef = .slice (some ⟨bt, 0, none⟩) k cp := HF.out.ev (i := 2) rfl rfl (HE.out ⟨2, .data⟩ (by simp) rfl)
                  have e100 : fr.tmps[100]?.getD undef = .int .i64 (j : Int) := HF.out.ev (i := 3) rfl rfl (HE.out ⟨3, .data⟩ (by simp) rfl)
                  exact wp_q rfl rfl (by simp [execOp, go_sem, e99, e100, hjk]; try rfl) ⟨HF.out.put (by kernel_rfl) rfl rfl rfl (of_decide_eq_true rfl), HW.out.q hjl (by decide) (by decide)⟩
                | 5, ho =>
                  obtain rfl := Option.some.inj ho
                  have e101 : fr.tmps[101]?.getD undef = .pointer (some ⟨bt, j, none⟩) := HF.out.ev (i := 4) rfl rfl (HE.out ⟨4, .data⟩ (by simp) rfl)
                  have hc := HLD.out _ HW.out
                  exact wp_q rfl rfl (by simp [execOp, go_sem, e101, hc.1]; try rfl) ⟨HF.out.put (by kernel_rfl) rfl rfl rfl (of_decide_eq_true rfl), HW.out.q hjl (by decide) (by decide)⟩
                | 6, ho =>
                  obtain rfl := Option.some.inj ho
                  have e97 : fr.tmps[97]?.getD undef = .pointer (some ⟨p, 0, none⟩) := HF.out.ev (i := 0) rfl rfl (HE.out ⟨0, .data⟩ (by simp) rfl)
                  have e98 : fr.tmps[98]?.getD undef = .int .i64 (j : Int) := HF.out.ev (i := 1) rfl rfl (HE.out ⟨1, .data⟩ (by simp) rfl)
                  have e102 : fr.tmps[102]?.getD undef = .pointer (some ⟨P j, 0, none⟩) := HF.out.ev (i := 5) rfl rfl (HE.out ⟨5, .data⟩ (by simp) rfl)
                  have h6 : listed.getD 6 false = false := getD_tf hjl HL.out
                  obtain ⟨rfl, h13⟩ := HW.out.atz h6
                  refine wp_c3 rfl rfl _ _ _ _ _ rfl (.pointer (some ⟨p, 0, none⟩)) (.int .i64 (j : Int)) (.pointer (some ⟨P j, 0, none⟩)) (by simp [Act.eval, e97]) (by simp [Act.eval, e98]) (by simp [Act.eval, e102]) (Try.call32 _ _) HC6.out ?_
                  rintro r w7 ⟨rfl, k1, k2⟩
                  exact ⟨_, rfl, HF.out.put (by kernel_rfl) rfl rfl rfl (of_decide_eq_true rfl), VP.doz hjl (by decide) h13 ⟨k1, k2⟩⟩
                | 7, ho =>
                  obtain rfl := Option.some.inj ho
                  have e7 : fr.tmps[7]?.getD undef = .pointer (some ⟨q, 0, none⟩) := HF.out.base 7 (by kernel_rfl) rfl
                  exact wp_q rfl rfl (by simp [execOp, go_sem, e7]; try rfl) ⟨HF.out.put (by kernel_rfl) rfl rfl rfl (of_decide_eq_true rfl), HW.out.q hjl (by decide) (by decide)⟩
                | 8, ho =>
                  obtain rfl := Option.some.inj ho
                  have e18 : fr.tmps[18]?.getD undef = .int .i64 (j : Int) := HF.out.base 18 (by kernel_rfl) rfl
                  exact wp_q rfl rfl (by simp [execOp, go_sem, e18]; try rfl) ⟨HF.out.put (by kernel_rfl) rfl rfl rfl (of_decide_eq_true rfl), HW.out.q hjl (by decide) (by decide)⟩
                | 9, ho =>
                  obtain rfl := Option.some.inj ho
                  have e10 : fr.tmps[10]?.getD undef = .slice (some ⟨bu, 0, none⟩) k cp2 := HF.out.base 10 (by kernel_rfl) rfl
                  exact wp_q rfl rfl (by simp [execOp, go_sem, e10]; try rfl) ⟨HF.out.put (by kernel_rfl) rfl rfl rfl (of_decide_eq_true rfl), HW.out.q hjl (by decide) (by decide)⟩
                | 10, ho =>
                  obtain rfl := Option.some.inj ho
                  have e18 : fr.tmps[18]?.getD undef = .int .i64 (j : Int) := HF.out.base 18 (by kernel_rfl) rfl
                  exact wp_q rfl rfl (by simp [execOp, go_sem, e18]; try rfl) ⟨HF.out.put (by kernel_rfl) rfl rfl rfl (of_decide_eq_true rfl), HW.out.q hjl (by decide) (by decide)⟩
                | 11, ho =>
                  obtain rfl := Option.some.inj ho
                  have e106 : fr.tmps[106]?.getD undef = .slice (some ⟨bu, 0, none⟩) k cp2 := HF.out.ev (i := 9) rfl rfl (HE.out ⟨9, .data⟩ (by simp) rfl)
                  have e107 : fr.tmps[107]?.getD undef = .int .i64 (j : Int) := HF.out.ev (i := 10) rfl rfl (HE.out ⟨10, .data⟩ (by simp) rfl)
                  exact wp_q rfl rfl (by simp [execOp, go_sem, e106, e107, hjk]; try rfl) ⟨HF.out.put (by kernel_rfl) rfl rfl rfl (of_decide_eq_true rfl), HW.out.q hjl (by decide) (by decide)⟩
                | 12, ho =>
                  obtain rfl := Option.some.inj ho
                  have e108 : fr.tmps[108]?.getD undef = .pointer (some ⟨bu, j, none⟩) := HF.out.ev (i := 11) rfl rfl (HE.out ⟨11, .data⟩ (by simp) rfl)
                  have hc := HLD.out _ HW.out
                  exact wp_q rfl rfl (by simp [execOp, go_sem, e108, hc.2]; try rfl) ⟨HF.out.put (by kernel_rfl) rfl rfl rfl (of_decide_eq_true rfl), HW.out.q hjl (by decide) (by decide)⟩
                | 13, ho =>
                  obtain rfl := Option.some.inj ho
                  have e104 : fr.tmps[104]?.getD undef = .pointer (some ⟨q, 0, none⟩) := HF.out.ev (i := 7) rfl rfl (HE.out ⟨7, .data⟩ (by simp) rfl)
                  have e105 : fr.tmps[105]?.getD undef = .int .i64 (j : Int) := HF.out.ev (i := 8) rfl rfl (HE.out ⟨8, .data⟩ (by simp) rfl)
                  have e109 : fr.tmps[109]?.getD undef = .pointer (some ⟨Q j, 0, none⟩) := HF.out.ev (i := 12) rfl rfl (HE.out ⟨12, .data⟩ (by simp) rfl)
                  have h13 : listed.getD 13 false = false := getD_tf hjl HL.out
                  have h6 : listed.getD 6 false = true := HE.out ⟨6, .chain⟩ (by simp) rfl
                  refine wp_c3 rfl rfl _ _ _ _ _ rfl (.pointer (some ⟨q, 0, none⟩)) (.int .i64 (j : Int)) (.pointer (some ⟨Q j, 0, none⟩)) (by simp [Act.eval, e104]) (by simp [Act.eval, e105]) (by simp [Act.eval, e109]) (Try.call33 _ _) (HW.out.c1 h6 h13).2 ?_
                  rintro r w7 ⟨rfl, k1⟩
                  exact ⟨_, rfl, HF.out.put (by kernel_rfl) rfl rfl rfl (of_decide_eq_true rfl), VP.doy hjl (by decide) h6 k1⟩
                | 14, ho =>
                  obtain rfl := Option.some.inj ho
                  have e103 : fr.tmps[103]?.getD undef = .int .i64 (vl (d j) 16).length := HF.out.ev (i := 6) rfl rfl (HE.out ⟨6, .data⟩ (by simp) rfl)
                  have e110 : fr.tmps[110]?.getD undef = .int .i64 (vl (d j) 16).length := HF.out.ev (i := 13) rfl rfl (HE.out ⟨13, .data⟩ (by simp) rfl)
                  exact wp_q rfl rfl (by simp [execOp, go_sem, e103, e110]; try rfl) ⟨HF.out.put (by kernel_rfl) rfl rfl rfl (of_decide_eq_true rfl), HW.out.q hjl (by decide) (by decide)⟩
              case' fin =>
                rintro listed fr wr ⟨hF, hW⟩ hr
                have all := allDone hr hF.ls (by kernel_rfl)
                obtain ⟨⟨d5, L5, V5, VV5, k1⟩, -⟩ := hW.c2 (all 13 (by decide))
                rw [hF.full all]
                have HS5 : Hid (∃ d5 L5 V5 VV5, Sb W wr p g k d5 (.slice (some ⟨bt, 0, none⟩) k cp) P G L5 q gh V5 (.slice (some ⟨bu, 0, none⟩) k cp2) Q VV5) := ⟨_, _, _, _, k1⟩
                clear hF hW hr all k1 HC6 HLD HCT HS0
                simp only [List.foldl_cons, List.foldl_nil, fillF]
                go_simp
                go_upto_region 35 with fail
                obtain ⟨w5, rfl⟩ : ∃ w5, w5 = wr := ⟨_, rfl⟩
            case' inr.inr =>
              go_upto_region 31 with (first
                | (go_at_call 16; have t := T1; clear t T1; refine (hPl _).mono ?_; rintro r w3 ⟨rfl, hw⟩; obtain rfl := hw.symm)
                              | (go_at_call 16; refine (hPk _).mono ?_; rintro r w3 ⟨rfl, hw⟩; obtain rfl := hw.symm))
              refine wp_region_last_lit (by simp) (by kernel_rfl) (by kernel_rfl) (by kernel_rfl) ?_
              simp only [List.dropLast, List.getLast]
              repeat (go_big_quiet_step (fail))
              refine wpQuiet_nil ?_
              intro _ hwq
              obtain ⟨nq, hwq⟩ := hwq
              subst hwq
              have HSq : Hid (Sb W (wx.drewN nq) p g k d (.slice (some ⟨bt, 0, none⟩) k cp) P G L q gh V (.slice (some ⟨bu, 0, none⟩) k cp2) Q VV) := HSx.out.below (below_dn (Below.refl _ _) nq)
              have hPq : Calls Try.prog 34 #[.pointer (some ⟨P j, 0, none⟩), (.agg #[.int .i64 xv, .int .u64 xp, .int .u64 1, .int .i64 2])] (wx.drewN nq) fun r w1 => r = .returned (.tuple #[]) ∧ Only (E.Ft (P j) (G j)) (wx.drewN nq) w1 ∧ ∀ w1', Below w1.heap.size w1 w1' → Calls Try.prog 35 #[.pointer (some ⟨Q j, 0, none⟩), (.agg #[.int .i64 xv, .int .u64 xp, .int .u64 1, .int .i64 2])] w1' fun r w2 => r = .returned (.tuple #[]) ∧ ∃ L' VV', Sb W w2 p g k d (.slice (some ⟨bt, 0, none⟩) k cp) P G L' q gh V (.slice (some ⟨bu, 0, none⟩) k cp2) Q VV' := sb_Put HSq.out j hjk ⟨xv, xp, 1, 2⟩
              go_upto_region 32 with (go_at_call 34; (with_reducible refine hPq.mono ?_); rintro r w4 ⟨rfl, k1, k2⟩; have K1 := hid k1; have K2 := hid k2; clear k1 k2)
              have hT : ∀ x, E.Ft (P j) (G j) x → x = g ∨ (∃ i, i < k ∧ E.Ft (P i) (G i) x) := fun x hx => .inr ⟨j, hjk, hx⟩
              have hcu4 : w4.cell? ⟨bu, j, none⟩ = some (.pointer (some ⟨Q j, 0, none⟩)) := own_ptr (HSq.out.hsP K1.out hT).2 hjk
              have hxb : w4.heap[xb]? = some (.cells #[.int .i64 xk, .int .i64 xh, .int .i64 xv, .int .u64 xp] 86 (0, 0)) := K1.out.old HX.out fun z => by
                rcases HSq.out.tyP (hT xb z) HX.out with e | e | e <;> exact absurd e (by decide)
              have y2 : w4.cell? ⟨xb, 2, none⟩ = some (.int .i64 xv) := cell_of_row w4 xb 2 _ _ _ hxb
              have y3 : w4.cell? ⟨xb, 3, none⟩ = some (.int .u64 xp) := cell_of_row w4 xb 3 _ _ _ hxb
              clear hPq hT hxb
              refine wp_region_last_lit (by simp) (by kernel_rfl) (by kernel_rfl) (by kernel_rfl) ?_
              simp only [List.dropLast, List.getLast]
              repeat (go_big_quiet_step (fail))
              refine wpQuiet_nil ?_
              intro _ hwq
              obtain ⟨nq, hwq⟩ := hwq
              subst hwq
              have hP2 := K2.out (w4.drewN nq) (below_dn (Below.refl _ _) _)
              go_upto_region 35 with (go_at_call 35; (with_reducible refine hP2.mono ?_); rintro r w5 ⟨rfl, L5, VV5, k1⟩; have HS5 : Hid (∃ d5 L5 V5 VV5, Sb W w5 p g k d5 (.slice (some ⟨bt, 0, none⟩) k cp) P G L5 q gh V5 (.slice (some ⟨bu, 0, none⟩) k cp2) Q VV5) := ⟨_, _, _, _, k1⟩; clear k1)
            all_goals
              obtain ⟨d5, L5, V5, VV5, hS5⟩ := HS5.out
              have HS6 := hid hS5
              clear hS5 HS5
              try clear HSx
              try clear HX
              try clear hct hcu x0 x1 x2 x3 hPl hPk
              go_loopw [19, 20, 21] (fun idl kk du wr => ∃ m : Nat, m ≤ k + 2 ∧ kk = .int .i64 ((m : Int) - 1) ∧ idl = .bool (az d5 (min (m - 1) k)) ∧ Hid (Sb W wr p g k d5 (.slice (some ⟨bt, 0, none⟩) k cp) P G L5 q gh V5 (.slice (some ⟨bu, 0, none⟩) k cp2) Q VV5)) (fun idl kk du _ => k + 2 - (intOf kk + 1).toNat)
              case atStart => exact ⟨0, by omega, rfl, by rw [Nat.zero_sub, Nat.zero_min]; rfl, HS6.out⟩
              case round =>
                obtain ⟨m, hm, rfl, rfl, hI⟩ := hrel
                by_cases hmk : 1 ≤ m ∧ m ≤ k
                · obtain ⟨i, hi⟩ : ∃ i, m = i + 1 := ⟨m - 1, by omega⟩
                  subst hi
                  have hik : i < k := by omega
                  rw [show (((i + 1 : Nat) : Int) - 1) = (i : Int) by omega, show min (i + 1 - 1) k = i by omega]
                  have x0 := hI.out.hs.c0
                  have x1 := hI.out.hs.cv hik
                  obtain ⟨adv, cpv, hV⟩ := own_form (hI.out.hs.ls i hik)
                  rw [hV] at x1
                  have x2 : wr.cell? ⟨bt, i, none⟩ = some (.pointer (some ⟨P i, 0, none⟩)) := own_ptr hI.out.f.ts.ls hik
                  have x3 : wr.cell? ⟨bu, i, none⟩ = some (.pointer (some ⟨Q i, 0, none⟩)) := own_ptr hI.out.rl hik
                  have x4 := (hI.out.rm i hik).c1
                  have HV := hid hV
                  clear hV hmk hm
                  go_upto_region 40 with fail
                  obtain ⟨w0, hw0⟩ : ∃ w0, w0 = wr.drew := ⟨_, rfl⟩
                  have HS0 : Hid (Sb W w0 p g k d5 (.slice (some ⟨bt, 0, none⟩) k cp) P G L5 q gh V5 (.slice (some ⟨bu, 0, none⟩) k cp2) Q VV5) := by rw [hw0]; exact hI.out.below (Below.refl _ _).drew
                  have HC4 := hid (sb_Entries HS0.out i hik)
                  refine wp_region_any (by kernel_rfl) ?_
                  rw [show ({ wr with drawn := wr.drawn + 1 } : World) = w0 from hw0.symm]
                  have HLD : Hid (∀ {listed : Array Bool} {x : Value} (w : World), VP w0 (fun w1 => Sb W w1 p g k d5 (.slice (some ⟨bt, 0, none⟩) k cp) P G L5 q gh V5 (.slice (some ⟨bu, 0, none⟩) k cp2) Q VV5 ∧ Calls Try.prog 36 #[x, VV5 i] w1 fun r w2 => r = .returned (.bool true) ∧ Sb W w2 p g k d5 (.slice (some ⟨bt, 0, none⟩) k cp) P G L5 q gh V5 (.slice (some ⟨bu, 0, none⟩) k cp2) Q VV5) (fun w2 => Sb W w2 p g k d5 (.slice (some ⟨bt, 0, none⟩) k cp) P G L5 q gh V5 (.slice (some ⟨bu, 0, none⟩) k cp2) Q VV5) 4 12 listed w → w.cell? ⟨bt, i, none⟩ = some (.pointer (some ⟨P i, 0, none⟩)) ∧ w.cell? ⟨bu, i, none⟩ = some (.pointer (some ⟨Q i, 0, none⟩)) ∧ w.cell? ⟨Q i, 1, none⟩ = some (VV5 i)) := fun {listed} {x} w hw => by
                    have hk := hw.all (K := fun w => Sb W w p g k d5 (.slice (some ⟨bt, 0, none⟩) k cp) P G L5 q gh V5 (.slice (some ⟨bu, 0, none⟩) k cp2) Q VV5) HS0.out (fun w h => h.1) (fun w h => h)
                    exact ⟨own_ptr hk.f.ts.ls hik, own_ptr hk.rl hik, (hk.rm i hik).c1⟩
                  clear hw0
                  refine wpAny_fx (α := Value) (fun x => fun dd => if dd = 153 then .slice (some ⟨bt, 0, none⟩) k cp else if dd = 154 then .int .i64 (i : Int) else if dd = 155 then .pointer (some ⟨bt, i, none⟩) else if dd = 156 then .pointer (some ⟨P i, 0, none⟩) else if dd = 157 then x else if dd = 158 then .slice (some ⟨bu, 0, none⟩) k cp2 else if dd = 159 then .int .i64 (i : Int) else if dd = 160 then .pointer (some ⟨bu, i, none⟩) else if dd = 161 then .pointer (some ⟨Q i, 0, none⟩) else if dd = 162 then .pointer (some ⟨Q i, 0, none⟩) else if dd = 163 then .pointer (some ⟨Q i, 1, none⟩) else if dd = 164 then VV5 i else if dd = 165 then .bool true else if dd = 166 then .bool false else undef) (fun x => VP w0 (fun w1 => Sb W w1 p g k d5 (.slice (some ⟨bt, 0, none⟩) k cp) P G L5 q gh V5 (.slice (some ⟨bu, 0, none⟩) k cp2) Q VV5 ∧ Calls Try.prog 36 #[x, VV5 i] w1 fun r w2 => r = .returned (.bool true) ∧ Sb W w2 p g k d5 (.slice (some ⟨bt, 0, none⟩) k cp) P G L5 q gh V5 (.slice (some ⟨bu, 0, none⟩) k cp2) Q VV5) (fun w2 => Sb W w2 p g k d5 (.slice (some ⟨bt, 0, none⟩) k cp) P G L5 q gh V5 (.slice (some ⟨bu, 0, none⟩) k cp2) Q VV5) 4 12) ?step ?fin (.bool true) ?start
                  case start => exact ⟨fun _ => rfl, fun a => absurd a (by decide), fun a => absurd a (by decide)⟩
                  case step =>
                    rintro listed fr wr x hF hW j hj
                    obtain ⟨hl, o, ho, he⟩ := mem_ready.1 hj
                    have hjl : j < listed.size := by rw [hF.ls]; exact (Array.getElem?_eq_some_iff.1 ho).1
                    clear hj
                    have HF := hid hF
                    have HW := hid hW
                    have HE := hid he
                    have HL := hid hl
                    clear hF hW he hl
                    match j, ho with
                    | 0, ho =>
                      obtain rfl := Option.some.inj ho
                      have e9 : fr.tmps[9]?.getD undef = .slice (some ⟨bt, 0, none⟩) k cp := HF.out.base 9 (by kernel_rfl) rfl
                      exact wp_q rfl rfl (by simp [execOp, go_sem, e9]; try rfl) ⟨x, HF.out.put (by kernel_rfl) rfl rfl rfl (of_decide_eq_true rfl), HW.out.q hjl (by decide) (by decide)⟩
                    | 1, ho =>
                      obtain rfl := Option.some.inj ho
                      have e20 : fr.tmps[20]?.getD undef = .int .i64 (i : Int) := HF.out.base 20 (by kernel_rfl) rfl
                      exact wp_q rfl rfl (by simp [execOp, go_sem, e20]; try rfl) ⟨x, HF.out.put (by kernel_rfl) rfl rfl rfl (of_decide_eq_true rfl), HW.out.q hjl (by decide) (by decide)⟩
                    | 2, ho =>
                      obtain rfl := Option.some.inj ho
                      have e153 : fr.tmps[153]?.getD undef = .slice (some ⟨bt, 0, none⟩) k cp := HF.out.ev (i := 0) rfl rfl (HE.out ⟨0, .data⟩ (by simp) rfl)
                      have e154 : fr.tmps[154]?.getD undef = .int .i64 (i : Int) := HF.out.ev (i := 1) rfl rfl (HE.out ⟨1, .data⟩ (by simp) rfl)
                      exact wp_q rfl rfl (by simp [execOp, go_sem, e153, e154, hik]; try rfl) ⟨x, HF.out.put (by kernel_rfl) rfl rfl rfl (of_decide_eq_true rfl), HW.out.q hjl (by decide) (by decide)⟩
                    | 3, ho =>
                      obtain rfl := Option.some.inj ho
                      have e155 : fr.tmps[155]?.getD undef = .pointer (some ⟨bt, i, none⟩) := HF.out.ev (i := 2) rfl rfl (HE.out ⟨2, .data⟩ (by simp) rfl)
                      have hc := HLD.out _ HW.out
                      exact wp_q rfl rfl (by simp [execOp, go_sem, e155, hc.1]; try rfl) ⟨x, HF.out.put (by kernel_rfl) rfl rfl rfl (of_decide_eq_true rfl), HW.out.q hjl (by decide) (by decide)⟩
                    | 4, ho =>
                      obtain rfl := Option.some.inj ho
                      have e156 : fr.tmps[156]?.getD undef = .pointer (some ⟨P i, 0, none⟩) := HF.out.ev (i := 3) rfl rfl (HE.out ⟨3, .data⟩ (by simp) rfl)
                      have h4 : listed.getD 4 false = false := getD_tf hjl HL.out
                      obtain ⟨rfl, h12⟩ := HW.out.atz h4
                      refine wp_c1 rfl rfl _ _ _ rfl (.pointer (some ⟨P i, 0, none⟩)) (by simp [Act.eval, e156]) (Try.call37 _ _) HC4.out ?_
                      rintro r w7 ⟨y, rfl, k1, k2⟩
                      have HFy : Hid (FrQ _ ((fun x => fun dd => if dd = 153 then .slice (some ⟨bt, 0, none⟩) k cp else if dd = 154 then .int .i64 (i : Int) else if dd = 155 then .pointer (some ⟨bt, i, none⟩) else if dd = 156 then .pointer (some ⟨P i, 0, none⟩) else if dd = 157 then x else if dd = 158 then .slice (some ⟨bu, 0, none⟩) k cp2 else if dd = 159 then .int .i64 (i : Int) else if dd = 160 then .pointer (some ⟨bu, i, none⟩) else if dd = 161 then .pointer (some ⟨Q i, 0, none⟩) else if dd = 162 then .pointer (some ⟨Q i, 0, none⟩) else if dd = 163 then .pointer (some ⟨Q i, 1, none⟩) else if dd = 164 then VV5 i else if dd = 165 then .bool true else if dd = 166 then .bool false else undef) y) _ listed fr) := HF.out.swap (fun j o d g1 g2 g3 => by
                        by_cases e : d = 157
                        · subst e
                          have := ndB_spec (j := j) (k := 4) (d := 157) (by kernel_rfl) g1 rfl g2 rfl
                          subst this
                          rw [h4] at g3; cases g3
                        · simp [e])
                      exact ⟨_, rfl, y, HFy.out.put (by kernel_rfl) rfl rfl rfl (of_decide_eq_true rfl), VP.doz hjl (by decide) h12 ⟨HS0.out.below k1, k2⟩⟩
                    | 5, ho =>
                      obtain rfl := Option.some.inj ho
                      have e10 : fr.tmps[10]?.getD undef = .slice (some ⟨bu, 0, none⟩) k cp2 := HF.out.base 10 (by kernel_rfl) rfl
                      exact wp_q rfl rfl (by simp [execOp, go_sem, e10]; try rfl) ⟨x, HF.out.put (by kernel_rfl) rfl rfl rfl (of_decide_eq_true rfl), HW.out.q hjl (by decide) (by decide)⟩
                    | 6, ho =>
                      obtain rfl := Option.some.inj ho
                      have e20 : fr.tmps[20]?.getD undef = .int .i64 (i : Int) := HF.out.base 20 (by kernel_rfl) rfl
                      exact wp_q rfl rfl (by simp [execOp, go_sem, e20]; try rfl) ⟨x, HF.out.put (by kernel_rfl) rfl rfl rfl (of_decide_eq_true rfl), HW.out.q hjl (by decide) (by decide)⟩
                    | 7, ho =>
                      obtain rfl := Option.some.inj ho
                      have e158 : fr.tmps[158]?.getD undef = .slice (some ⟨bu, 0, none⟩) k cp2 := HF.out.ev (i := 5) rfl rfl (HE.out ⟨5, .data⟩ (by simp) rfl)
                      have e159 : fr.tmps[159]?.getD undef = .int .i64 (i : Int) := HF.out.ev (i := 6) rfl rfl (HE.out ⟨6, .data⟩ (by simp) rfl)
                      exact wp_q rfl rfl (by simp [execOp, go_sem, e158, e159, hik]; try rfl) ⟨x, HF.out.put (by kernel_rfl) rfl rfl rfl (of_decide_eq_true rfl), HW.out.q hjl (by decide) (by decide)⟩
                    | 8, ho =>
                      obtain rfl := Option.some.inj ho
                      have e160 : fr.tmps[160]?.getD undef = .pointer (some ⟨bu, i, none⟩) := HF.out.ev (i := 7) rfl rfl (HE.out ⟨7, .data⟩ (by simp) rfl)
                      have hc := HLD.out _ HW.out
                      exact wp_q rfl rfl (by simp [execOp, go_sem, e160, hc.2.1]; try rfl) ⟨x, HF.out.put (by kernel_rfl) rfl rfl rfl (of_decide_eq_true rfl), HW.out.q hjl (by decide) (by decide)⟩
                    | 9, ho =>
                      obtain rfl := Option.some.inj ho
                      have e161 : fr.tmps[161]?.getD undef = .pointer (some ⟨Q i, 0, none⟩) := HF.out.ev (i := 8) rfl rfl (HE.out ⟨8, .data⟩ (by simp) rfl)
                      exact wp_q rfl rfl (by simp [execOp, go_sem, e161]; try rfl) ⟨x, HF.out.put (by kernel_rfl) rfl rfl rfl (of_decide_eq_true rfl), HW.out.q hjl (by decide) (by decide)⟩
                    | 10, ho =>
                      obtain rfl := Option.some.inj ho
                      have e162 : fr.tmps[162]?.getD undef = .pointer (some ⟨Q i, 0, none⟩) := HF.out.ev (i := 9) rfl rfl (HE.out ⟨9, .data⟩ (by simp) rfl)
                      exact wp_q rfl rfl (by simp [execOp, go_sem, e162]; try rfl) ⟨x, HF.out.put (by kernel_rfl) rfl rfl rfl (of_decide_eq_true rfl), HW.out.q hjl (by decide) (by decide)⟩
                    | 11, ho =>
                      obtain rfl := Option.some.inj ho
                      have e163 : fr.tmps[163]?.getD undef = .pointer (some ⟨Q i, 1, none⟩) := HF.out.ev (i := 10) rfl rfl (HE.out ⟨10, .data⟩ (by simp) rfl)
                      have hc := HLD.out _ HW.out
                      exact wp_q rfl rfl (by simp [execOp, go_sem, e163, hc.2.2]; try rfl) ⟨x, HF.out.put (by kernel_rfl) rfl rfl rfl (of_decide_eq_true rfl), HW.out.q hjl (by decide) (by decide)⟩
                    | 12, ho =>
                      obtain rfl := Option.some.inj ho
                      have e157 : fr.tmps[157]?.getD undef = x := HF.out.ev (i := 4) rfl rfl (HE.out ⟨4, .data⟩ (by simp) rfl)
                      have e164 : fr.tmps[164]?.getD undef = VV5 i := HF.out.ev (i := 11) rfl rfl (HE.out ⟨11, .data⟩ (by simp) rfl)
                      have h12 : listed.getD 12 false = false := getD_tf hjl HL.out
                      have h4 : listed.getD 4 false = true := HE.out ⟨4, .data⟩ (by simp) rfl
                      refine wp_c2 rfl rfl _ _ _ _ rfl x (VV5 i) (by simp [Act.eval, e157]) (by simp [Act.eval, e164]) (Try.call36 _ _) (HW.out.c1 h4 h12).2 ?_
                      rintro r w7 ⟨rfl, k1⟩
                      exact ⟨_, rfl, x, HF.out.put (by kernel_rfl) rfl rfl rfl (of_decide_eq_true rfl), VP.doy hjl (by decide) h4 k1⟩
                    | 13, ho =>
                      obtain rfl := Option.some.inj ho
                      have e165 : fr.tmps[165]?.getD undef = .bool true := HF.out.ev (i := 12) rfl rfl (HE.out ⟨12, .data⟩ (by simp) rfl)
                      exact wp_q rfl rfl (by simp [execOp, go_sem, e165]; try rfl) ⟨x, HF.out.put (by kernel_rfl) rfl rfl rfl (of_decide_eq_true rfl), HW.out.q hjl (by decide) (by decide)⟩
                  case fin =>
                    rintro listed fr w2 x hF hW hr
                    have all := allDone hr hF.ls (by kernel_rfl)
                    obtain ⟨k1, -⟩ := hW.c2 (all 12 (by decide))
                    rw [hF.full all]
                    have HS2 := hid k1
                    have hD := sb_Due k1 i hik
                    rw [HV.out] at hD
                    have hl0 := k1.len0 i
                    clear hF hW hr all k1 HC4 HLD HS0 x0 x1 x2 x3 x4
                    simp only [List.foldl_cons, List.foldl_nil, fillF]
                    go_simp
                    obtain ⟨b, hb⟩ : ∃ b : Bool, b = az d5 i := ⟨_, rfl⟩
                    rw [← hb]
                    have HBz : Hid (az d5 (min (i + 1 + 1 - 1) k) = (b && decide ((vl (d5 i) 16).length = 0))) := by
                      rw [show min (i + 1 + 1 - 1) k = i + 1 by omega, hb]
                      show (az d5 i && decide (d5 i = 0)) = _
                      congr 1
                      exact decide_eq_decide.2 hl0.symm
                    clear hb hl0
                    generalize (vl (d5 i) 16).length = nl at *
                    have hcz : (b = false) ∨ (b = true ∧ nl = 0) ∨ (b = true ∧ ¬ nl = 0) := by
                      cases b
                      · exact .inl rfl
                      · exact .inr (by by_cases z : nl = 0; exact .inl ⟨rfl, z⟩; exact .inr ⟨rfl, z⟩)
                    rcases hcz with rfl | ⟨rfl, rfl⟩ | ⟨rfl, hz⟩
                    all_goals
                      go_wp2_with (first
                        | (go_at_call 39; (with_reducible refine hD.mono ?_); rintro r w6 ⟨y, rfl, k1, k2⟩; have hD2 := k2; clear k1 k2 hD)
                        | (go_at_call 38; (with_reducible refine hD2.mono ?_); rintro r w7 ⟨rfl, k1⟩; have K1 := hid k1; clear k1 hD2))
                      exact ⟨⟨i + 1 + 1, by omega, by congr 1; omega, by first | (rw [HBz.out]; simp; done) | (rw [HBz.out]; simp [hz]), K1.out⟩, by simp only [intOf]; omega⟩
                · by_cases hme : m = k + 2
                  · have hid0 := hI.out.idle
                    have e1 : min (m - 1) k = k := by omega
                    rw [e1]
                    clear hmk
                    go_wp2_with (go_at_call 40; refine hid0.mono ?_; rintro r w6 ⟨rfl, hw⟩; obtain rfl := hw.symm)
                    go_roundw
                    case rel => exact ⟨n + 1, _, _, _, _, by omega, by go_num, hI.out⟩
                    case measure => first | (simp [intOf]; done) | (simp [intOf]; omega)
                  · have hmz : m = 0 ∨ m = k + 1 := by omega
                    have hD := sb_DueNo hI.out ((m : Int) - 1) (by omega)
                    have hmi : (m : Int) - 1 < 0 ∨ (k : Int) ≤ (m : Int) - 1 := by omega
                    obtain ⟨z, hz⟩ : ∃ z : Int, z = (m : Int) - 1 := ⟨_, rfl⟩
                    have hzk : z ≤ (k : Int) := by omega
                    have hzl : -1 ≤ z := by omega
                    rw [← hz] at hD hmi ⊢
                    have HM := hid (And.intro hmz hz)
                    clear hmz hz hmk hme hm
                    obtain ⟨b, hb⟩ : ∃ b : Bool, b = az d5 (min (m - 1) k) := ⟨_, rfl⟩
                    have HBz : Hid (az d5 (min (m + 1 - 1) k) = b) := by
                      rw [hb]
                      have e2 : m = 0 ∨ m = k + 1 := HM.out.1
                      congr 1
                      omega
                    rw [← hb]
                    clear hb
                    rcases hmi with hmi | hmi <;> cases b
                    all_goals
                      go_wp2_with (first
                        | (go_at_call 39; (with_reducible refine hD.mono ?_); rintro r w6 ⟨rfl, hw, k2⟩; obtain rfl := hw.symm; have hD2 := k2; clear k2)
                        | (go_at_call 38; (with_reducible refine hD2.mono ?_); rintro r w7 ⟨rfl, k1⟩; have K1 := hid k1; clear k1))
                      go_roundw
                      case rel => exact ⟨m + 1, by have e2 : m = 0 ∨ m = k + 1 := HM.out.1; omega, by have e1 : z = (m : Int) - 1 := HM.out.2; congr 1; omega, by rw [HBz.out], K1.out⟩
                      case measure =>
                        have e1 : z = (m : Int) - 1 := HM.out.2
                        have e2 : m = 0 ∨ m = k + 1 := HM.out.1
                        simp only [intOf]
                        omega
          · have hAw := l_awake10 wr
            go_wp2_with (go_at_call 8; refine hAw.mono ?_; rintro r w9 ⟨rfl, h1⟩; have HB9 := hid h1; clear h1)
            go_ret
            exact ⟨rfl, hI.out.f.new.trans (HB9.out.mono hI.out.f.new.size)⟩
  · have hN := sh_New_bad W a0 (by omega)
    have hM := hh_New_bad W a0 (by omega)
    have hAw := l_awake10 W
    clear ha
    go_enter Try.func5, Try.ntmps5
    go_wp2_with (first
      | (go_at_call 26; refine hN.mono ?_; rintro r w1 ⟨rfl, hw⟩; obtain rfl := hw.symm)
      | (go_at_call 27; refine hM.mono ?_; rintro r w1 ⟨rfl, hw⟩; obtain rfl := hw.symm)
      | (go_at_call 8; refine hAw.mono ?_; rintro r w9 ⟨rfl, h1⟩; have HB9 := hid h1; clear h1))
    go_ret
    exact ⟨rfl, HB9.out⟩
end Go.Proofs.Ytdncendokbjnjaa
