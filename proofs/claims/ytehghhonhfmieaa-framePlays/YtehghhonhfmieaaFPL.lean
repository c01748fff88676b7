/- FramePlays: any script answers as the chapter says. -/
import Derived.Test.YtehghhonhfmieaaMK1
import Derived.Test.YtehghhonhfmieaaMH2
import Derived.Test.YtehghhonhfmieaaMC4
import Derived.Deep.DeepCutAuto
import Derived.Deep.CutBlock
namespace Go.Proofs.Ytehghhonhfmieaa
open Go.RowKit
open C (Only hid Mem RMem Still ret_bool ret_int put byt nu TB Tw Cl c_Place step_call step_call4)
set_option linter.unusedVariables false
set_option maxRecDepth 100000

theorem tk_same (v : PV) (x : Int) : (tk v x).2.2.n = v.n ∧ (tk v x).2.2.m = v.m := by unfold tk; cases may x <;> cases decide (ff v.o v.n < v.n) <;> exact ⟨rfl, rfl⟩
theorem rl_same (v : PV) (x : Int) : (rl v x).2.n = v.n ∧ (rl v x).2.m = v.m := by unfold rl; cases rlOk v x <;> exact ⟨rfl, rfl⟩
theorem ak_same2 (v : PV) (x : Int) : (akV v x).n = v.n ∧ (akV v x).m = v.m := by unfold akV; cases akOk v x <;> exact ⟨rfl, rfl⟩
/-- both pools are made behind the pair of memories -/
theorem h_New1 (W w1 : World) (n : Nat) (r hh : Nat) (m dm : Nat) (U : Nat → Prop) (ht : Tw w1 U m dm n (fun _ => 0)) (hb : Below W.heap.size W w1) (hu : ∀ k, U k → W.heap.size ≤ k) (g0 : 0 < hh) (g1 : hh ≤ 8) (hr : r ≤ n) :
    Calls Try.prog 10 #[.pointer (some ⟨m, 0, none⟩), .int .i64 r, .int .i64 hh] (w1.alloc (.cells #[.pointer (some ⟨m, 0, none⟩), .pointer (some ⟨dm, 0, none⟩)] 27)) fun e w2 => ∃ p, e = .returned (.tuple #[.pointer (some ⟨p, 0, none⟩), .int .i64 0]) ∧ w2.cell? ⟨w1.heap.size, 1, none⟩ = some (.pointer (some ⟨dm, 0, none⟩)) ∧
      Calls Try.prog 11 #[.pointer (some ⟨dm, 0, none⟩), .int .i64 r, .int .i64 hh] w2 fun e w3 => ∃ q F G, e = .returned (.tuple #[.pointer (some ⟨q, 0, none⟩), .int .i64 0]) ∧ PD W w3 w1.heap.size F G p q dm (v0 m r hh n) (v0 m r hh n) (fun _ => 0) (fun _ => 0) := by
  obtain ⟨S, T, m1, m2, m3, m4⟩ := ht
  have b1 : Below w1.heap.size w1 (w1.alloc (.cells #[.pointer (some ⟨m, 0, none⟩), .pointer (some ⟨dm, 0, none⟩)] 27)) := (Below.refl _ _).alloc (Nat.le_refl _) _
  have tb := C.TB.new w1 m dm
  refine (x_New _ S m n _ (m1.below b1) r hh g0 g1 hr).mono ?_
  rintro e w2 ⟨p, F, rfl, k1, k2, k3⟩
  have tb2 := tb.below k2
  refine ⟨p, rfl, tb2.c1, ?_⟩
  refine (z_New w2 T m dm n _ ((m2.below b1).below k2) r hh g0 g1 hr).mono ?_
  rintro e w3 ⟨q, G, rfl, l1, l2, l3⟩
  have z1 := hb.size
  have z2 := b1.size
  have z3 := k2.size
  refine ⟨q, F, G, rfl, k1.below l2, l1, tb2.below l2, ((hb.trans (b1.mono hb.size)).trans (k2.mono (Nat.le_trans z1 z2))).trans (l2.mono (by omega)), fun k z => ?_⟩
  rcases z with z | z
  · rcases k3 k z with y | y
    · exact hu k ((m3 k).2 (.inl y))
    · omega
  · rcases l3 k z with y | y
    · exact hu k ((m3 k).2 (.inr y))
    · omega
theorem h_NewB (W w1 : World) (n : Nat) (r hh : Int) (m dm : Nat) (U : Nat → Prop) (ht : Tw w1 U m dm n (fun _ => 0)) (hb : newOk n r hh = false) :
    Calls Try.prog 10 #[.pointer (some ⟨m, 0, none⟩), .int .i64 r, .int .i64 hh] (w1.alloc (.cells #[.pointer (some ⟨m, 0, none⟩), .pointer (some ⟨dm, 0, none⟩)] 27)) fun e w2 => e = .returned (.tuple #[.pointer none, .int .i64 1]) ∧ w2 = (w1.alloc (.cells #[.pointer (some ⟨m, 0, none⟩), .pointer (some ⟨dm, 0, none⟩)] 27)) ∧
      Calls Try.prog 11 #[.pointer (some ⟨dm, 0, none⟩), .int .i64 r, .int .i64 hh] w2 fun e w3 => e = .returned (.tuple #[.pointer none, .int .i64 1]) ∧ w3 = w2 := by
  obtain ⟨S, T, m1, m2, m3, m4⟩ := ht
  have b1 : Below w1.heap.size w1 (w1.alloc (.cells #[.pointer (some ⟨m, 0, none⟩), .pointer (some ⟨dm, 0, none⟩)] 27)) := (Below.refl _ _).alloc (Nat.le_refl _) _
  refine (x_New_bad _ S m n _ (m1.below b1) r hh hb).mono ?_
  rintro e w2 ⟨rfl, rfl⟩
  refine ⟨rfl, rfl, ?_⟩
  exact z_New_bad _ T dm n _ (m2.below b1) r hh hb
theorem PD.el {W w : World} {b p q dm : Nat} {F G : Nat → Prop} {v v2 : PV} {f f2 : Nat → Int} (h : PD W w b F G p q dm v v2 f f2) (k n x : Int) : PD W (w.alloc (.cells #[.int .i64 k, .int .i64 n, .int .u64 x] 40)) b F G p q dm v v2 f f2 ∧ (w.alloc (.cells #[.int .i64 k, .int .i64 n, .int .u64 x] 40)).heap[w.heap.size]? = some (.cells #[.int .i64 k, .int .i64 n, .int .u64 x] 40 (0, 0)) :=
  ⟨h.below ((Below.refl _ _).alloc (Nat.le_refl _) _), heap_alloc_new w _⟩
theorem wrapOff (y of : Nat) (hy : y < 20) (ho : of = 4096 * y) : IntKind.u64.wrap (IntKind.i64.wrap (4096 * (y : Int))) = (of : Int) := by
  have h1 : IntKind.i64.wrap (4096 * (y : Int)) = 4096 * (y : Int) := by rw [IntKind.wrap_i64]; omega
  rw [h1, IntKind.wrap_u64]; omega
theorem wrapOff2 (y of : Nat) (hy : y < 20) (ho : of = 4096 * y) : IntKind.u64.wrap (4096 * (y : Int)) = (of : Int) := by
  rw [IntKind.wrap_u64]; omega
set_option maxHeartbeats 8000000 in
theorem w_FramePlays (W : World) (n : Int) (n0 : -9223372036854775808 ≤ n) (n1 : n ≤ 9223372036854775807) (rs : Int) (r0 : -9223372036854775808 ≤ rs) (r1 : rs ≤ 9223372036854775807) (hs : Int) (s0 : -9223372036854775808 ≤ hs) (s1 : hs ≤ 9223372036854775807) (ad : Option Addr) (la cap ab ao : Nat) (X : Nat → FOpV) (hX : Fc W ad la cap ab ao X) :
    Calls Try.prog 3 #[.int .i64 n, .int .i64 rs, .int .i64 hs, .slice ad la cap] W fun e w' => e = .returned (.bool true) ∧ Below W.heap.size W w' := by
  obtain ⟨z, hz, hz8⟩ : ∃ z : Nat, n % 12 = (z : Int) ∧ z < 12 := ⟨(n % 12).toNat, by omega, by omega⟩
  have HZ := hid hz
  have HX := hid hX
  have hlc := hX.len
  have hcm := hX.cap
  clear hz hX
  cases hnew : newOk (1 + z) rs hs
  · go_enter Try.func3, Try.ntmps3
    go_wp2_with (first
      | (go_at_call 8; refine (c_Place n 12 (by decide) (by decide) n0 n1 _).mono ?_; rw [HZ.out]; rintro r wz ⟨rfl, hwz⟩; obtain rfl := hwz.symm)
      | (go_at_call 9; refine (l_Mem W (1 + z) (by omega) (by omega) _ (by omega)).mono ?_; rintro r w1 ⟨m, dm, U, rfl, ht, hb, hu⟩; have HN := hid (h_NewB W w1 (1 + z) rs hs m dm U ht hnew); have HB := hid hb; clear ht hb hu)
      | (go_at_call 10; refine HN.out.mono ?_; rintro r w2 ⟨rfl, hw, hN⟩; obtain rfl := hw.symm; have HN2 := hid hN; clear hN)
      | (go_at_call 11; refine HN2.out.mono ?_; rintro r w2 ⟨rfl, hw⟩; obtain rfl := hw.symm)
      | (go_at_call 12; refine (l_awake9 _).mono ?_; rintro r w9 ⟨rfl, hb⟩; have HB9 := hid hb; clear hb))
    go_ret
    have b1 : Below W.heap.size W (w1.alloc (.cells #[.pointer (some ⟨m, 0, none⟩), .pointer (some ⟨dm, 0, none⟩)] 27)) := HB.out.alloc HB.out.size _
    exact ⟨rfl, b1.trans (HB9.out.mono b1.size)⟩
  · have hnw : ((0 ≤ rs ∧ rs ≤ ((1 + z : Nat) : Int)) ∧ 1 ≤ hs) ∧ hs ≤ 8 := by simpa [newOk] using hnew
    obtain ⟨R, rfl⟩ := Int.eq_ofNat_of_zero_le hnw.1.1.1
    obtain ⟨Hh, rfl⟩ := Int.eq_ofNat_of_zero_le (show 0 ≤ hs by omega)
    have hR : R ≤ 1 + z := by omega
    have hH0 : 0 < Hh := by omega
    have hH8 : Hh ≤ 8 := by omega
    clear hnw hnew
    go_enter Try.func3, Try.ntmps3
    go_wp2_with (first
      | (go_at_call 8; refine (c_Place n 12 (by decide) (by decide) n0 n1 _).mono ?_; rw [HZ.out]; rintro r wz ⟨rfl, hwz⟩; obtain rfl := hwz.symm)
      | (go_at_call 9; refine (l_Mem W (1 + z) (by omega) (by omega) _ (by omega)).mono ?_; rintro r w1 ⟨m, dm, U, rfl, ht, hb, hu⟩; have HN := hid (h_New1 W w1 (1 + z) R Hh m dm U ht hb hu hH0 hH8 hR); clear ht hb hu)
      | (go_at_call 10; refine HN.out.mono ?_; rintro r w2 ⟨p, rfl, hc1, hN⟩; have HN2 := hid hN; clear hN)
      | (go_at_call 11; refine HN2.out.mono ?_; rintro r w3 ⟨q, F, G, rfl, hp⟩; have HP := hid hp; clear hp))
    obtain ⟨b, hb⟩ : ∃ b, b = w1.heap.size := ⟨_, rfl⟩
    rw [← hb] at HP ⊢
    clear hb HN HN2 hc1
    go_loopw [16] (fun i wr => ∃ (j : Nat) (F G : Nat → Prop) (v : PV) (f : Nat → Int), j ≤ la ∧ i = .int .i64 j ∧ Hid (PD W wr b F G p q dm v v f f ∧ v.n = 1 + z ∧ v.m = m)) (fun i _ => la - (intOf i).toNat)
    case atStart => exact ⟨0, F, G, _, _, by omega, rfl, HP.out, rfl, rfl⟩
    case round =>
      clear HP
      obtain ⟨j, F, G, v, f, hj, rfl, hp⟩ := hrel
      by_cases hlt : j < la
      · obtain ⟨rfl, hab⟩ := HX.out.at0 (by omega)
        have hcell := fun i hi => (HX.out.below hp.out.1.new).cell j hlt i hi
        have x0 := hcell 0 (by decide)
        have x1 := hcell 1 (by decide)
        have x2 := hcell 2 (by decide)
        simp [FOpV.cs] at x0 x1 x2
        obtain ⟨⟨k0, k1⟩, ⟨t0, t1⟩, ⟨o0, o1⟩⟩ := HX.out.num j hlt
        generalize X j = Y at x0 x1 x2 k0 k1 t0 t1 o0 o1
        obtain ⟨xk, xn, xv⟩ := Y
        simp only at x0 x1 x2 k0 k1 t0 t1 o0 o1
        clear hcell
        go_upto_region 15 with fail
        obtain ⟨g1, g3⟩ := hp.out.1.el xk xn xv
        obtain ⟨wa, hwa⟩ : ∃ wa, wa = wr.alloc (.cells #[.int .i64 xk, .int .i64 xn, .int .u64 xv] 40) := ⟨_, rfl⟩
        obtain ⟨bx, hbx⟩ : ∃ bx, bx = wr.heap.size := ⟨_, rfl⟩
        rw [← hwa] at g1 g3 ⊢
        rw [← hbx] at g3 ⊢
        have hn := hid hp.out.2
        have HA := hid g1
        have HB := hid g3
        clear hwa hbx hp g1 g3 x0 x1 x2
        have c0 : wa.cell? ⟨bx, 0, none⟩ = some (.int .i64 xk) := cell_of_row wa bx 0 _ _ _ HB.out
        have c1 : wa.cell? ⟨bx, 1, none⟩ = some (.int .i64 xn) := cell_of_row wa bx 1 _ _ _ HB.out
        have c2 : wa.cell? ⟨bx, 2, none⟩ = some (.int .u64 xv) := cell_of_row wa bx 2 _ _ _ HB.out
        go_upto_block 2 with (go_at_call 8; refine (c_Place xk 5 (by decide) (by decide) k0 k1 _).mono ?_; rintro e1 wz ⟨rfl, hwz⟩; obtain rfl := hwz.symm)
        go_cut [18, 19, 20, 21, 22, 23] from 77 to 144 (fun s a e a2 e2 k wx => s = .bool true ∧ ∃ (F G : Nat → Prop) (v : PV) (f : Nat → Int), Hid (PD W wx b F G p q dm v v f f ∧ v.n = 1 + z ∧ v.m = m))
        case first =>
          clear c0
          rcases (show xk % 5 = 0 ∨ xk % 5 = 1 ∨ xk % 5 = 2 ∨ xk % 5 = 3 ∨ xk % 5 = 4 by omega) with hK | hK | hK | hK | hK
          · rw [hK]
            obtain ⟨a, e, v', ht, hs1, hs2⟩ : ∃ a e v', tk v xn = (a, e, v') ∧ v'.n = v.n ∧ v'.m = v.m := ⟨_, _, _, rfl, tk_same v xn⟩
            have HT := hid ht
            have HS := hid (And.intro hs1 hs2)
            clear hK ht hs1 hs2
            go_wp2_with (first
              | (go_at_call 13; refine (f_Take _ _ _ _ _ _ _ _ _ _ _ _ HA.out xn a e v' HT.out).mono ?_; rintro r w3 ⟨rfl, F3, hl, hk⟩; have HL3 := hid hl; have c3 : w3.cell? ⟨bx, 1, none⟩ = some (.int .i64 xn) := cell_of_row w3 bx 1 _ _ _ (hk.cell (k := 1) HB.out); clear hl hk)
              | (go_at_call 14; refine (g_Take _ _ _ _ _ _ _ _ _ _ _ _ HL3.out xn a e v' HT.out).mono ?_; rintro r w4 ⟨rfl, G4, hl, hk⟩; have HL4 := hid hl; clear hl hk))
            go_meet
            exact ⟨by first | rfl | simp, F3, G4, v', f, HL4.out, HS.out.1.trans hn.out.1, HS.out.2.trans hn.out.2⟩
          · rw [hK]
            obtain ⟨e, v', ht, hs1, hs2⟩ : ∃ e v', rl v xn = (e, v') ∧ v'.n = v.n ∧ v'.m = v.m := ⟨_, _, rfl, rl_same v xn⟩
            have HT := hid ht
            have HS := hid (And.intro hs1 hs2)
            have HAd := hid (HA.out.below (Below.refl _ _).drew)
            have hR1 := f_Release _ _ _ _ _ _ _ _ _ _ _ _ HAd.out xn e v' ht
            clear hK ht hs1 hs2
            go_wp2_with fail
            go_region_law (first
              | (refine step_call rfl 15 (.tmp 104) (.tmp 106) _ _ rfl (.pointer (some ⟨p, 0, none⟩)) (.int .i64 xn) (by go_simp) (by go_simp) (Try.call15 _ _) hR1 ?_; rintro r w3 ⟨rfl, F3, hl, hk⟩; have HL3 := hid hl; have c3 : w3.cell? ⟨bx, 1, none⟩ = some (.int .i64 xn) := cell_of_row w3 bx 1 _ _ _ (hk.cell (k := 1) HB.out); have hR2 := g_Release _ _ _ _ _ _ _ _ _ _ _ _ hl xn e v' HT.out; clear hl hk; refine ⟨_, rfl, ?_⟩)
              | (refine step_call rfl 16 (.tmp 108) (.tmp 110) _ _ rfl (.pointer (some ⟨q, 0, none⟩)) (.int .i64 xn) (by go_simp) (by go_simp) (Try.call16 _ _) hR2 ?_; rintro r w4 ⟨rfl, G4, hl, hk⟩; have HL4 := hid hl; clear hl hk; refine ⟨_, rfl, ?_⟩))
            all_goals (
              go_wp2_with fail
              go_meet
              exact ⟨by first | rfl | simp, F3, G4, v', f, HL4.out, HS.out.1.trans hn.out.1, HS.out.2.trans hn.out.2⟩)
          · rw [hK]
            by_cases h63 : xn = 63
            · subst h63
              have HS := hid (ak_same2 v 62)
              go_wp2_with (first
                | (go_at_call 17; refine (f_Ack _ _ _ _ _ _ _ _ _ _ _ _ HA.out 62 _ _ _ rfl rfl rfl).mono ?_; rintro r w3 ⟨rfl, F3, hl, hk⟩; have HL3 := hid hl; clear hl hk)
                | (go_at_call 18; refine (g_Ack _ _ _ _ _ _ _ _ _ _ _ _ HL3.out 62 (by decide) _ _ _ rfl rfl rfl).mono ?_; rintro r w4 ⟨rfl, G4, hl, hk⟩; have HL4 := hid hl; clear hl hk))
              go_meet
              exact ⟨by first | rfl | simp, F3, G4, _, _, HL4.out, HS.out.1.trans hn.out.1, HS.out.2.trans hn.out.2⟩
            · have HS := hid (ak_same2 v xn)
              have H63 := hid h63
              go_wp2_with (first
                | (go_at_call 17; refine (f_Ack _ _ _ _ _ _ _ _ _ _ _ _ HA.out xn _ _ _ rfl rfl rfl).mono ?_; rintro r w3 ⟨rfl, F3, hl, hk⟩; have HL3 := hid hl; clear hl hk)
                | (go_at_call 18; refine (g_Ack _ _ _ _ _ _ _ _ _ _ _ _ HL3.out xn H63.out _ _ _ rfl rfl rfl).mono ?_; rintro r w4 ⟨rfl, G4, hl, hk⟩; have HL4 := hid hl; clear hl hk))
              go_meet
              exact ⟨by first | rfl | simp, F3, G4, _, _, HL4.out, HS.out.1.trans hn.out.1, HS.out.2.trans hn.out.2⟩
          · rw [hK]
            go_wp2_with (first
              | (go_at_call 19; refine (f_AckD _ _ _ _ _ _ _ _ _ _ _ _ HA.out _ _ _ rfl rfl rfl).mono ?_; rintro r w3 ⟨rfl, F3, hl, hk⟩; have HL3 := hid hl; clear hl hk)
              | (go_at_call 18; refine (g_AckP _ _ _ _ _ _ _ _ _ _ _ _ HL3.out 8 (by decide) 63 rfl (.inl rfl) _ _ _ rfl rfl rfl).mono ?_; rintro r w4 ⟨rfl, G4, hl, hk⟩; have HL4 := hid hl; clear hl hk))
            go_meet
            exact ⟨by first | rfl | simp, F3, G4, _, _, HL4.out, hn.out⟩
          · rw [hK]
            obtain ⟨y, hy, hyz⟩ : ∃ y : Nat, xn % (1 + (z : Int)) = (y : Int) ∧ y < 1 + z := ⟨(xn % (1 + (z : Int))).toNat, by have := Int.emod_nonneg xn (show 1 + (z : Int) ≠ 0 by omega); omega, by have := Int.emod_lt_of_pos xn (show 0 < 1 + (z : Int) by omega); omega⟩
            have HY := hid hy
            clear hy hK
            have HAd := hid (HA.out.below (Below.refl _ _).drew)
            have d0 : wa.cell? ⟨b, 0, none⟩ = some (.pointer (some ⟨m, 0, none⟩)) := by rw [← hn.out.2]; exact HA.out.tb.c0
            have d1 : wa.cell? ⟨b, 1, none⟩ = some (.pointer (some ⟨dm, 0, none⟩)) := HA.out.tb.c1
            obtain ⟨of, hof⟩ : ∃ of : Nat, of = 4096 * y := ⟨_, rfl⟩
            have HW := hid (wrapOff y of (by omega) hof)
            have HW2 := hid (wrapOff2 y of (by omega) hof)
            have hWr := h_Write _ _ _ _ _ _ _ _ _ _ HAd.out of (by rw [hn.out.1]; omega) (of : Int) xv rfl o0 o1
            clear hof
            rw [hn.out.2] at hWr
            go_wp2_with fail
            go_region_law (first
              | (refine step_call rfl 8 (.tmp 137) (.tmp 138) _ _ rfl (.int .i64 xn) (.int .i64 (1 + (z : Int))) (by go_simp) (by go_simp) (Try.call8 _ _) (c_Place xn (1 + (z : Int)) (by omega) (by omega) t0 t1 _) ?_; rintro e w4 ⟨rfl, hw4⟩; obtain rfl := hw4.symm; rw [HY.out]; refine ⟨_, rfl, ?_⟩)
              | (refine step_call4 rfl 20 (.tmp 135) (.tmp 141) (.const (.int .i64 8)) (.tmp 143) _ rfl (.agg #[.pointer (some ⟨m, 0, none⟩), .pointer (some ⟨dm, 0, none⟩)]) (.int .u64 (of : Int)) (.int .i64 8) (.int .u64 xv) (by go_simp) (by go_simp; first | exact HW.out | exact HW2.out) rfl (by go_simp) (Try.call20 _ _) hWr ?_; rintro e w4 ⟨rfl, F4, G4, hl⟩; have HL4 := hid hl; clear hl; refine ⟨_, rfl, ?_⟩))
            all_goals (
              go_wp2_with fail
              go_meet
              exact ⟨by first | rfl | simp, F4, G4, v, _, HL4.out, hn.out⟩)
        case rest =>
          clear HA HB hn c1 c2 c0
          obtain ⟨rfl, F, G, v, f, hp⟩ := hcut
          go_wp2_with fail
          go_loopw [24] (fun i wr => ∃ a : Int, -1 ≤ a ∧ a ≤ 2 + (z : Int) ∧ i = .int .i64 a ∧ Hid (wr = wc)) (fun i _ => (3 + (z : Int) - intOf i).toNat)
          case atStart => exact ⟨-1, by omega, by omega, rfl, rfl⟩
          case round =>
            obtain ⟨a, ha0, ha1, rfl, hw⟩ := hrel
            obtain rfl := hw.out.symm
            by_cases hla : a ≤ 1 + (z : Int)
            · have hO1 := f_Owner _ _ _ _ _ _ _ _ _ _ _ _ hp.out.1 a
              have hO2 := g_Owner _ _ _ _ _ _ _ _ _ _ _ _ hp.out.1 a
              have hW1 := f_Waits _ _ _ _ _ _ _ _ _ _ _ _ hp.out.1 a
              have hW2 := g_Bits _ _ _ _ _ _ _ _ _ _ _ _ hp.out.1 a
              generalize ownF v a = oo at *
              generalize waitF v a = ww at *
              go_wp2_with (first
                | (go_at_call 21; refine hO1.mono ?_; rintro r w3 ⟨rfl, hw3⟩; obtain rfl := hw3.symm)
                | (go_at_call 22; refine hO2.mono ?_; rintro r w3 ⟨rfl, hw3⟩; obtain rfl := hw3.symm)
                | (go_at_call 23; refine hW1.mono ?_; rintro r w3 ⟨rfl, hw3⟩; obtain rfl := hw3.symm)
                | (go_at_call 24; refine hW2.mono ?_; rintro r w3 ⟨rfl, hw3⟩; obtain rfl := hw3.symm))
              go_roundw
              case rel => exact ⟨a + 1, by omega, by omega, by go_num, trivial⟩
              case measure => first | (simp [intOf]; done) | (simp [intOf]; omega)
            · obtain rfl : a = 2 + (z : Int) := by omega
              go_wp2_with fail
              go_loopw [25] (fun i wr => ∃ a : Int, -2 ≤ a ∧ a ≤ 9 ∧ i = .int .i64 a ∧ Hid (wr = wc)) (fun i _ => (10 - intOf i).toNat)
              case atStart => exact ⟨-2, by omega, by omega, rfl, rfl⟩
              case round =>
                obtain ⟨a, ha0, ha1, rfl, hw⟩ := hrel
                obtain rfl := hw.out.symm
                by_cases hla : a ≤ 8
                · have hO1 := f_Count _ _ _ _ _ _ _ _ _ _ _ _ hp.out.1 a
                  have hO2 := g_Count _ _ _ _ _ _ _ _ _ _ _ _ hp.out.1 a
                  generalize cnt v.o a v.n = oo at *
                  go_wp2_with (first
                    | (go_at_call 25; refine hO1.mono ?_; rintro r w3 ⟨rfl, hw3⟩; obtain rfl := hw3.symm)
                    | (go_at_call 26; refine hO2.mono ?_; rintro r w3 ⟨rfl, hw3⟩; obtain rfl := hw3.symm))
                  go_roundw
                  case rel => exact ⟨a + 1, by omega, by omega, by go_num, trivial⟩
                  case measure => first | (simp [intOf]; done) | (simp [intOf]; omega)
                · obtain rfl : a = 9 := by omega
                  go_wp2_with fail
                  go_roundw
                  case rel => exact ⟨j + 1, F, G, v, f, by omega, by go_num, hp.out⟩
                  case measure => first | (simp [intOf]; done) | (simp [intOf]; omega)
      · obtain rfl : j = la := by omega
        have d0 := hp.out.1.tb.c0
        have d1 := hp.out.1.tb.c1
        rw [hp.out.2.2] at d0
        have hS := h_Same _ _ _ _ _ _ _ _ _ _ hp.out.1
        rw [hp.out.2.2] at hS
        go_wp2_with (first
          | (go_at_call 27; refine hS.mono ?_; rintro r w3 ⟨rfl, hb⟩; have HB3 := hid hb; clear hb)
          | (go_at_call 12; refine (l_awake9 _).mono ?_; rintro r w4 ⟨rfl, hb⟩; have HB4 := hid hb; clear hb))
        go_ret
        have b1 := hp.out.1.new.trans (HB3.out.mono hp.out.1.new.size)
        exact ⟨rfl, b1.trans (HB4.out.mono b1.size)⟩
end Go.Proofs.Ytehghhonhfmieaa
