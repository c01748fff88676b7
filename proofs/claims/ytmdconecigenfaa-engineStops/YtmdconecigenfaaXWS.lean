/- EngineStops: a running engine takes only a stop. -/
import Derived.Test.YtmdconecigenfaaXX
import Derived.Deep.DeepCutAuto
namespace Go.Proofs.Ytmdconecigenfaa
open Go.RowKit
open C (Only hid Mem Still ret_int ret_bool put byt nu hasB RMem TB Cl fcl Tw c_Place c_Same Sl)
set_option linter.unusedVariables false
set_option maxRecDepth 100000

theorem f_StepT (W w : World) (b e : Nat) (v : EV) (S T : Nat → Prop) (p q : Nat) (bs : Int) (n : Nat) (f h : Nat → Int) (H : FL W w b e v S T p q bs n f h) (g i : Int) (k : Bool) (r f' : Nat → Int) (hs : stN (FlG p bs n) v.r f = ((g, i, k), r, f')) :
    Calls Try.prog 11 #[.pointer (some ⟨e, 0, none⟩)] w fun x w' => x = .returned (.tuple #[.agg #[.int .i64 g, .int .i64 i], .bool k]) ∧ ∃ S', FL W w' b e (v.wr r) S' T p q bs n f' h ∧ Te w e S w' S' := by
  refine (x_Step (flC p bs n v.dev) w e v H.eg H.vm H.vg rfl H.rb S f H.mm).mono ?_
  rw [hs]
  rintro x w' ⟨rfl, h1, F', h2, h3⟩
  refine ⟨rfl, F', H.turn h3 h1 h2 rfl rfl ?_, h3⟩
  have := stN_b (G := FlG p bs n) f H.rb
  rw [hs] at this
  exact this
def X3 : Nat → Int × Int
  | 0 => (0, 7)
  | 1 => (1, 8)
  | _ => (2, 9)
theorem cl3 (w : World) : Cl (w.alloc (.cells #[.int .i64 0, .int .u64 7, .int .i64 1, .int .u64 8, .int .i64 2, .int .u64 9] 47)) (some ⟨w.heap.size, 0, none⟩) 3 3 w.heap.size 0 X3 where
  len := Nat.le_refl _
  cap := by decide
  at0 := fun _ => ⟨rfl, by simp⟩
  cell := fun i hi => by
    have h := heap_alloc_new w (.cells #[.int .i64 0, .int .u64 7, .int .i64 1, .int .u64 8, .int .i64 2, .int .u64 9] 47)
    match i, hi with
    | 0, _ => exact ⟨cell_of_row _ _ 0 _ _ _ h, cell_of_row _ _ 1 _ _ _ h⟩
    | 1, _ => exact ⟨cell_of_row _ _ 2 _ _ _ h, cell_of_row _ _ 3 _ _ _ h⟩
    | 2, _ => exact ⟨cell_of_row _ _ 4 _ _ _ h, cell_of_row _ _ 5 _ _ _ h⟩
  num := fun i _ => by unfold X3; split <;> decide
theorem rB_z (b k : Int) : bgE (eu (eu (fun _ => 0) 1 b) 2 k) = rB 0 b k := by
  unfold rB
  rw [show eu (fun _ => (0 : Int)) 0 0 = fun _ => 0 from by funext j; unfold eu; split <;> rfl]
theorem rS_stop (a b k c : Int) : cmE (rS a b k c 1) (2 % 4294967296) = rS a b k c 0 := by
  show eu (rS a b k c 1) 3 0 = _
  exact rS_eu3 a b k c 1 0
def stp (off size v : Int) : Bool := (size == 4 || size == 8) && off == 24 && v / 2 % 2 == 1
theorem stp_wr (a b k c off size v : Int) (v0 : 0 ≤ v) : (bif okE off size then wrE (rS a b k c 1) off size v else rS a b k c 1) = rS a b k c (bif stp off size v then 0 else 1) := by
  have hcm : ∀ x : Int, cmE (rS a b k c 1) x = bif x / 2 % 2 == 1 then rS a b k c 0 else rS a b k c 1 := fun x => by
    unfold cmE
    rw [show (rS a b k c 1 3 == 1) = true from rfl, rS_eu3]
    have : x / 2 % 2 = 0 ∨ x / 2 % 2 = 1 := by omega
    rcases this with h | h <;> rw [h] <;> cases (x % 2 != 0) <;> rfl
  by_cases ho : off = 24
  · subst ho
    have hw : ∀ sz, wrE (rS a b k c 1) 24 sz v = cmE (rS a b k c 1) (vlE 24 sz v) := fun sz => rfl
    by_cases h8 : size = 8
    · subst h8
      rw [show okE 24 8 = true from rfl, show stp 24 8 v = (v / 2 % 2 == 1) from rfl, hw]
      show cmE (rS a b k c 1) v = _
      rw [hcm]
      cases (v / 2 % 2 == 1) <;> rfl
    · by_cases h4 : size = 4
      · subst h4
        rw [show okE 24 4 = true from rfl, show stp 24 4 v = (v / 2 % 2 == 1) from rfl, hw]
        show cmE (rS a b k c 1) (v % 4294967296) = _
        rw [hcm, show v % 4294967296 / 2 % 2 = v / 2 % 2 by omega]
        cases (v / 2 % 2 == 1) <;> rfl
      · have h1 : okE 24 size = false := by unfold okE cutF; simp [h8, h4]
        have h2 : stp 24 size v = false := by unfold stp; simp [h8, h4]
        rw [h1, h2]; rfl
  · have h2 : stp off size v = false := by unfold stp; simp [ho]
    rw [h2]
    unfold wrE
    rw [show (rS a b k c 1 3 == 1) = true from rfl, show (off == 24) = false by simpa using ho]
    cases okE off size <;> rfl
set_option maxHeartbeats 2000000 in
theorem w_EngineStops (W : World) (n : Int) (n0 : -9223372036854775808 ≤ n) (n1 : n ≤ 9223372036854775807) (s : Int) (s0 : -9223372036854775808 ≤ s) (s1 : s ≤ 9223372036854775807) (off : Int) (o0 : 0 ≤ off) (o1 : off < 18446744073709551616) (size : Int) (z0 : -9223372036854775808 ≤ size) (z1 : size ≤ 9223372036854775807) (v : Int) (v0 : 0 ≤ v) (v1 : v < 18446744073709551616) :
    Calls Try.prog 6 #[.int .i64 n, .int .i64 s, .int .u64 off, .int .i64 size, .int .u64 v] W fun e w' => e = .returned (.bool true) ∧ Below W.heap.size W w' := by
  obtain ⟨xx, hxx, xx0, xx1⟩ : ∃ xx : Int, n % 100 = xx ∧ 0 ≤ xx ∧ xx < 100 := ⟨_, rfl, by omega, by omega⟩
  obtain ⟨kk, hkk⟩ : ∃ kk : Int, kk = 3 + xx := ⟨_, rfl⟩
  obtain ⟨dd, hdd⟩ : ∃ dd : Nat, s % kk = (dd : Int) := ⟨(s % kk).toNat, by have := Int.emod_nonneg s (show kk ≠ 0 by omega); omega⟩
  have ddl : (dd : Int) < kk := by have := Int.emod_lt_of_pos s (show 0 < kk by omega); omega
  have Hxx : Hid (n % 100 = kk - 3) := hid (by omega)
  have Hyy := hid hdd
  have kk0 : 3 ≤ kk := by omega
  have kk1 : kk < 103 := by omega
  clear hxx hdd hkk xx0 xx1 xx
  have e3 : 3 + (kk - 3) = kk := by omega
  have T1 : Hid True := hid trivial
  have T2 : Hid True := hid trivial
  have TW : Hid True := hid trivial
  have P0 : Hid True := hid trivial
  have hok : okB 0 8192 (8 * kk) = true := by unfold okB; simp; omega
  go_enter Try.func6, Try.ntmps6
  go_wp2_with (first
    | (go_at_call 18; refine (l_flat _ _ 3 3 _ 0 X3 (cl3 W)).mono ?_; rintro r w1 ⟨e, p, q, U, rfl, g1, g2, g3, g4, g5⟩; have hb0 : Below W.heap.size W (W.alloc (.cells #[.int .i64 0, .int .u64 7, .int .i64 1, .int .u64 8, .int .i64 2, .int .u64 9] 47)) := (Below.refl _ _).alloc (Nat.le_refl _) _; obtain ⟨S, T, hL⟩ := FlPost.lay (W := W) g1 g2 (hb0.trans (g3.mono hb0.size)) (fun k hk => ⟨Nat.le_trans hb0.size (g4 k hk).1, (g4 k hk).2⟩) (Nat.le_trans hb0.size g5); have HL := hid hL; clear g1 g2 g3 g4 g5 hL hb0)
    | (go_at_call 9; have t := P0; clear t P0; refine (c_Place n 100 (by decide) (by decide) n0 n1 _).mono ?_; rw [Hxx.out]; rintro r wz ⟨rfl, hwz⟩; obtain rfl := hwz.symm)
    | (go_at_call 9; refine (c_Place s kk (by omega) (by omega) s0 s1 _).mono ?_; rw [Hyy.out]; rintro r wz ⟨rfl, hwz⟩; obtain rfl := hwz.symm)
    | (go_at_call 10; have t := T1; clear t T1; refine (f_Write _ _ _ _ _ _ _ _ _ _ _ _ _ HL.out 8 8 8192 (by decide) (by decide) (by decide) (by decide) true rfl (eu (fun _ => 0) 1 8192) (f_W8 (fun _ => 0) rfl 8192).2.1).mono ?_; rintro r wx2 ⟨rfl, hL⟩; have HLx2 := hid hL; clear hL)
    | (go_at_call 10; have t := T2; clear t T2; refine (f_Write _ _ _ _ _ _ _ _ _ _ _ _ _ HLx2.out 16 8 (8 * kk) (by omega) (by omega) (by decide) (by decide) true rfl (eu (eu (fun _ => 0) 1 8192) 2 (8 * kk)) (f_W8 (eu (fun _ => 0) 1 8192) rfl (8 * kk)).2.2.1).mono ?_; rintro r wx3 ⟨rfl, hL⟩; have HLx3 := hid hL; clear hL)
    | (go_at_call 10; have t := TW; clear t TW; refine (f_Write _ _ _ _ _ _ _ _ _ _ _ _ _ HLx3.out 24 4 1 (by decide) (by decide) (by decide) (by decide) true rfl (bgE (eu (eu (fun _ => 0) 1 8192) 2 (8 * kk))) ((f_W4 (eu (eu (fun _ => 0) 1 8192) 2 (8 * kk)) 1).trans (cm_1 (eu (eu (fun _ => 0) 1 8192) 2 (8 * kk)) rfl))).mono ?_; rintro r wx4 ⟨rfl, hL⟩; have HLb := hid (FL.rn hL (v' := (e0 p).wr (rB 0 8192 (8 * kk))) (congrArg (EV.wr (e0 p)) (rB_z _ _))); clear hL))
  have HS0 := hid (FL.rn HLb.out (v' := (e0 p).wr (rS 0 8192 (8 * kk) 0 1)) (by rw [rB_S, hok]; rfl))
  clear HL HLx2 HLx3 HLb hok
  obtain ⟨b, hb⟩ : ∃ b, b = w1.heap.size := ⟨_, rfl⟩
  rw [← hb] at HS0
  rw [← hb]
  clear hb
  go_loopw [16] (fun i wr => ∃ (c : Nat) (S1 : Nat → Prop) (f : Nat → Int), c ≤ dd ∧ i = .int .i64 c ∧ FL W wr b e ((e0 p).wr (rS 0 8192 (8 * kk) (8 * (c : Int)) 1)) S1 T p q 0 4 f (fcl 4 X3 3)) (fun i _ => dd - (intOf i).toNat)
  case atStart => exact ⟨0, _, _, by omega, rfl, HS0.out⟩
  case round =>
    clear HS0
    obtain ⟨c, S1, f, hc, rfl, hl⟩ := hrel
    have HC := hid hl
    by_cases hlt : c < dd
    · have hst := fl_ok p 0 4 f 0 8192 (8 * kk) (8 * (c : Int)) (by rw [w64_id (by omega) (by omega)]; exact has_in (by omega) (by omega)) (by rw [w64_id (by omega) (by omega)]; exact has_in (by omega) (by omega)) (by omega) (by omega)
      have he8 : (8 * (c : Int) + 8 == 8 * kk) = false := by simp; omega
      rw [he8] at hst
      have HST := hid hst
      clear hst hl
      go_wp2_with (first
        | (go_at_call 11; refine (f_Step _ _ _ _ _ _ _ _ _ _ _ _ _ HC.out 0 0 false _ _ HST.out).mono ?_; rintro r w4 ⟨rfl, S4, hL⟩; have H4 := hid hL; clear hL))
      go_roundw
      case rel => exact ⟨c + 1, S4, _, by omega, by go_num, by rw [show (8 * ((c + 1 : Nat) : Int)) = 8 * (c : Int) + 8 by omega]; exact H4.out⟩
      case measure => simp [intOf]; omega
    · obtain rfl : c = dd := by omega
      have c0 := hl.tb.c0
      clear hl
      go_upto_region 10 with fail
      obtain ⟨wo, hwo⟩ : ∃ wo, wr = wo := ⟨_, rfl⟩
      rw [hwo] at HC c0 ⊢
      clear hwo wr
      go_cut [17] (fun x wx => x = .bool (stp off size v) ∧ wx = wo)
      case first =>
        have hfin : ∀ x : Bool, x = stp off size v → Value.bool x = .bool (stp off size v) := fun x h => by rw [h]
        by_cases h4 : size = 4
        · subst h4
          by_cases ho : off = 24
          · subst ho
            by_cases hv : v / 2 % 2 = 1
            · go_wp2
              go_meet
              exact ⟨hfin _ (by unfold stp; simp [hv]), rfl⟩
            · go_wp2
              go_meet
              exact ⟨hfin _ (by unfold stp; simp), rfl⟩
          · go_wp2
            go_meet
            exact ⟨hfin _ (by unfold stp; simp [ho]), rfl⟩
        · by_cases h8 : size = 8
          · subst h8
            by_cases ho : off = 24
            · subst ho
              by_cases hv : v / 2 % 2 = 1
              · go_wp2
                go_meet
                exact ⟨hfin _ (by unfold stp; simp [hv]), rfl⟩
              · go_wp2
                go_meet
                exact ⟨hfin _ (by unfold stp; simp), rfl⟩
            · go_wp2
              go_meet
              exact ⟨hfin _ (by unfold stp; simp [ho]), rfl⟩
          · have n4 : (size == 4) = false := by simpa using h4
            have n8 : (size == 8) = false := by simpa using h8
            go_wp2
            go_meet
            exact ⟨hfin _ (by unfold stp; rw [n4, n8]; rfl), rfl⟩
      case rest =>
        obtain ⟨rfl, rfl⟩ := hcut
        have hsw := stp_wr 0 8192 (8 * kk) (8 * (c : Int)) off size v v0
        have TX : Hid True := hid trivial
        have TY : Hid True := hid trivial
        have TZ : Hid True := hid trivial
        have TQ : Hid True := hid trivial
        cases hst : stp off size v
        · rw [hst] at hsw
          have HSW := hid hsw
          clear hsw
          go_wp2_with (first
          | (go_at_call 10; have t := TX; clear t TX; refine (f_Write _ _ _ _ _ _ _ _ _ _ _ _ _ HC.out off size v v0 v1 o0 o1 _ rfl (rS 0 8192 (8 * kk) (8 * (c : Int)) 1) HSW.out).mono ?_; rintro r w3 ⟨rfl, hL⟩; have H3 := hid hL; clear hL)
          | (go_at_call 15; have t := TY; clear t TY; refine (f_Read _ _ _ _ _ _ _ _ _ _ _ _ _ H3.out 8 8 (by decide) (by decide) true rfl 8192 rfl).mono ?_; rintro r w4 ⟨rfl, hL⟩; have H4 := hid hL; clear hL)
          | (go_at_call 15; refine (f_Read _ _ _ _ _ _ _ _ _ _ _ _ _ H4.out 16 8 (by decide) (by decide) true rfl (8 * kk) rfl).mono ?_; rintro r w5 ⟨rfl, hL⟩; have H5 := hid hL; have c0 := H5.out.tb.c0; clear hL)
          | (go_at_call 12; have t := TZ; clear t TZ; refine (x_BusyB _ _ _ H5.out.eg true rfl).mono ?_; rintro r wb ⟨rfl, hw⟩; obtain rfl := hw.symm)
          | (go_at_call 10; refine (f_Write _ _ _ _ _ _ _ _ _ _ _ _ _ H5.out 24 4 2 (by decide) (by decide) (by decide) (by decide) true rfl (rS 0 8192 (8 * kk) (8 * (c : Int)) 0) ((f_W4 _ 2).trans (rS_stop _ _ _ _))).mono ?_; rintro r w6 ⟨rfl, hL⟩; have H6 := hid hL; clear hL)
          | (go_at_call 12; refine (x_BusyB _ _ _ H6.out.eg false rfl).mono ?_; rintro r wb ⟨rfl, hw⟩; obtain rfl := hw.symm)
          | (go_at_call 17; refine (l_awake8 _).mono ?_; rintro r w8 ⟨rfl, hb⟩; have HB8 := hid hb; clear hb))
          go_ret
          exact ⟨rfl, H6.out.new.trans (HB8.out.mono H6.out.new.size)⟩
        · rw [hst] at hsw
          have HSW := hid hsw
          clear hsw
          go_wp2_with (first
          | (go_at_call 10; have t := TX; clear t TX; refine (f_Write _ _ _ _ _ _ _ _ _ _ _ _ _ HC.out off size v v0 v1 o0 o1 _ rfl (rS 0 8192 (8 * kk) (8 * (c : Int)) 0) HSW.out).mono ?_; rintro r w3 ⟨rfl, hL⟩; have H3 := hid hL; clear hL)
          | (go_at_call 15; have t := TY; clear t TY; refine (f_Read _ _ _ _ _ _ _ _ _ _ _ _ _ H3.out 8 8 (by decide) (by decide) true rfl 8192 rfl).mono ?_; rintro r w4 ⟨rfl, hL⟩; have H4 := hid hL; clear hL)
          | (go_at_call 15; refine (f_Read _ _ _ _ _ _ _ _ _ _ _ _ _ H4.out 16 8 (by decide) (by decide) true rfl (8 * kk) rfl).mono ?_; rintro r w5 ⟨rfl, hL⟩; have H5 := hid hL; have c0 := H5.out.tb.c0; clear hL)
          | (go_at_call 12; have t := TZ; clear t TZ; refine (x_BusyB _ _ _ H5.out.eg false rfl).mono ?_; rintro r wb ⟨rfl, hw⟩; obtain rfl := hw.symm)
          | (go_at_call 19; refine (C.c_Copy _ S1 p 0 4 f H5.out.mm).mono ?_; rintro r w6 ⟨p', S', rfl, m1, m2, m3⟩; have M1 := hid m1; have H6 := hid (H5.out.below m2); have M3 : Hid (∀ k, S' k → ¬ (k = e ∨ S1 k)) := hid (fun k hk z => by have := m3 k hk; rcases z with z | z; have := H5.out.eg.lt; omega; have := H5.out.mm.lt z; omega); clear m1 m2 m3)
          | (go_at_call 11; refine (f_StepT _ _ _ _ _ _ _ _ _ _ _ _ _ H6.out 0 0 false _ _ (st_idle _ _ _ (show (rS 0 8192 (8 * kk) (8 * (c : Int)) 0 3 == 1) = false from rfl))).mono ?_; rintro r w7 ⟨rfl, S7, y1, y3⟩; have M7 := hid (M1.out.only y3.1 M3.out); have H7 := hid y1; have c0 := H7.out.tb.c0; clear y1 y3)
          | (go_at_call 20; have t := TQ; clear t TQ; refine (C.c_Bytes _ S' p' 0 4 f M7.out 0 16384 (by decide) 0 rfl).mono ?_; rintro r w8 ⟨b1, rfl, g1, g2, g3⟩; have G1 := hid g1; have H8 := hid (H7.out.below g3); have c0 := H8.out.tb.c0; clear g1 g2 g3)
          | (go_at_call 20; refine (C.c_Bytes _ S7 p 0 4 f H8.out.mm 0 16384 (by decide) 0 rfl).mono ?_; rintro r w9 ⟨b2, rfl, g1, g2, g3⟩; have G2 := hid g1; have G1' := hid ((g3.block _ (lt_of_block G1.out)).trans G1.out); have H9 := hid (H8.out.below g3); clear g1 g2 g3)
          | (go_at_call 21; refine (C.c_SameBytes _ 16384 (by decide) _ _ _ _ (C.Sl.row G1'.out) (C.Sl.row G2.out) (fun _ _ => rfl)).mono ?_; rintro r w10 ⟨rfl, hs⟩; have H10 := hid (H9.out.below (hs.below _)); clear hs)
          | (go_at_call 17; refine (l_awake8 _).mono ?_; rintro r w11 ⟨rfl, hb⟩; have HB8 := hid hb; clear hb))
          go_ret
          exact ⟨rfl, H10.out.new.trans (HB8.out.mono H10.out.new.size)⟩
end Go.Proofs.Ytmdconecigenfaa
