/- A call of a script at both IOMMUs: kind 4. -/
import Derived.Test.YtmdconecigenfaaGreatMK4
import Derived.Test.YtmdconecigenfaaGreatMC4
namespace Go.Proofs.YtmdconecigenfaaGreat
open Go.RowKit
open C (Only hid Mem Still ret_int ret_bool put byt nu RMem hasB WB WB.cell Calls.wb wp_region_wb gst rdm c_Place)
set_option linter.unusedVariables false
set_option maxRecDepth 100000

set_option maxHeartbeats 2000000 in
theorem do_4g (w : World) (base : Nat) (F G : Nat → Prop) (u b q r : Nat) (v : UV) (n : Nat) (f : Nat → Int) (room : Nat) (L : List E.TV) (M : List MV) (h : PW w base F G u b q r v n f room L M) (X : OpV) (hX : OpB X) (hk : X.kind % 11 = 4) (c : Int) (v' : UV) (f' : Nat → Int) (L' : List E.TV) (M' : List MV) (nd : E.Nd L') (ms : MR v' M') (et : v'.t = v.t) (em : v'.m = v.m) (hlen : M'.length ≤ M.length + 1) (hP : ∀ wa, US wa F u v n f room L → Calls Tryz.prog 70 #[.pointer (some ⟨u, 0, none⟩), .int .i64 X.dev, .int .u64 X.data, .agg #[.int .i64 X.guest, .int .i64 X.irq]] wa fun e w1 => e = .returned (.int .i64 c) ∧ ∃ F', US w1 F' u v' n f' room L' ∧ Tn wa F w1 F') (hD : ∀ w1, DS w1 G base b q r v n f room L M → base ≤ w1.heap.size → Calls Tryz.prog 71 #[.pointer (some ⟨b, 0, none⟩), .int .i64 X.dev, .int .u64 X.data, .agg #[.int .i64 X.guest, .int .i64 X.irq]] w1 fun e w2 => e = .returned (.int .i64 c) ∧ ∃ G', DS w2 G' base b q r v' n f' room L' M' ∧ Td base w1 G w2 G') :
    Calls Tryz.prog 35 #[.agg #[.pointer (some ⟨u, 0, none⟩), .pointer (some ⟨b, 0, none⟩), .pointer (some ⟨v.m, 0, none⟩), .pointer (some ⟨q, 0, none⟩)], .agg #[.int .i64 X.kind, .int .i64 X.dev, .int .i64 X.size, .int .u64 X.addr, .int .u64 X.data, .bool X.write, .int .i64 X.guest, .int .i64 X.irq]] w fun e w' => e = .returned (.bool true) ∧ PQ w w' base F G u b q r n room v.t v.m M.length := by
  obtain ⟨k0, k1⟩ := hX.kind
  obtain ⟨d0, d1⟩ := hX.dev
  obtain ⟨s0, s1⟩ := hX.size
  obtain ⟨a0, a1⟩ := hX.addr
  obtain ⟨i0, i1⟩ := hX.data
  have HK := hid hk
  have hlt := fun k => @US.lt _ _ _ _ _ _ _ _ h.us k
  have hlg := fun k => @DS.lt _ _ _ _ _ _ _ _ _ _ _ _ h.ds k
  have HP := hid h
  clear h hX hk
  go_enter Tryz.func35, Tryz.ntmps35
  go_wp2_with fail
  obtain ⟨wa, hwa⟩ : ∃ wa, (w.alloc (.cells #[.pointer (some ⟨u, 0, none⟩), .pointer (some ⟨b, 0, none⟩), .pointer (some ⟨v.m, 0, none⟩), .pointer (some ⟨q, 0, none⟩)] 31)).alloc (.cells #[.int .i64 X.kind, .int .i64 X.dev, .int .i64 X.size, .int .u64 X.addr, .int .u64 X.data, .bool X.write, .int .i64 X.guest, .int .i64 X.irq] 79) = wa := ⟨_, rfl⟩
  have HBa : Hid (Below w.heap.size w wa) := hwa ▸ ((Below.refl _ _).alloc (Nat.le_refl _) _).alloc (by simp) _
  have HB0 : Hid (BX wa w.heap.size (w.heap.size + 1) u b v.m q X) := by
    refine ⟨?_, ?_⟩
    · rw [← hwa]; exact (Below.heap_alloc _ _ _ (by simp)).trans (heap_alloc_new w _)
    · rw [← hwa]
      have := heap_alloc_new (w.alloc (.cells #[.pointer (some ⟨u, 0, none⟩), .pointer (some ⟨b, 0, none⟩), .pointer (some ⟨v.m, 0, none⟩), .pointer (some ⟨q, 0, none⟩)] 31)) (.cells #[.int .i64 X.kind, .int .i64 X.dev, .int .i64 X.size, .int .u64 X.addr, .int .u64 X.data, .bool X.write, .int .i64 X.guest, .int .i64 X.irq] 79)
      rwa [show (w.alloc (.cells #[.pointer (some ⟨u, 0, none⟩), .pointer (some ⟨b, 0, none⟩), .pointer (some ⟨v.m, 0, none⟩), .pointer (some ⟨q, 0, none⟩)] 31)).heap.size = w.heap.size + 1 by simp] at this
  rw [hwa]
  clear hwa
  have HPa := hid (HP.out.below HBa.out)
  have HW0 : Hid (Kp base w F G wa F G) := Kp.below HBa.out HP.out.sz
  have nF0 : ¬ F w.heap.size := fun z => by have := hlt _ z; omega
  have nF1 : ¬ F (w.heap.size + 1) := fun z => by have := hlt _ z; omega
  have nG0 : ¬ G w.heap.size := fun z => by have := hlg _ z; omega
  have nG1 : ¬ G (w.heap.size + 1) := fun z => by have := hlg _ z; omega
  have HN := hid (And.intro nF0 (And.intro nF1 (And.intro nG0 nG1)))
  clear nF0 nF1 nG0 nG1 hlt hlg
  generalize w.heap.size + 1 = xb at *
  generalize hob : w.heap.size = ob at *
  go_at_call 16
  refine (c_Place X.kind 11 (by decide) (by decide) k0 k1 _).mono ?_
  rw [HK.out]
  rintro e wz ⟨rfl, hwz⟩
  obtain rfl := hwz.symm
  have tcu := HB0.out.cu
  have tcb := HB0.out.cb
  have tc1 := HB0.out.c1
  have tc4 := HB0.out.c4
  have tc6 := HB0.out.c6
  have tc7 := HB0.out.c7
  have HPc := hid hP
  have HDc := hid hD
  have HX := hid (And.intro nd ms)
  clear hP hD nd ms
  go_wp2_with fail
  clear tcu tcb tc1 tc4 tc6 tc7
  refine wp_region_any (by kernel_rfl) ?_
  refine C.wpAny_inv (fun listed fr wr => ∃ (b0 b1 b2 b3 b4 b5 b6 b7 b8 b9 b10 b11 b12 b13 b14 b15 b16 b17 b18 b19 : Bool), listed = #[b0, b1, b2, b3, b4, b5, b6, b7, b8, b9, b10, b11, b12, b13, b14, b15, b16, b17, b18, b19] ∧ fr = { tmps := #[.agg #[.pointer (some ⟨u, 0, none⟩), .pointer (some ⟨b, 0, none⟩), .pointer (some ⟨v.m, 0, none⟩), .pointer (some ⟨q, 0, none⟩)], .agg #[.int .i64 X.kind, .int .i64 X.dev, .int .i64 X.size, .int .u64 X.addr, .int .u64 X.data, .bool X.write, .int .i64 X.guest, .int .i64 X.irq], .pointer (some ⟨ob, 0, none⟩), .pointer (some ⟨xb, 0, none⟩), C.svd b19 (.bool true) (.bool false), undef, undef, undef, undef, undef, undef, undef, undef, undef, undef, undef, undef, .pointer (some ⟨xb, 0, none⟩), .int .i64 X.kind, .int .i64 4, .bool false, .bool false, undef, undef, undef, undef, undef, undef, undef, undef, undef, undef, undef, undef, undef, undef, undef, undef, undef, undef, undef, undef, undef, undef, undef, undef, undef, undef, undef, undef, undef, undef, undef, undef, undef, undef, undef, undef, .bool false, .bool false, undef, undef, undef, undef, undef, undef, undef, undef, undef, undef, undef, undef, undef, undef, undef, undef, undef, undef, undef, undef, undef, undef, undef, undef, undef, undef, undef, undef, undef, undef, undef, undef, .bool false, .bool false, undef, undef, undef, undef, undef, undef, undef, undef, undef, undef, undef, undef, undef, undef, undef, undef, undef, undef, undef, undef, undef, undef, undef, undef, undef, undef, undef, undef, .bool false, .bool false, undef, undef, undef, undef, undef, undef, undef, undef, undef, undef, undef, undef, undef, undef, undef, undef, undef, undef, undef, undef, undef, undef, undef, undef, .bool true, .bool true, C.svd b0 (.pointer (some ⟨ob, 0, none⟩)) (undef), C.svd b1 (.pointer (some ⟨u, 0, none⟩)) (undef), C.svd b2 (.pointer (some ⟨xb, 1, none⟩)) (undef), C.svd b3 (.int .i64 X.dev) (undef), C.svd b4 (.pointer (some ⟨xb, 4, none⟩)) (undef), C.svd b5 (.int .u64 X.data) (undef), C.svd b6 (.pointer (some ⟨xb, 6, none⟩)) (undef), C.svd b7 (.agg #[.int .i64 X.guest, .int .i64 X.irq]) (undef), C.svd b8 (.int .i64 c) (undef), C.svd b9 (.pointer (some ⟨ob, 1, none⟩)) (undef), C.svd b10 (.pointer (some ⟨b, 0, none⟩)) (undef), C.svd b11 (.pointer (some ⟨xb, 1, none⟩)) (undef), C.svd b12 (.int .i64 X.dev) (undef), C.svd b13 (.pointer (some ⟨xb, 4, none⟩)) (undef), C.svd b14 (.int .u64 X.data) (undef), C.svd b15 (.pointer (some ⟨xb, 6, none⟩)) (undef), C.svd b16 (.agg #[.int .i64 X.guest, .int .i64 X.irq]) (undef), C.svd b17 (.int .i64 c) (undef), C.svd b18 (.bool true) (undef), undef, undef, undef, undef, undef, undef, undef, undef, undef, undef, undef, undef, undef, undef, undef, undef, undef, undef, undef, undef, undef, undef, undef, undef, undef, undef, undef, undef, undef, undef, undef, undef, undef, undef, undef, undef, undef, undef, undef, undef, undef, undef, undef, undef, undef, undef, undef, undef, undef, undef, undef, undef, undef, undef, undef, undef, undef, undef, undef, undef, undef, undef, undef, undef, undef, undef, undef, undef, undef, undef, undef, undef, undef, undef, undef, undef, undef, undef, undef, undef, undef, undef, undef, undef, undef, undef, undef, undef, undef, undef, undef, undef, undef, undef, undef, undef, undef], defers := [] } ∧ JY w base ob xb F G u b q r v n f room L M v' f' L' M' X b8 b17 wr) ?step ?fin _ _ _ _ (by simp) ?start
  case start => exact ⟨false, false, false, false, false, false, false, false, false, false, false, false, false, false, false, false, false, false, false, false, rfl, rfl, JY.begin (HB0.out.below (Below.refl _ _).drew) (HW0.out.trans (Kp.below (Below.refl _ _).drew HPa.out.sz)) (HPa.out.below (Below.refl _ _).drew)⟩
  case fin =>
    rintro listed fr wr ⟨b0, b1, b2, b3, b4, b5, b6, b7, b8, b9, b10, b11, b12, b13, b14, b15, b16, b17, b18, b19, rfl, rfl, hR⟩ hr
    obtain rfl : b0 = true := by
      cases b0 with
      | true => rfl
      | false => exact (C.ready_no hr (j := 0) rfl rfl (by kernel_rfl)).elim
    obtain rfl : b1 = true := by
      cases b1 with
      | true => rfl
      | false => exact (C.ready_no hr (j := 1) rfl rfl (by kernel_rfl)).elim
    obtain rfl : b2 = true := by
      cases b2 with
      | true => rfl
      | false => exact (C.ready_no hr (j := 2) rfl rfl (by kernel_rfl)).elim
    obtain rfl : b3 = true := by
      cases b3 with
      | true => rfl
      | false => exact (C.ready_no hr (j := 3) rfl rfl (by kernel_rfl)).elim
    obtain rfl : b4 = true := by
      cases b4 with
      | true => rfl
      | false => exact (C.ready_no hr (j := 4) rfl rfl (by kernel_rfl)).elim
    obtain rfl : b5 = true := by
      cases b5 with
      | true => rfl
      | false => exact (C.ready_no hr (j := 5) rfl rfl (by kernel_rfl)).elim
    obtain rfl : b6 = true := by
      cases b6 with
      | true => rfl
      | false => exact (C.ready_no hr (j := 6) rfl rfl (by kernel_rfl)).elim
    obtain rfl : b7 = true := by
      cases b7 with
      | true => rfl
      | false => exact (C.ready_no hr (j := 7) rfl rfl (by kernel_rfl)).elim
    obtain rfl : b8 = true := by
      cases b8 with
      | true => rfl
      | false => exact (C.ready_no hr (j := 8) rfl rfl (by kernel_rfl)).elim
    obtain rfl : b9 = true := by
      cases b9 with
      | true => rfl
      | false => exact (C.ready_no hr (j := 9) rfl rfl (by kernel_rfl)).elim
    obtain rfl : b10 = true := by
      cases b10 with
      | true => rfl
      | false => exact (C.ready_no hr (j := 10) rfl rfl (by kernel_rfl)).elim
    obtain rfl : b11 = true := by
      cases b11 with
      | true => rfl
      | false => exact (C.ready_no hr (j := 11) rfl rfl (by kernel_rfl)).elim
    obtain rfl : b12 = true := by
      cases b12 with
      | true => rfl
      | false => exact (C.ready_no hr (j := 12) rfl rfl (by kernel_rfl)).elim
    obtain rfl : b13 = true := by
      cases b13 with
      | true => rfl
      | false => exact (C.ready_no hr (j := 13) rfl rfl (by kernel_rfl)).elim
    obtain rfl : b14 = true := by
      cases b14 with
      | true => rfl
      | false => exact (C.ready_no hr (j := 14) rfl rfl (by kernel_rfl)).elim
    obtain rfl : b15 = true := by
      cases b15 with
      | true => rfl
      | false => exact (C.ready_no hr (j := 15) rfl rfl (by kernel_rfl)).elim
    obtain rfl : b16 = true := by
      cases b16 with
      | true => rfl
      | false => exact (C.ready_no hr (j := 16) rfl rfl (by kernel_rfl)).elim
    obtain rfl : b17 = true := by
      cases b17 with
      | true => rfl
      | false => exact (C.ready_no hr (j := 17) rfl rfl (by kernel_rfl)).elim
    obtain rfl : b18 = true := by
      cases b18 with
      | true => rfl
      | false => exact (C.ready_no hr (j := 18) rfl rfl (by kernel_rfl)).elim
    obtain rfl : b19 = true := by
      cases b19 with
      | true => rfl
      | false => exact (C.ready_no hr (j := 19) rfl rfl (by kernel_rfl)).elim
    clear hr
    simp only [C.svd]
    obtain ⟨F2, G2, hp, hkp⟩ := hR.p2 rfl rfl
    have H2 := hid hp
    have HW := hid hkp
    clear hR hp hkp
    go_wp2_with fail
    go_ret
    exact ⟨rfl, F2, G2, v', f', L', M', H2.out, HW.out, hlen, et, em⟩
  case step =>
    rintro listed fr wr ⟨b0, b1, b2, b3, b4, b5, b6, b7, b8, b9, b10, b11, b12, b13, b14, b15, b16, b17, b18, b19, rfl, rfl, hR⟩ j hj
    obtain ⟨hl, o, ho, he⟩ := mem_ready.1 hj
    clear hj
    have HH := C.hid hR
    clear hR
    have tcu := HH.out.bx.cu
    have tcb := HH.out.bx.cb
    have tc1 := HH.out.bx.c1
    have tc4 := HH.out.bx.c4
    have tc6 := HH.out.bx.c6
    have tc7 := HH.out.bx.c7
    have ttu := HH.out.tu et
    have ttr := HH.out.tr
    have hsv : ∀ v u, C.svd true v u = v := fun _ _ => rfl
    match j, ho, hl, he with
    | 0, ho, hl, he =>
      obtain rfl := Option.some.inj ho
      simp [Region.binds] at hl he
      clear ho
      have hL := hl
      clear hl he
      subst hL
      refine wpOp_step rfl (fun K hK => ?_)
      go_simp
      refine hK _ _ ⟨true, _, _, _, _, _, _, _, _, _, _, _, _, _, _, _, _, _, _, _, rfl, ?_, HH.out⟩
      first | rfl | simp [C.svd]
    | 1, ho, hl, he =>
      obtain rfl := Option.some.inj ho
      simp [Region.binds] at hl he
      clear ho
      have hL := hl
      (try (have e0 : b0 = true := (by revert he; cases b0 <;> simp)))
      clear hl he
      (try subst e0)
      subst hL
      refine wpOp_step rfl (fun K hK => ?_)
      go_simp
      refine hK _ _ ⟨_, true, _, _, _, _, _, _, _, _, _, _, _, _, _, _, _, _, _, _, rfl, ?_, HH.out⟩
      first | rfl | simp [C.svd]
    | 2, ho, hl, he =>
      obtain rfl := Option.some.inj ho
      simp [Region.binds] at hl he
      clear ho
      have hL := hl
      clear hl he
      subst hL
      refine wpOp_step rfl (fun K hK => ?_)
      go_simp
      refine hK _ _ ⟨_, _, true, _, _, _, _, _, _, _, _, _, _, _, _, _, _, _, _, _, rfl, ?_, HH.out⟩
      first | rfl | simp [C.svd]
    | 3, ho, hl, he =>
      obtain rfl := Option.some.inj ho
      simp [Region.binds] at hl he
      clear ho
      have hL := hl
      (try (have e2 : b2 = true := (by revert he; cases b2 <;> simp)))
      clear hl he
      (try subst e2)
      subst hL
      refine wpOp_step rfl (fun K hK => ?_)
      go_simp
      refine hK _ _ ⟨_, _, _, true, _, _, _, _, _, _, _, _, _, _, _, _, _, _, _, _, rfl, ?_, HH.out⟩
      first | rfl | simp [C.svd]
    | 4, ho, hl, he =>
      obtain rfl := Option.some.inj ho
      simp [Region.binds] at hl he
      clear ho
      have hL := hl
      clear hl he
      subst hL
      refine wpOp_step rfl (fun K hK => ?_)
      go_simp
      refine hK _ _ ⟨_, _, _, _, true, _, _, _, _, _, _, _, _, _, _, _, _, _, _, _, rfl, ?_, HH.out⟩
      first | rfl | simp [C.svd]
    | 5, ho, hl, he =>
      obtain rfl := Option.some.inj ho
      simp [Region.binds] at hl he
      clear ho
      have hL := hl
      (try (have e4 : b4 = true := (by revert he; cases b4 <;> simp)))
      clear hl he
      (try subst e4)
      subst hL
      refine wpOp_step rfl (fun K hK => ?_)
      go_simp
      refine hK _ _ ⟨_, _, _, _, _, true, _, _, _, _, _, _, _, _, _, _, _, _, _, _, rfl, ?_, HH.out⟩
      first | rfl | simp [C.svd]
    | 6, ho, hl, he =>
      obtain rfl := Option.some.inj ho
      simp [Region.binds] at hl he
      clear ho
      have hL := hl
      clear hl he
      subst hL
      refine wpOp_step rfl (fun K hK => ?_)
      go_simp
      refine hK _ _ ⟨_, _, _, _, _, _, true, _, _, _, _, _, _, _, _, _, _, _, _, _, rfl, ?_, HH.out⟩
      first | rfl | simp [C.svd]
    | 7, ho, hl, he =>
      obtain rfl := Option.some.inj ho
      simp [Region.binds] at hl he
      clear ho
      have hL := hl
      (try (have e6 : b6 = true := (by revert he; cases b6 <;> simp)))
      clear hl he
      (try subst e6)
      subst hL
      refine wpOp_step rfl (fun K hK => ?_)
      go_simp
      refine hK _ _ ⟨_, _, _, _, _, _, _, true, _, _, _, _, _, _, _, _, _, _, _, _, rfl, ?_, HH.out⟩
      first | rfl | simp [C.svd]
    | 8, ho, hl, he =>
      obtain rfl := Option.some.inj ho
      simp [Region.binds] at hl he
      clear ho
      have hL := hl
      (try (have e1 : b1 = true := (by revert he; cases b1 <;> simp)))
      (try (have e3 : b3 = true := (by revert he; cases b3 <;> simp)))
      (try (have e5 : b5 = true := (by revert he; cases b5 <;> simp)))
      (try (have e7 : b7 = true := (by revert he; cases b7 <;> simp)))
      clear hl he
      (try subst e1)
      (try subst e3)
      (try subst e5)
      (try subst e7)
      subst hL
      refine wpOp_step rfl (fun K hK => ?_)
      go_simp
      obtain ⟨hc0, hp, -⟩ := HH.out.p0 rfl
      subst hc0
      refine (HPc.out _ hp.us).mono ?_
      rintro e w1 ⟨rfl, F', hu1, t1⟩
      refine hK _ _ ⟨_, _, _, _, _, _, _, _, true, _, _, _, _, _, _, _, _, _, _, _, rfl, ?_, HH.out.stepA hu1 t1 HN.out.1 HN.out.2.1⟩
      first | rfl | simp [C.svd]
    | 9, ho, hl, he =>
      obtain rfl := Option.some.inj ho
      simp [Region.binds] at hl he
      clear ho
      have hL := hl
      clear hl he
      subst hL
      refine wpOp_step rfl (fun K hK => ?_)
      go_simp
      refine hK _ _ ⟨_, _, _, _, _, _, _, _, _, true, _, _, _, _, _, _, _, _, _, _, rfl, ?_, HH.out⟩
      first | rfl | simp [C.svd]
    | 10, ho, hl, he =>
      obtain rfl := Option.some.inj ho
      simp [Region.binds] at hl he
      clear ho
      have hL := hl
      (try (have e9 : b9 = true := (by revert he; cases b9 <;> simp)))
      clear hl he
      (try subst e9)
      subst hL
      refine wpOp_step rfl (fun K hK => ?_)
      go_simp
      refine hK _ _ ⟨_, _, _, _, _, _, _, _, _, _, true, _, _, _, _, _, _, _, _, _, rfl, ?_, HH.out⟩
      first | rfl | simp [C.svd]
    | 11, ho, hl, he =>
      obtain rfl := Option.some.inj ho
      simp [Region.binds] at hl he
      clear ho
      have hL := hl
      clear hl he
      subst hL
      refine wpOp_step rfl (fun K hK => ?_)
      go_simp
      refine hK _ _ ⟨_, _, _, _, _, _, _, _, _, _, _, true, _, _, _, _, _, _, _, _, rfl, ?_, HH.out⟩
      first | rfl | simp [C.svd]
    | 12, ho, hl, he =>
      obtain rfl := Option.some.inj ho
      simp [Region.binds] at hl he
      clear ho
      have hL := hl
      (try (have e11 : b11 = true := (by revert he; cases b11 <;> simp)))
      clear hl he
      (try subst e11)
      subst hL
      refine wpOp_step rfl (fun K hK => ?_)
      go_simp
      refine hK _ _ ⟨_, _, _, _, _, _, _, _, _, _, _, _, true, _, _, _, _, _, _, _, rfl, ?_, HH.out⟩
      first | rfl | simp [C.svd]
    | 13, ho, hl, he =>
      obtain rfl := Option.some.inj ho
      simp [Region.binds] at hl he
      clear ho
      have hL := hl
      clear hl he
      subst hL
      refine wpOp_step rfl (fun K hK => ?_)
      go_simp
      refine hK _ _ ⟨_, _, _, _, _, _, _, _, _, _, _, _, _, true, _, _, _, _, _, _, rfl, ?_, HH.out⟩
      first | rfl | simp [C.svd]
    | 14, ho, hl, he =>
      obtain rfl := Option.some.inj ho
      simp [Region.binds] at hl he
      clear ho
      have hL := hl
      (try (have e13 : b13 = true := (by revert he; cases b13 <;> simp)))
      clear hl he
      (try subst e13)
      subst hL
      refine wpOp_step rfl (fun K hK => ?_)
      go_simp
      refine hK _ _ ⟨_, _, _, _, _, _, _, _, _, _, _, _, _, _, true, _, _, _, _, _, rfl, ?_, HH.out⟩
      first | rfl | simp [C.svd]
    | 15, ho, hl, he =>
      obtain rfl := Option.some.inj ho
      simp [Region.binds] at hl he
      clear ho
      have hL := hl
      clear hl he
      subst hL
      refine wpOp_step rfl (fun K hK => ?_)
      go_simp
      refine hK _ _ ⟨_, _, _, _, _, _, _, _, _, _, _, _, _, _, _, true, _, _, _, _, rfl, ?_, HH.out⟩
      first | rfl | simp [C.svd]
    | 16, ho, hl, he =>
      obtain rfl := Option.some.inj ho
      simp [Region.binds] at hl he
      clear ho
      have hL := hl
      (try (have e15 : b15 = true := (by revert he; cases b15 <;> simp)))
      clear hl he
      (try subst e15)
      subst hL
      refine wpOp_step rfl (fun K hK => ?_)
      go_simp
      refine hK _ _ ⟨_, _, _, _, _, _, _, _, _, _, _, _, _, _, _, _, true, _, _, _, rfl, ?_, HH.out⟩
      first | rfl | simp [C.svd]
    | 17, ho, hl, he =>
      obtain rfl := Option.some.inj ho
      simp [Region.binds] at hl he
      clear ho
      have hL := hl
      (try (have e8 : b8 = true := (by revert he; cases b8 <;> simp)))
      (try (have e10 : b10 = true := (by revert he; cases b10 <;> simp)))
      (try (have e12 : b12 = true := (by revert he; cases b12 <;> simp)))
      (try (have e14 : b14 = true := (by revert he; cases b14 <;> simp)))
      (try (have e16 : b16 = true := (by revert he; cases b16 <;> simp)))
      clear hl he
      (try subst e8)
      (try subst e10)
      (try subst e12)
      (try subst e14)
      (try subst e16)
      subst hL
      refine wpOp_step rfl (fun K hK => ?_)
      go_simp
      obtain ⟨F', hp, hkp⟩ := HH.out.p1 rfl rfl
      refine (HDc.out _ hp.ds hp.sz).mono ?_
      rintro e w2 ⟨rfl, G', hd2, t2⟩
      refine hK _ _ ⟨_, _, _, _, _, _, _, _, _, _, _, _, _, _, _, _, _, true, _, _, rfl, ?_, HH.out.stepB hp hkp hd2 t2 HN.out.2.2.1 HN.out.2.2.2 HX.out.1 HX.out.2⟩
      first | rfl | simp [C.svd]
    | 18, ho, hl, he =>
      obtain rfl := Option.some.inj ho
      simp [Region.binds] at hl he
      clear ho
      have hL := hl
      (try (have e8 : b8 = true := (by revert he; cases b8 <;> simp)))
      (try (have e17 : b17 = true := (by revert he; cases b17 <;> simp)))
      clear hl he
      (try subst e8)
      (try subst e17)
      subst hL
      refine wpOp_step rfl (fun K hK => ?_)
      go_simp
      refine hK _ _ ⟨_, _, _, _, _, _, _, _, _, _, _, _, _, _, _, _, _, _, true, _, rfl, ?_, HH.out⟩
      first | rfl | simp [C.svd]
    | 19, ho, hl, he =>
      obtain rfl := Option.some.inj ho
      simp [Region.binds] at hl he
      clear ho
      have hL := hl
      (try (have e0 : b0 = true := (by revert he; cases b0 <;> simp)))
      (try (have e1 : b1 = true := (by revert he; cases b1 <;> simp)))
      (try (have e2 : b2 = true := (by revert he; cases b2 <;> simp)))
      (try (have e3 : b3 = true := (by revert he; cases b3 <;> simp)))
      (try (have e4 : b4 = true := (by revert he; cases b4 <;> simp)))
      (try (have e5 : b5 = true := (by revert he; cases b5 <;> simp)))
      (try (have e6 : b6 = true := (by revert he; cases b6 <;> simp)))
      (try (have e7 : b7 = true := (by revert he; cases b7 <;> simp)))
      (try (have e8 : b8 = true := (by revert he; cases b8 <;> simp)))
      (try (have e9 : b9 = true := (by revert he; cases b9 <;> simp)))
      (try (have e10 : b10 = true := (by revert he; cases b10 <;> simp)))
      (try (have e11 : b11 = true := (by revert he; cases b11 <;> simp)))
      (try (have e12 : b12 = true := (by revert he; cases b12 <;> simp)))
      (try (have e13 : b13 = true := (by revert he; cases b13 <;> simp)))
      (try (have e14 : b14 = true := (by revert he; cases b14 <;> simp)))
      (try (have e15 : b15 = true := (by revert he; cases b15 <;> simp)))
      (try (have e16 : b16 = true := (by revert he; cases b16 <;> simp)))
      (try (have e17 : b17 = true := (by revert he; cases b17 <;> simp)))
      (try (have e18 : b18 = true := (by revert he; cases b18 <;> simp)))
      clear hl he
      (try subst e0)
      (try subst e1)
      (try subst e2)
      (try subst e3)
      (try subst e4)
      (try subst e5)
      (try subst e6)
      (try subst e7)
      (try subst e8)
      (try subst e9)
      (try subst e10)
      (try subst e11)
      (try subst e12)
      (try subst e13)
      (try subst e14)
      (try subst e15)
      (try subst e16)
      (try subst e17)
      (try subst e18)
      subst hL
      refine wpOp_step rfl (fun K hK => ?_)
      go_simp
      refine hK _ _ ⟨_, _, _, _, _, _, _, _, _, _, _, _, _, _, _, _, _, _, _, true, rfl, ?_, HH.out⟩
      first | rfl | simp [C.svd]
    | k + 20, ho, hl, he => simp at ho
end Go.Proofs.YtmdconecigenfaaGreat
