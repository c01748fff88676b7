/- play: a script at both engines behind IOMMUs. -/
import Derived.Test.YtmdconecigenfaaGreatMK5
import Derived.Test.YtmdconecigenfaaGreatMH4
import Derived.Test.YtmdconecigenfaaGreatMC4
import Derived.Deep.DeepCutAuto
namespace Go.Proofs.YtmdconecigenfaaGreat
open Go.RowKit
open C (Only hid Mem Still ret_int ret_bool put byt nu hasB RMem c_Place)
set_option linter.unusedVariables false
set_option maxRecDepth 100000

theorem x_BusyX (w : World) (e : Nat) (v : EV) (h : Eg w e v) (k : Bool) (hk : (v.r 3 == 1) = k) : Calls Tryz.prog 21 #[.pointer (some ⟨e, 0, none⟩)] w fun x w' => x = .returned (.bool k) ∧ w' = w := by rw [← hk]; exact x_Busy w e v h
/-- ahead of both writes, between them, behind them -/
def ZQ (KZ : Kz) (w : World) (e y : Nat) (v : EV) (c : Int) (S T : Nat → Prop) (cm : Nat) (s : Us) (xo xs xv : Int) : Bool → Bool → Prop
  | false, _ => PX KZ w e y v v.r c S T cm s s
  | true, false => PX KZ w e y (v.wr (bif okE xo xs then wrE v.r xo xs xv else v.r)) v.r c S T cm s s
  | true, true => ∃ c', PX KZ w e y (v.wr (bif okE xo xs then wrE v.r xo xs xv else v.r)) (bif okE xo xs then wrE v.r xo xs xv else v.r) c' S T cm s s
set_option maxHeartbeats 4000000 in
theorem l_playU (KZ : Kz) (w : World) (e y : Nat) (v : EV) (c : Int) (S T : Nat → Prop) (c0 : Nat) (s : Us) (H : PX KZ w e y v v.r c S T c0 s s) (bd : Option Addr) (lb cbp bb bo : Nat) (Y : Nat → EOpV) (hY : Ec KZ.W bd lb cbp bb bo Y) (hlm : c0 + lb ≤ 2199023255552) :
    Calls Tryz.prog 10 #[.pointer (some ⟨e, 0, none⟩), .pointer (some ⟨y, 0, none⟩), .agg #[.pointer (some ⟨KZ.u, 0, none⟩), .pointer (some ⟨KZ.d, 0, none⟩), .pointer (some ⟨KZ.m, 0, none⟩), .pointer (some ⟨KZ.q, 0, none⟩)], .bool false, .slice bd lb cbp] w fun x w' => x = .returned (.bool true) ∧ ∃ v c S T cm s, PX KZ w' e y v v.r c S T cm s s := by
  have hbw : Below w.heap.size w (w.alloc (.cells #[.pointer (some ⟨KZ.u, 0, none⟩), .pointer (some ⟨KZ.d, 0, none⟩), .pointer (some ⟨KZ.m, 0, none⟩), .pointer (some ⟨KZ.q, 0, none⟩)] 31 (0, 0))) := (Below.refl _ _).alloc (Nat.le_refl _) _
  have HP := hid ((H.below hbw).and w.heap.size (.cells #[.pointer (some ⟨KZ.u, 0, none⟩), .pointer (some ⟨KZ.d, 0, none⟩), .pointer (some ⟨KZ.m, 0, none⟩), .pointer (some ⟨KZ.q, 0, none⟩)] 31 (0, 0)) (heap_alloc_new w _) (fun c z => by cases z) (fun z => by
    rcases z with z | z | z | z
    · have := H.eg.lt; omega
    · have := H.ye.lt; omega
    · have := H.ltS z; omega
    · have := H.ltT z; omega))
  clear hbw
  have HY := hid hY
  have hlc := hY.len
  have hcm := hY.cap
  clear H hY
  go_enter Tryz.func10, Tryz.ntmps10
  go_wp2_with fail
  go_loopw [11] (fun i wr => ∃ (k : Nat) (v : EV) (c : Int) (S T : Nat → Prop) (cm : Nat) (s : Us), k ≤ lb ∧ cm ≤ c0 + k ∧ i = .int .i64 k ∧ PX (KZ.and w.heap.size (.cells #[.pointer (some ⟨KZ.u, 0, none⟩), .pointer (some ⟨KZ.d, 0, none⟩), .pointer (some ⟨KZ.m, 0, none⟩), .pointer (some ⟨KZ.q, 0, none⟩)] 31 (0, 0))) wr e y v v.r c S T cm s s) (fun i _ => lb - (intOf i).toNat)
  case atStart => exact ⟨0, v, c, S, T, c0, s, by omega, by omega, rfl, HP.out⟩
  case round =>
    clear HP
    obtain ⟨k, v, c, S, T, cm, s, hk, hcm0, rfl, hp⟩ := hrel
    by_cases hlt : k < lb
    · obtain ⟨rfl, hab⟩ := HY.out.at0 (by omega)
      have hcell := fun j hj => (HY.out.below hp.new).cell k hlt j hj
      have x0 := hcell 0 (by decide)
      have x1 := hcell 1 (by decide)
      have x2 := hcell 2 (by decide)
      have x3 := hcell 3 (by decide)
      have x4 := hcell 4 (by decide)
      have x5 := hcell 5 (by decide)
      have x6 := hcell 6 (by decide)
      have x7 := hcell 7 (by decide)
      have x8 := hcell 8 (by decide)
      have x9 := hcell 9 (by decide)
      have x10 := hcell 10 (by decide)
      have x11 := hcell 11 (by decide)
      simp [EOpV.cs] at x0 x1 x2 x3 x4 x5 x6 x7 x8 x9 x10 x11
      obtain ⟨⟨k0, k1⟩, ⟨s0, s1⟩, ⟨o0, o1⟩, ⟨v0, v1⟩, hxb⟩ := HY.out.num k hlt
      generalize Y k = X at x0 x1 x2 x3 x4 x5 x6 x7 x8 x9 x10 x11 k0 k1 s0 s1 o0 o1 v0 v1 hxb
      obtain ⟨xk, xs, xo, xv, ⟨ak, adv, asz, aad, adt, aw, ag, ai⟩⟩ := X
      simp only at x0 x1 x2 x3 x4 x5 x6 x7 x8 x9 x10 x11 k0 k1 s0 s1 o0 o1 v0 v1 hxb
      have HXB := hid hxb
      clear hxb
      have HP := hid hp
      clear hp hcell
      go_wp2_with fail
      obtain ⟨wa, hwa⟩ : ∃ wa, wr.alloc (.cells #[.int .i64 xk, .int .i64 xs, .int .u64 xo, .int .u64 xv, .int .i64 ak, .int .i64 adv, .int .i64 asz, .int .u64 aad, .int .u64 adt, .bool aw, .int .i64 ag, .int .i64 ai] 81) = wa := ⟨_, rfl⟩
      obtain ⟨bx, hbx⟩ : ∃ bx, bx = wr.heap.size := ⟨_, rfl⟩
      have hba : Below wr.heap.size wr wa := hwa ▸ (Below.refl _ _).alloc (Nat.le_refl _) _
      have HA := hid (HP.out.below hba)
      have HX : Hid (wa.heap[bx]? = some (.cells #[.int .i64 xk, .int .i64 xs, .int .u64 xo, .int .u64 xv, .int .i64 ak, .int .i64 adv, .int .i64 asz, .int .u64 aad, .int .u64 adt, .bool aw, .int .i64 ag, .int .i64 ai] 81 (0, 0))) := hid (by rw [hbx, ← hwa]; exact heap_alloc_new wr _)
      have HSb : Hid (∀ k, S k ∨ T k ∨ k = e ∨ k = y → k < bx) := hid (fun k z => by
        rw [hbx]
        rcases z with z | z | z | z
        · exact HP.out.ltS z
        · exact HP.out.ltT z
        · rw [z]; exact HP.out.eg.lt
        · rw [z]; exact HP.out.ye.lt)
      rw [hwa, ← hbx]
      clear hwa hbx hba HP x0 x1 x2 x3 x4 x5 x6 x7 x8 x9 x10 x11
      have c1 : wa.cell? ⟨bx, 1, none⟩ = some (.int .i64 xs) := cell_of_row wa bx 1 _ _ _ HX.out
      have c2 : wa.cell? ⟨bx, 2, none⟩ = some (.int .u64 xo) := cell_of_row wa bx 2 _ _ _ HX.out
      have c3 : wa.cell? ⟨bx, 3, none⟩ = some (.int .u64 xv) := cell_of_row wa bx 3 _ _ _ HX.out
      go_at_call 16
      refine (c_Place xk 5 (by decide) (by decide) k0 k1 _).mono ?_
      rintro e1 wz ⟨rfl, hwz⟩
      obtain rfl := hwz.symm
      have TK : Hid True := hid trivial
      rcases (show xk % 5 = 0 ∨ xk % 5 = 1 ∨ xk % 5 = 2 ∨ xk % 5 = 3 ∨ xk % 5 = 4 by omega) with hK | hK | hK | hK | hK
      · rw [hK]
        go_wp2_with fail
        refine wp_region_any (by kernel_rfl) ?_
        refine C.wpAny_inv (fun listed fr wr => ∃ (b0 b1 b2 b3 b4 b5 b6 b7 b8 b9 b10 b11 b12 b13 b14 b15 b16 : Bool), listed = #[b0, b1, b2, b3, b4, b5, b6, b7, b8, b9, b10, b11, b12, b13, b14, b15, b16] ∧ fr = { tmps := #[.pointer (some ⟨e, 0, none⟩), .pointer (some ⟨y, 0, none⟩), .agg #[.pointer (some ⟨KZ.u, 0, none⟩), .pointer (some ⟨KZ.d, 0, none⟩), .pointer (some ⟨KZ.m, 0, none⟩), .pointer (some ⟨KZ.q, 0, none⟩)], .bool false, .slice (some ⟨bb, bo, none⟩) lb cbp, undef, undef, .pointer (some ⟨w.heap.size, 0, none⟩), undef, undef, u10, .int .i64 (k : Int), .pointer (some ⟨bx, 0, none⟩), u13, u14, u15, u16, u17, u18, u19, u20, .int .i64 (k : Int), .slice (some ⟨bb, bo, none⟩) lb cbp, .int .i64 (lb : Int), .bool true, u25, u26, .slice (some ⟨bb, bo, none⟩) lb cbp, .int .i64 (k : Int), .pointer (some ⟨bb, bo + k * 12, none⟩), .agg #[.int .i64 xk, .int .i64 xs, .int .u64 xo, .int .u64 xv, .int .i64 ak, .int .i64 adv, .int .i64 asz, .int .u64 aad, .int .u64 adt, .bool aw, .int .i64 ag, .int .i64 ai], .pointer (some ⟨bx, 0, none⟩), .int .i64 xk, .int .i64 0, .bool true, .bool true, C.svd b0 (.pointer (some ⟨e, 0, none⟩)) (u36), C.svd b1 (.pointer (some ⟨bx, 2, none⟩)) (u37), C.svd b2 (.int .u64 xo) (u38), C.svd b3 (.pointer (some ⟨bx, 1, none⟩)) (u39), C.svd b4 (.int .i64 xs) (u40), C.svd b5 (.pointer (some ⟨bx, 3, none⟩)) (u41), C.svd b6 (.int .u64 xv) (u42), C.svd b7 (.bool (okE xo xs)) (u43), C.svd b8 (.pointer (some ⟨y, 0, none⟩)) (u44), C.svd b9 (.pointer (some ⟨bx, 2, none⟩)) (u45), C.svd b10 (.int .u64 xo) (u46), C.svd b11 (.pointer (some ⟨bx, 1, none⟩)) (u47), C.svd b12 (.int .i64 xs) (u48), C.svd b13 (.pointer (some ⟨bx, 3, none⟩)) (u49), C.svd b14 (.int .u64 xv) (u50), C.svd b15 (.bool (okE xo xs)) (u51), C.svd b16 (.bool false) (u52), u53, u54, u55, u56, u57, u58, u59, u60, u61, u62, u63, u64, u65, u66, u67, u68, u69, u70, u71, u72, u73, u74, u75, u76, u77, u78, u79, u80, u81, u82, u83, u84, u85, u86, u87, u88, u89, u90, u91, u92, u93, u94, u95, u96, u97, u98, u99, u100, u101, u102, u103, u104, u105, u106, u107, u108, u109, u110, u111, u112, u113, u114, u115, u116, u117, u118, u119, u120, u121, u122, u123, u124, u125, u126], defers := [] } ∧ ZQ (KZ.and w.heap.size (.cells #[.pointer (some ⟨KZ.u, 0, none⟩), .pointer (some ⟨KZ.d, 0, none⟩), .pointer (some ⟨KZ.m, 0, none⟩), .pointer (some ⟨KZ.q, 0, none⟩)] 31 (0, 0))) wr e y v c S T cm s xo xs xv b7 b15 ∧ wr.heap[bx]? = some (.cells #[.int .i64 xk, .int .i64 xs, .int .u64 xo, .int .u64 xv, .int .i64 ak, .int .i64 adv, .int .i64 asz, .int .u64 aad, .int .u64 adt, .bool aw, .int .i64 ag, .int .i64 ai] 81 (0, 0)) ∧ (b15 = true → b7 = true)) ?step ?fin _ _ _ _ (by simp) ?start
        case start => exact ⟨false, false, false, false, false, false, false, false, false, false, false, false, false, false, false, false, false, rfl, rfl, HA.out.below (Below.refl _ _).drew, HX.out, (fun h => by cases h)⟩
        case fin =>
          rintro listed fr wr ⟨b0, b1, b2, b3, b4, b5, b6, b7, b8, b9, b10, b11, b12, b13, b14, b15, b16, rfl, rfl, hR⟩ hr
          obtain rfl : b0 = true := by
            cases b0 with
            | true => rfl
            | false => exact (C.ready_no hr (j := 0) rfl rfl (by kernel_rfl)).elim
          obtain rfl : b1 = true := by
            cases b1 with
            | true => rfl
            | false => exact (C.ready_no hr (j := 1) rfl rfl (by kernel_rfl)).elim
          obtain rfl : b2 = true := by
            cases b2 with
            | true => rfl
            | false => exact (C.ready_no hr (j := 2) rfl rfl (by kernel_rfl)).elim
          obtain rfl : b3 = true := by
            cases b3 with
            | true => rfl
            | false => exact (C.ready_no hr (j := 3) rfl rfl (by kernel_rfl)).elim
          obtain rfl : b4 = true := by
            cases b4 with
            | true => rfl
            | false => exact (C.ready_no hr (j := 4) rfl rfl (by kernel_rfl)).elim
          obtain rfl : b5 = true := by
            cases b5 with
            | true => rfl
            | false => exact (C.ready_no hr (j := 5) rfl rfl (by kernel_rfl)).elim
          obtain rfl : b6 = true := by
            cases b6 with
            | true => rfl
            | false => exact (C.ready_no hr (j := 6) rfl rfl (by kernel_rfl)).elim
          obtain rfl : b7 = true := by
            cases b7 with
            | true => rfl
            | false => exact (C.ready_no hr (j := 7) rfl rfl (by kernel_rfl)).elim
          obtain rfl : b8 = true := by
            cases b8 with
            | true => rfl
            | false => exact (C.ready_no hr (j := 8) rfl rfl (by kernel_rfl)).elim
          obtain rfl : b9 = true := by
            cases b9 with
            | true => rfl
            | false => exact (C.ready_no hr (j := 9) rfl rfl (by kernel_rfl)).elim
          obtain rfl : b10 = true := by
            cases b10 with
            | true => rfl
            | false => exact (C.ready_no hr (j := 10) rfl rfl (by kernel_rfl)).elim
          obtain rfl : b11 = true := by
            cases b11 with
            | true => rfl
            | false => exact (C.ready_no hr (j := 11) rfl rfl (by kernel_rfl)).elim
          obtain rfl : b12 = true := by
            cases b12 with
            | true => rfl
            | false => exact (C.ready_no hr (j := 12) rfl rfl (by kernel_rfl)).elim
          obtain rfl : b13 = true := by
            cases b13 with
            | true => rfl
            | false => exact (C.ready_no hr (j := 13) rfl rfl (by kernel_rfl)).elim
          obtain rfl : b14 = true := by
            cases b14 with
            | true => rfl
            | false => exact (C.ready_no hr (j := 14) rfl rfl (by kernel_rfl)).elim
          obtain rfl : b15 = true := by
            cases b15 with
            | true => rfl
            | false => exact (C.ready_no hr (j := 15) rfl rfl (by kernel_rfl)).elim
          obtain rfl : b16 = true := by
            cases b16 with
            | true => rfl
            | false => exact (C.ready_no hr (j := 16) rfl rfl (by kernel_rfl)).elim
          clear hr
          simp only [C.svd]
          obtain ⟨⟨c', hz⟩, -, -⟩ := hR
          have H4 := hid hz
          clear hz
          have b6 := H4.out.eg
          go_wp2_with fail
          have t7 := H4.out.ye.c7
          go_quiet (first | (go_at_call 21; exact Calls.quiet_of_same (x_BusyX _ e _ (H4.out.below (below_dn (Below.refl _ _) _)).eg ((bif okE xo xs then wrE v.r xo xs xv else v.r) 3 == 1) rfl)))
          go_wp2
          go_roundw
          case rel => exact ⟨k + 1, _, c', S, T, cm, _, by omega, by omega, by go_num, H4.out.below (below_dn (Below.refl _ _) _)⟩
          case measure => simp [intOf]; omega
        case step =>
          rintro listed fr wr ⟨b0, b1, b2, b3, b4, b5, b6, b7, b8, b9, b10, b11, b12, b13, b14, b15, b16, rfl, rfl, hR⟩ j hj
          obtain ⟨hl, o, ho, he⟩ := mem_ready.1 hj
          clear hj
          obtain ⟨hz, hx, hbb⟩ := hR
          have c1 : wr.cell? ⟨bx, 1, none⟩ = some (.int .i64 xs) := cell_of_row wr bx 1 _ _ _ hx
          have c2 : wr.cell? ⟨bx, 2, none⟩ = some (.int .u64 xo) := cell_of_row wr bx 2 _ _ _ hx
          have c3 : wr.cell? ⟨bx, 3, none⟩ = some (.int .u64 xv) := cell_of_row wr bx 3 _ _ _ hx
          have HH := hid (And.intro hz (And.intro hx hbb))
          clear hz hx hbb
          have hsv : ∀ v u, C.svd true v u = v := fun _ _ => rfl
          match j, ho, hl, he with
          | 0, ho, hl, he =>
            obtain rfl := Option.some.inj ho
            simp [Region.binds] at hl he
            clear ho
            have hL := hl
            clear hl he
            subst hL
            refine wpOp_step rfl (fun K hK => ?_)
            go_simp
            refine hK _ _ ⟨true, _, _, _, _, _, _, _, _, _, _, _, _, _, _, _, _, rfl, ?_, HH.out⟩
            simp only [C.svd]
          | 1, ho, hl, he =>
            obtain rfl := Option.some.inj ho
            simp [Region.binds] at hl he
            clear ho
            have hL := hl
            clear hl he
            subst hL
            refine wpOp_step rfl (fun K hK => ?_)
            go_simp
            refine hK _ _ ⟨_, true, _, _, _, _, _, _, _, _, _, _, _, _, _, _, _, rfl, ?_, HH.out⟩
            simp only [C.svd]
          | 2, ho, hl, he =>
            obtain rfl := Option.some.inj ho
            simp [Region.binds] at hl he
            clear ho
            have hL := hl
            (try (have e1 : b1 = true := (by revert he; cases b1 <;> simp)))
            clear hl he
            (try subst e1)
            subst hL
            refine wpOp_step rfl (fun K hK => ?_)
            go_simp
            refine hK _ _ ⟨_, _, true, _, _, _, _, _, _, _, _, _, _, _, _, _, _, rfl, ?_, HH.out⟩
            simp only [C.svd]
          | 3, ho, hl, he =>
            obtain rfl := Option.some.inj ho
            simp [Region.binds] at hl he
            clear ho
            have hL := hl
            clear hl he
            subst hL
            refine wpOp_step rfl (fun K hK => ?_)
            go_simp
            refine hK _ _ ⟨_, _, _, true, _, _, _, _, _, _, _, _, _, _, _, _, _, rfl, ?_, HH.out⟩
            simp only [C.svd]
          | 4, ho, hl, he =>
            obtain rfl := Option.some.inj ho
            simp [Region.binds] at hl he
            clear ho
            have hL := hl
            (try (have e3 : b3 = true := (by revert he; cases b3 <;> simp)))
            clear hl he
            (try subst e3)
            subst hL
            refine wpOp_step rfl (fun K hK => ?_)
            go_simp
            refine hK _ _ ⟨_, _, _, _, true, _, _, _, _, _, _, _, _, _, _, _, _, rfl, ?_, HH.out⟩
            simp only [C.svd]
          | 5, ho, hl, he =>
            obtain rfl := Option.some.inj ho
            simp [Region.binds] at hl he
            clear ho
            have hL := hl
            clear hl he
            subst hL
            refine wpOp_step rfl (fun K hK => ?_)
            go_simp
            refine hK _ _ ⟨_, _, _, _, _, true, _, _, _, _, _, _, _, _, _, _, _, rfl, ?_, HH.out⟩
            simp only [C.svd]
          | 6, ho, hl, he =>
            obtain rfl := Option.some.inj ho
            simp [Region.binds] at hl he
            clear ho
            have hL := hl
            (try (have e5 : b5 = true := (by revert he; cases b5 <;> simp)))
            clear hl he
            (try subst e5)
            subst hL
            refine wpOp_step rfl (fun K hK => ?_)
            go_simp
            refine hK _ _ ⟨_, _, _, _, _, _, true, _, _, _, _, _, _, _, _, _, _, rfl, ?_, HH.out⟩
            simp only [C.svd]
          | 7, ho, hl, he =>
            obtain rfl := Option.some.inj ho
            simp [Region.binds] at hl he
            clear ho
            have hL := hl
            (try (have e0 : b0 = true := (by revert he; cases b0 <;> simp)))
            (try (have e2 : b2 = true := (by revert he; cases b2 <;> simp)))
            (try (have e4 : b4 = true := (by revert he; cases b4 <;> simp)))
            (try (have e6 : b6 = true := (by revert he; cases b6 <;> simp)))
            clear hl he
            (try subst e0)
            (try subst e2)
            (try subst e4)
            (try subst e6)
            subst hL
            obtain rfl : b15 = false := by
              cases b15 with
              | false => rfl
              | true => exact absurd (HH.out.2.2 rfl) (by decide)
            refine wpOp_step rfl (fun K hK => ?_)
            go_simp
            refine (zx_W _ _ _ _ _ _ _ _ _ _ _ _ (show PX (KZ.and w.heap.size (.cells #[.pointer (some ⟨KZ.u, 0, none⟩), .pointer (some ⟨KZ.d, 0, none⟩), .pointer (some ⟨KZ.m, 0, none⟩), .pointer (some ⟨KZ.q, 0, none⟩)] 31 (0, 0))) wr e y v v.r c S T cm s s from HH.out.1) xo xs xv v0 v1 o0 o1).mono ?_
            rintro e1 w3 ⟨rfl, h3, t3⟩
            refine hK _ _ ⟨_, _, _, _, _, _, _, true, _, _, _, _, _, _, _, _, _, rfl, ?_, h3, t3.1.old HH.out.2.1 (fun z => by have := HSb.out bx (z.elim (fun x => .inr (.inr (.inl x))) .inl); omega), fun _ => rfl⟩
            simp only [C.svd]
          | 8, ho, hl, he =>
            obtain rfl := Option.some.inj ho
            simp [Region.binds] at hl he
            clear ho
            have hL := hl
            clear hl he
            subst hL
            refine wpOp_step rfl (fun K hK => ?_)
            go_simp
            refine hK _ _ ⟨_, _, _, _, _, _, _, _, true, _, _, _, _, _, _, _, _, rfl, ?_, HH.out⟩
            simp only [C.svd]
          | 9, ho, hl, he =>
            obtain rfl := Option.some.inj ho
            simp [Region.binds] at hl he
            clear ho
            have hL := hl
            clear hl he
            subst hL
            refine wpOp_step rfl (fun K hK => ?_)
            go_simp
            refine hK _ _ ⟨_, _, _, _, _, _, _, _, _, true, _, _, _, _, _, _, _, rfl, ?_, HH.out⟩
            simp only [C.svd]
          | 10, ho, hl, he =>
            obtain rfl := Option.some.inj ho
            simp [Region.binds] at hl he
            clear ho
            have hL := hl
            (try (have e9 : b9 = true := (by revert he; cases b9 <;> simp)))
            clear hl he
            (try subst e9)
            subst hL
            refine wpOp_step rfl (fun K hK => ?_)
            go_simp
            refine hK _ _ ⟨_, _, _, _, _, _, _, _, _, _, true, _, _, _, _, _, _, rfl, ?_, HH.out⟩
            simp only [C.svd]
          | 11, ho, hl, he =>
            obtain rfl := Option.some.inj ho
            simp [Region.binds] at hl he
            clear ho
            have hL := hl
            clear hl he
            subst hL
            refine wpOp_step rfl (fun K hK => ?_)
            go_simp
            refine hK _ _ ⟨_, _, _, _, _, _, _, _, _, _, _, true, _, _, _, _, _, rfl, ?_, HH.out⟩
            simp only [C.svd]
          | 12, ho, hl, he =>
            obtain rfl := Option.some.inj ho
            simp [Region.binds] at hl he
            clear ho
            have hL := hl
            (try (have e11 : b11 = true := (by revert he; cases b11 <;> simp)))
            clear hl he
            (try subst e11)
            subst hL
            refine wpOp_step rfl (fun K hK => ?_)
            go_simp
            refine hK _ _ ⟨_, _, _, _, _, _, _, _, _, _, _, _, true, _, _, _, _, rfl, ?_, HH.out⟩
            simp only [C.svd]
          | 13, ho, hl, he =>
            obtain rfl := Option.some.inj ho
            simp [Region.binds] at hl he
            clear ho
            have hL := hl
            clear hl he
            subst hL
            refine wpOp_step rfl (fun K hK => ?_)
            go_simp
            refine hK _ _ ⟨_, _, _, _, _, _, _, _, _, _, _, _, _, true, _, _, _, rfl, ?_, HH.out⟩
            simp only [C.svd]
          | 14, ho, hl, he =>
            obtain rfl := Option.some.inj ho
            simp [Region.binds] at hl he
            clear ho
            have hL := hl
            (try (have e13 : b13 = true := (by revert he; cases b13 <;> simp)))
            clear hl he
            (try subst e13)
            subst hL
            refine wpOp_step rfl (fun K hK => ?_)
            go_simp
            refine hK _ _ ⟨_, _, _, _, _, _, _, _, _, _, _, _, _, _, true, _, _, rfl, ?_, HH.out⟩
            simp only [C.svd]
          | 15, ho, hl, he =>
            obtain rfl := Option.some.inj ho
            simp [Region.binds] at hl he
            clear ho
            have hL := hl
            (try (have e7 : b7 = true := (by revert he; cases b7 <;> simp)))
            (try (have e8 : b8 = true := (by revert he; cases b8 <;> simp)))
            (try (have e10 : b10 = true := (by revert he; cases b10 <;> simp)))
            (try (have e12 : b12 = true := (by revert he; cases b12 <;> simp)))
            (try (have e14 : b14 = true := (by revert he; cases b14 <;> simp)))
            clear hl he
            (try subst e7)
            (try subst e8)
            (try subst e10)
            (try subst e12)
            (try subst e14)
            subst hL
            
            refine wpOp_step rfl (fun K hK => ?_)
            go_simp
            refine (zx_YW _ _ _ _ _ _ _ _ _ _ _ _ (show PX (KZ.and w.heap.size (.cells #[.pointer (some ⟨KZ.u, 0, none⟩), .pointer (some ⟨KZ.d, 0, none⟩), .pointer (some ⟨KZ.m, 0, none⟩), .pointer (some ⟨KZ.q, 0, none⟩)] 31 (0, 0))) wr e y (v.wr (bif okE xo xs then wrE v.r xo xs xv else v.r)) v.r c S T cm s s from HH.out.1) xo xs xv v0 v1 o0 o1 s0 s1).mono ?_
            rintro e1 w3 ⟨rfl, c', h3, t3⟩
            refine hK _ _ ⟨_, _, _, _, _, _, _, _, _, _, _, _, _, _, _, true, _, rfl, ?_, ⟨c', h3⟩, t3.old HH.out.2.1 (fun z => by have := HSb.out bx (.inr (.inr (.inr z))); omega), fun _ => rfl⟩
            simp only [C.svd]
          | 16, ho, hl, he =>
            obtain rfl := Option.some.inj ho
            simp [Region.binds] at hl he
            clear ho
            have hL := hl
            (try (have e7 : b7 = true := (by revert he; cases b7 <;> simp)))
            (try (have e15 : b15 = true := (by revert he; cases b15 <;> simp)))
            clear hl he
            (try subst e7)
            (try subst e15)
            subst hL
            refine wpOp_step rfl (fun K hK => ?_)
            go_simp
            refine hK _ _ ⟨_, _, _, _, _, _, _, _, _, _, _, _, _, _, _, _, true, rfl, ?_, HH.out⟩
            simp only [C.svd]
          | k + 17, ho, hl, he => simp at ho
      · rw [hK]
        go_wp2_with (first
          | (go_at_call 20; refine (zx_R _ _ _ _ _ _ _ _ _ _ _ _ HA.out xo xs o0 o1).mono ?_; rintro e1 w3 ⟨rfl, h3, t3⟩; have H3 := hid h3; have HX3 := hid (t3.1.old HX.out (fun z => by have := HSb.out bx (z.elim (fun x => .inr (.inr (.inl x))) .inl); omega)); have c1 : w3.cell? ⟨bx, 1, none⟩ = some (.int .i64 xs) := cell_of_row w3 bx 1 _ _ _ HX3.out; have c2 : w3.cell? ⟨bx, 2, none⟩ = some (.int .u64 xo) := cell_of_row w3 bx 2 _ _ _ HX3.out; clear h3 t3)
          | (go_at_call 31; refine (y_Read _ y _ v.r c H3.out.ye H3.out.rr xo xs o0 o1 s0 s1).mono ?_; rintro e1 w4 ⟨rfl, hw4⟩; obtain rfl := hw4.symm))
        have b6 := H3.out.eg
        have t7 := H3.out.ye.c7
        go_quiet (first | (go_at_call 21; exact Calls.quiet_of_same (x_Busy _ e _ (H3.out.below (below_dn (Below.refl _ _) _)).eg)))
        go_wp2
        go_roundw
        case rel => exact ⟨k + 1, _, c, S, T, cm, _, by omega, by omega, by go_num, H3.out.below (below_dn (Below.refl _ _) _)⟩
        case measure => simp [intOf]; omega
      · rw [hK]
        obtain ⟨⟨⟨g, i, m⟩, r', f'⟩, hst⟩ : ∃ x, stN KZ.G v.r s = x := ⟨_, rfl⟩
        have HST := hid hst
        clear hst
        go_wp2_with (first
          | (go_at_call 25; refine (zx_S _ _ _ _ _ _ _ _ _ _ _ _ HA.out g i m r' f' HST.out).mono ?_; rintro e1 w3 ⟨rfl, S3, h3⟩; have H3 := hid (h3.below ((Below.refl _ _).alloc (Nat.le_refl _) (.cells #[.int .i64 g, .int .i64 i] 50))); have l3 := heap_alloc_new w3 (.cells #[.int .i64 g, .int .i64 i] 50); have L3 := hid l3; have nL3 : Hid (∀ k, T k ∨ k = y → k < w3.heap.size) := hid (fun k z => z.elim (fun x => h3.ltT x) fun x => x ▸ h3.ye.lt); clear h3 l3)
          | (go_at_call 32; refine (zx_YS _ _ _ _ _ _ _ _ _ _ _ _ H3.out g i m r' f' HST.out).mono ?_; rintro e1 w4 ⟨rfl, c4, T4, h4, t4⟩; have H4 := hid (h4.below ((Below.refl _ _).alloc (Nat.le_refl _) (.cells #[.int .i64 g, .int .i64 i] 50))); have l4 := t4.1.old L3.out (fun z => by have := nL3.out w3.heap.size (z.elim .inr .inl); omega); obtain ⟨d0, d1, df, dl⟩ := c_row l4; clear h4 t4 l4))
        have b6 := H4.out.eg
        have t7 := H4.out.ye.c7
        go_quiet (first | (go_at_call 21; exact Calls.quiet_of_same (x_BusyX _ e _ (H4.out.below (below_dn (Below.refl _ _) _)).eg (r' 3 == 1) rfl)))
        go_wp2
        go_roundw
        case rel => exact ⟨k + 1, _, c4, S3, T4, cm, _, by omega, by omega, by go_num, H4.out.below (below_dn (Below.refl _ _) _)⟩
        case measure => simp [intOf]; omega
      · rw [hK]
        go_wp2_with (first
          | (go_at_call 33; refine (zx_E0 _ _ _ _ _ _ _ _ _ _ _ _ HA.out).mono ?_; rintro e1 w3 ⟨rfl, h3⟩; have H3 := hid h3; clear h3)
          | (go_at_call 34; refine (zx_Y0 _ _ _ _ _ _ _ _ _ _ _ _ H3.out).mono ?_; rintro e1 w4 ⟨rfl, h4⟩; have H4 := hid h4; clear h4))
        have b6 := H4.out.eg
        have t7 := H4.out.ye.c7
        go_quiet (first | (go_at_call 21; exact Calls.quiet_of_same (x_Busy _ e _ (H4.out.below (below_dn (Below.refl _ _) _)).eg)))
        go_wp2
        go_roundw
        case rel => exact ⟨k + 1, _, 0, S, T, cm, _, by omega, by omega, by go_num, H4.out.below (below_dn (Below.refl _ _) _)⟩
        case measure => simp [intOf]; omega
      · rw [hK]
        have hon := HA.out.at
        have p0 : wa.cell? ⟨w.heap.size, 0, none⟩ = some (.pointer (some ⟨KZ.u, 0, none⟩)) := cell_of_row wa _ 0 _ _ _ hon
        have p1 : wa.cell? ⟨w.heap.size, 1, none⟩ = some (.pointer (some ⟨KZ.d, 0, none⟩)) := cell_of_row wa _ 1 _ _ _ hon
        have p2 : wa.cell? ⟨w.heap.size, 2, none⟩ = some (.pointer (some ⟨KZ.m, 0, none⟩)) := cell_of_row wa _ 2 _ _ _ hon
        have p3 : wa.cell? ⟨w.heap.size, 3, none⟩ = some (.pointer (some ⟨KZ.q, 0, none⟩)) := cell_of_row wa _ 3 _ _ _ hon
        have c4 : wa.cell? ⟨bx, 4, none⟩ = some (.int .i64 ak) := cell_of_row wa bx 4 _ _ _ HX.out
        have c5 : wa.cell? ⟨bx, 5, none⟩ = some (.int .i64 adv) := cell_of_row wa bx 5 _ _ _ HX.out
        have c6 : wa.cell? ⟨bx, 6, none⟩ = some (.int .i64 asz) := cell_of_row wa bx 6 _ _ _ HX.out
        have c7 : wa.cell? ⟨bx, 7, none⟩ = some (.int .u64 aad) := cell_of_row wa bx 7 _ _ _ HX.out
        have c8 : wa.cell? ⟨bx, 8, none⟩ = some (.int .u64 adt) := cell_of_row wa bx 8 _ _ _ HX.out
        have c9 : wa.cell? ⟨bx, 9, none⟩ = some (.bool aw) := cell_of_row wa bx 9 _ _ _ HX.out
        have c10 : wa.cell? ⟨bx, 10, none⟩ = some (.int .i64 ag) := cell_of_row wa bx 10 _ _ _ HX.out
        have c11 : wa.cell? ⟨bx, 11, none⟩ = some (.int .i64 ai) := cell_of_row wa bx 11 _ _ _ HX.out
        clear hon
        go_wp2_with (first
          | (go_at_call 35; refine (zx_Do _ _ e y v v.r c S T cm s HA.out (by omega) ⟨ak, adv, asz, aad, adt, aw, ag, ai⟩ HXB.out).mono ?_; rintro e1 w3 ⟨rfl, S3, T3, s3, h3⟩; have H3 := hid h3; clear h3))
        have b6 := H3.out.eg
        have t7 := H3.out.ye.c7
        go_quiet (first | (go_at_call 21; exact Calls.quiet_of_same (x_Busy _ e _ (H3.out.below (below_dn (Below.refl _ _) _)).eg)))
        go_wp2
        go_roundw
        case rel => exact ⟨k + 1, _, c, S3, T3, cm + 1, s3, by omega, by omega, by go_num, H3.out.below (below_dn (Below.refl _ _) _)⟩
        case measure => simp [intOf]; omega
    · obtain rfl : k = lb := by omega
      go_wp2
      go_ret
      exact ⟨rfl, v, c, S, T, cm, s, hp.less⟩
end Go.Proofs.YtmdconecigenfaaGreat
