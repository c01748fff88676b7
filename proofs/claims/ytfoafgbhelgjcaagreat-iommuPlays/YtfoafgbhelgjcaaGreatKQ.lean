/- IommuPlays: the walk. -/
import Derived.Test.YtfoafgbhelgjcaaGreatKQ0
namespace Go.Proofs.YtfoafgbhelgjcaaGreat
open Go.RowKit
open C (Only hid Mem Still ret_int ret_bool put byt nu RMem hasB fcl Cl)
set_option linter.unusedVariables false
set_option maxRecDepth 100000

set_option maxHeartbeats 20000000 in
theorem w_IommuPlays (W : World) (x : Int) (x0 : -9223372036854775808 ≤ x) (x1 : x ≤ 9223372036854775807) (ad : Option Addr) (la cap ab ao : Nat) (X : Nat → Int × Int) (hX : Cl W ad la cap ab ao X) (bd : Option Addr) (lb cbp bb bo : Nat) (Y : Nat → OpV) (hY : Sc W bd lb cbp bb bo Y) (hlb : lb ≤ 2199023255552) :
    Calls Tryz.prog 3 #[.int .i64 x, .slice ad la cap, .slice bd lb cbp] W fun e w' => e = .returned (.bool true) ∧ Below W.heap.size W w' := by
  have HX := hid hX
  have HY := hid hY
  clear hX hY
  by_cases hr : x < 1 ∨ 64 < x
  · have HR := hid hr
    clear hr
    go_enter Tryz.func3, Tryz.ntmps3
    go_wp2_with (first
      | (go_at_call 4; refine (l_New_bad _ x HR.out ad la cap ab ao X HX.out).mono ?_; rintro e w1 ⟨m, q, rfl, hb⟩; have HB := hid hb; clear hb)
      | (go_at_call 5; refine (l_awake _).mono ?_; rintro e w2 ⟨rfl, hb⟩; have HB2 := hid hb; clear hb))
    go_ret
    exact ⟨rfl, (HB.out.alloc HB.out.size _).trans (HB2.out.mono (by have := HB.out.size; simp; omega))⟩
  · obtain ⟨room, rfl⟩ : ∃ room : Nat, x = room := ⟨x.toNat, by omega⟩
    have h0 : 0 < room := by omega
    have h1 : room ≤ 64 := by omega
    clear hr
    go_enter Tryz.func3, Tryz.ntmps3
    go_wp2_with ((go_at_call 4; refine (l_New7 _ room h0 h1 ad la cap ab ao X HX.out).mono ?_; rintro e w1 ⟨u, t, m, b, q, r, F, G, rfl, hp, hb⟩; have HP1 := hid hp; have HB1 := hid hb; clear hp hb))
    obtain ⟨wc, hwc⟩ : ∃ wc, w1.alloc (.cells #[.pointer (some ⟨u, 0, none⟩), .pointer (some ⟨b, 0, none⟩), .pointer (some ⟨m, 0, none⟩), .pointer (some ⟨q, 0, none⟩)] 31) = wc := ⟨_, rfl⟩
    have HBc : Hid (Below w1.heap.size w1 wc) := hwc ▸ (Below.refl _ _).alloc (Nat.le_refl _) _
    have HO1 : Hid (wc.heap[w1.heap.size]? = some (.cells #[.pointer (some ⟨u, 0, none⟩), .pointer (some ⟨b, 0, none⟩), .pointer (some ⟨m, 0, none⟩), .pointer (some ⟨q, 0, none⟩)] 31 (0, 0))) := hwc ▸ heap_alloc_new w1 _
    have HN1 : Hid (¬ F w1.heap.size ∧ ¬ G w1.heap.size) := ⟨fun z => by have := HP1.out.us.lt z; omega, fun z => by have := HP1.out.ds.lt z; omega⟩
    have HPc := hid (HP1.out.below HBc.out)
    have HBw := hid (HB1.out.trans (HBc.out.mono HB1.out.size))
    rw [hwc]
    clear hwc HP1 HB1 HBc
    generalize w1.heap.size = ob at *
    generalize fcl 8 X la = f0 at *
    go_loopw [9] (fun i wr => ∃ (k : Nat) (F G : Nat → Prop) (v : UV) (f : Nat → Int) (L : List E.TV) (M : List MV), k ≤ lb ∧ i = .int .i64 k ∧ PW wr W.heap.size F G u b q r v 8 f room L M ∧ M.length ≤ k ∧ v.t = t ∧ v.m = m ∧ wr.heap[ob]? = some (.cells #[.pointer (some ⟨u, 0, none⟩), .pointer (some ⟨b, 0, none⟩), .pointer (some ⟨v.m, 0, none⟩), .pointer (some ⟨q, 0, none⟩)] 31 (0, 0)) ∧ ¬ F ob ∧ ¬ G ob ∧ Below W.heap.size W wr) (fun i _ => lb - (intOf i).toNat)
    case atStart => exact ⟨0, F, G, v0 t m, f0, [], [], by omega, rfl, HPc.out, Nat.le_refl _, rfl, rfl, HO1.out, HN1.out.1, HN1.out.2, HBw.out⟩
    case round =>
      clear HPc HO1 HN1 HBw
      rename World => wl
      obtain ⟨k, F, G, v, f, L, M, hk, rfl, hp, hM, et, em, hon, hn1, hn2, hbw⟩ := hrel
      subst et em
      have HPW := hid hp
      have HON := hid hon
      have HNo := hid (And.intro hn1 hn2)
      have HBW := hid hbw
      clear hp hon hn1 hn2 hbw
      by_cases hk2 : k < lb
      · obtain ⟨rfl, hbb⟩ := HY.out.at0 (by omega)
        have HYn := hid (HY.out.num k hk2)
        have hcap : lb ≤ cbp ∧ cbp ≤ 9223372036854775807 := ⟨HY.out.len, HY.out.cap⟩
        go_wp2_with fail
        refine wp_region_any (by kernel_rfl) ?_
        refine C.wpAny_inv (fun listed fr wr => ∃ (b0 b1 b2 b3 b4 b5 b6 b7 b8 b9 b10 b11 b12 b13 b14 b15 b16 b17 b18 b19 b20 b21 b22 b23 b24 b25 b26 b27 b28 b29 b30 b31 b32 b33 b34 b35 : Bool) (lo : Bool) (lv : Value) (ev : Value), listed = #[b0, b1, b2, b3, b4, b5, b6, b7, b8, b9, b10, b11, b12, b13, b14, b15, b16, b17, b18, b19, b20, b21, b22, b23, b24, b25, b26, b27, b28, b29, b30, b31, b32, b33, b34, b35] ∧ fr = { tmps := #[.int .i64 room, .slice ad la cap, .slice (some ⟨bb, bo, none⟩) lb cbp, undef, undef, undef, u6, .pointer (some ⟨ob, 0, none⟩), .bool true, .int .i64 k, .tuple #[.agg #[.pointer (some ⟨u, 0, none⟩), .pointer (some ⟨b, 0, none⟩), .pointer (some ⟨v.m, 0, none⟩), .pointer (some ⟨q, 0, none⟩)], .bool true], .int .i64 room, .slice ad la cap, .tuple #[.agg #[.pointer (some ⟨u, 0, none⟩), .pointer (some ⟨b, 0, none⟩), .pointer (some ⟨v.m, 0, none⟩), .pointer (some ⟨q, 0, none⟩)], .bool true], .agg #[.pointer (some ⟨u, 0, none⟩), .pointer (some ⟨b, 0, none⟩), .pointer (some ⟨v.m, 0, none⟩), .pointer (some ⟨q, 0, none⟩)], .bool true, .bool true, .bool false, .pointer (some ⟨ob, 1, none⟩), .pointer (some ⟨b, 0, none⟩), .bool false, undef, .int .i64 k, .slice (some ⟨bb, bo, none⟩) lb cbp, .int .i64 lb, .bool true, u26, u27, C.svd b0 (.agg #[.pointer (some ⟨u, 0, none⟩), .pointer (some ⟨b, 0, none⟩), .pointer (some ⟨v.m, 0, none⟩), .pointer (some ⟨q, 0, none⟩)]) (u28), C.svd b1 (.slice (some ⟨bb, bo, none⟩) lb cbp) (u29), C.svd b2 (.int .i64 k) (u30), C.svd b3 (.pointer (some ⟨bb, bo + k * 8, none⟩)) (u31), C.svd b4 (.agg #[.int .i64 (Y k).kind, .int .i64 (Y k).dev, .int .i64 (Y k).size, .int .u64 (Y k).addr, .int .u64 (Y k).data, .bool (Y k).write, .int .i64 (Y k).guest, .int .i64 (Y k).irq]) (u32), C.svd b5 (.bool true) (u33), C.svd b6 (.bool false) (u34), C.svd b7 (.bool false) (u35), C.svd b8 (.pointer (some ⟨ob, 0, none⟩)) (u36), C.svd b9 (.pointer (some ⟨u, 0, none⟩)) (u37), C.svd b10 (.bool lo) (u38), C.svd b11 (.pointer (some ⟨ob, 1, none⟩)) (u39), C.svd b12 (.pointer (some ⟨b, 0, none⟩)) (u40), C.svd b13 (.pointer (some ⟨b, 0, none⟩)) (u41), C.svd b14 (.pointer (some ⟨b, 15, none⟩)) (u42), C.svd b15 (.bool lo) (u43), C.svd b16 (.bool false) (u44), C.svd b17 (.bool false) (u45), C.svd b18 (.bool false) (u46), C.svd b19 (.pointer (some ⟨ob, 0, none⟩)) (u47), C.svd b20 (.pointer (some ⟨u, 0, none⟩)) (u48), C.svd b21 (.pointer (some ⟨u, 0, none⟩)) (u49), C.svd b22 (.pointer (some ⟨u, 0, none⟩)) (u50), C.svd b23 (.pointer (some ⟨v.t, 0, none⟩)) (u51), C.svd b24 (ev) (u52), C.svd b25 (.pointer (some ⟨ob, 1, none⟩)) (u53), C.svd b26 (.pointer (some ⟨b, 0, none⟩)) (u54), C.svd b27 (.pointer (some ⟨b, 0, none⟩)) (u55), C.svd b28 (.pointer (some ⟨b, 1, none⟩)) (u56), C.svd b29 (.pointer (some ⟨r, 0, none⟩)) (u57), C.svd b30 (.pointer (some ⟨r, 0, none⟩)) (u58), C.svd b31 (.pointer (some ⟨r, 1, none⟩)) (u59), C.svd b32 (lv) (u60), C.svd b33 (.bool true) (u61), C.svd b34 (.bool false) (u62), C.svd b35 (.bool false) (u63), undef, undef, undef, undef, undef, undef], defers := [] } ∧ JZ W wl ob F G u b q r v f room L M b5 b24 lo lv ev wr ∧ ((b6 || b7 || b8 || b9 || b10 || b11 || b12 || b13 || b14 || b15 || b16 || b17 || b18 || b19 || b20 || b21 || b22 || b23 || b24 || b25 || b26 || b27 || b28 || b29 || b30 || b31 || b32 || b33 || b34 || b35) = true → b5 = true)) ?step ?fin _ _ _ _ (by simp) ?start
        case start => exact ⟨false, false, false, false, false, false, false, false, false, false, false, false, false, false, false, false, false, false, false, false, false, false, false, false, false, false, false, false, false, false, false, false, false, false, false, false, false, (.slice none 0 0), (.slice none 0 0), rfl, rfl, ⟨HON.out, HBW.out.drew, fun _ => ⟨HPW.out.below (Below.refl _ _).drew, Kp.below (Below.refl _ _).drew HPW.out.sz⟩, fun y => by cases y⟩, fun y => by cases y⟩
        case fin =>
          rintro listed fr wr ⟨b0, b1, b2, b3, b4, b5, b6, b7, b8, b9, b10, b11, b12, b13, b14, b15, b16, b17, b18, b19, b20, b21, b22, b23, b24, b25, b26, b27, b28, b29, b30, b31, b32, b33, b34, b35, lo, lv, ev, rfl, rfl, hR⟩ hr
          obtain rfl : b0 = true := by
            cases b0 with
            | true => rfl
            | false => exact (C.ready_no hr (j := 0) rfl rfl (by kernel_rfl)).elim
          obtain rfl : b1 = true := by
            cases b1 with
            | true => rfl
            | false => exact (C.ready_no hr (j := 1) rfl rfl (by kernel_rfl)).elim
          obtain rfl : b2 = true := by
            cases b2 with
            | true => rfl
            | false => exact (C.ready_no hr (j := 2) rfl rfl (by kernel_rfl)).elim
          obtain rfl : b3 = true := by
            cases b3 with
            | true => rfl
            | false => exact (C.ready_no hr (j := 3) rfl rfl (by kernel_rfl)).elim
          obtain rfl : b4 = true := by
            cases b4 with
            | true => rfl
            | false => exact (C.ready_no hr (j := 4) rfl rfl (by kernel_rfl)).elim
          obtain rfl : b5 = true := by
            cases b5 with
            | true => rfl
            | false => exact (C.ready_no hr (j := 5) rfl rfl (by kernel_rfl)).elim
          obtain rfl : b6 = true := by
            cases b6 with
            | true => rfl
            | false => exact (C.ready_no hr (j := 6) rfl rfl (by kernel_rfl)).elim
          obtain rfl : b7 = true := by
            cases b7 with
            | true => rfl
            | false => exact (C.ready_no hr (j := 7) rfl rfl (by kernel_rfl)).elim
          obtain rfl : b8 = true := by
            cases b8 with
            | true => rfl
            | false => exact (C.ready_no hr (j := 8) rfl rfl (by kernel_rfl)).elim
          obtain rfl : b9 = true := by
            cases b9 with
            | true => rfl
            | false => exact (C.ready_no hr (j := 9) rfl rfl (by kernel_rfl)).elim
          obtain rfl : b10 = true := by
            cases b10 with
            | true => rfl
            | false => exact (C.ready_no hr (j := 10) rfl rfl (by kernel_rfl)).elim
          obtain rfl : b11 = true := by
            cases b11 with
            | true => rfl
            | false => exact (C.ready_no hr (j := 11) rfl rfl (by kernel_rfl)).elim
          obtain rfl : b12 = true := by
            cases b12 with
            | true => rfl
            | false => exact (C.ready_no hr (j := 12) rfl rfl (by kernel_rfl)).elim
          obtain rfl : b13 = true := by
            cases b13 with
            | true => rfl
            | false => exact (C.ready_no hr (j := 13) rfl rfl (by kernel_rfl)).elim
          obtain rfl : b14 = true := by
            cases b14 with
            | true => rfl
            | false => exact (C.ready_no hr (j := 14) rfl rfl (by kernel_rfl)).elim
          obtain rfl : b15 = true := by
            cases b15 with
            | true => rfl
            | false => exact (C.ready_no hr (j := 15) rfl rfl (by kernel_rfl)).elim
          obtain rfl : b16 = true := by
            cases b16 with
            | true => rfl
            | false => exact (C.ready_no hr (j := 16) rfl rfl (by kernel_rfl)).elim
          obtain rfl : b17 = true := by
            cases b17 with
            | true => rfl
            | false => exact (C.ready_no hr (j := 17) rfl rfl (by kernel_rfl)).elim
          obtain rfl : b18 = true := by
            cases b18 with
            | true => rfl
            | false => exact (C.ready_no hr (j := 18) rfl rfl (by kernel_rfl)).elim
          obtain rfl : b19 = true := by
            cases b19 with
            | true => rfl
            | false => exact (C.ready_no hr (j := 19) rfl rfl (by kernel_rfl)).elim
          obtain rfl : b20 = true := by
            cases b20 with
            | true => rfl
            | false => exact (C.ready_no hr (j := 20) rfl rfl (by kernel_rfl)).elim
          obtain rfl : b21 = true := by
            cases b21 with
            | true => rfl
            | false => exact (C.ready_no hr (j := 21) rfl rfl (by kernel_rfl)).elim
          obtain rfl : b22 = true := by
            cases b22 with
            | true => rfl
            | false => exact (C.ready_no hr (j := 22) rfl rfl (by kernel_rfl)).elim
          obtain rfl : b23 = true := by
            cases b23 with
            | true => rfl
            | false => exact (C.ready_no hr (j := 23) rfl rfl (by kernel_rfl)).elim
          obtain rfl : b24 = true := by
            cases b24 with
            | true => rfl
            | false => exact (C.ready_no hr (j := 24) rfl rfl (by kernel_rfl)).elim
          obtain rfl : b25 = true := by
            cases b25 with
            | true => rfl
            | false => exact (C.ready_no hr (j := 25) rfl rfl (by kernel_rfl)).elim
          obtain rfl : b26 = true := by
            cases b26 with
            | true => rfl
            | false => exact (C.ready_no hr (j := 26) rfl rfl (by kernel_rfl)).elim
          obtain rfl : b27 = true := by
            cases b27 with
            | true => rfl
            | false => exact (C.ready_no hr (j := 27) rfl rfl (by kernel_rfl)).elim
          obtain rfl : b28 = true := by
            cases b28 with
            | true => rfl
            | false => exact (C.ready_no hr (j := 28) rfl rfl (by kernel_rfl)).elim
          obtain rfl : b29 = true := by
            cases b29 with
            | true => rfl
            | false => exact (C.ready_no hr (j := 29) rfl rfl (by kernel_rfl)).elim
          obtain rfl : b30 = true := by
            cases b30 with
            | true => rfl
            | false => exact (C.ready_no hr (j := 30) rfl rfl (by kernel_rfl)).elim
          obtain rfl : b31 = true := by
            cases b31 with
            | true => rfl
            | false => exact (C.ready_no hr (j := 31) rfl rfl (by kernel_rfl)).elim
          obtain rfl : b32 = true := by
            cases b32 with
            | true => rfl
            | false => exact (C.ready_no hr (j := 32) rfl rfl (by kernel_rfl)).elim
          obtain rfl : b33 = true := by
            cases b33 with
            | true => rfl
            | false => exact (C.ready_no hr (j := 33) rfl rfl (by kernel_rfl)).elim
          obtain rfl : b34 = true := by
            cases b34 with
            | true => rfl
            | false => exact (C.ready_no hr (j := 34) rfl rfl (by kernel_rfl)).elim
          obtain rfl : b35 = true := by
            cases b35 with
            | true => rfl
            | false => exact (C.ready_no hr (j := 35) rfl rfl (by kernel_rfl)).elim
          clear hr
          simp only [C.svd]
          obtain ⟨hJ, -⟩ := hR
          obtain ⟨F', G', v', f', L', M', z1, z2, z3, z4, z5, z6, z7, z8, z9⟩ := hJ.p1 rfl
          have HZ : Hid (PW wr W.heap.size F' G' u b q r v' 8 f' room L' M' ∧ M'.length ≤ k + 1 ∧ v'.t = v.t ∧ v'.m = v.m ∧ ¬ F' ob ∧ ¬ G' ob) := ⟨z1, by omega, z4, z5, (z2.2 ob _ HON.out HNo.out.1 HNo.out.2).2⟩
          have HJ := hid hJ
          clear z1 z2 z3 z4 z5 z6 z7 z8 z9 hJ
          go_wp2_with fail
          go_roundw
          case rel => exact ⟨k + 1, F', G', v', f', L', M', by omega, by go_num, HZ.out.1, HZ.out.2.1, HZ.out.2.2.1, HZ.out.2.2.2.1, by rw [HZ.out.2.2.2.1]; exact HJ.out.on, HZ.out.2.2.2.2.1, HZ.out.2.2.2.2.2, HJ.out.bw⟩
          case measure => simp [intOf]; omega
        case step =>
          rintro listed fr wr ⟨b0, b1, b2, b3, b4, b5, b6, b7, b8, b9, b10, b11, b12, b13, b14, b15, b16, b17, b18, b19, b20, b21, b22, b23, b24, b25, b26, b27, b28, b29, b30, b31, b32, b33, b34, b35, lo, lv, ev, rfl, rfl, hR⟩ j hj
          obtain ⟨hl, o, ho, he⟩ := mem_ready.1 hj
          clear hj
          have HH := C.hid hR
          clear hR
          have tc0 := HH.out.1.c0
          have tc1 := HH.out.1.c1
          have tc2 := HH.out.1.c2
          have tc3 := HH.out.1.c3
          have ttu := HH.out.1.tu
          have ttr := HH.out.1.tr
          have HSc := C.hid (HY.out.below HH.out.1.bw)
          obtain ⟨y0, y1, y2, y3, y4, y5, y6, y7⟩ := HSc.out.cells k hk2
          clear HSc
          have hsv : ∀ v u, C.svd true v u = v := fun _ _ => rfl
          match j, ho, hl, he with
          | 0, ho, hl, he =>
            obtain rfl := Option.some.inj ho
            simp [Region.binds] at hl he
            clear ho
            have hL := hl
            clear hl he
            subst hL
            refine wpOp_step rfl (fun K hK => ?_)
            go_simp
            refine hK _ _ ⟨true, _, _, _, _, _, _, _, _, _, _, _, _, _, _, _, _, _, _, _, _, _, _, _, _, _, _, _, _, _, _, _, _, _, _, _, lo, lv, ev, rfl, ?_, (by first | exact HH.out | exact ⟨HH.out.1, fun _ => rfl⟩)⟩
            first | rfl | simp [C.svd]
          | 1, ho, hl, he =>
            obtain rfl := Option.some.inj ho
            simp [Region.binds] at hl he
            clear ho
            have hL := hl
            clear hl he
            subst hL
            refine wpOp_step rfl (fun K hK => ?_)
            go_simp
            refine hK _ _ ⟨_, true, _, _, _, _, _, _, _, _, _, _, _, _, _, _, _, _, _, _, _, _, _, _, _, _, _, _, _, _, _, _, _, _, _, _, lo, lv, ev, rfl, ?_, (by first | exact HH.out | exact ⟨HH.out.1, fun _ => rfl⟩)⟩
            first | rfl | simp [C.svd]
          | 2, ho, hl, he =>
            obtain rfl := Option.some.inj ho
            simp [Region.binds] at hl he
            clear ho
            have hL := hl
            clear hl he
            subst hL
            refine wpOp_step rfl (fun K hK => ?_)
            go_simp
            refine hK _ _ ⟨_, _, true, _, _, _, _, _, _, _, _, _, _, _, _, _, _, _, _, _, _, _, _, _, _, _, _, _, _, _, _, _, _, _, _, _, lo, lv, ev, rfl, ?_, (by first | exact HH.out | exact ⟨HH.out.1, fun _ => rfl⟩)⟩
            first | rfl | simp [C.svd]
          | 3, ho, hl, he =>
            obtain rfl := Option.some.inj ho
            simp [Region.binds] at hl he
            clear ho
            have hL := hl
            (try (have e1 : b1 = true := (by revert he; cases b1 <;> simp)))
            (try (have e2 : b2 = true := (by revert he; cases b2 <;> simp)))
            clear hl he
            (try subst e1)
            (try subst e2)
            subst hL
            refine wpOp_step rfl (fun K hK => ?_)
            go_simp
            refine hK _ _ ⟨_, _, _, true, _, _, _, _, _, _, _, _, _, _, _, _, _, _, _, _, _, _, _, _, _, _, _, _, _, _, _, _, _, _, _, _, lo, lv, ev, rfl, ?_, (by first | exact HH.out | exact ⟨HH.out.1, fun _ => rfl⟩)⟩
            first | rfl | simp [C.svd]
          | 4, ho, hl, he =>
            obtain rfl := Option.some.inj ho
            simp [Region.binds] at hl he
            clear ho
            have hL := hl
            (try (have e3 : b3 = true := (by revert he; cases b3 <;> simp)))
            clear hl he
            (try subst e3)
            subst hL
            refine wpOp_step rfl (fun K hK => ?_)
            go_simp
            refine hK _ _ ⟨_, _, _, _, true, _, _, _, _, _, _, _, _, _, _, _, _, _, _, _, _, _, _, _, _, _, _, _, _, _, _, _, _, _, _, _, lo, lv, ev, rfl, ?_, (by first | exact HH.out | exact ⟨HH.out.1, fun _ => rfl⟩)⟩
            first | rfl | simp [C.svd]
          | 5, ho, hl, he =>
            obtain rfl := Option.some.inj ho
            simp [Region.binds] at hl he
            clear ho
            have hL := hl
            (try (have e0 : b0 = true := (by revert he; cases b0 <;> simp)))
            (try (have e4 : b4 = true := (by revert he; cases b4 <;> simp)))
            clear hl he
            (try subst e0)
            (try subst e4)
            subst hL
            refine wpOp_step rfl (fun K hK => ?_)
            go_simp
            have hz : (b6 || b7 || b8 || b9 || b10 || b11 || b12 || b13 || b14 || b15 || b16 || b17 || b18 || b19 || b20 || b21 || b22 || b23 || b24 || b25 || b26 || b27 || b28 || b29 || b30 || b31 || b32 || b33 || b34 || b35) = false := by
              cases hh : (b6 || b7 || b8 || b9 || b10 || b11 || b12 || b13 || b14 || b15 || b16 || b17 || b18 || b19 || b20 || b21 || b22 || b23 || b24 || b25 || b26 || b27 || b28 || b29 || b30 || b31 || b32 || b33 || b34 || b35)
              · rfl
              · exact absurd (HH.out.2 hh) (by decide)
            simp only [Bool.or_eq_false_iff] at hz
            obtain ⟨⟨⟨⟨⟨⟨⟨⟨⟨⟨⟨⟨⟨⟨⟨⟨⟨⟨⟨⟨⟨⟨⟨⟨⟨⟨⟨⟨⟨rfl, rfl⟩, rfl⟩, rfl⟩, rfl⟩, rfl⟩, rfl⟩, rfl⟩, rfl⟩, rfl⟩, rfl⟩, rfl⟩, rfl⟩, rfl⟩, rfl⟩, rfl⟩, rfl⟩, rfl⟩, rfl⟩, rfl⟩, rfl⟩, rfl⟩, rfl⟩, rfl⟩, rfl⟩, rfl⟩, rfl⟩, rfl⟩, rfl⟩, rfl⟩ := hz
            obtain ⟨hp, hkp⟩ := HH.out.1.p0 rfl
            refine (do_any wr W.heap.size F G u b q r v 8 f room L M hp (Y k) HYn.out (by omega) (by decide)).mono ?_
            rintro e w2 ⟨rfl, F', G', v', f', L', M', hp2, hk2, hM, et, em⟩
            have hds := hp2.ds
            obtain ⟨S, mv, vv, j1, j2, j3, j4, j5, j6⟩ := hds
            refine hK _ _ ⟨_, _, _, _, _, true, _, _, _, _, _, _, _, _, _, _, _, _, _, _, _, _, _, _, _, _, _, _, _, _, _, _, _, _, _, _, v'.lost, vv, ev, rfl, ?_, ⟨(hk2.2 ob _ HH.out.1.on HNo.out.1 HNo.out.2).1, HH.out.1.bw.trans hk2.1, (fun y => by cases y), fun _ => ⟨F', G', v', f', L', M', hp2, hkp.trans hk2, hM, et, em, rfl, j3.c1, j3.es.rd, fun y => by cases y⟩⟩, fun _ => rfl⟩
            first | rfl | simp [C.svd]
          | 6, ho, hl, he =>
            obtain rfl := Option.some.inj ho
            simp [Region.binds] at hl he
            clear ho
            have hL := hl
            (try (have e5 : b5 = true := (by revert he; cases b5 <;> simp)))
            clear hl he
            (try subst e5)
            subst hL
            refine wpOp_step rfl (fun K hK => ?_)
            go_simp
            refine hK _ _ ⟨_, _, _, _, _, _, true, _, _, _, _, _, _, _, _, _, _, _, _, _, _, _, _, _, _, _, _, _, _, _, _, _, _, _, _, _, lo, lv, ev, rfl, ?_, (by first | exact HH.out | exact ⟨HH.out.1, fun _ => rfl⟩)⟩
            first | rfl | simp [C.svd]
          | 7, ho, hl, he =>
            obtain rfl := Option.some.inj ho
            simp [Region.binds] at hl he
            clear ho
            have hL := hl
            (try (have e5 : b5 = true := (by revert he; cases b5 <;> simp)))
            (try (have e6 : b6 = true := (by revert he; cases b6 <;> simp)))
            clear hl he
            (try subst e5)
            (try subst e6)
            subst hL
            have h5 := HH.out.2 (by simp)
            (try subst h5)
            refine wpOp_step rfl (fun K hK => ?_)
            go_simp
            refine hK _ _ ⟨_, _, _, _, _, _, _, true, _, _, _, _, _, _, _, _, _, _, _, _, _, _, _, _, _, _, _, _, _, _, _, _, _, _, _, _, lo, lv, ev, rfl, ?_, (by first | exact HH.out | exact ⟨HH.out.1, fun _ => rfl⟩)⟩
            first | rfl | simp [C.svd]
          | 8, ho, hl, he =>
            obtain rfl := Option.some.inj ho
            simp [Region.binds] at hl he
            clear ho
            have hL := hl
            (try (have e7 : b7 = true := (by revert he; cases b7 <;> simp)))
            clear hl he
            (try subst e7)
            subst hL
            have h5 := HH.out.2 (by simp)
            (try subst h5)
            refine wpOp_step rfl (fun K hK => ?_)
            go_simp
            refine hK _ _ ⟨_, _, _, _, _, _, _, _, true, _, _, _, _, _, _, _, _, _, _, _, _, _, _, _, _, _, _, _, _, _, _, _, _, _, _, _, lo, lv, ev, rfl, ?_, (by first | exact HH.out | exact ⟨HH.out.1, fun _ => rfl⟩)⟩
            first | rfl | simp [C.svd]
          | 9, ho, hl, he =>
            obtain rfl := Option.some.inj ho
            simp [Region.binds] at hl he
            clear ho
            have hL := hl
            (try (have e7 : b7 = true := (by revert he; cases b7 <;> simp)))
            (try (have e8 : b8 = true := (by revert he; cases b8 <;> simp)))
            clear hl he
            (try subst e7)
            (try subst e8)
            subst hL
            have h5 := HH.out.2 (by simp)
            (try subst h5)
            refine wpOp_step rfl (fun K hK => ?_)
            go_simp
            refine hK _ _ ⟨_, _, _, _, _, _, _, _, _, true, _, _, _, _, _, _, _, _, _, _, _, _, _, _, _, _, _, _, _, _, _, _, _, _, _, _, lo, lv, ev, rfl, ?_, (by first | exact HH.out | exact ⟨HH.out.1, fun _ => rfl⟩)⟩
            first | rfl | simp [C.svd]
          | 10, ho, hl, he =>
            obtain rfl := Option.some.inj ho
            simp [Region.binds] at hl he
            clear ho
            have hL := hl
            (try (have e7 : b7 = true := (by revert he; cases b7 <;> simp)))
            (try (have e9 : b9 = true := (by revert he; cases b9 <;> simp)))
            clear hl he
            (try subst e7)
            (try subst e9)
            subst hL
            have h5 := HH.out.2 (by simp)
            (try subst h5)
            refine wpOp_step rfl (fun K hK => ?_)
            go_simp
            obtain ⟨F', G', v', f', L', M', z1, z2, z3, z4, z5, z6, z7, z8, z9⟩ := HH.out.1.p1 rfl
            refine (m_Overflow wr u v' z1.us.iu).mono ?_
            rw [z6]
            rintro e w3 ⟨rfl, hw3⟩
            obtain rfl := hw3.symm
            refine hK _ _ ⟨_, _, _, _, _, _, _, _, _, _, true, _, _, _, _, _, _, _, _, _, _, _, _, _, _, _, _, _, _, _, _, _, _, _, _, _, lo, lv, ev, rfl, ?_, HH.out.1, fun _ => rfl⟩
            first | rfl | simp [C.svd]
          | 11, ho, hl, he =>
            obtain rfl := Option.some.inj ho
            simp [Region.binds] at hl he
            clear ho
            have hL := hl
            (try (have e7 : b7 = true := (by revert he; cases b7 <;> simp)))
            clear hl he
            (try subst e7)
            subst hL
            have h5 := HH.out.2 (by simp)
            (try subst h5)
            refine wpOp_step rfl (fun K hK => ?_)
            go_simp
            refine hK _ _ ⟨_, _, _, _, _, _, _, _, _, _, _, true, _, _, _, _, _, _, _, _, _, _, _, _, _, _, _, _, _, _, _, _, _, _, _, _, lo, lv, ev, rfl, ?_, (by first | exact HH.out | exact ⟨HH.out.1, fun _ => rfl⟩)⟩
            first | rfl | simp [C.svd]
          | 12, ho, hl, he =>
            obtain rfl := Option.some.inj ho
            simp [Region.binds] at hl he
            clear ho
            have hL := hl
            (try (have e7 : b7 = true := (by revert he; cases b7 <;> simp)))
            (try (have e11 : b11 = true := (by revert he; cases b11 <;> simp)))
            clear hl he
            (try subst e7)
            (try subst e11)
            subst hL
            have h5 := HH.out.2 (by simp)
            (try subst h5)
            refine wpOp_step rfl (fun K hK => ?_)
            go_simp
            refine hK _ _ ⟨_, _, _, _, _, _, _, _, _, _, _, _, true, _, _, _, _, _, _, _, _, _, _, _, _, _, _, _, _, _, _, _, _, _, _, _, lo, lv, ev, rfl, ?_, (by first | exact HH.out | exact ⟨HH.out.1, fun _ => rfl⟩)⟩
            first | rfl | simp [C.svd]
          | 13, ho, hl, he =>
            obtain rfl := Option.some.inj ho
            simp [Region.binds] at hl he
            clear ho
            have hL := hl
            (try (have e7 : b7 = true := (by revert he; cases b7 <;> simp)))
            (try (have e12 : b12 = true := (by revert he; cases b12 <;> simp)))
            clear hl he
            (try subst e7)
            (try subst e12)
            subst hL
            have h5 := HH.out.2 (by simp)
            (try subst h5)
            refine wpOp_step rfl (fun K hK => ?_)
            go_simp
            refine hK _ _ ⟨_, _, _, _, _, _, _, _, _, _, _, _, _, true, _, _, _, _, _, _, _, _, _, _, _, _, _, _, _, _, _, _, _, _, _, _, lo, lv, ev, rfl, ?_, (by first | exact HH.out | exact ⟨HH.out.1, fun _ => rfl⟩)⟩
            first | rfl | simp [C.svd]
          | 14, ho, hl, he =>
            obtain rfl := Option.some.inj ho
            simp [Region.binds] at hl he
            clear ho
            have hL := hl
            (try (have e7 : b7 = true := (by revert he; cases b7 <;> simp)))
            (try (have e13 : b13 = true := (by revert he; cases b13 <;> simp)))
            clear hl he
            (try subst e7)
            (try subst e13)
            subst hL
            have h5 := HH.out.2 (by simp)
            (try subst h5)
            refine wpOp_step rfl (fun K hK => ?_)
            go_simp
            refine hK _ _ ⟨_, _, _, _, _, _, _, _, _, _, _, _, _, _, true, _, _, _, _, _, _, _, _, _, _, _, _, _, _, _, _, _, _, _, _, _, lo, lv, ev, rfl, ?_, (by first | exact HH.out | exact ⟨HH.out.1, fun _ => rfl⟩)⟩
            first | rfl | simp [C.svd]
          | 15, ho, hl, he =>
            obtain rfl := Option.some.inj ho
            simp [Region.binds] at hl he
            clear ho
            have hL := hl
            (try (have e7 : b7 = true := (by revert he; cases b7 <;> simp)))
            (try (have e14 : b14 = true := (by revert he; cases b14 <;> simp)))
            clear hl he
            (try subst e7)
            (try subst e14)
            subst hL
            have h5 := HH.out.2 (by simp)
            (try subst h5)
            have tov := HH.out.1.over
            refine wpOp_step rfl (fun K hK => ?_)
            go_simp
            refine hK _ _ ⟨_, _, _, _, _, _, _, _, _, _, _, _, _, _, _, true, _, _, _, _, _, _, _, _, _, _, _, _, _, _, _, _, _, _, _, _, lo, lv, ev, rfl, ?_, (by first | exact HH.out | exact ⟨HH.out.1, fun _ => rfl⟩)⟩
            first | rfl | simp [C.svd]
          | 16, ho, hl, he =>
            obtain rfl := Option.some.inj ho
            simp [Region.binds] at hl he
            clear ho
            have hL := hl
            (try (have e7 : b7 = true := (by revert he; cases b7 <;> simp)))
            (try (have e10 : b10 = true := (by revert he; cases b10 <;> simp)))
            (try (have e15 : b15 = true := (by revert he; cases b15 <;> simp)))
            clear hl he
            (try subst e7)
            (try subst e10)
            (try subst e15)
            subst hL
            have h5 := HH.out.2 (by simp)
            (try subst h5)
            refine wpOp_step rfl (fun K hK => ?_)
            go_simp
            refine hK _ _ ⟨_, _, _, _, _, _, _, _, _, _, _, _, _, _, _, _, true, _, _, _, _, _, _, _, _, _, _, _, _, _, _, _, _, _, _, _, lo, lv, ev, rfl, ?_, (by first | exact HH.out | exact ⟨HH.out.1, fun _ => rfl⟩)⟩
            first | rfl | simp [C.svd]
          | 17, ho, hl, he =>
            obtain rfl := Option.some.inj ho
            simp [Region.binds] at hl he
            clear ho
            have hL := hl
            (try (have e7 : b7 = true := (by revert he; cases b7 <;> simp)))
            (try (have e16 : b16 = true := (by revert he; cases b16 <;> simp)))
            clear hl he
            (try subst e7)
            (try subst e16)
            subst hL
            have h5 := HH.out.2 (by simp)
            (try subst h5)
            refine wpOp_step rfl (fun K hK => ?_)
            go_simp
            refine hK _ _ ⟨_, _, _, _, _, _, _, _, _, _, _, _, _, _, _, _, _, true, _, _, _, _, _, _, _, _, _, _, _, _, _, _, _, _, _, _, lo, lv, ev, rfl, ?_, (by first | exact HH.out | exact ⟨HH.out.1, fun _ => rfl⟩)⟩
            first | rfl | simp [C.svd]
          | 18, ho, hl, he =>
            obtain rfl := Option.some.inj ho
            simp [Region.binds] at hl he
            clear ho
            have hL := hl
            (try (have e10 : b10 = true := (by revert he; cases b10 <;> simp)))
            (try (have e17 : b17 = true := (by revert he; cases b17 <;> simp)))
            clear hl he
            (try subst e10)
            (try subst e17)
            subst hL
            have h5 := HH.out.2 (by simp)
            (try subst h5)
            refine wpOp_step rfl (fun K hK => ?_)
            go_simp
            refine hK _ _ ⟨_, _, _, _, _, _, _, _, _, _, _, _, _, _, _, _, _, _, true, _, _, _, _, _, _, _, _, _, _, _, _, _, _, _, _, _, lo, lv, ev, rfl, ?_, (by first | exact HH.out | exact ⟨HH.out.1, fun _ => rfl⟩)⟩
            first | rfl | simp [C.svd]
          | 19, ho, hl, he =>
            obtain rfl := Option.some.inj ho
            simp [Region.binds] at hl he
            clear ho
            have hL := hl
            (try (have e18 : b18 = true := (by revert he; cases b18 <;> simp)))
            clear hl he
            (try subst e18)
            subst hL
            have h5 := HH.out.2 (by simp)
            (try subst h5)
            refine wpOp_step rfl (fun K hK => ?_)
            go_simp
            refine hK _ _ ⟨_, _, _, _, _, _, _, _, _, _, _, _, _, _, _, _, _, _, _, true, _, _, _, _, _, _, _, _, _, _, _, _, _, _, _, _, lo, lv, ev, rfl, ?_, (by first | exact HH.out | exact ⟨HH.out.1, fun _ => rfl⟩)⟩
            first | rfl | simp [C.svd]
          | 20, ho, hl, he =>
            obtain rfl := Option.some.inj ho
            simp [Region.binds] at hl he
            clear ho
            have hL := hl
            (try (have e18 : b18 = true := (by revert he; cases b18 <;> simp)))
            (try (have e19 : b19 = true := (by revert he; cases b19 <;> simp)))
            clear hl he
            (try subst e18)
            (try subst e19)
            subst hL
            have h5 := HH.out.2 (by simp)
            (try subst h5)
            refine wpOp_step rfl (fun K hK => ?_)
            go_simp
            refine hK _ _ ⟨_, _, _, _, _, _, _, _, _, _, _, _, _, _, _, _, _, _, _, _, true, _, _, _, _, _, _, _, _, _, _, _, _, _, _, _, lo, lv, ev, rfl, ?_, (by first | exact HH.out | exact ⟨HH.out.1, fun _ => rfl⟩)⟩
            first | rfl | simp [C.svd]
          | 21, ho, hl, he =>
            obtain rfl := Option.some.inj ho
            simp [Region.binds] at hl he
            clear ho
            have hL := hl
            (try (have e18 : b18 = true := (by revert he; cases b18 <;> simp)))
            (try (have e20 : b20 = true := (by revert he; cases b20 <;> simp)))
            clear hl he
            (try subst e18)
            (try subst e20)
            subst hL
            have h5 := HH.out.2 (by simp)
            (try subst h5)
            refine wpOp_step rfl (fun K hK => ?_)
            go_simp
            refine hK _ _ ⟨_, _, _, _, _, _, _, _, _, _, _, _, _, _, _, _, _, _, _, _, _, true, _, _, _, _, _, _, _, _, _, _, _, _, _, _, lo, lv, ev, rfl, ?_, (by first | exact HH.out | exact ⟨HH.out.1, fun _ => rfl⟩)⟩
            first | rfl | simp [C.svd]
          | 22, ho, hl, he =>
            obtain rfl := Option.some.inj ho
            simp [Region.binds] at hl he
            clear ho
            have hL := hl
            (try (have e18 : b18 = true := (by revert he; cases b18 <;> simp)))
            (try (have e21 : b21 = true := (by revert he; cases b21 <;> simp)))
            clear hl he
            (try subst e18)
            (try subst e21)
            subst hL
            have h5 := HH.out.2 (by simp)
            (try subst h5)
            refine wpOp_step rfl (fun K hK => ?_)
            go_simp
            refine hK _ _ ⟨_, _, _, _, _, _, _, _, _, _, _, _, _, _, _, _, _, _, _, _, _, _, true, _, _, _, _, _, _, _, _, _, _, _, _, _, lo, lv, ev, rfl, ?_, (by first | exact HH.out | exact ⟨HH.out.1, fun _ => rfl⟩)⟩
            first | rfl | simp [C.svd]
          | 23, ho, hl, he =>
            obtain rfl := Option.some.inj ho
            simp [Region.binds] at hl he
            clear ho
            have hL := hl
            (try (have e18 : b18 = true := (by revert he; cases b18 <;> simp)))
            (try (have e22 : b22 = true := (by revert he; cases b22 <;> simp)))
            clear hl he
            (try subst e18)
            (try subst e22)
            subst hL
            have h5 := HH.out.2 (by simp)
            (try subst h5)
            refine wpOp_step rfl (fun K hK => ?_)
            go_simp
            refine hK _ _ ⟨_, _, _, _, _, _, _, _, _, _, _, _, _, _, _, _, _, _, _, _, _, _, _, true, _, _, _, _, _, _, _, _, _, _, _, _, lo, lv, ev, rfl, ?_, (by first | exact HH.out | exact ⟨HH.out.1, fun _ => rfl⟩)⟩
            first | rfl | simp [C.svd]
          | 24, ho, hl, he =>
            obtain rfl := Option.some.inj ho
            simp [Region.binds] at hl he
            clear ho
            have hL := hl
            (try (have e18 : b18 = true := (by revert he; cases b18 <;> simp)))
            (try (have e23 : b23 = true := (by revert he; cases b23 <;> simp)))
            clear hl he
            (try subst e18)
            (try subst e23)
            subst hL
            have h5 := HH.out.2 (by simp)
            (try subst h5)
            refine wpOp_step rfl (fun K hK => ?_)
            go_simp
            obtain ⟨F', G', v', f', L', M', z1, z2, z3, z4, z5, z6, z7, z8, z9⟩ := HH.out.1.p1 rfl
            have hus := z1.us
            obtain ⟨S, g, i1, i2, i3, i4, i5⟩ := hus
            rw [z4] at i3
            refine (E.c_Entries wr v.t g room L' i3).mono ?_
            rintro e w3 ⟨ev', rfl, hes, hb3⟩
            refine hK _ _ ⟨_, _, _, _, _, _, _, _, _, _, _, _, _, _, _, _, _, _, _, _, _, _, _, _, true, _, _, _, _, _, _, _, _, _, _, _, lo, lv, ev', rfl, ?_, ⟨(hb3.block ob (lt_of_block HH.out.1.on)).trans HH.out.1.on, HH.out.1.bw.trans (hb3.mono HH.out.1.bw.size), (fun y => by cases y), fun _ => ⟨F', G', v', f', L', M', z1.below hb3, z2.trans (Kp.below hb3 z1.sz), z3, z4, z5, z6, (World.cell?_of_block (w := wr) (hb3.block r z1.ds.rl)).trans z7, z8.below hb3, fun _ => hes.rd⟩⟩, fun _ => rfl⟩
            first | rfl | simp [C.svd]
          | 25, ho, hl, he =>
            obtain rfl := Option.some.inj ho
            simp [Region.binds] at hl he
            clear ho
            have hL := hl
            (try (have e18 : b18 = true := (by revert he; cases b18 <;> simp)))
            clear hl he
            (try subst e18)
            subst hL
            have h5 := HH.out.2 (by simp)
            (try subst h5)
            refine wpOp_step rfl (fun K hK => ?_)
            go_simp
            refine hK _ _ ⟨_, _, _, _, _, _, _, _, _, _, _, _, _, _, _, _, _, _, _, _, _, _, _, _, _, true, _, _, _, _, _, _, _, _, _, _, lo, lv, ev, rfl, ?_, (by first | exact HH.out | exact ⟨HH.out.1, fun _ => rfl⟩)⟩
            first | rfl | simp [C.svd]
          | 26, ho, hl, he =>
            obtain rfl := Option.some.inj ho
            simp [Region.binds] at hl he
            clear ho
            have hL := hl
            (try (have e18 : b18 = true := (by revert he; cases b18 <;> simp)))
            (try (have e25 : b25 = true := (by revert he; cases b25 <;> simp)))
            clear hl he
            (try subst e18)
            (try subst e25)
            subst hL
            have h5 := HH.out.2 (by simp)
            (try subst h5)
            refine wpOp_step rfl (fun K hK => ?_)
            go_simp
            refine hK _ _ ⟨_, _, _, _, _, _, _, _, _, _, _, _, _, _, _, _, _, _, _, _, _, _, _, _, _, _, true, _, _, _, _, _, _, _, _, _, lo, lv, ev, rfl, ?_, (by first | exact HH.out | exact ⟨HH.out.1, fun _ => rfl⟩)⟩
            first | rfl | simp [C.svd]
          | 27, ho, hl, he =>
            obtain rfl := Option.some.inj ho
            simp [Region.binds] at hl he
            clear ho
            have hL := hl
            (try (have e18 : b18 = true := (by revert he; cases b18 <;> simp)))
            (try (have e26 : b26 = true := (by revert he; cases b26 <;> simp)))
            clear hl he
            (try subst e18)
            (try subst e26)
            subst hL
            have h5 := HH.out.2 (by simp)
            (try subst h5)
            refine wpOp_step rfl (fun K hK => ?_)
            go_simp
            refine hK _ _ ⟨_, _, _, _, _, _, _, _, _, _, _, _, _, _, _, _, _, _, _, _, _, _, _, _, _, _, _, true, _, _, _, _, _, _, _, _, lo, lv, ev, rfl, ?_, (by first | exact HH.out | exact ⟨HH.out.1, fun _ => rfl⟩)⟩
            first | rfl | simp [C.svd]
          | 28, ho, hl, he =>
            obtain rfl := Option.some.inj ho
            simp [Region.binds] at hl he
            clear ho
            have hL := hl
            (try (have e18 : b18 = true := (by revert he; cases b18 <;> simp)))
            (try (have e27 : b27 = true := (by revert he; cases b27 <;> simp)))
            clear hl he
            (try subst e18)
            (try subst e27)
            subst hL
            have h5 := HH.out.2 (by simp)
            (try subst h5)
            refine wpOp_step rfl (fun K hK => ?_)
            go_simp
            refine hK _ _ ⟨_, _, _, _, _, _, _, _, _, _, _, _, _, _, _, _, _, _, _, _, _, _, _, _, _, _, _, _, true, _, _, _, _, _, _, _, lo, lv, ev, rfl, ?_, (by first | exact HH.out | exact ⟨HH.out.1, fun _ => rfl⟩)⟩
            first | rfl | simp [C.svd]
          | 29, ho, hl, he =>
            obtain rfl := Option.some.inj ho
            simp [Region.binds] at hl he
            clear ho
            have hL := hl
            (try (have e18 : b18 = true := (by revert he; cases b18 <;> simp)))
            (try (have e28 : b28 = true := (by revert he; cases b28 <;> simp)))
            clear hl he
            (try subst e18)
            (try subst e28)
            subst hL
            have h5 := HH.out.2 (by simp)
            (try subst h5)
            refine wpOp_step rfl (fun K hK => ?_)
            go_simp
            refine hK _ _ ⟨_, _, _, _, _, _, _, _, _, _, _, _, _, _, _, _, _, _, _, _, _, _, _, _, _, _, _, _, _, true, _, _, _, _, _, _, lo, lv, ev, rfl, ?_, (by first | exact HH.out | exact ⟨HH.out.1, fun _ => rfl⟩)⟩
            first | rfl | simp [C.svd]
          | 30, ho, hl, he =>
            obtain rfl := Option.some.inj ho
            simp [Region.binds] at hl he
            clear ho
            have hL := hl
            (try (have e18 : b18 = true := (by revert he; cases b18 <;> simp)))
            (try (have e29 : b29 = true := (by revert he; cases b29 <;> simp)))
            clear hl he
            (try subst e18)
            (try subst e29)
            subst hL
            have h5 := HH.out.2 (by simp)
            (try subst h5)
            refine wpOp_step rfl (fun K hK => ?_)
            go_simp
            refine hK _ _ ⟨_, _, _, _, _, _, _, _, _, _, _, _, _, _, _, _, _, _, _, _, _, _, _, _, _, _, _, _, _, _, true, _, _, _, _, _, lo, lv, ev, rfl, ?_, (by first | exact HH.out | exact ⟨HH.out.1, fun _ => rfl⟩)⟩
            first | rfl | simp [C.svd]
          | 31, ho, hl, he =>
            obtain rfl := Option.some.inj ho
            simp [Region.binds] at hl he
            clear ho
            have hL := hl
            (try (have e18 : b18 = true := (by revert he; cases b18 <;> simp)))
            (try (have e30 : b30 = true := (by revert he; cases b30 <;> simp)))
            clear hl he
            (try subst e18)
            (try subst e30)
            subst hL
            have h5 := HH.out.2 (by simp)
            (try subst h5)
            refine wpOp_step rfl (fun K hK => ?_)
            go_simp
            refine hK _ _ ⟨_, _, _, _, _, _, _, _, _, _, _, _, _, _, _, _, _, _, _, _, _, _, _, _, _, _, _, _, _, _, _, true, _, _, _, _, lo, lv, ev, rfl, ?_, (by first | exact HH.out | exact ⟨HH.out.1, fun _ => rfl⟩)⟩
            first | rfl | simp [C.svd]
          | 32, ho, hl, he =>
            obtain rfl := Option.some.inj ho
            simp [Region.binds] at hl he
            clear ho
            have hL := hl
            (try (have e18 : b18 = true := (by revert he; cases b18 <;> simp)))
            (try (have e31 : b31 = true := (by revert he; cases b31 <;> simp)))
            clear hl he
            (try subst e18)
            (try subst e31)
            subst hL
            have h5 := HH.out.2 (by simp)
            (try subst h5)
            have tli := HH.out.1.list
            refine wpOp_step rfl (fun K hK => ?_)
            go_simp
            refine hK _ _ ⟨_, _, _, _, _, _, _, _, _, _, _, _, _, _, _, _, _, _, _, _, _, _, _, _, _, _, _, _, _, _, _, _, true, _, _, _, lo, lv, ev, rfl, ?_, (by first | exact HH.out | exact ⟨HH.out.1, fun _ => rfl⟩)⟩
            first | rfl | simp [C.svd]
          | 33, ho, hl, he =>
            obtain rfl := Option.some.inj ho
            simp [Region.binds] at hl he
            clear ho
            have hL := hl
            (try (have e18 : b18 = true := (by revert he; cases b18 <;> simp)))
            (try (have e24 : b24 = true := (by revert he; cases b24 <;> simp)))
            (try (have e32 : b32 = true := (by revert he; cases b32 <;> simp)))
            clear hl he
            (try subst e18)
            (try subst e24)
            (try subst e32)
            subst hL
            have h5 := HH.out.2 (by simp)
            (try subst h5)
            refine wpOp_step rfl (fun K hK => ?_)
            go_simp
            obtain ⟨F', G', v', f', L', M', z1, z2, z3, z4, z5, z6, z7, z8, z9⟩ := HH.out.1.p1 rfl
            have hl := z1.us.r0
            refine (E.c_Same wr ev lv L' (z9 rfl) z8 (by omega)).mono ?_
            rintro e w3 ⟨rfl, hs3⟩
            refine hK _ _ ⟨_, _, _, _, _, _, _, _, _, _, _, _, _, _, _, _, _, _, _, _, _, _, _, _, _, _, _, _, _, _, _, _, _, true, _, _, lo, lv, ev, rfl, ?_, HH.out.1.below (hs3.below _), fun _ => rfl⟩
            first | rfl | simp [C.svd]
          | 34, ho, hl, he =>
            obtain rfl := Option.some.inj ho
            simp [Region.binds] at hl he
            clear ho
            have hL := hl
            (try (have e18 : b18 = true := (by revert he; cases b18 <;> simp)))
            (try (have e33 : b33 = true := (by revert he; cases b33 <;> simp)))
            clear hl he
            (try subst e18)
            (try subst e33)
            subst hL
            have h5 := HH.out.2 (by simp)
            (try subst h5)
            refine wpOp_step rfl (fun K hK => ?_)
            go_simp
            refine hK _ _ ⟨_, _, _, _, _, _, _, _, _, _, _, _, _, _, _, _, _, _, _, _, _, _, _, _, _, _, _, _, _, _, _, _, _, _, true, _, lo, lv, ev, rfl, ?_, (by first | exact HH.out | exact ⟨HH.out.1, fun _ => rfl⟩)⟩
            first | rfl | simp [C.svd]
          | 35, ho, hl, he =>
            obtain rfl := Option.some.inj ho
            simp [Region.binds] at hl he
            clear ho
            have hL := hl
            (try (have e18 : b18 = true := (by revert he; cases b18 <;> simp)))
            (try (have e34 : b34 = true := (by revert he; cases b34 <;> simp)))
            clear hl he
            (try subst e18)
            (try subst e34)
            subst hL
            have h5 := HH.out.2 (by simp)
            (try subst h5)
            refine wpOp_step rfl (fun K hK => ?_)
            go_simp
            refine hK _ _ ⟨_, _, _, _, _, _, _, _, _, _, _, _, _, _, _, _, _, _, _, _, _, _, _, _, _, _, _, _, _, _, _, _, _, _, _, true, lo, lv, ev, rfl, ?_, (by first | exact HH.out | exact ⟨HH.out.1, fun _ => rfl⟩)⟩
            first | rfl | simp [C.svd]
          | k + 36, ho, hl, he => simp at ho
      · obtain rfl : k = lb := by omega
        have hus := HPW.out.us
        have hds := HPW.out.ds
        obtain ⟨S, g, i1, i2, i3, i4, i5⟩ := hus
        obtain ⟨T, mv, vv, j1, j2, j3, j4, j5, j6⟩ := hds
        have c2 : wl.cell? ⟨ob, 2, none⟩ = some (.pointer (some ⟨v.m, 0, none⟩)) := by rw [cell_of_row wl _ 2 _ _ _ HON.out]; rfl
        have c3 : wl.cell? ⟨ob, 3, none⟩ = some (.pointer (some ⟨q, 0, none⟩)) := by rw [cell_of_row wl _ 3 _ _ _ HON.out]; rfl
        have HI := hid (And.intro i2 j2)
        clear i1 i2 i3 i4 i5 j1 j2 j3 j4 j5 j6
        go_wp2_with (first
          | (go_at_call 10; refine (C.c_Same wl S T v.m q 0 8 f HI.out.1 HI.out.2).mono ?_; rintro e w2 ⟨rfl, hb2⟩; have HB2 := hid hb2; clear hb2)
          | (go_at_call 5; refine (l_awake _).mono ?_; rintro e w3 ⟨rfl, hb3⟩; have HB3 := hid hb3; clear hb3))
        go_ret
        exact ⟨rfl, (HBW.out.trans (HB2.out.mono HBW.out.size)).trans (HB3.out.mono (Nat.le_trans HBW.out.size HB2.out.size))⟩
end Go.Proofs.YtfoafgbhelgjcaaGreat
