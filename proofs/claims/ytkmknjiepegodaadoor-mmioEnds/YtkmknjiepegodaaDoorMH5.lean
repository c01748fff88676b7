/- Two accesses that are the same are equal; awake. -/
import Derived.Test.YtkmknjiepegodaaDoorWI
import Derived.Test.YtkmknjiepegodaaDoorMH2
import Derived.OpenShut
import Derived.ChangeArms
import Derived.SevenTiedAt
import Derived.Test.YtkmknjiepegodaaDoorWC
namespace Go.Proofs.YtkmknjiepegodaaDoor
open Go.RowKit
set_option linter.unusedVariables false
set_option maxRecDepth 100000

theorem stood_acc : Tryd.prog.stoodInHeld 30 = false := by kernel_rfl
theorem run_eqA (a : AV) (w : World) : (Op.equalIn 10000 30 a.v a.v).run Tryd.prog w = .ok true w := by
  rw [run_equalIn_struct w 9999 30 _ _ u_acc stood_acc]
  go_simp
def hawk : HV := { HV.zero with x := upd (fun _ => 0) 11 268435461 }
theorem hawk_ok : HOk hawk := ⟨fun r => by show 0 ≤ upd (fun _ => 0) 11 268435461 r ∧ upd (fun _ => 0) 11 268435461 r < _; unfold upd; split; exact ⟨by decide, by decide⟩; exact ⟨Int.le_refl 0, (by decide : (0 : Int) < 18446744073709551616)⟩, by decide, by decide, by decide, by decide, by decide, by decide, by decide, by decide, by decide, by decide⟩
def aawk : AV := ⟨false, true, 4, 10, 4, 268435461, 0⟩
theorem D_awk : (B.D 369923).1 = ⟨6, 0, 10, 11, 0, 0, 4, true⟩ := by rfl
theorem pl_awk : plF (ordH hawk) (B.D 369923).1 4 = (aawk, true) := by rw [D_awk]; rfl
theorem ca_awk : HV.zero.ca.setIfInBounds 11 (.int .u64 268435461) = hawk.ca := ca_setx HV.zero 268435461 (by omega)
set_option maxHeartbeats 1000000 in
theorem m_awake (w : World) (hG : B.G w) : Calls Tryd.prog 9 #[] w fun e w' => e = .returned (.bool true) ∧ Below w.heap.size w w' := by
  have heq : ∀ u : World, (Op.equalIn 10000 30 (.agg #[.bool false, .bool true, .int .i64 4, .int .i64 10, .int .i64 4, .int .u64 268435461, .int .u64 0]) (.agg #[.bool false, .bool true, .int .i64 4, .int .i64 10, .int .i64 4, .int .u64 268435461, .int .u64 0])).run Tryd.prog u = .ok true u := run_eqA aawk
  have HP : Hid (∀ u, B.G u → Calls Tryd.prog 5 #[hawk.v, .int .u32 369923, .int .i64 4] u fun e w' => e = .returned (.tuple #[.agg #[.bool false, .bool true, .int .i64 4, .int .i64 10, .int .i64 4, .int .u64 268435461, .int .u64 0], .bool true]) ∧ Below u.heap.size u w') := fun u hg => by
    have := k_Plan hawk hawk_ok 369923 (by decide) (by decide) 4 u hg
    rw [pl_awk] at this
    exact this
  have HG := hid hG
  clear hG
  go_enter Tryd.func9, Tryd.ntmps9
  go_upto_region 3 with (first
    | ((with_reducible refine wpList_new (z := .agg HV.zero.ca) HV.zero.ca ?_ ?_ ?_); rfl; exact z_hart))
  obtain ⟨wa, hwa⟩ : ∃ wa, wa = w.alloc (.cells (HV.zero.ca.setIfInBounds 11 (.int .u64 268435461)) 25) := ⟨_, rfl⟩
  rw [← hwa]
  have P0 : Hid (wa.heap[w.heap.size]? = some (.cells hawk.ca 25 (0, 0))) := by show _ = _; rw [hwa, ← ca_awk]; exact heap_alloc_new _ _
  have HW : Hid (Below w.heap.size w wa) := by show Below _ _ _; rw [hwa]; exact (Below.refl _ _).alloc (Nat.le_refl _) _
  have HGA : Hid (B.G wa) := by show B.G wa; rw [hwa]; exact HG.out.alloc _
  clear hwa
  go_wp2_with (first
    | ((with_reducible refine wpL_loadH (x := .tmp 1) w.heap.size ?_ hawk ?_ ?_); rfl; exact P0.out)
    | (go_at_call 5; refine (HP.out _ HGA.out).mono ?_; rintro e w1 ⟨rfl, hb⟩; have HB1 := hid hb; clear hb))
  go_ret
  exact ⟨rfl, (bT HW.out HB1.out).alloc (Nat.le_trans HW.out.size HB1.out.size) _⟩
end Go.Proofs.YtkmknjiepegodaaDoor
namespace Go.Proofs.YtkmknjiepegodaaDoor
open Go.RowKit
set_option linter.unusedVariables false
set_option maxRecDepth 100000

set_option maxHeartbeats 2000000 in
theorem w_MmioEnds (h : HV) (a : AV) (v : Int) (e : EV) (ok : HOk h) (oa : AOk a) (v0 : 0 ≤ v ∧ v < 18446744073709551616) (hv : 0 ≤ e.va ∧ e.va < 18446744073709551616) (w : World) (hG : B.G w) :
    Calls Tryd.prog 4 #[h.v, a.v, .int .u64 v, e.v] w fun r w' => r = .returned (.bool true) ∧ Below w.heap.size w w' := by
  have heq1 := run_eqH (finH h a v)
  have heq2 := run_eqH (trapH h (cz e.access) e.va)
  have HF : Hid (∀ u, Calls Tryd.prog 10 #[h.v, a.v, .int .u64 v] u fun r w' => r = .returned (finH h a v).v ∧ Below u.heap.size u w') := fun u => k_Finish h ok a oa v v0 u
  have HE : Hid (∀ u, Calls Tryd.prog 11 #[h.v, a.v, .int .u64 v] u fun r w' => r = .returned (finH h a v).v ∧ Below u.heap.size u w') := fun u => d_Finish h ok a oa v v0 u
  have HR : Hid (∀ u, Calls Tryd.prog 12 #[h.v, e.v] u fun r w' => r = .returned (trapH h (cz e.access) e.va).v ∧ Below u.heap.size u w') := fun u => k_Refuse h ok e hv u
  have HS : Hid (∀ u, Calls Tryd.prog 13 #[h.v, e.v] u fun r w' => r = .returned (trapH h (cz e.access) e.va).v ∧ Below u.heap.size u w') := fun u => d_Refuse h ok e hv u
  have HG := hid hG
  clear ok oa v0 hv hG
  generalize finH h a v = f at *
  generalize trapH h (cz e.access) e.va = t at *
  go_enter Tryd.func4, Tryd.ntmps4
  go_upto_region 1 with (fail)
  obtain ⟨wa, hwa⟩ : ∃ wa, wa = ((w.alloc (.cells h.ca 25)).alloc (.cells a.ca 30)).alloc (.cells (eCa e) 28) := ⟨_, rfl⟩
  rw [← hwa]
  have HWB : Hid (Below w.heap.size w wa) := by show Below _ _ _; rw [hwa]; exact below3 _ _ _
  have P0 : Hid (wa.heap[w.heap.size]? = some (.cells h.ca 25 (0, 0))) := by show _ = _; rw [hwa]; exact heap3 _ _ _ _
  have P1 : Hid (wa.heap[w.heap.size + 1]? = some (.cells a.ca 30 (0, 0))) := by show _ = _; rw [hwa]; exact heap3' _ _ _ _
  have P2 : Hid (wa.heap[w.heap.size + 2]? = some (.cells (eCa e) 28 (0, 0))) := by show _ = _; rw [hwa]; exact heap3'' _ _ _ _
  clear hwa
  have H0 : Hid (∀ w', (∃ x : WB wa, w' = x.w) → w'.heap[w.heap.size]? = some (.cells h.ca 25 (0, 0))) := fun w' ⟨x, hx⟩ => by rw [hx]; exact (x.h.block _ (lt_of_row P0.out)).trans P0.out
  have H1 : Hid (∀ w', (∃ x : WB wa, w' = x.w) → w'.heap[w.heap.size + 1]? = some (.cells a.ca 30 (0, 0))) := fun w' ⟨x, hx⟩ => by rw [hx]; exact (x.h.block _ (lt_of_row P1.out)).trans P1.out
  have H2 : Hid (∀ w', (∃ x : WB wa, w' = x.w) → w'.heap[w.heap.size + 2]? = some (.cells (eCa e) 28 (0, 0))) := fun w' ⟨x, hx⟩ => by rw [hx]; exact (x.h.block _ (lt_of_row P2.out)).trans P2.out
  have HGX : Hid (∀ x : WB wa, B.G x.w) := fun x => (HG.out.below HWB.out).below x.h
  refine wp_region_wb (by kernel_rfl) (by kernel_rfl) ?_
  repeat
    first
      | ((with_reducible refine wpQuiet_load_sub w.heap.size 0 25 h.ca h.ca (Tryd.prog.fieldsOf 25) ?_ ?_ H0.out ?_ u_hart ?_ ?_); rfl; (first | exact wd_n | exact wd_s rfl); exact sub_self h.ca; (rw [s_hart]; rfl))
      | ((with_reducible refine wpQuiet_load_sub (w.heap.size + 1) 0 30 a.ca a.ca (Tryd.prog.fieldsOf 30) ?_ ?_ H1.out ?_ u_acc ?_ ?_); rfl; (first | exact wd_n | exact wd_s rfl); exact sub_self a.ca; exact s_acc)
      | ((with_reducible refine wpQuiet_load_sub (w.heap.size + 1 + 1) 0 28 (eCa e) (eCa e) (Tryd.prog.fieldsOf 28) ?_ ?_ H2.out ?_ u_event ?_ ?_); rfl; (first | exact wd_n | exact wd_s rfl); exact sub_self (eCa e); exact s_event)
      | (refine wpQuiet_step (fun K hK => ?_)
         go_simp
         first
           | (refine hK _ ?_; clear hK K)
           | (refine ⟨_, fun _ => rfl, hK _ ?_⟩; clear hK K)
           | (refine ⟨f.v, fun x => ?_, hK _ ?_⟩
              · first
                  | (go_at_call 10; exact Calls.wb x (HF.out x.w))
                  | (go_at_call 11; exact Calls.wb x (HE.out x.w))
              clear hK K)
           | (refine ⟨t.v, fun x => ?_, hK _ ?_⟩
              · first
                  | (go_at_call 12; exact Calls.wb x (HR.out x.w))
                  | (go_at_call 13; exact Calls.wb x (HS.out x.w))
              clear hK K)
           | (refine ⟨.bool true, fun x => ?_, hK _ ?_⟩
              · (go_at_call 9; exact Calls.wb x (m_awake x.w (HGX.out x)))
              clear hK K))
  refine wpQuiet_nil ?_
  intro _ hx
  obtain ⟨x, rfl⟩ := hx
  go_wp2
  go_ret
  exact ⟨rfl, bT HWB.out x.h⟩
end Go.Proofs.YtkmknjiepegodaaDoor
namespace Go.Proofs.YtkmknjiepegodaaDoor
open Go.ChangeShapes Go.WideShapes Go.ChangeAt Go.RowKit
set_option linter.unusedVariables false
set_option maxRecDepth 100000

theorem laidOut_prog : laidOutB Tryd.prog = true := by kernel_rfl
theorem cells_hart : Tryd.prog.cellsOf 25 = 49 := by kernel_rfl
theorem cells_a32 : Tryd.prog.cellsOf 23 = 32 := by kernel_rfl
theorem cells_bool : Tryd.prog.cellsOf 4 = 1 := by kernel_rfl
def Wd (cs : Array Value) (o : Nat) : Prop := ∃ n, cs[o]? = some (.int .u64 n) ∧ 0 ≤ n ∧ n < 18446744073709551616
def Fg (cs : Array Value) (o : Nat) : Prop := ∃ b, cs[o]? = some (.bool b)
theorem hart_of (cs : Array Value) (hs : cs.size = 49) (hX : ∀ r, r < 32 → Wd cs r) (w32 : Wd cs 32) (f33 : Fg cs 33) (f34 : Fg cs 34) (f35 : Fg cs 35) (f36 : Fg cs 36) (f37 : Fg cs 37) (f38 : Fg cs 38) (f39 : Fg cs 39)
    (w40 : Wd cs 40) (w41 : Wd cs 41) (w42 : Wd cs 42) (w43 : Wd cs 43) (w44 : Wd cs 44) (w45 : Wd cs 45) (w46 : Wd cs 46) (w47 : Wd cs 47) (w48 : Wd cs 48) : ∃ h : HV, cs = h.ca ∧ HOk h := by
  obtain ⟨pc, e32, r32⟩ := w32
  obtain ⟨b33, e33⟩ := f33
  obtain ⟨b34, e34⟩ := f34
  obtain ⟨b35, e35⟩ := f35
  obtain ⟨b36, e36⟩ := f36
  obtain ⟨b37, e37⟩ := f37
  obtain ⟨b38, e38⟩ := f38
  obtain ⟨b39, e39⟩ := f39
  obtain ⟨n40, e40, r40⟩ := w40
  obtain ⟨n41, e41, r41⟩ := w41
  obtain ⟨n42, e42, r42⟩ := w42
  obtain ⟨n43, e43, r43⟩ := w43
  obtain ⟨n44, e44, r44⟩ := w44
  obtain ⟨n45, e45, r45⟩ := w45
  obtain ⟨n46, e46, r46⟩ := w46
  obtain ⟨n47, e47, r47⟩ := w47
  obtain ⟨n48, e48, r48⟩ := w48
  obtain ⟨x, hx, hr⟩ : ∃ x : Nat → Int, (∀ r, r < 32 → cs[r]? = some (.int .u64 (x r))) ∧ ∀ r, 0 ≤ x r ∧ x r < 18446744073709551616 := by
    have hX' : ∀ r, ∃ n : Int, (r < 32 → cs[r]? = some (.int .u64 n)) ∧ 0 ≤ n ∧ n < 18446744073709551616 := fun r => by
      by_cases q : r < 32
      · obtain ⟨n, h1, h2⟩ := hX r q
        exact ⟨n, fun _ => h1, h2⟩
      · exact ⟨0, fun z => absurd z q, by omega⟩
    exact ⟨fun r => Classical.choose (hX' r), fun r q => (Classical.choose_spec (hX' r)).1 q, fun r => (Classical.choose_spec (hX' r)).2⟩
  refine ⟨⟨x, pc, b33, b34, b35, b36, b37, b38, b39, n40, n41, n42, n43, n44, n45, n46, n47, n48⟩, ?_, ⟨hr, r32, r40, r41, r42, r43, r44, r45, r46, r47, r48⟩⟩
  apply Array.ext_getElem?
  intro k
  by_cases q : k < 32
  · rw [hx k q]; exact ((List.getElem?_toArray ..).trans (hv_x (⟨x, pc, b33, b34, b35, b36, b37, b38, b39, n40, n41, n42, n43, n44, n45, n46, n47, n48⟩ : HV) k q)).symm
  · by_cases q2 : k < 49
    · rcases (by omega : k = 32 ∨ k = 33 ∨ k = 34 ∨ k = 35 ∨ k = 36 ∨ k = 37 ∨ k = 38 ∨ k = 39 ∨ k = 40 ∨ k = 41 ∨ k = 42 ∨ k = 43 ∨ k = 44 ∨ k = 45 ∨ k = 46 ∨ k = 47 ∨ k = 48) with rfl | rfl | rfl | rfl | rfl | rfl | rfl | rfl | rfl | rfl | rfl | rfl | rfl | rfl | rfl | rfl | rfl
      · rw [e32]; rfl
      · rw [e33]; rfl
      · rw [e34]; rfl
      · rw [e35]; rfl
      · rw [e36]; rfl
      · rw [e37]; rfl
      · rw [e38]; rfl
      · rw [e39]; rfl
      · rw [e40]; rfl
      · rw [e41]; rfl
      · rw [e42]; rfl
      · rw [e43]; rfl
      · rw [e44]; rfl
      · rw [e45]; rfl
      · rw [e46]; rfl
      · rw [e47]; rfl
      · rw [e48]; rfl
    · rw [Array.getElem?_eq_none (by omega), Array.getElem?_eq_none (by show (49 : Nat) ≤ k; omega)]
theorem fldH {k o : Nat} {t : TypeId} (h : ((Tryd.prog.fieldsOf 25)[k]?).map (fun f => (f.type, f.offset)) = some (t, o)) : ∃ f, (Tryd.prog.fieldsOf 25)[k]? = some f ∧ f.type = t ∧ f.offset = o := by
  cases hq : (Tryd.prog.fieldsOf 25)[k]? with
  | none => rw [hq] at h; cases h
  | some f => rw [hq] at h; simp at h; exact ⟨f, rfl, h.1, h.2⟩
theorem one_of_chunk {xs : Array Value} {off : Nat} {a : Value} (h : (xs.toList.drop off).take 1 = [a]) : xs[off]? = some a := getElem?_of_chunk h
theorem open_hart {H : Type} {enc : TypeId × Value → H} {W : World} {r : Reach} {b base : Nat} {sp : Nat → Bool} {held : Bool} {v : Value} {d : DataW H} {p : List MemPlace} (hv : Value.okWide Tryd.prog W r b 25 v) (h : DataW.Trod enc Tryd.prog W base sp held 25 v d p) : ∃ a : HV, v = a.v ∧ HOk a := by
  obtain ⟨cs, rfl, hsz⟩ := okWide_struct u_hart hv
  have hs : cs.size = 49 := hsz.trans cells_hart
  obtain ⟨fuel, hf⟩ := h
  obtain ⟨xs, n, _, _, _, hlen, hfs⟩ := DataW.trod_struct u_hart hf
  have hl : xs.length = 18 := by rw [hlen]; kernel_rfl
  have hw : ∀ k o, k < 18 → ((Tryd.prog.fieldsOf 25)[k]?).map (fun f => (f.type, f.offset)) = some (22, o) → Wd cs o := by
    intro k o hk hm
    obtain ⟨f, e1, e2, e3⟩ := fldH hm
    have q := hfs k f e1
    rw [e2, e3, co_u64] at q
    obtain ⟨y, hy⟩ : ∃ y, xs[k]? = some y := ⟨xs[k]'(by omega), List.getElem?_eq_getElem (by omega)⟩
    rw [hy] at q
    obtain ⟨z, hz, _, hwf⟩ := DataW.trod_int Tryd.underlying22 q
    obtain ⟨c0, c1⟩ := bounds_u64 hwf
    exact ⟨z, one_of_chunk hz, c0, by omega⟩
  have hb : ∀ k o, k < 18 → ((Tryd.prog.fieldsOf 25)[k]?).map (fun f => (f.type, f.offset)) = some (4, o) → Fg cs o := by
    intro k o hk hm
    obtain ⟨f, e1, e2, e3⟩ := fldH hm
    have q := hfs k f e1
    rw [e2, e3, cells_bool] at q
    obtain ⟨y, hy⟩ : ∃ y, xs[k]? = some y := ⟨xs[k]'(by omega), List.getElem?_eq_getElem (by omega)⟩
    rw [hy] at q
    obtain ⟨z, hz, _⟩ := DataW.trod_bool Tryd.underlying4 q
    exact ⟨z, one_of_chunk hz⟩
  have hx : ∀ r, r < 32 → Wd cs r := by
    obtain ⟨f, e1, e2, e3⟩ := fldH (k := 0) (o := 0) (t := 23) (by kernel_rfl)
    have q := hfs 0 f e1
    rw [e2, e3, cells_a32] at q
    obtain ⟨y, hy⟩ : ∃ y, xs[0]? = some y := ⟨xs[0]'(by omega), List.getElem?_eq_getElem (by omega)⟩
    rw [hy] at q
    obtain ⟨ys, m, _, _, _, hyl, hys⟩ := DataW.trod_array u_a32 q
    intro r hr
    have q2 := hys r hr
    rw [co_u64, Nat.mul_one] at q2
    obtain ⟨z, hz⟩ : ∃ z, ys[r]? = some z := ⟨ys[r]'(by omega), List.getElem?_eq_getElem (by omega)⟩
    rw [hz] at q2
    obtain ⟨n, hn, _, hwf⟩ := DataW.trod_int Tryd.underlying22 q2
    obtain ⟨c0, c1⟩ := bounds_u64 hwf
    refine ⟨n, one_of_chunk ?_, c0, by omega⟩
    have e : (((Value.agg cs).cells.toList.drop 0).take 32).drop r = ((cs.toList.drop r).take (32 - r)) := by
      rw [List.drop_zero, List.drop_take]; rfl
    rw [e, List.take_take, show min 1 (32 - r) = 1 by omega] at hn
    exact hn
  obtain ⟨a, rfl, ok⟩ := hart_of cs hs hx (hw 1 32 (by omega) (by kernel_rfl)) (hb 2 33 (by omega) (by kernel_rfl)) (hb 3 34 (by omega) (by kernel_rfl)) (hb 4 35 (by omega) (by kernel_rfl)) (hb 5 36 (by omega) (by kernel_rfl)) (hb 6 37 (by omega) (by kernel_rfl)) (hb 7 38 (by omega) (by kernel_rfl)) (hb 8 39 (by omega) (by kernel_rfl))
    (hw 9 40 (by omega) (by kernel_rfl)) (hw 10 41 (by omega) (by kernel_rfl)) (hw 11 42 (by omega) (by kernel_rfl)) (hw 12 43 (by omega) (by kernel_rfl)) (hw 13 44 (by omega) (by kernel_rfl)) (hw 14 45 (by omega) (by kernel_rfl)) (hw 15 46 (by omega) (by kernel_rfl)) (hw 16 47 (by omega) (by kernel_rfl)) (hw 17 48 (by omega) (by kernel_rfl))
  exact ⟨a, rfl, ok⟩
end Go.Proofs.YtkmknjiepegodaaDoor
namespace Go.Proofs.YtkmknjiepegodaaDoor
open Go.ChangeShapes Go.WideShapes Go.ChangeAt Go.RowKit
set_option linter.unusedVariables false
set_option maxRecDepth 100000

theorem cells_acc : Tryd.prog.cellsOf 30 = 7 := by kernel_rfl
theorem cells_event : Tryd.prog.cellsOf 28 = 6 := by kernel_rfl
theorem co_int : Tryd.prog.cellsOf 3 = 1 := by kernel_rfl
def Ig (cs : Array Value) (o : Nat) : Prop := ∃ n, cs[o]? = some (.int .i64 n) ∧ -9223372036854775808 ≤ n ∧ n < 9223372036854775808
theorem fldG {T : TypeId} {k o : Nat} {t : TypeId} (h : ((Tryd.prog.fieldsOf T)[k]?).map (fun f => (f.type, f.offset)) = some (t, o)) : ∃ f, (Tryd.prog.fieldsOf T)[k]? = some f ∧ f.type = t ∧ f.offset = o := by
  cases hq : (Tryd.prog.fieldsOf T)[k]? with
  | none => rw [hq] at h; cases h
  | some f => rw [hq] at h; simp at h; exact ⟨f, rfl, h.1, h.2⟩
theorem open_acc {H : Type} {enc : TypeId × Value → H} {W : World} {r : Reach} {b base : Nat} {sp : Nat → Bool} {held : Bool} {v : Value} {d : DataW H} {p : List MemPlace} (hv : Value.okWide Tryd.prog W r b 30 v) (h : DataW.Trod enc Tryd.prog W base sp held 30 v d p) : ∃ a : AV, v = a.v ∧ AOk a := by
  obtain ⟨cs, rfl, hsz⟩ := okWide_struct u_acc hv
  have hs : cs.size = 7 := hsz.trans cells_acc
  obtain ⟨fuel, hf⟩ := h
  obtain ⟨xs, n, _, _, _, hlen, hfs⟩ := DataW.trod_struct u_acc hf
  have hl : xs.length = 7 := by rw [hlen]; kernel_rfl
  have hw : ∀ k o, k < 7 → ((Tryd.prog.fieldsOf 30)[k]?).map (fun f => (f.type, f.offset)) = some (22, o) → Wd cs o := by
    intro k o hk hm
    obtain ⟨f, e1, e2, e3⟩ := fldG hm
    have q := hfs k f e1
    rw [e2, e3, co_u64] at q
    obtain ⟨y, hy⟩ : ∃ y, xs[k]? = some y := ⟨xs[k]'(by omega), List.getElem?_eq_getElem (by omega)⟩
    rw [hy] at q
    obtain ⟨z, hz, _, hwf⟩ := DataW.trod_int Tryd.underlying22 q
    obtain ⟨c0, c1⟩ := bounds_u64 hwf
    exact ⟨z, one_of_chunk hz, c0, by omega⟩
  have hi : ∀ k o, k < 7 → ((Tryd.prog.fieldsOf 30)[k]?).map (fun f => (f.type, f.offset)) = some (3, o) → Ig cs o := by
    intro k o hk hm
    obtain ⟨f, e1, e2, e3⟩ := fldG hm
    have q := hfs k f e1
    rw [e2, e3, co_int] at q
    obtain ⟨y, hy⟩ : ∃ y, xs[k]? = some y := ⟨xs[k]'(by omega), List.getElem?_eq_getElem (by omega)⟩
    rw [hy] at q
    obtain ⟨z, hz, _, hwf⟩ := DataW.trod_int Tryd.underlying3 q
    obtain ⟨c0, c1⟩ := bounds_i64 hwf
    exact ⟨z, one_of_chunk hz, c0, by omega⟩
  have hb : ∀ k o, k < 7 → ((Tryd.prog.fieldsOf 30)[k]?).map (fun f => (f.type, f.offset)) = some (4, o) → Fg cs o := by
    intro k o hk hm
    obtain ⟨f, e1, e2, e3⟩ := fldG hm
    have q := hfs k f e1
    rw [e2, e3, cells_bool] at q
    obtain ⟨y, hy⟩ : ∃ y, xs[k]? = some y := ⟨xs[k]'(by omega), List.getElem?_eq_getElem (by omega)⟩
    rw [hy] at q
    obtain ⟨z, hz, _⟩ := DataW.trod_bool Tryd.underlying4 q
    exact ⟨z, one_of_chunk hz⟩
  obtain ⟨b0, e0⟩ := hb 0 0 (by omega) (by kernel_rfl)
  obtain ⟨b1, e1⟩ := hb 1 1 (by omega) (by kernel_rfl)
  obtain ⟨n2, e2, r2⟩ := hi 2 2 (by omega) (by kernel_rfl)
  obtain ⟨n3, e3, r3⟩ := hi 3 3 (by omega) (by kernel_rfl)
  obtain ⟨n4, e4, r4⟩ := hi 4 4 (by omega) (by kernel_rfl)
  obtain ⟨n5, e5, r5⟩ := hw 5 5 (by omega) (by kernel_rfl)
  obtain ⟨n6, e6, r6⟩ := hw 6 6 (by omega) (by kernel_rfl)
  refine ⟨⟨b0, b1, n2, n3, n4, n5, n6⟩, ?_, ⟨r2, r3, r4, r5, r6⟩⟩
  refine congrArg Value.agg (Array.ext_getElem? fun k => ?_)
  rcases Nat.lt_or_ge k 7 with q | q
  · rcases (by omega : k = 0 ∨ k = 1 ∨ k = 2 ∨ k = 3 ∨ k = 4 ∨ k = 5 ∨ k = 6) with rfl | rfl | rfl | rfl | rfl | rfl | rfl
    · rw [e0]; rfl
    · rw [e1]; rfl
    · rw [e2]; rfl
    · rw [e3]; rfl
    · rw [e4]; rfl
    · rw [e5]; rfl
    · rw [e6]; rfl
  · rw [Array.getElem?_eq_none (by omega), Array.getElem?_eq_none (by show (7 : Nat) ≤ k; omega)]
theorem open_event {H : Type} {enc : TypeId × Value → H} {W : World} {r : Reach} {b base : Nat} {sp : Nat → Bool} {held : Bool} {v : Value} {d : DataW H} {p : List MemPlace} (hv : Value.okWide Tryd.prog W r b 28 v) (h : DataW.Trod enc Tryd.prog W base sp held 28 v d p) : ∃ e : EV, v = e.v ∧ 0 ≤ e.va ∧ e.va < 18446744073709551616 := by
  obtain ⟨cs, rfl, hsz⟩ := okWide_struct u_event hv
  have hs : cs.size = 6 := hsz.trans cells_event
  obtain ⟨fuel, hf⟩ := h
  obtain ⟨xs, n, _, _, _, hlen, hfs⟩ := DataW.trod_struct u_event hf
  have hl : xs.length = 6 := by rw [hlen]; kernel_rfl
  have hw : ∀ k o, k < 6 → ((Tryd.prog.fieldsOf 28)[k]?).map (fun f => (f.type, f.offset)) = some (22, o) → Wd cs o := by
    intro k o hk hm
    obtain ⟨f, e1, e2, e3⟩ := fldG hm
    have q := hfs k f e1
    rw [e2, e3, co_u64] at q
    obtain ⟨y, hy⟩ : ∃ y, xs[k]? = some y := ⟨xs[k]'(by omega), List.getElem?_eq_getElem (by omega)⟩
    rw [hy] at q
    obtain ⟨z, hz, _, hwf⟩ := DataW.trod_int Tryd.underlying22 q
    obtain ⟨c0, c1⟩ := bounds_u64 hwf
    exact ⟨z, one_of_chunk hz, c0, by omega⟩
  have hi : ∀ k o, k < 6 → ((Tryd.prog.fieldsOf 28)[k]?).map (fun f => (f.type, f.offset)) = some (3, o) → Ig cs o := by
    intro k o hk hm
    obtain ⟨f, e1, e2, e3⟩ := fldG hm
    have q := hfs k f e1
    rw [e2, e3, co_int] at q
    obtain ⟨y, hy⟩ : ∃ y, xs[k]? = some y := ⟨xs[k]'(by omega), List.getElem?_eq_getElem (by omega)⟩
    rw [hy] at q
    obtain ⟨z, hz, _, hwf⟩ := DataW.trod_int Tryd.underlying3 q
    obtain ⟨c0, c1⟩ := bounds_i64 hwf
    exact ⟨z, one_of_chunk hz, c0, by omega⟩
  have hb : ∀ k o, k < 6 → ((Tryd.prog.fieldsOf 28)[k]?).map (fun f => (f.type, f.offset)) = some (4, o) → Fg cs o := by
    intro k o hk hm
    obtain ⟨f, e1, e2, e3⟩ := fldG hm
    have q := hfs k f e1
    rw [e2, e3, cells_bool] at q
    obtain ⟨y, hy⟩ : ∃ y, xs[k]? = some y := ⟨xs[k]'(by omega), List.getElem?_eq_getElem (by omega)⟩
    rw [hy] at q
    obtain ⟨z, hz, _⟩ := DataW.trod_bool Tryd.underlying4 q
    exact ⟨z, one_of_chunk hz⟩
  obtain ⟨n0, e0, r0⟩ := hi 0 0 (by omega) (by kernel_rfl)
  obtain ⟨n1, e1, r1⟩ := hi 1 1 (by omega) (by kernel_rfl)
  obtain ⟨n2, e2, r2⟩ := hw 2 2 (by omega) (by kernel_rfl)
  obtain ⟨n3, e3, r3⟩ := hw 3 3 (by omega) (by kernel_rfl)
  obtain ⟨b4, e4⟩ := hb 4 4 (by omega) (by kernel_rfl)
  obtain ⟨b5, e5⟩ := hb 5 5 (by omega) (by kernel_rfl)
  refine ⟨⟨n0, n1, n2, n3, b4, b5⟩, ?_, r2⟩
  refine congrArg Value.agg (Array.ext_getElem? fun k => ?_)
  rcases Nat.lt_or_ge k 6 with q | q
  · rcases (by omega : k = 0 ∨ k = 1 ∨ k = 2 ∨ k = 3 ∨ k = 4 ∨ k = 5) with rfl | rfl | rfl | rfl | rfl | rfl
    · rw [e0]; rfl
    · rw [e1]; rfl
    · rw [e2]; rfl
    · rw [e3]; rfl
    · rw [e4]; rfl
    · rw [e5]; rfl
  · rw [Array.getElem?_eq_none (by omega), Array.getElem?_eq_none (by show (6 : Nat) ≤ k; omega)]
end Go.Proofs.YtkmknjiepegodaaDoor
