/- An instruction that is done: awake. -/
import Derived.Test.YtooagjndelbegaaGreatDoorHPx
import Derived.Great.BuildSlice
import Derived.Test.YtooagjndelbegaaGreatDoorMH4
import Derived.OpenShut
import Derived.ChangeArms
import Derived.SevenTiedAt
namespace Go.Proofs.YtooagjndelbegaaGreatDoor
open Go.RowKit
open C (Only)
set_option linter.unusedVariables false
set_option maxRecDepth 100000

def h0 : HV := rstH 2147483648 0 0
def code (j : Nat) : Int := if j = 0 then 147 else if j = 2 then 80 else 0
def mem0 : Nat → Int := C.put (fun _ => 0) 0 4 code
theorem half0 : half mem0 0 = 147 := by decide
theorem half2 : half mem0 2 = 80 := by decide
theorem wd0 : wd mem0 0 = 5243027 := by unfold wd; rw [half0]; show 147 + half mem0 2 * 65536 = _; rw [half2]; rfl
def i0 : B.I := ⟨9, 1, 1, 0, 0, 5, 0, false⟩
theorem D0 : B.D 5243027 = (i0, true) := by rfl
theorem h0_ok : HOk h0 := ordH_ok (rs2_ok _ _ _ (by decide) (by decide) (by decide))
theorem iv0 : iv (ordH h0) i0 = 5 := by rfl
/-- behind the instruction -/
def s0 (c : Nat) : SV := s2 c 0 (ordH h0) 5243027 i0
theorem s0_x1 (c : Nat) : (s0 c).h.x 1 = 5 := by rfl
theorem s0_pc (c : Nat) : (s0 c).h.pc = 2147483652 := by rfl
theorem m_run_a (w : World) (c : Nat) (v : CV) (hc : Cr w c v) (hr : v.root = 0) (S : Nat → Prop) (hm : C.Mem w S v.m 2147483648 1 mem0) (hG : B.G w) :
    Calls Tryz.prog 36 #[.pointer (some ⟨c, 0, none⟩), h0.v, .int .u64 0] w fun e w' => ∃ b, e = .returned (.pointer (some ⟨b, 0, none⟩)) ∧ St w' b (s0 c) ∧ w.heap.size ≤ b ∧ Cr w' c v ∧ Only (· = c) w w' := by
  have := m_run0 w c v hc hr S 2147483648 1 mem0 hm hG h0 h0_ok rfl rfl 0 0 rfl (by decide) (by decide) (by rw [half0]; rfl) i0 (by rw [wd0]; exact D0) ⟨by decide, by decide, by decide, by decide⟩ rfl (by rw [iv0]; decide)
  rw [wd0] at this
  exact this
theorem m_Step_a (w : World) (c : Nat) (v : CV) (hc : Cr w c v) (hr : v.root = 0) (S : Nat → Prop) (hm : C.Mem w S v.m 2147483648 1 mem0) (hG : B.G w) :
    Calls Tryz.prog 11 #[.pointer (some ⟨c, 0, none⟩), h0.v, .int .u64 0] w fun e w' => e = .returned (.tuple #[(s0 c).h.v, EV.zero.v]) ∧ Cr w' c v ∧ Only (· = c) w w' :=
  m_Step0 w c v hc h0 0 (s0 c) rfl fun w1 hb => m_run_a w1 c v (hc.below hb) hr S (hm.below hb) (hG.below hb)
def zcase : Array Value := (Value.int .u64 0 :: Value.int .i64 0 :: Value.slice none 0 0 :: Value.slice none 0 0 :: Value.int .u64 0 :: Value.int .i64 0 :: Value.slice none 0 0 :: (HV.zero.cs ++ [Value.int .u64 0])).toArray
theorem z_case : (Tryz.prog.info? 30).map (fun i => i.zero) = some (some (.agg zcase)) := by kernel_rfl
theorem s_case : (Tryz.prog.info? 30).map (·.size) = some 57 := by kernel_rfl
theorem u_case : Tryz.prog.underlying 30 = some (.struct (Tryz.prog.fieldsOf 30)) := by kernel_rfl
theorem built_case (h : HV) (cb : Nat) : Tryz.prog.built 30 [(0, .int .u64 2147483648), (2, .slice (some ⟨cb, 0, none⟩) 4 4), (7, h.v)] = some (caseA h cb) := by kernel_rfl
theorem sto_case (h : HV) (cb : Nat) : (zcase.toList.take 0 ++ (caseA h cb).toList ++ zcase.toList.drop (0 + (caseA h cb).toList.length)).toArray = caseA h cb := by kernel_rfl
theorem case_one (h : HV) (cb : Nat) : (caseA h cb).all (·.oneCell') = true := by
  simp only [caseA, caseL, List.all_toArray, List.all_append, List.all_cons, List.all_nil, hv_one]
  rfl
theorem case_sub (h : HV) (cb : Nat) : ∀ j v, h.ca.toList[j]? = some v → (caseA h cb)[7 + j]? = some v := by
  intro j v hv
  have hj : j < 49 := by
    have := (List.getElem?_eq_some_iff.1 hv).1
    simpa [HV.ca, hv_len] using this
  simp only [HV.ca] at hv
  simp only [caseA, caseL, List.getElem?_toArray]
  rw [List.getElem?_append_right (by simp), List.getElem?_append_left (by simp [hv_len]; omega)]
  simpa using hv
theorem code_src {u : World} {g : Nat} (h : u.heap[g]? = some (.cells #[.int .u8 147, .int .u8 0, .int .u8 80, .int .u8 0] 5 (0, 0))) : ∀ j, j < 4 → u.cell? ⟨g, j, none⟩ = some (.int .u8 (code j))
  | 0, _ => cell_of_row u g 0 _ _ _ h
  | 1, _ => cell_of_row u g 1 _ _ _ h
  | 2, _ => cell_of_row u g 2 _ _ _ h
  | 3, _ => cell_of_row u g 3 _ _ _ h
  | n + 4, q => absurd q (by omega)
theorem stood_event : Tryz.prog.stoodInHeld 42 = false := by kernel_rfl
theorem run_eqE (a b c d : Int) (e f : Bool) (w : World) : (Op.equalIn 10000 42 (.agg #[.int .i64 a, .int .i64 b, .int .u64 c, .int .u64 d, .bool e, .bool f]) (.agg #[.int .i64 a, .int .i64 b, .int .u64 c, .int .u64 d, .bool e, .bool f])).run Tryz.prog w = .ok true w := by
  rw [run_equalIn_struct w 9999 42 _ _ u_event stood_event]
  go_simp
set_option maxHeartbeats 4000000 in
theorem m_awake (w : World) (hG : B.G w) : Calls Tryz.prog 16 #[] w fun e w' => e = .returned (.bool true) ∧ Below w.heap.size w w' := by
  have HG := C.hid hG
  clear hG
  have heq := run_eqE 0 0 0 0 false false
  go_enter Tryz.func16, Tryz.ntmps16
  go_wp2_with (first
    | (go_at_call 24; refine (m_Reset 2147483648 0 0 (by decide) (by decide) (by decide) _).mono ?_; rintro e w1 ⟨rfl, hb1⟩; have hbw : Below w.heap.size w w1 := ((Below.refl _ _).alloc (Nat.le_refl _) _).trans (hb1.mono (by simp)); have hcd := (hb1.block w.heap.size (by simp)).trans (heap_alloc_new w (.cells #[.int .u8 147, .int .u8 0, .int .u8 80, .int .u8 0] 5)); have hlt := lt_of_block hcd; have hca : ((w1.alloc (.cells zcase 30)).setRow w1.heap.size (caseA h0 w.heap.size)).heap[w1.heap.size]? = some (.cells (caseA h0 w.heap.size) 30 (0, 0)) := setRow_heap _ _ zcase _ 30 (0, 0) (heap_alloc_new _ _); have hcd2 : ((w1.alloc (.cells zcase 30)).setRow w1.heap.size (caseA h0 w.heap.size)).heap[w.heap.size]? = some (.cells #[.int .u8 147, .int .u8 0, .int .u8 80, .int .u8 0] 5 (0, 0)) := ((setRow_other _ _ _ _ (by omega)).trans (heap_alloc_old _ _ hlt)).trans hcd; have HBA := C.hid (below_setRow (hbw.alloc hbw.size (.cells zcase 30)) (Nat.le_of_lt hlt) (caseA h0 w.heap.size)); have HCA := C.hid hca; have HBO := C.hid (m_both0 ((w1.alloc (.cells zcase 30)).setRow w1.heap.size (caseA h0 w.heap.size)) h0 w.heap.size code (fun j => by unfold code; split; decide; split; decide; decide) (lt_of_block hcd2) (code_src hcd2)); clear hb1 hbw hcd hca hcd2)
    | ((with_reducible refine wpL_build (d := some 11) [(0, .int .u64 2147483648), (2, .slice (some ⟨w.heap.size, 0, none⟩) 4 4), (7, h0.v)] (caseA h0 w.heap.size) ?_ (built_case h0 w.heap.size) ?_); rfl)
    | ((with_reducible refine wpList_newG (d := some 1) (z := .agg zcase) w1.heap.size ?_ zcase ?_ ?_ ?_); rfl; rfl; exact z_case)
    | ((with_reducible refine wpL_store_sub (x := .tmp 1) (y := .tmp 11) w1.heap.size 0 30 zcase (caseA h0 w.heap.size) (caseA h0 w.heap.size) ?_ ?_ ?_ ?_ ?_ ?_ ?_ ?_); rfl; rfl; exact heap_alloc_new _ _; exact sto_case _ _; exact (by decide : (57 : Nat) ≤ 57); exact case_one _ _; exact s_case)
    | ((with_reducible refine wpL_load_sub (d := some 13) (x := .tmp 1) w1.heap.size 0 30 (caseA h0 w.heap.size) (caseA h0 w.heap.size) (.struct (Tryz.prog.fieldsOf 30)) ?_ HCA.out ?_ u_case ?_ ?_ ?_); rfl; (intro j v hv; simpa using hv); rfl; exact s_case)
    | (go_at_call 9; refine HBO.out.mono ?_; rintro e w2 ⟨c, x, t, p, q, S, rfl, hc2, hm2, hb2, hcl⟩; have hclw : w.heap.size ≤ c := Nat.le_trans HBA.out.size hcl; have hb2w := HBA.out.trans (hb2.mono HBA.out.size); have h3 := hb2w.alloc hb2w.size (.cells #[.pointer (some ⟨p, 0, none⟩), .pointer (some ⟨q, 0, none⟩)] 37); have ha := (Below.refl w2.heap.size w2).alloc (Nat.le_refl _) (.cells #[.pointer (some ⟨p, 0, none⟩), .pointer (some ⟨q, 0, none⟩)] 37); have hca2 := (hb2.block _ (lt_of_block HCA.out)).trans HCA.out; have HCA3 : Hid ((w2.alloc (.cells #[.pointer (some ⟨p, 0, none⟩), .pointer (some ⟨q, 0, none⟩)] 37)).heap[w1.heap.size]? = some (.cells (caseA h0 w.heap.size) 30 (0, 0))) := (ha.block _ (lt_of_block hca2)).trans hca2; have HB3 := C.hid h3; have HST := C.hid (m_Step_a (w2.alloc (.cells #[.pointer (some ⟨p, 0, none⟩), .pointer (some ⟨q, 0, none⟩)] 37)) c ⟨p, t, 0, 0⟩ (hc2.below ha) rfl S (hm2.below ha) (HG.out.below h3)); clear hc2 hm2 hb2 h3 ha hca2 hb2w hcl)
    | ((with_reducible refine wpL_load_sub (d := some 25) (x := .tmp 24) w1.heap.size 7 30 (caseA h0 w.heap.size) h0.ca (.struct (Tryz.prog.fieldsOf 28)) ?_ HCA3.out ?_ u_hart ?_ ?_ ?_); rfl; exact case_sub _ _; rfl; (rw [s_hart]; rfl))
    | (go_at_call 11; refine HST.out.mono ?_; rintro e w4 ⟨rfl, hc4, ho4⟩; have hb4 := HB3.out.trans (ho4.below _ HB3.out.size (fun k hk => by omega)); have hr5 := heap_setRow ((w4.alloc (.cells HV.zero.ca 28)).alloc (.cells #[.int .i64 0, .int .i64 0, .int .u64 0, .int .u64 0, .bool false, .bool false] 42)) w4.heap.size HV.zero.ca (s0 c).h.ca 28 (heap2 _ _ _); have he5 : (((w4.alloc (.cells HV.zero.ca 28)).alloc (.cells #[.int .i64 0, .int .i64 0, .int .u64 0, .int .u64 0, .bool false, .bool false] 42)).setRow w4.heap.size (s0 c).h.ca).heap[w4.heap.size + 1]? = some (.cells EV.zero.cs.toArray 42 (0, 0)) := (setRow_other _ _ _ _ (by omega)).trans (heap2' _ _ _); have hr6 : ((((w4.alloc (.cells HV.zero.ca 28)).alloc (.cells #[.int .i64 0, .int .i64 0, .int .u64 0, .int .u64 0, .bool false, .bool false] 42)).setRow w4.heap.size (s0 c).h.ca).setRow (w4.heap.size + 1) EV.zero.cs.toArray).heap[w4.heap.size]? = some (.cells (s0 c).h.ca 28 (0, 0)) := (setRow_other _ _ _ _ (by omega)).trans hr5; have HE5 := C.hid he5; have HE6 : Hid (((((w4.alloc (.cells HV.zero.ca 28)).alloc (.cells #[.int .i64 0, .int .i64 0, .int .u64 0, .int .u64 0, .bool false, .bool false] 42)).setRow w4.heap.size (s0 c).h.ca).setRow (w4.heap.size + 1) EV.zero.cs.toArray).heap[w4.heap.size + 1]? = some (.cells EV.zero.cs.toArray 42 (0, 0))) := setRow_heap _ _ _ _ _ _ he5; have f1 : ((((w4.alloc (.cells HV.zero.ca 28)).alloc (.cells #[.int .i64 0, .int .i64 0, .int .u64 0, .int .u64 0, .bool false, .bool false] 42)).setRow w4.heap.size (s0 c).h.ca).setRow (w4.heap.size + 1) EV.zero.cs.toArray).cell? ⟨w4.heap.size, 1, none⟩ = some (.int .u64 5) := cell_of_row _ _ 1 _ _ _ hr6; have f32 : ((((w4.alloc (.cells HV.zero.ca 28)).alloc (.cells #[.int .i64 0, .int .i64 0, .int .u64 0, .int .u64 0, .bool false, .bool false] 42)).setRow w4.heap.size (s0 c).h.ca).setRow (w4.heap.size + 1) EV.zero.cs.toArray).cell? ⟨w4.heap.size, 32, none⟩ = some (.int .u64 2147483652) := cell_of_row _ _ 32 _ _ _ hr6; have HB6 : Hid (Below w.heap.size w ((((w4.alloc (.cells HV.zero.ca 28)).alloc (.cells #[.int .i64 0, .int .i64 0, .int .u64 0, .int .u64 0, .bool false, .bool false] 42)).setRow w4.heap.size (s0 c).h.ca).setRow (w4.heap.size + 1) EV.zero.cs.toArray)) := below_setRow (below_setRow ((hb4.alloc hb4.size _).alloc (by simp; have := hb4.size; omega) _) hb4.size _) (by have := hb4.size; omega) _; clear hc4 ho4 hb4 hr5 he5 hr6)
    | ((with_reducible refine wpList_newG (d := some 7) (z := .agg HV.zero.ca) w4.heap.size ?_ HV.zero.ca ?_ ?_ ?_); rfl; rfl; exact z_hart)
    | ((with_reducible refine wpL_storeH (x := .tmp 7) (y := .tmp 27) w4.heap.size ?_ (s0 c).h ?_ HV.zero.ca ?_ rfl ?_); rfl; rfl; exact heap2 _ _ _)
    | ((with_reducible refine wpL_store_sub (x := .tmp 8) (y := .tmp 28) (w4.heap.size + 1) 0 42 EV.zero.cs.toArray EV.zero.cs.toArray EV.zero.cs.toArray ?_ ?_ HE5.out ?_ ?_ ?_ ?_ ?_); rfl; rfl; rfl; exact (by decide : (6 : Nat) ≤ 6); (simp [EV.cs, Value.oneCell']); exact s_event)
    | ((with_reducible refine wpL_load_sub (d := some 29) (x := .tmp 8) (w4.heap.size + 1) 0 42 EV.zero.cs.toArray #[.int .i64 0, .int .i64 0, .int .u64 0, .int .u64 0, .bool false, .bool false] (.struct (Tryz.prog.fieldsOf 42)) ?_ HE6.out ?_ u_event ?_ ?_ ?_); rfl; (intro j v hv; rw [Nat.zero_add, ← Array.getElem?_toList]; exact hv); rfl; exact s_event))
  go_ret
  exact ⟨rfl, HB6.out⟩
end Go.Proofs.YtooagjndelbegaaGreatDoor
namespace Go.Proofs.YtooagjndelbegaaGreatDoor
open Go.RowKit
set_option linter.unusedVariables false
set_option maxRecDepth 100000

set_option maxHeartbeats 2000000 in
theorem w_HartTraps (h : HV) (cause value : Int) (ok : HOk h) (p : 0 ≤ cause ∧ cause < 18446744073709551616) (p0 : 0 ≤ value ∧ value < 18446744073709551616) (w : World) (hG : B.G w) :
    Calls Tryz.prog 5 #[h.v, .int .u64 cause, .int .u64 value] w fun e w' => e = .returned (.bool true) ∧ Below w.heap.size w w' := by
  have heq := run_eqH (trapH h cause value)
  have HG : Hid (∀ x : WB (w.alloc (.cells h.ca 28)), B.G x.w) := fun x => (hG.below ((Below.refl _ _).alloc (Nat.le_refl _) _)).below x.h
  have HM : Hid (∀ u, Calls Tryz.prog 18 #[h.v, .int .u64 cause, .int .u64 value] u fun e w' => e = .returned (trapH h cause value).v ∧ Below u.heap.size u w') := fun u => m_Trap h ok cause value p.1 p.2 p0.1 p0.2 u
  have HR : Hid (∀ u, Calls Tryz.prog 19 #[h.v, .int .u64 cause, .int .u64 value] u fun e w' => e = .returned (trapH h cause value).v ∧ Below u.heap.size u w') := fun u => r_Trap h ok cause value p.1 p.2 p0.1 p0.2 u
  have HL : Hid (∀ w', (∃ x : WB (w.alloc (.cells h.ca 28)), w' = x.w) → w'.heap[w.heap.size]? = some (.cells h.ca 28 (0, 0))) := fun w' ⟨x, hx⟩ => by rw [hx]; exact (x.h.block _ (by simp)).trans (heap_alloc_new _ _)
  clear hG ok p p0
  generalize trapH h cause value = t at *
  go_enter Tryz.func5, Tryz.ntmps5
  go_wp2
  refine wp_region_wb (by kernel_rfl) (by kernel_rfl) ?_
  repeat
    first
      | ((with_reducible refine wpQuiet_loadH w.heap.size h ?_ HL.out ?_); rfl)
      | (refine wpQuiet_step (fun K hK => ?_)
         go_simp
         first
           | (refine hK _ ?_; clear hK K)
           | (refine ⟨_, fun _ => rfl, hK _ ?_⟩; clear hK K)
           | (refine ⟨t.v, fun x => ?_, hK _ ?_⟩
              · first
                  | (go_at_call 18; exact Calls.wb x (HM.out x.w))
                  | (go_at_call 19; exact Calls.wb x (HR.out x.w))
              clear hK K)
           | (refine ⟨.bool true, fun x => ?_, hK _ ?_⟩
              · (go_at_call 16; exact Calls.wb x (m_awake x.w (HG.out x)))
              clear hK K))
  refine wpQuiet_nil ?_
  intro _ hx
  obtain ⟨x, rfl⟩ := hx
  go_wp2
  go_ret
  exact ⟨rfl, ((Below.refl _ _).alloc (Nat.le_refl _) _).trans (x.h.mono (by simp))⟩
end Go.Proofs.YtooagjndelbegaaGreatDoor
namespace Go.Proofs.YtooagjndelbegaaGreatDoor
open Go.ChangeShapes Go.WideShapes Go.ChangeAt Go.RowKit
set_option linter.unusedVariables false
set_option maxRecDepth 100000

theorem laidOut_prog : laidOutB Tryz.prog = true := by kernel_rfl
theorem cells_hart : Tryz.prog.cellsOf 28 = 49 := by kernel_rfl
theorem cells_a32 : Tryz.prog.cellsOf 26 = 32 := by kernel_rfl
theorem cells_bool : Tryz.prog.cellsOf 4 = 1 := by kernel_rfl
def Wd (cs : Array Value) (o : Nat) : Prop := ∃ n, cs[o]? = some (.int .u64 n) ∧ 0 ≤ n ∧ n < 18446744073709551616
def Fg (cs : Array Value) (o : Nat) : Prop := ∃ b, cs[o]? = some (.bool b)
theorem hart_of (cs : Array Value) (hs : cs.size = 49) (hX : ∀ r, r < 32 → Wd cs r) (w32 : Wd cs 32) (f33 : Fg cs 33) (f34 : Fg cs 34) (f35 : Fg cs 35) (f36 : Fg cs 36) (f37 : Fg cs 37) (f38 : Fg cs 38) (f39 : Fg cs 39)
    (w40 : Wd cs 40) (w41 : Wd cs 41) (w42 : Wd cs 42) (w43 : Wd cs 43) (w44 : Wd cs 44) (w45 : Wd cs 45) (w46 : Wd cs 46) (w47 : Wd cs 47) (w48 : Wd cs 48) : ∃ h : HV, cs = h.ca ∧ HOk h := by
  obtain ⟨pc, e32, r32⟩ := w32
  obtain ⟨b33, e33⟩ := f33
  obtain ⟨b34, e34⟩ := f34
  obtain ⟨b35, e35⟩ := f35
  obtain ⟨b36, e36⟩ := f36
  obtain ⟨b37, e37⟩ := f37
  obtain ⟨b38, e38⟩ := f38
  obtain ⟨b39, e39⟩ := f39
  obtain ⟨n40, e40, r40⟩ := w40
  obtain ⟨n41, e41, r41⟩ := w41
  obtain ⟨n42, e42, r42⟩ := w42
  obtain ⟨n43, e43, r43⟩ := w43
  obtain ⟨n44, e44, r44⟩ := w44
  obtain ⟨n45, e45, r45⟩ := w45
  obtain ⟨n46, e46, r46⟩ := w46
  obtain ⟨n47, e47, r47⟩ := w47
  obtain ⟨n48, e48, r48⟩ := w48
  obtain ⟨x, hx, hr⟩ : ∃ x : Nat → Int, (∀ r, r < 32 → cs[r]? = some (.int .u64 (x r))) ∧ ∀ r, 0 ≤ x r ∧ x r < 18446744073709551616 := by
    have hX' : ∀ r, ∃ n : Int, (r < 32 → cs[r]? = some (.int .u64 n)) ∧ 0 ≤ n ∧ n < 18446744073709551616 := fun r => by
      by_cases q : r < 32
      · obtain ⟨n, h1, h2⟩ := hX r q
        exact ⟨n, fun _ => h1, h2⟩
      · exact ⟨0, fun z => absurd z q, by omega⟩
    exact ⟨fun r => Classical.choose (hX' r), fun r q => (Classical.choose_spec (hX' r)).1 q, fun r => (Classical.choose_spec (hX' r)).2⟩
  refine ⟨⟨x, pc, b33, b34, b35, b36, b37, b38, b39, n40, n41, n42, n43, n44, n45, n46, n47, n48⟩, ?_, ⟨hr, r32, r40, r41, r42, r43, r44, r45, r46, r47, r48⟩⟩
  apply Array.ext_getElem?
  intro k
  by_cases q : k < 32
  · rw [hx k q]; exact ((List.getElem?_toArray ..).trans (hv_x (⟨x, pc, b33, b34, b35, b36, b37, b38, b39, n40, n41, n42, n43, n44, n45, n46, n47, n48⟩ : HV) k q)).symm
  · by_cases q2 : k < 49
    · rcases (by omega : k = 32 ∨ k = 33 ∨ k = 34 ∨ k = 35 ∨ k = 36 ∨ k = 37 ∨ k = 38 ∨ k = 39 ∨ k = 40 ∨ k = 41 ∨ k = 42 ∨ k = 43 ∨ k = 44 ∨ k = 45 ∨ k = 46 ∨ k = 47 ∨ k = 48) with rfl | rfl | rfl | rfl | rfl | rfl | rfl | rfl | rfl | rfl | rfl | rfl | rfl | rfl | rfl | rfl | rfl
      · rw [e32]; rfl
      · rw [e33]; rfl
      · rw [e34]; rfl
      · rw [e35]; rfl
      · rw [e36]; rfl
      · rw [e37]; rfl
      · rw [e38]; rfl
      · rw [e39]; rfl
      · rw [e40]; rfl
      · rw [e41]; rfl
      · rw [e42]; rfl
      · rw [e43]; rfl
      · rw [e44]; rfl
      · rw [e45]; rfl
      · rw [e46]; rfl
      · rw [e47]; rfl
      · rw [e48]; rfl
    · rw [Array.getElem?_eq_none (by omega), Array.getElem?_eq_none (by show (49 : Nat) ≤ k; omega)]
theorem fldH {k o : Nat} {t : TypeId} (h : ((Tryz.prog.fieldsOf 28)[k]?).map (fun f => (f.type, f.offset)) = some (t, o)) : ∃ f, (Tryz.prog.fieldsOf 28)[k]? = some f ∧ f.type = t ∧ f.offset = o := by
  cases hq : (Tryz.prog.fieldsOf 28)[k]? with
  | none => rw [hq] at h; cases h
  | some f => rw [hq] at h; simp at h; exact ⟨f, rfl, h.1, h.2⟩
theorem one_of_chunk {xs : Array Value} {off : Nat} {a : Value} (h : (xs.toList.drop off).take 1 = [a]) : xs[off]? = some a := getElem?_of_chunk h
theorem open_hart {H : Type} {enc : TypeId × Value → H} {W : World} {r : Reach} {b base : Nat} {sp : Nat → Bool} {held : Bool} {v : Value} {d : DataW H} {p : List MemPlace} (hv : Value.okWide Tryz.prog W r b 28 v) (h : DataW.Trod enc Tryz.prog W base sp held 28 v d p) : ∃ a : HV, v = a.v ∧ HOk a := by
  obtain ⟨cs, rfl, hsz⟩ := okWide_struct u_hart hv
  have hs : cs.size = 49 := hsz.trans cells_hart
  obtain ⟨fuel, hf⟩ := h
  obtain ⟨xs, n, _, _, _, hlen, hfs⟩ := DataW.trod_struct u_hart hf
  have hl : xs.length = 18 := by rw [hlen]; kernel_rfl
  have hw : ∀ k o, k < 18 → ((Tryz.prog.fieldsOf 28)[k]?).map (fun f => (f.type, f.offset)) = some (22, o) → Wd cs o := by
    intro k o hk hm
    obtain ⟨f, e1, e2, e3⟩ := fldH hm
    have q := hfs k f e1
    rw [e2, e3, co_u64] at q
    obtain ⟨y, hy⟩ : ∃ y, xs[k]? = some y := ⟨xs[k]'(by omega), List.getElem?_eq_getElem (by omega)⟩
    rw [hy] at q
    obtain ⟨z, hz, _, hwf⟩ := DataW.trod_int Tryz.underlying22 q
    obtain ⟨c0, c1⟩ := bounds_u64 hwf
    exact ⟨z, one_of_chunk hz, c0, by omega⟩
  have hb : ∀ k o, k < 18 → ((Tryz.prog.fieldsOf 28)[k]?).map (fun f => (f.type, f.offset)) = some (4, o) → Fg cs o := by
    intro k o hk hm
    obtain ⟨f, e1, e2, e3⟩ := fldH hm
    have q := hfs k f e1
    rw [e2, e3, cells_bool] at q
    obtain ⟨y, hy⟩ : ∃ y, xs[k]? = some y := ⟨xs[k]'(by omega), List.getElem?_eq_getElem (by omega)⟩
    rw [hy] at q
    obtain ⟨z, hz, _⟩ := DataW.trod_bool Tryz.underlying4 q
    exact ⟨z, one_of_chunk hz⟩
  have hx : ∀ r, r < 32 → Wd cs r := by
    obtain ⟨f, e1, e2, e3⟩ := fldH (k := 0) (o := 0) (t := 26) (by kernel_rfl)
    have q := hfs 0 f e1
    rw [e2, e3, cells_a32] at q
    obtain ⟨y, hy⟩ : ∃ y, xs[0]? = some y := ⟨xs[0]'(by omega), List.getElem?_eq_getElem (by omega)⟩
    rw [hy] at q
    obtain ⟨ys, m, _, _, _, hyl, hys⟩ := DataW.trod_array u_a32 q
    intro r hr
    have q2 := hys r hr
    rw [co_u64, Nat.mul_one] at q2
    obtain ⟨z, hz⟩ : ∃ z, ys[r]? = some z := ⟨ys[r]'(by omega), List.getElem?_eq_getElem (by omega)⟩
    rw [hz] at q2
    obtain ⟨n, hn, _, hwf⟩ := DataW.trod_int Tryz.underlying22 q2
    obtain ⟨c0, c1⟩ := bounds_u64 hwf
    refine ⟨n, one_of_chunk ?_, c0, by omega⟩
    have e : (((Value.agg cs).cells.toList.drop 0).take 32).drop r = ((cs.toList.drop r).take (32 - r)) := by
      rw [List.drop_zero, List.drop_take]; rfl
    rw [e, List.take_take, show min 1 (32 - r) = 1 by omega] at hn
    exact hn
  obtain ⟨a, rfl, ok⟩ := hart_of cs hs hx (hw 1 32 (by omega) (by kernel_rfl)) (hb 2 33 (by omega) (by kernel_rfl)) (hb 3 34 (by omega) (by kernel_rfl)) (hb 4 35 (by omega) (by kernel_rfl)) (hb 5 36 (by omega) (by kernel_rfl)) (hb 6 37 (by omega) (by kernel_rfl)) (hb 7 38 (by omega) (by kernel_rfl)) (hb 8 39 (by omega) (by kernel_rfl))
    (hw 9 40 (by omega) (by kernel_rfl)) (hw 10 41 (by omega) (by kernel_rfl)) (hw 11 42 (by omega) (by kernel_rfl)) (hw 12 43 (by omega) (by kernel_rfl)) (hw 13 44 (by omega) (by kernel_rfl)) (hw 14 45 (by omega) (by kernel_rfl)) (hw 15 46 (by omega) (by kernel_rfl)) (hw 16 47 (by omega) (by kernel_rfl)) (hw 17 48 (by omega) (by kernel_rfl))
  exact ⟨a, rfl, ok⟩
end Go.Proofs.YtooagjndelbegaaGreatDoor
