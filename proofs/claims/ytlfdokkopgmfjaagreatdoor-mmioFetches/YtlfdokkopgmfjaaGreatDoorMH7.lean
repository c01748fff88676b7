/- Two accesses that are the same are equal; awake. -/
import Derived.Test.YtlfdokkopgmfjaaGreatDoorWI
import Derived.Test.YtlfdokkopgmfjaaGreatDoorWU
import Derived.Test.YtlfdokkopgmfjaaGreatDoorMH5
import Derived.Test.YtlfdokkopgmfjaaGreatDoorMH6
import Derived.Test.YtlfdokkopgmfjaaGreatDoorBRZ
import Derived.Test.YtlfdokkopgmfjaaGreatDoorCQF
import Derived.Test.YtlfdokkopgmfjaaGreatDoorMH2
import Derived.OpenShut
import Derived.ChangeArms
import Derived.SevenTiedAt
namespace Go.Proofs.YtlfdokkopgmfjaaGreatDoor
open Go.RowKit
set_option linter.unusedVariables false
set_option maxRecDepth 100000
theorem stood_acc : Tryz.prog.stoodInHeld 67 = false := by kernel_rfl
theorem run_eqA (a : AV) (w : World) : (Op.equalIn 10000 67 a.v a.v).run Tryz.prog w = .ok true w := by
  rw [run_equalIn_struct w 9999 67 _ _ u_acc stood_acc]
  go_simp
def hawk : HV := { HV.zero with x := upd (fun _ => 0) 11 268435461 }
theorem hawk_ok : HOk hawk := ⟨fun r => by show 0 ≤ upd (fun _ => 0) 11 268435461 r ∧ upd (fun _ => 0) 11 268435461 r < _; unfold upd; split; exact ⟨by decide, by decide⟩; exact ⟨Int.le_refl 0, (by decide : (0 : Int) < 18446744073709551616)⟩, by decide, by decide, by decide, by decide, by decide, by decide, by decide, by decide, by decide, by decide⟩
def aawk : AV := ⟨false, true, 4, 10, 4, 268435461, 0⟩
theorem D_awk : (B.D 369923).1 = ⟨6, 0, 10, 11, 0, 0, 4, true⟩ := by rfl
theorem pl_awk : plF (ordH hawk) (B.D 369923).1 4 = (aawk, true) := by rw [D_awk]; rfl
theorem ca_awk : HV.zero.ca.setIfInBounds 11 (.int .u64 268435461) = hawk.ca := ca_setx HV.zero 268435461 (by omega)
set_option maxHeartbeats 1000000 in
theorem m_awake (w : World) (hG : B.G w) : Calls Tryz.prog 8 #[] w fun e w' => e = .returned (.bool true) ∧ Below w.heap.size w w' := by
  have heq : ∀ u : World, (Op.equalIn 10000 67 (.agg #[.bool false, .bool true, .int .i64 4, .int .i64 10, .int .i64 4, .int .u64 268435461, .int .u64 0]) (.agg #[.bool false, .bool true, .int .i64 4, .int .i64 10, .int .i64 4, .int .u64 268435461, .int .u64 0])).run Tryz.prog u = .ok true u := run_eqA aawk
  have HP : Hid (∀ u, B.G u → Calls Tryz.prog 22 #[hawk.v, .int .u32 369923, .int .i64 4] u fun e w' => e = .returned (.tuple #[.agg #[.bool false, .bool true, .int .i64 4, .int .i64 10, .int .i64 4, .int .u64 268435461, .int .u64 0], .bool true]) ∧ Below u.heap.size u w') := fun u hg => by
    have := k_Plan hawk hawk_ok 369923 (by decide) (by decide) 4 u hg
    rw [pl_awk] at this
    exact this
  have HG := hid hG
  clear hG
  go_enter Tryz.func8, Tryz.ntmps8
  go_upto_region 3 with (first
    | ((with_reducible refine wpList_new (z := .agg HV.zero.ca) HV.zero.ca ?_ ?_ ?_); rfl; exact z_hart))
  obtain ⟨wa, hwa⟩ : ∃ wa, wa = w.alloc (.cells (HV.zero.ca.setIfInBounds 11 (.int .u64 268435461)) 27) := ⟨_, rfl⟩
  rw [← hwa]
  have P0 : Hid (wa.heap[w.heap.size]? = some (.cells hawk.ca 27 (0, 0))) := by show _ = _; rw [hwa, ← ca_awk]; exact heap_alloc_new _ _
  have HW : Hid (Below w.heap.size w wa) := by show Below _ _ _; rw [hwa]; exact (Below.refl _ _).alloc (Nat.le_refl _) _
  have HGA : Hid (B.G wa) := by show B.G wa; rw [hwa]; exact HG.out.alloc _
  clear hwa
  go_wp2_with (first
    | ((with_reducible refine wpL_loadH (x := .tmp 1) w.heap.size ?_ hawk ?_ ?_); rfl; exact P0.out)
    | (go_at_call 22; refine (HP.out _ HGA.out).mono ?_; rintro e w1 ⟨rfl, hb⟩; have HB1 := hid hb; clear hb))
  go_ret
  exact ⟨rfl, (bT HW.out HB1.out).alloc (Nat.le_trans HW.out.size HB1.out.size) _⟩
end Go.Proofs.YtlfdokkopgmfjaaGreatDoor
namespace Go.Proofs.YtlfdokkopgmfjaaGreatDoor
open Go.RowKit
set_option linter.unusedVariables false
set_option maxRecDepth 100000
theorem d_Fetch (w : World) (S : Nat → Prop) (p n : Nat) (bs : Int) (f : Nat → Int) (hm : C.RMem w S p bs n f) (root : Int) (ro : 0 ≤ root ∧ root < 18446744073709551616) (h : HV) (ok : HOk h) :
    Calls Tryz.prog 6 #[.pointer (some ⟨p, 0, none⟩), .int .u64 root, h.v] w fun r w' => r = .returned (t3V (wdF (ha bs n f (eO (ordH h) root) (ordH h).pc) (ha bs n f (eO (ordH h) root) (IntKind.u64.wrap ((ordH h).pc + 2))))) ∧ Below w.heap.size w w' :=
  d_FetchH w S p n bs f hm root h ok (fun u va hu a0 a1 => d_two u S p n bs f hu (ordH h) (ordOk ok) root ro va a0 a1) (fun u c c0 c1 => B.r_Size c c0 c1 u) (fun u c c0 c1 => B.r_Expand c c0 c1 u)
/-- a case as it is handed in -/
def kca (b0 fr0 : Int) (s0 s1 : Value) (root : Int) (h : HV) : Array Value := (Value.int .u64 b0 :: .int .i64 fr0 :: s0 :: s1 :: .int .u64 root :: h.cs).toArray
theorem u_kca : Tryz.prog.underlying 29 = some (.struct (Tryz.prog.fieldsOf 29)) := by kernel_rfl
theorem s_kca : (Tryz.prog.info? 29).map (·.size) = some 54 := by kernel_rfl
theorem kca_hart (b0 fr0 : Int) (s0 s1 : Value) (root : Int) (h : HV) : ∀ j v, h.ca.toList[j]? = some v → (kca b0 fr0 s0 s1 root h)[5 + j]? = some v := by
  intro j v hv
  simp only [HV.ca] at hv
  simp only [kca, List.getElem?_toArray]
  rw [show 5 + j = j + 1 + 1 + 1 + 1 + 1 by omega]
  simpa using hv
set_option maxHeartbeats 2000000 in
theorem w_MmioFetches (w : World) (b0 fr0 : Int) (ad0 : Option Addr) (la0 cap0 ab0 ao0 : Nat) (A : Nat → Int) (hA : BA w ad0 la0 cap0 ab0 ao0 A) (ad : Option Addr) (la cap ab ao : Nat) (X : Nat → Int × Int) (hX : C.Cl w ad la cap ab ao X)
    (B0 : 0 ≤ b0 ∧ b0 < 18446744073709551616) (F0 : -9223372036854775808 ≤ fr0 ∧ fr0 ≤ 9223372036854775807) (root : Int) (ro : 0 ≤ root ∧ root < 18446744073709551616) (h : HV) (ok : HOk h) (hG : B.G w) :
    Calls Tryz.prog 3 #[.agg (kca b0 fr0 (.slice ad0 la0 cap0) (.slice ad la cap) root h)] w fun r w' => r = .returned (.bool true) ∧ Below w.heap.size w w' := by
  obtain ⟨cs, hcs⟩ : ∃ cs, cs = kca b0 fr0 (.slice ad0 la0 cap0) (.slice ad la cap) root h := ⟨_, rfl⟩
  have HSZ : Hid (cs.size = 54) := by show _ = _; rw [hcs]; rfl
  have HH : Hid (∀ j v, h.ca.toList[j]? = some v → cs[5 + j]? = some v) := by show ∀ j v, _; rw [hcs]; exact kca_hart _ _ _ _ _ _
  have g4 : cs[4]? = some (.int .u64 root) := by rw [hcs]; rfl
  obtain ⟨wa, hwa⟩ : ∃ wa, wa = w.alloc (.cells cs 29) := ⟨_, rfl⟩
  have HA : Hid (Below w.heap.size w wa) := by show Below _ _ _; rw [hwa]; exact (Below.refl _ _).alloc (Nat.le_refl _) _
  have P0 : Hid (wa.heap[w.heap.size]? = some (.cells cs 29 (0, 0))) := by show _ = _; rw [hwa]; exact heap_alloc_new _ _
  have HME : Hid (Calls Tryz.prog 4 #[.agg cs] wa fun e w' => ∃ p r bs n G, e = .returned (.tuple #[.agg #[.pointer (some ⟨p, 0, none⟩), .pointer (some ⟨r, 0, none⟩)], .bool true]) ∧ LW wa w' p r bs n G G) := c_mem wa cs b0 fr0 ad0 la0 cap0 ab0 ao0 A (hA.below HA.out) ad la cap ab ao X (C.Cl.below hX HA.out) B0 F0 (by rw [hcs]; rfl) (by rw [hcs]; rfl) (by rw [hcs]; rfl) (by rw [hcs]; rfl)
  have HG := hid hG
  have OK := hid ok
  have RO := hid ro
  rw [← hcs]
  have HWA := hid hwa
  clear hwa hcs hA hX B0 F0 hG ok ro
  go_enter Tryz.func3, Tryz.ntmps3
  go_upto_region 1 with (fail)
  have hwa := HWA.out
  rw [← hwa]
  clear hwa
  go_upto_region 2 with (first
    | ((with_reducible refine wpL_load_sub (x := .tmp 1) w.heap.size 0 29 cs cs (.struct (Tryz.prog.fieldsOf 29)) ?_ P0.out ?_ u_kca ?_ ?_ ?_); rfl; exact selfsub cs; rfl; (rw [HSZ.out]; exact s_kca))
    | (go_at_call 4; refine HME.out.mono ?_; rintro e w1 ⟨p, r, bs, n, G, rfl, hL⟩; have HL1 := hid hL; clear hL))
  obtain ⟨g, hg⟩ : ∃ g, g = w1.heap.size := ⟨_, rfl⟩
  obtain ⟨wb, hwb⟩ : ∃ wb, wb = w1.alloc (.cells #[.pointer (some ⟨p, 0, none⟩), .pointer (some ⟨r, 0, none⟩)] 33) := ⟨_, rfl⟩
  rw [← hg, ← hwb]
  obtain ⟨S, T, h1, h2, h3, h4, h5⟩ := HL1.out
  have t1 := lt_of_row P0.out
  have HBB : Hid (Below wa.heap.size wa wb) := by show Below _ _ _; rw [hwb]; exact h5.alloc h5.size _
  have HWB : Hid (Below w.heap.size w wb) := bT HA.out HBB.out
  have HM : Hid (C.Mem wb S p bs n G) := by show C.Mem _ _ _ _ _ _; rw [hwb]; exact h1.below ((Below.refl _ _).alloc (Nat.le_refl _) _)
  have HR : Hid (C.RMem wb T r bs n G) := by show C.RMem _ _ _ _ _ _; rw [hwb]; exact h2.below ((Below.refl _ _).alloc (Nat.le_refl _) _)
  have P1 : Hid (wb.heap[w.heap.size]? = some (.cells cs 29 (0, 0))) := (HBB.out.block _ t1).trans P0.out
  have Q1 : Hid (wb.heap[g]? = some (.cells #[.pointer (some ⟨p, 0, none⟩), .pointer (some ⟨r, 0, none⟩)] 33 (0, 0))) := by show _ = _; rw [hwb, hg]; exact heap_alloc_new _ _
  have HGB : Hid (B.G wb) := HG.out.below HWB.out
  obtain ⟨x, hx⟩ : ∃ x, x = wdF (ha bs n G (eO (ordH h) root) (ordH h).pc) (ha bs n G (eO (ordH h) root) (IntKind.u64.wrap ((ordH h).pc + 2))) := ⟨_, rfl⟩
  have HF : Hid (Calls Tryz.prog 5 #[.pointer (some ⟨p, 0, none⟩), .int .u64 root, h.v] wb fun r w' => r = .returned (t3V x) ∧ Below wb.heap.size wb w') := by rw [hx]; exact k_Fetch wb S p n bs G HM.out root RO.out h OK.out HGB.out
  have HD : Hid (∀ u, C.RMem u T r bs n G → Calls Tryz.prog 6 #[.pointer (some ⟨r, 0, none⟩), .int .u64 root, h.v] u fun r w' => r = .returned (t3V x) ∧ Below u.heap.size u w') := fun u hu => by rw [hx]; exact d_Fetch u T r n bs G hu root RO.out h OK.out
  have x4 : wb.cell? ⟨w.heap.size, 4, none⟩ = some (.int .u64 root) := (cell_of_row _ _ 4 _ _ _ P1.out).trans g4
  have y0 : wb.cell? ⟨g, 0, none⟩ = some (.pointer (some ⟨p, 0, none⟩)) := cell_of_row _ _ 0 _ _ _ Q1.out
  clear hx hg hwb h1 h2 h3 h4 h5 t1 HL1 HME HBB
  obtain ⟨x1, x2, x3⟩ := x
  have HG4 := hid g4
  go_wp2_with (first
    | ((with_reducible refine wpL_load_sub (x := .tmp 23) w.heap.size 5 29 cs h.ca (.struct (Tryz.prog.fieldsOf 27)) ?_ P1.out HH.out u_hart ?_ ?_ ?_); rfl; rfl; (rw [s_hart]; rfl))
    | (go_at_call 5; refine HF.out.mono ?_; rintro e w2 ⟨rfl, hb⟩; have HB2 := hid hb; have P2 : Hid (w2.heap[w.heap.size]? = some (.cells cs 29 (0, 0))) := (hb.block _ (lt_of_row P1.out)).trans P1.out; have Q2 : Hid (w2.heap[g]? = some (.cells #[.pointer (some ⟨p, 0, none⟩), .pointer (some ⟨r, 0, none⟩)] 33 (0, 0))) := (hb.block _ (lt_of_row Q1.out)).trans Q1.out; have z4 : w2.cell? ⟨w.heap.size, 4, none⟩ = some (.int .u64 root) := (cell_of_row _ _ 4 _ _ _ P2.out).trans HG4.out; have z1 : w2.cell? ⟨g, 1, none⟩ = some (.pointer (some ⟨r, 0, none⟩)) := cell_of_row _ _ 1 _ _ _ Q2.out; have HR2 := hid (HR.out.below hb); clear hb)
    | ((with_reducible refine wpL_load_sub (x := .tmp 34) w.heap.size 5 29 cs h.ca (.struct (Tryz.prog.fieldsOf 27)) ?_ P2.out HH.out u_hart ?_ ?_ ?_); rfl; rfl; (rw [s_hart]; rfl))
    | (go_at_call 6; refine (HD.out _ HR2.out).mono ?_; rintro e w3 ⟨rfl, hb⟩; have HB3 := hid (bT HB2.out hb); have Q3 : Hid (w3.heap[g]? = some (.cells #[.pointer (some ⟨p, 0, none⟩), .pointer (some ⟨r, 0, none⟩)] 33 (0, 0))) := (hb.block _ (lt_of_row Q2.out)).trans Q2.out; have v0 : w3.cell? ⟨g, 0, none⟩ = some (.pointer (some ⟨p, 0, none⟩)) := cell_of_row _ _ 0 _ _ _ Q3.out; have v1 : w3.cell? ⟨g, 1, none⟩ = some (.pointer (some ⟨r, 0, none⟩)) := cell_of_row _ _ 1 _ _ _ Q3.out; have HM3 := hid (HM.out.below HB3.out); have HR3 := hid (HR2.out.below hb); clear hb)
    | (go_at_call 7; refine (C.c_Same w3 S T p r bs n G HM3.out HR3.out).mono ?_; rintro e w4 ⟨rfl, hb⟩; have HB4 := hid (bT HB3.out hb); clear hb)
    | (go_at_call 8; refine (m_awake w4 (HGB.out.below HB4.out)).mono ?_; rintro e w5 ⟨rfl, hb⟩; have HB5 := hid (bT HB4.out hb); clear hb))
  go_ret
  exact ⟨rfl, bT HWB.out HB5.out⟩
end Go.Proofs.YtlfdokkopgmfjaaGreatDoor
namespace Go.Proofs.YtlfdokkopgmfjaaGreatDoor
open Go.ChangeShapes Go.WideShapes Go.ChangeAt Go.RowKit
set_option linter.unusedVariables false
set_option maxRecDepth 100000
theorem laidOut_prog : laidOutB Tryz.prog = true := by kernel_rfl
theorem cells_hart : Tryz.prog.cellsOf 27 = 49 := by kernel_rfl
theorem cells_a32 : Tryz.prog.cellsOf 25 = 32 := by kernel_rfl
theorem cells_bool : Tryz.prog.cellsOf 4 = 1 := by kernel_rfl
def Wd (cs : Array Value) (o : Nat) : Prop := ∃ n, cs[o]? = some (.int .u64 n) ∧ 0 ≤ n ∧ n < 18446744073709551616
def Fg (cs : Array Value) (o : Nat) : Prop := ∃ b, cs[o]? = some (.bool b)
theorem hart_of (cs : Array Value) (hs : cs.size = 49) (hX : ∀ r, r < 32 → Wd cs r) (w32 : Wd cs 32) (f33 : Fg cs 33) (f34 : Fg cs 34) (f35 : Fg cs 35) (f36 : Fg cs 36) (f37 : Fg cs 37) (f38 : Fg cs 38) (f39 : Fg cs 39)
    (w40 : Wd cs 40) (w41 : Wd cs 41) (w42 : Wd cs 42) (w43 : Wd cs 43) (w44 : Wd cs 44) (w45 : Wd cs 45) (w46 : Wd cs 46) (w47 : Wd cs 47) (w48 : Wd cs 48) : ∃ h : HV, cs = h.ca ∧ HOk h := by
  obtain ⟨pc, e32, r32⟩ := w32
  obtain ⟨b33, e33⟩ := f33
  obtain ⟨b34, e34⟩ := f34
  obtain ⟨b35, e35⟩ := f35
  obtain ⟨b36, e36⟩ := f36
  obtain ⟨b37, e37⟩ := f37
  obtain ⟨b38, e38⟩ := f38
  obtain ⟨b39, e39⟩ := f39
  obtain ⟨n40, e40, r40⟩ := w40
  obtain ⟨n41, e41, r41⟩ := w41
  obtain ⟨n42, e42, r42⟩ := w42
  obtain ⟨n43, e43, r43⟩ := w43
  obtain ⟨n44, e44, r44⟩ := w44
  obtain ⟨n45, e45, r45⟩ := w45
  obtain ⟨n46, e46, r46⟩ := w46
  obtain ⟨n47, e47, r47⟩ := w47
  obtain ⟨n48, e48, r48⟩ := w48
  obtain ⟨x, hx, hr⟩ : ∃ x : Nat → Int, (∀ r, r < 32 → cs[r]? = some (.int .u64 (x r))) ∧ ∀ r, 0 ≤ x r ∧ x r < 18446744073709551616 := by
    have hX' : ∀ r, ∃ n : Int, (r < 32 → cs[r]? = some (.int .u64 n)) ∧ 0 ≤ n ∧ n < 18446744073709551616 := fun r => by
      by_cases q : r < 32
      · obtain ⟨n, h1, h2⟩ := hX r q
        exact ⟨n, fun _ => h1, h2⟩
      · exact ⟨0, fun z => absurd z q, by omega⟩
    exact ⟨fun r => Classical.choose (hX' r), fun r q => (Classical.choose_spec (hX' r)).1 q, fun r => (Classical.choose_spec (hX' r)).2⟩
  refine ⟨⟨x, pc, b33, b34, b35, b36, b37, b38, b39, n40, n41, n42, n43, n44, n45, n46, n47, n48⟩, ?_, ⟨hr, r32, r40, r41, r42, r43, r44, r45, r46, r47, r48⟩⟩
  apply Array.ext_getElem?
  intro k
  by_cases q : k < 32
  · rw [hx k q]; exact ((List.getElem?_toArray ..).trans (hv_x (⟨x, pc, b33, b34, b35, b36, b37, b38, b39, n40, n41, n42, n43, n44, n45, n46, n47, n48⟩ : HV) k q)).symm
  · by_cases q2 : k < 49
    · rcases (by omega : k = 32 ∨ k = 33 ∨ k = 34 ∨ k = 35 ∨ k = 36 ∨ k = 37 ∨ k = 38 ∨ k = 39 ∨ k = 40 ∨ k = 41 ∨ k = 42 ∨ k = 43 ∨ k = 44 ∨ k = 45 ∨ k = 46 ∨ k = 47 ∨ k = 48) with rfl | rfl | rfl | rfl | rfl | rfl | rfl | rfl | rfl | rfl | rfl | rfl | rfl | rfl | rfl | rfl | rfl
      · rw [e32]; rfl
      · rw [e33]; rfl
      · rw [e34]; rfl
      · rw [e35]; rfl
      · rw [e36]; rfl
      · rw [e37]; rfl
      · rw [e38]; rfl
      · rw [e39]; rfl
      · rw [e40]; rfl
      · rw [e41]; rfl
      · rw [e42]; rfl
      · rw [e43]; rfl
      · rw [e44]; rfl
      · rw [e45]; rfl
      · rw [e46]; rfl
      · rw [e47]; rfl
      · rw [e48]; rfl
    · rw [Array.getElem?_eq_none (by omega), Array.getElem?_eq_none (by show (49 : Nat) ≤ k; omega)]
theorem fldH {k o : Nat} {t : TypeId} (h : ((Tryz.prog.fieldsOf 27)[k]?).map (fun f => (f.type, f.offset)) = some (t, o)) : ∃ f, (Tryz.prog.fieldsOf 27)[k]? = some f ∧ f.type = t ∧ f.offset = o := by
  cases hq : (Tryz.prog.fieldsOf 27)[k]? with
  | none => rw [hq] at h; cases h
  | some f => rw [hq] at h; simp at h; exact ⟨f, rfl, h.1, h.2⟩
theorem one_of_chunk {xs : Array Value} {off : Nat} {a : Value} (h : (xs.toList.drop off).take 1 = [a]) : xs[off]? = some a := getElem?_of_chunk h
end Go.Proofs.YtlfdokkopgmfjaaGreatDoor
