/- The document's Ready. -/
import Derived.Test.YteafjobmlfkppaaMH3
import Derived.Test.YteafjobmlfkppaaMH2
import Derived.Test.YteafjobmlfkppaaMC2
import Derived.Test.YteafjobmlfkppaaMH1
namespace Go.Proofs.Yteafjobmlfkppaa
open Go.RowKit
set_option linter.unusedVariables false
set_option maxRecDepth 100000

theorem sW_ff (o : HV) (h0 : 0 ≤ o.sip) (h1 : o.sip < 18446744073709551616) : sW o false false = bits .and .u64 o.sip 2 := by
  have a := and_r o.sip 2 h0 h1 (by omega) (by omega)
  simp only [sW, cond_false]
  rw [or0 _ a.1 a.2, or0 _ a.1 a.2]
theorem sW_tf (o : HV) (h0 : 0 ≤ o.sip) (h1 : o.sip < 18446744073709551616) : sW o true false = bits .or .u64 (bits .and .u64 o.sip 2) 32 := by
  have a := and_r o.sip 2 h0 h1 (by omega) (by omega)
  have b := or_r _ 32 a.1 a.2 (by omega) (by omega)
  simp only [sW, cond_false, cond_true]
  rw [or0 _ b.1 b.2]
theorem sW_ft (o : HV) (h0 : 0 ≤ o.sip) (h1 : o.sip < 18446744073709551616) : sW o false true = bits .or .u64 (bits .and .u64 o.sip 2) 512 := by
  have a := and_r o.sip 2 h0 h1 (by omega) (by omega)
  simp only [sW, cond_false, cond_true]
  rw [or0 _ a.1 a.2]
theorem sW_tt (o : HV) : sW o true true = bits .or .u64 (bits .or .u64 (bits .and .u64 o.sip 2) 32) 512 := rfl
set_option maxHeartbeats 4000000 in
theorem r_ReadyW (x : VV) (o : HV) (h0 : 0 ≤ o.sip) (h1 : o.sip < 18446744073709551616) (now : Int) (ext : Bool) (w : World) (hI : ∀ u, Calls Try.prog 32 #[x.v] u fun e w' => e = .returned (VV.v { x with h := o }) ∧ Below u.heap.size u w') : Calls Try.prog 16 #[x.v, .int .u64 now, .bool ext] w fun e w' => e = .returned (readyW x o (x.ar && decide (x.dl ≤ now)) ext).v ∧ Below w.heap.size w w' := by
  have HI := hid hI
  clear hI
  have A1 : Hid (V1 ((w.alloc (.cells x.ca 32)).alloc (.cells VV.zero.ca 32)) w.heap.size x) := V1.new1 x _
  have A2 : Hid (V1 ((w.alloc (.cells x.ca 32)).alloc (.cells VV.zero.ca 32)) (w.heap.size + 1) VV.zero) := V1.new2 VV.zero _
  have HB0 := hid (below2 (w := w) (.cells x.ca 32) (.cells VV.zero.ca 32))
  have hc : (x.ar = true ∧ x.dl ≤ now) ∨ (x.ar = true ∧ ¬ x.dl ≤ now) ∨ x.ar = false := by
    cases x.ar <;> by_cases q : x.dl ≤ now <;> simp [q]
  obtain ⟨d, hd⟩ : ∃ d, (x.ar && decide (x.dl ≤ now)) = d := ⟨_, rfl⟩
  rw [hd]
  obtain ⟨s, hs⟩ : ∃ s, s = sW o d ext := ⟨_, rfl⟩
  have HW : Hid (readyW x o d ext = ⟨{ o with sip := s }, if x.st = 2 ∧ bits .and .u64 s o.sie ≠ 0 then 1 else x.st, x.ar, x.dl⟩) := by rw [hs]; rfl
  rw [HW.out]
  clear HW
  obtain ⟨t, ht⟩ : ∃ t : Int, t = if x.st = 2 ∧ bits .and .u64 s o.sie ≠ 0 then 1 else x.st := ⟨_, rfl⟩
  rw [← ht]
  have HT := hid ht
  clear ht
  go_enter Try.func16, Try.ntmps16
  go_upto_region 2 with (first
    | ((with_reducible refine wpList_new (z := .agg VV.zero.ca) VV.zero.ca ?_ ?_ ?_); rfl; exact z_vcpu)
    | ((with_reducible refine wpL_vload (d := some 8) w.heap.size 0 x ?_ ?_ ?_); rfl; exact A1.out.range)
    | (go_at_call 32; refine (HI.out _).mono ?_; rintro e w1 ⟨rfl, hb⟩; have B1 := hid (A1.out.below hb); have B2 := hid (A2.out.below hb); have HB1 := hid (HB0.out.trans (hb.mono HB0.out.size)); clear hb)
    | ((with_reducible refine wpL_store1 (x := .tmp 3) (y := .tmp 9) w.heap.size x { x with h := o } ?_ ?_ ?_ ?_); rfl; rfl; exact B1.out; intro w2 h2 ho2; have C1 := hid h2; have C2 := hid (B2.out.only ho2 (fun (q : _ = _) => by omega)); have HB2 := hid (only_below HB1.out (Nat.le_refl _) ho2 HB1.out.size); clear h2 ho2))
  have c46 : w2.cell? ⟨w.heap.size, 46, none⟩ = some (.int .u64 o.sip) := C1.out.c 46
  have c51 : w2.cell? ⟨w.heap.size, 51, none⟩ = some (.int .u64 x.dl) := C1.out.c 51
  rcases hc with ⟨ha, hn⟩ | ⟨ha, hn⟩ | ha <;> cases ext
  all_goals
    have c50 : w2.cell? ⟨w.heap.size, 50, none⟩ = some (.bool x.ar) := C1.out.c 50
    rw [ha] at c50 hd
    first | rw [Bool.false_and] at hd | rw [show decide (x.dl ≤ now) = true from decide_eq_true (by omega), Bool.and_true] at hd | rw [show decide (x.dl ≤ now) = false from decide_eq_false (by omega), Bool.and_false] at hd
    rw [← hd] at hs
    clear hd
    have HW := hid (by first | exact hs.trans (sW_tt o) | exact hs.trans (sW_tf o h0 h1) | exact hs.trans (sW_ft o h0 h1) | exact hs.trans (sW_ff o h0 h1))
    clear hs
    go_upto_region 8 with ((with_reducible refine wpL_1cell w.heap.size 46 { x with h := o } { x with h := { o with sip := s } } (.int .u64 s) ?_ ?_ ?_ ?_ ?_ ?_ ?_ ?_); exact .inl rfl; exact .inl ⟨_, _, rfl⟩; omega; rfl; rfl; rw [HW.out]; rfl; exact C1.out; intro w3 h3 ho3; have D1 := hid h3; have D2 := hid (C2.out.only ho3 (fun (q : _ = _) => by omega)); have HB3 := hid (only_below HB2.out (Nat.le_refl _) ho3 HB2.out.size); clear h3 ho3)
    rw [← HW.out]
    clear HW c46 c50 c51
    have c46 : w3.cell? ⟨w.heap.size, 46, none⟩ = some (.int .u64 s) := D1.out.c 46
    have c45 : w3.cell? ⟨w.heap.size, 45, none⟩ = some (.int .u64 o.sie) := D1.out.c 45
    have c49 : w3.cell? ⟨w.heap.size, 49, none⟩ = some (.int .i64 x.st) := D1.out.c 49
    by_cases h2 : x.st = 2
    · by_cases hq : bits .and .u64 s o.sie = 0
      · have HX : Hid ((if x.st = 2 ∧ bits .and .u64 s o.sie ≠ 0 then 1 else x.st) = x.st) := if_neg (fun q => q.2 hq)
        go_wp2_with (first
          | ((with_reducible refine wpL_vload (d := some 42) w.heap.size 0 { x with h := { o with sip := s } } ?_ ?_ ?_); rfl; exact D1.out.range)
          | ((with_reducible refine wpL_store1 (x := .tmp 6) (y := .tmp 42) (w.heap.size + 1) VV.zero { x with h := { o with sip := s } } ?_ ?_ ?_ ?_); rfl; rfl; exact D2.out; intro w6 h6 ho6; have F1 := hid h6; have HB6 := hid (only_below HB3.out (by omega) ho6 HB3.out.size); clear h6 ho6))
        exact bodyPost_ret (ret_v Try.results16 (w.heap.size + 1) _ rfl F1.out) rfl ⟨by first | (rw [HT.out.trans HX.out]; done) | (rw [HT.out.trans HX.out, ha]; done), HB6.out⟩
      · have HX : Hid ((if x.st = 2 ∧ bits .and .u64 s o.sie ≠ 0 then 1 else x.st) = 1) := if_pos ⟨h2, hq⟩
        go_wp2_with (first
          | ((with_reducible refine wpL_1cell w.heap.size 49 { x with h := { o with sip := s } } { x with st := 1, h := { o with sip := s } } (.int .i64 1) ?_ ?_ ?_ ?_ ?_ ?_ ?_ ?_); exact .inr (.inl rfl); exact .inl ⟨_, _, rfl⟩; omega; rfl; rfl; rfl; exact D1.out; intro w4 h4 ho4; have E1 := hid h4; have E2 := hid (D2.out.only ho4 (fun (q : _ = _) => by omega)); have HB5 := hid (only_below HB3.out (Nat.le_refl _) ho4 HB3.out.size); clear h4 ho4)
          | ((with_reducible refine wpL_vload (d := some 42) w.heap.size 0 { x with st := 1, h := { o with sip := s } } ?_ ?_ ?_); rfl; exact E1.out.range)
          | ((with_reducible refine wpL_store1 (x := .tmp 6) (y := .tmp 42) (w.heap.size + 1) VV.zero { x with st := 1, h := { o with sip := s } } ?_ ?_ ?_ ?_); rfl; rfl; exact E2.out; intro w6 h6 ho6; have F1 := hid h6; have HB6 := hid (only_below HB5.out (by omega) ho6 HB5.out.size); clear h6 ho6))
        exact bodyPost_ret (ret_v Try.results16 (w.heap.size + 1) _ rfl F1.out) rfl ⟨by first | (rw [HT.out.trans HX.out]; done) | (rw [HT.out.trans HX.out, ha]; done), HB6.out⟩
    · have HX : Hid ((if x.st = 2 ∧ bits .and .u64 s o.sie ≠ 0 then 1 else x.st) = x.st) := if_neg (fun q => h2 q.1)
      go_wp2_with (first
        | ((with_reducible refine wpL_vload (d := some 42) w.heap.size 0 { x with h := { o with sip := s } } ?_ ?_ ?_); rfl; exact D1.out.range)
        | ((with_reducible refine wpL_store1 (x := .tmp 6) (y := .tmp 42) (w.heap.size + 1) VV.zero { x with h := { o with sip := s } } ?_ ?_ ?_ ?_); rfl; rfl; exact D2.out; intro w6 h6 ho6; have F1 := hid h6; have HB6 := hid (only_below HB3.out (by omega) ho6 HB3.out.size); clear h6 ho6))
      exact bodyPost_ret (ret_v Try.results16 (w.heap.size + 1) _ rfl F1.out) rfl ⟨by first | (rw [HT.out.trans HX.out]; done) | (rw [HT.out.trans HX.out, ha]; done), HB6.out⟩
theorem r_Ready (x : VV) (ok : HOk x.h) (now : Int) (ext : Bool) (w : World) : Calls Try.prog 16 #[x.v, .int .u64 now, .bool ext] w fun e w' => e = .returned (readyV x now ext).v ∧ Below w.heap.size w w' :=
  r_ReadyW x (ordH x.h) (ordOk ok).sip.1 (ordOk ok).sip.2 now ext w fun u => r_order x ok u
end Go.Proofs.Yteafjobmlfkppaa
namespace Go.Proofs.Yteafjobmlfkppaa
open Go.RowKit
set_option linter.unusedVariables false
set_option maxRecDepth 100000

theorem same_refl {L : List VV} : ∀ (k : Nat) (x y : VV), L[k]? = some x → L[k]? = some y → x.cs = y.cs := fun k x y hx hy => by rw [hx] at hy; cases hy; rfl
set_option maxHeartbeats 4000000 in
theorem w_VcpuReadies (w : World) (x : VV) (ok : VOk x) (now : Int) (n0 : 0 ≤ now) (n1 : now < 18446744073709551616) (ext : Bool) (ad : Option Addr) (la cap : Nat) (L : List VV) (hL : Vr w (.slice ad la cap) L ∧ (∀ x ∈ L, VOk x) ∧ L.length = la)
    (i : Int) (i0 : -9223372036854775808 ≤ i) (i1 : i ≤ 9223372036854775807) (gpa : Int) (p0 : 0 ≤ gpa) (p1 : gpa < 18446744073709551616) (hl : la * 368 ≤ 140737488355328) :
    Calls Try.prog 4 #[x.v, .int .u64 now, .bool ext, .slice ad la cap, .int .i64 i, .int .u64 gpa] w fun e w' => e = .returned (.bool true) ∧ Below w.heap.size w w' := by
  obtain ⟨hv, hok, hla⟩ := hL
  have HV := hid hv
  have HK := hid hok
  have HLN : Hid (L.length * 368 ≤ 140737488355328) := by show L.length * 368 ≤ _; rw [hla]; exact hl
  clear hv hok hla hl
  obtain ⟨t, ht⟩ : ∃ t, t = readyV x now ext := ⟨_, rfl⟩
  obtain ⟨u, hu⟩ : ∃ u, u = waitV x := ⟨_, rfl⟩
  have R1 : Hid (∀ w, Calls Try.prog 15 #[x.v, .int .u64 now, .bool ext] w fun e w' => e = .returned t.v ∧ Below w.heap.size w w') := fun w => by rw [ht]; exact v_Ready x ok.h now ext w
  have R2 : Hid (∀ w, Calls Try.prog 16 #[x.v, .int .u64 now, .bool ext] w fun e w' => e = .returned t.v ∧ Below w.heap.size w w') := fun w => by rw [ht]; exact r_Ready x ok.h now ext w
  have R3 : Hid (∀ w, Calls Try.prog 17 #[x.v] w fun e w' => e = .returned u.v ∧ Below w.heap.size w w') := fun w => by rw [hu]; exact v_Wait x w
  have R4 : Hid (∀ w, Calls Try.prog 18 #[x.v] w fun e w' => e = .returned u.v ∧ Below w.heap.size w w') := fun w => by rw [hu]; exact r_Wait x w
  clear ht hu ok
  have A1 : Hid (V1 (w.alloc (.cells x.ca 32)) w.heap.size x) := V1.new x
  have HB0 := hid ((Below.refl w.heap.size w).alloc (Nat.le_refl _) (.cells x.ca 32))
  have HR : Hid (∀ w', (∃ y : WB (w.alloc (.cells x.ca 32)), w' = y.w) → w'.rangeAt w.heap.size 0 x.cs) := fun w' ⟨y, hy⟩ => by rw [hy]; exact (A1.out.below y.h).range
  go_enter Try.func4, Try.ntmps4
  go_wp2_with fail
  refine wp_region_wb (by kernel_rfl) (by kernel_rfl) ?_
  repeat
    first
      | ((with_reducible refine wpQ_vload w.heap.size 0 x ?_ ?_ HR.out ?_); rfl; rfl)
      | ((with_reducible refine wpQ_neV t t ?_ ?_ ?_ ?_); rfl; rfl; rfl; rw [eqV_self, Bool.not_true])
      | ((with_reducible refine wpQ_neV u u ?_ ?_ ?_ ?_); rfl; rfl; rfl; rw [eqV_self, Bool.not_true])
      | (refine wpQuiet_step (fun K hK => ?_)
         go_simp
         first
           | (refine hK _ ?_; clear hK K)
           | (refine ⟨_, fun _ => rfl, hK _ ?_⟩; clear hK K)
           | (refine ⟨t.v, fun y => ?_, hK _ ?_⟩
              · first
                  | (go_at_call 15; exact Calls.wb y (R1.out y.w))
                  | (go_at_call 16; exact Calls.wb y (R2.out y.w))
              clear hK K)
           | (refine ⟨u.v, fun y => ?_, hK _ ?_⟩
              · first
                  | (go_at_call 17; exact Calls.wb y (R3.out y.w))
                  | (go_at_call 18; exact Calls.wb y (R4.out y.w))
              clear hK K))
  refine wpQuiet_nil ?_
  intro w1 hy
  have HB1 : Hid (Below w.heap.size w w1) := by obtain ⟨y, rfl⟩ := hy; exact HB0.out.trans (y.h.mono HB0.out.size)
  clear hy A1 HR
  have V1' := hid (HV.out.below HB1.out)
  go_wp2_with (first
    | (go_at_call 19; refine (c_copied _ _ L V1'.out HLN.out).mono ?_; rintro e w2 ⟨v2, rfl, h2, hb⟩; have S2 := hid h2; have HB2 := hid (HB1.out.trans (hb.mono HB1.out.size)); clear h2 hb)
    | (go_at_call 20; refine (v_Wrote _ _ L S2.out.rd HLN.out i i0 i1 gpa p0 p1 (fun x hx => (HK.out x hx).h.resv)).mono ?_; rintro e w3 ⟨v3, rfl, h3, hb⟩; have S3 := hid h3; have S2' := hid (S2.out.below (hb.mono (Nat.le_refl _))); have HB3 := hid (HB2.out.trans (hb.mono HB2.out.size)); have V3 := hid (HV.out.below HB3.out); clear h3 hb)
    | ((with_reducible go_at_call 11); refine (v_Same _ v2 _ L L S2'.out.rd V3.out rfl same_refl (by have := HLN.out; omega)).mono ?_; rintro e w4 ⟨rfl, hs⟩; have S4 := hid (S3.out.rd.same hs.heap); have HB4 := hid (HB3.out.trans (hs.below _)); have V4 := hid (HV.out.below HB4.out); clear hs S2')
    | (go_at_call 21; refine (r_Wrote _ _ L V4.out HLN.out i i0 i1 gpa p0 p1 (fun x hx => (HK.out x hx).h.resv)).mono ?_; rintro e w5 ⟨v5, rfl, h5, hb⟩; have S5 := hid h5; have S4' := hid (S4.out.below (hb.mono (Nat.le_refl _))); have HB5 := hid (HB4.out.trans (hb.mono HB4.out.size)); clear h5 hb)
    | (go_at_call 11; refine (v_Same _ v3 v5 _ _ S4'.out S5.out.rd rfl same_refl (by have := HLN.out; simp; omega)).mono ?_; rintro e w6 ⟨rfl, hs⟩; have HB6 := hid (HB5.out.trans (hs.below _)); clear hs)
    | (go_at_call 14; refine (v_awake _).mono ?_; rintro e w7 ⟨rfl, hb⟩; have HB7 := hid (HB6.out.trans (hb.mono HB6.out.size)); clear hb))
  go_ret
  exact ⟨rfl, HB7.out⟩
end Go.Proofs.Yteafjobmlfkppaa
namespace Go.Proofs.Yteafjobmlfkppaa
open Go.RowKit
set_option linter.unusedVariables false
set_option maxRecDepth 100000

theorem nmOf_eq {k f a b : Int} (h : nmOf k f = (a, b)) (ha : a ≠ 1) : k = a ∧ f = b := by
  unfold nmOf at h
  split at h
  · rename_i q
    simp only [Prod.mk.injEq] at h
    exact absurd (h.1.symm.trans q) ha
  · simpa using h
theorem ordX (x : VV) (r : Nat) (h : r ≠ 0) : (ordV x).h.x r = x.h.x r := by simp [ordV, ordH, zx, h]
def sentV (y : VV) : VV := { ordV y with h := { (ordV y).h with sip := bits .or .u64 (ordV y).h.sip 2 } }
def AloneP (x : VV) (k : Nat) (y z : VV) (dn : Bool) : Prop := z = ordV y ∨ ((x.h.x 17 = 4739917 ∧ x.h.x 16 = 0 ∧ x.h.x 10 = k ∧ y.st = 0) ∧ z.st = 1) ∨ ((x.h.x 17 = 7557193 ∧ x.h.x 16 = 0) ∧ z = sentV y) ∨ (dn = true ∧ z = stopV (ordV y) ∧ x.h.x 17 = 1397904212)
theorem finL_ne (M : List VV) (i : Nat) (av : AV) (k : Nat) (h : i ≠ k) : (finL M i av)[k]? = M[k]? := by
  unfold finL
  split
  · rfl
  · split
    · rfl
    · rw [List.getElem?_set_ne h]
theorem finL_len (M : List VV) (i : Nat) (av : AV) : (finL M i av).length = M.length := by
  unfold finL
  split
  · rfl
  · split <;> simp
theorem callF_len (L : List VV) (i : Nat) (x : VV) : (callF L i x).1.length = L.length := by
  unfold callF
  simp only
  rw [finL_len, ans_len, ordL_len]
theorem alone (L : List VV) (i : Nat) (x : VV) (ok : HOk x.h) (k : Nat) (y z : VV) (hk : i ≠ k) (hy : L[k]? = some y) (hz : (callF L i x).1[k]? = some z) : AloneP x k y z (callF L i x).2.1.dn := by
  have hP : (ordL L)[k]? = some (ordV y) := ordL_get L k y hy
  unfold callF at hz ⊢
  simp only at hz ⊢
  rw [finL_ne _ _ _ _ hk] at hz
  have e17 := ordX x 17 (by decide)
  have e16 := ordX x 16 (by decide)
  have e10 := ordX x 10 (by decide)
  by_cases w : ∃ n ∈ calI, keyN n = nmOf ((ordV x).h.x 17) ((ordV x).h.x 16)
  · obtain ⟨n, hn, e⟩ := w
    unfold ansF at hz ⊢
    rw [← e] at hz ⊢
    simp only [calI, List.mem_cons, List.not_mem_nil, or_false] at hn
    rcases hn with rfl | rfl | rfl | rfl | rfl | rfl | rfl | rfl | rfl
    · rw [ansG_2] at hz; rw [hP] at hz; exact .inl (Option.some.inj hz).symm
    · rw [ansG_5] at hz; rw [hP] at hz; exact .inl (Option.some.inj hz).symm
    · rw [ansG_8] at hz; rw [List.getElem?_set_ne hk, hP] at hz; exact .inl (Option.some.inj hz).symm
    · rw [ansG_11] at hz; rw [hP] at hz; exact .inl (Option.some.inj hz).symm
    · rw [ansG_14] at hz
      obtain ⟨q1, q2⟩ := nmOf_eq (a := 7557193) (b := 0) e.symm (by decide)
      simp only [List.getElem?_mapIdx, hP, Option.map_some, Option.some.injEq] at hz
      unfold snV at hz
      split at hz
      · exact .inr (.inr (.inl ⟨⟨e17 ▸ q1, e16 ▸ q2⟩, hz.symm⟩))
      · exact .inl hz.symm
    · rw [ansG_17] at hz
      obtain ⟨q1, q2⟩ := nmOf_eq (a := 4739917) (b := 0) e.symm (by decide)
      unfold startL at hz
      split at hz
      · rw [hP] at hz; exact .inl (Option.some.inj hz).symm
      · rename_i t ht
        split at hz
        · rw [hP] at hz; exact .inl (Option.some.inj hz).symm
        · rename_i hst
          by_cases hn : ((ordV x).h.x 10).toNat = k
          · subst hn
            rw [List.getElem?_set_self (List.getElem?_eq_some_iff.1 hP).1] at hz
            rw [hP] at ht
            obtain rfl := Option.some.inj ht
            refine .inr (.inl ⟨⟨e17 ▸ q1, e16 ▸ q2, ?_, by simpa [ordV] using hst⟩, by rw [← Option.some.inj hz]; rfl⟩)
            have := (ok.x 10).1
            rw [e10]
            omega
          · rw [List.getElem?_set_ne hn, hP] at hz
            exact .inl (Option.some.inj hz).symm
    · rw [ansG_20] at hz; rw [List.getElem?_set_ne hk, hP] at hz; exact .inl (Option.some.inj hz).symm
    · rw [ansG_23] at hz; rw [hP] at hz; exact .inl (Option.some.inj hz).symm
    · rw [ansG_26] at hz ⊢
      obtain ⟨q1, q2⟩ := nmOf_eq (a := 1397904212) (b := 0) e.symm (by decide)
      simp only [List.getElem?_mapIdx, hP, Option.map_some, Option.some.injEq] at hz
      exact .inr (.inr (.inr ⟨rfl, hz.symm, e17 ▸ q1⟩))
  · unfold ansF at hz
    rw [ansG_no _ (fun n hn e => w ⟨n, hn, e⟩)] at hz
    rw [hP] at hz
    exact .inl (Option.some.inj hz).symm
end Go.Proofs.Yteafjobmlfkppaa
namespace Go.Proofs.Yteafjobmlfkppaa
open Go.RowKit
set_option linter.unusedVariables false
set_option maxRecDepth 100000

theorem fill1 (x : VV) : Instr.fill (fun i => some (i * 52, 52)) ((Array.range (1 * 52)).map ((Value.agg VV.zero.ca).cells[· % (Value.agg VV.zero.ca).cells.size]!)) [(0, x.v)] = some x.ca := by kernel_rfl
/-- a list of one -/
theorem wpL_slice1 {ops : Array Oper} {rest : List Oper} {d : Option Nat} {tt : TypeId} {y : Operand} {pos : String} {after : Array Edge} {a : Act} {w : World} {Q : Exit → Act → World → Prop}
    (x : VV) (hy : a.eval y = x.v) (K : wpList Try.prog ops Q rest (a.put d (.slice (some ⟨w.heap.size, 0, none⟩) 1 1)) (w.alloc (.cells (vflat [x]).toArray 32))) :
    wpList Try.prog ops Q ({ dst := d, op := Op.buildSlice 24 1 #[(0, y)], type := tt, pos := pos, after := after, guard := none } :: rest) a w := by
  obtain ⟨i, hi1, hz, hs, hb⟩ := info_parts info_v
  refine wpList_buildSlice rfl 24 32 1 #[(0, y)] rfl x.ca i (.agg VV.zero.ca) u_sV hi1 hz (by rw [hs]; decide) (by rw [hs]; decide) ?_ ?_
  · rw [hs]
    have e : ((#[(0, y)] : Array (Nat × Operand)).map fun (i, x) => (i, a.eval x)).toList = [(0, x.v)] := by simp [hy]
    rw [e]
    exact fill1 x
  · have e : (vflat [x]).toArray = x.ca := by simp [vflat, VV.ca]
    rw [e] at K
    exact K
theorem and0 (s : Int) (h0 : 0 ≤ s) (h1 : s < 18446744073709551616) : bits .and .u64 (bits .andNot .u64 s 32) 32 = 0 := by
  rw [u64_andNot s 32 h0 h1 (by omega) (by omega)]
  have hb : s.toNat &&& (18446744073709551615 - (32 : Int).toNat) ≤ s.toNat := Nat.and_le_left
  rw [u64_and _ 32 (by omega) (by omega) (by omega) (by omega), Int.toNat_natCast, Nat.and_assoc, show (18446744073709551615 - (32 : Int).toNat) &&& (32 : Int).toNat = 0 by decide, Nat.and_zero]
  rfl
theorem rdy (o : HV) (h0 : 0 ≤ o.sip) (h1 : o.sip < 18446744073709551616) (d : Bool) : (bits .and .u64 (sW o d false) 32 != 0) = d := by
  have a := and_r o.sip 2 h0 h1 (by omega) (by omega)
  have hb : o.sip.toNat &&& (2 : Int).toNat ≤ o.sip.toNat := Nat.and_le_left
  cases d with
  | false =>
    rw [sW_ff o h0 h1, u64_and o.sip 2 h0 h1 (by omega) (by omega), u64_and _ 32 (by omega) (by omega) (by omega) (by omega), Int.toNat_natCast, Nat.and_assoc, show (2 : Int).toNat &&& (32 : Int).toNat = 0 by decide, Nat.and_zero]
    rfl
  | true =>
    rw [sW_tf o h0 h1, u64_and o.sip 2 h0 h1 (by omega) (by omega), u64_or _ 32 (by omega) (by omega) (by omega) (by omega), Int.toNat_natCast]
    have hc : o.sip.toNat &&& (2 : Int).toNat ||| (32 : Int).toNat < 2 ^ 64 := Nat.or_lt_two_pow (by omega) (by decide)
    rw [u64_and _ 32 (by omega) (by omega) (by omega) (by omega), Int.toNat_natCast, Nat.and_or_distrib_right, Nat.and_assoc, show (2 : Int).toNat &&& (32 : Int).toNat = 0 by decide, Nat.and_zero]
    rfl
/-- the bit of the clock -/
def B5 (n : Int) : Prop := n.toNat.testBit 5 = true ∧ 0 ≤ n ∧ n < 18446744073709551616
theorem B5.or (n : Int) (h0 : 0 ≤ n) (h1 : n < 18446744073709551616) : B5 (bits .or .u64 n 32) := by
  have r := or_r n 32 h0 h1 (by omega) (by omega)
  refine ⟨?_, r⟩
  rw [u64_or n 32 h0 h1 (by omega) (by omega), Int.toNat_natCast, Nat.testBit_or, show ((32 : Int).toNat).testBit 5 = true by decide, Bool.or_true]
theorem B5.ib {n : Int} (h : B5 n) : B5 (ib n) := by
  have r := and_r n 546 h.2.1 h.2.2 (by omega) (by omega)
  refine ⟨?_, r⟩
  unfold Go.Proofs.Yteafjobmlfkppaa.ib
  rw [u64_and n 546 h.2.1 h.2.2 (by omega) (by omega), Int.toNat_natCast, Nat.testBit_and, h.1, show ((546 : Int).toNat).testBit 5 = true by decide]
  rfl
theorem B5.and {a b : Int} (ha : B5 a) (hb : B5 b) : bits .and .u64 a b ≠ 0 := by
  rw [u64_and a b ha.2.1 ha.2.2 hb.2.1 hb.2.2]
  intro h
  have : a.toNat &&& b.toNat = 0 := by omega
  have t := Nat.testBit_and a.toNat b.toNat 5
  rw [this, ha.1, hb.1] at t
  simp at t
theorem B5.sW (o : HV) (h0 : 0 ≤ o.sip) (h1 : o.sip < 18446744073709551616) : B5 (sW o true false) := by
  rw [sW_tf o h0 h1]
  have a := and_r o.sip 2 h0 h1 (by omega) (by omega)
  exact B5.or _ a.1 a.2
def reg (x : VV) (r : Nat) (v : Int) : VV := { x with h := { x.h with x := upd x.h.x r v } }
def tick (v : VV) : VV := finV (tmV (ordV v) (v.h.x 10)) 0 0
theorem callF_tick (v : VV) (h17 : v.h.x 17 = 1414090053) (h16 : v.h.x 16 = 0) : callF [v] 0 v = ([tick v], AV.zero, none) := by
  have e : ansF (ordL [v]) 0 (ordV v) = ([tmV (ordV v) (v.h.x 10)], AV.zero, none) := by
    unfold ansF
    rw [ordX v 17 (by decide), ordX v 16 (by decide), h17, h16, show nmOf 1414090053 0 = keyN 8 by decide, ansG_8, ordX v 10 (by decide)]
    rfl
  unfold callF
  rw [e]
  rfl
theorem c_tick (u : World) (s : Nat) (v : VV) (ok : HOk v.h) (h17 : v.h.x 17 = 1414090053) (h16 : v.h.x 16 = 0) (hs : Vb u s [v]) : Calls Try.prog 22 #[.slice (some ⟨s, 0, none⟩) 1 1, .int .i64 0] u fun e w' => ∃ g cap, e = .returned (.tuple #[.slice (some ⟨g, 0, none⟩) 1 cap, .slice none 0 0, .bool false]) ∧ Vb w' g [tick v] ∧ u.heap.size ≤ g ∧ Below u.heap.size u w' := by
  have h := v_Call u (.slice (some ⟨s, 0, none⟩) 1 1) [v] hs.rd (by simp) (fun x hx => by simp at hx; subst hx; exact ok) 0 v rfl
  rw [callF_tick v h17 h16] at h
  refine h.mono ?_
  rintro e w' ⟨g, cap, ov, rfl, hv, hg, ho, hb⟩
  obtain rfl : ov = nils := ho
  exact ⟨g, cap, rfl, hv, hg, hb⟩
theorem wrap_r (n : Int) : 0 ≤ IntKind.u64.wrap n ∧ IntKind.u64.wrap n < 18446744073709551616 := by
  rw [IntKind.wrap_u64]
  omega
theorem andNot_r (n m : Int) (h0 : 0 ≤ n) (h1 : n < 18446744073709551616) (m0 : 0 ≤ m) (m1 : m < 18446744073709551616) : 0 ≤ bits .andNot .u64 n m ∧ bits .andNot .u64 n m < 18446744073709551616 := by
  rw [u64_andNot n m h0 h1 m0 m1]
  have : n.toNat &&& (18446744073709551615 - m.toNat) ≤ n.toNat := Nat.and_le_left
  omega
theorem tick_ok (v : VV) (ok : HOk v.h) : HOk (tick v).h := by
  have o := ordOk ok
  have h1 : HOk ({ (ordH v.h) with sip := bits .andNot .u64 (ordH v.h).sip 32 } : HV) := { o with sip := andNot_r _ 32 o.sip.1 o.sip.2 (by omega) (by omega) }
  have h2 : HOk ({ (ordH v.h) with sip := bits .andNot .u64 (ordH v.h).sip 32, pc := IntKind.u64.wrap ((ordH v.h).pc + 4) } : HV) := { h1 with pc := wrap_r _ }
  have h3 := HOk.x1 h2 10 0 (by omega) (by omega)
  exact HOk.x1 h3 11 0 (by omega) (by omega)
theorem tick_sip (v : VV) (ok : HOk v.h) : bits .and .u64 (tick v).h.sip 32 = 0 := and0 _ (ordOk ok).sip.1 (ordOk ok).sip.2
end Go.Proofs.Yteafjobmlfkppaa
namespace Go.Proofs.Yteafjobmlfkppaa
open Go.RowKit
set_option linter.unusedVariables false
set_option maxRecDepth 100000

def gV1 (v : VV) : VV := { v with st := 1 }
def gV2 (k : Nat) (v : VV) : VV := { gV1 v with h := { v.h with pc := 2147483648 + 64 * k } }
def gV (k : Nat) (v : VV) : VV := reg (gV2 k v) 5 (k + 100)
def gst (n : Nat) : List VV := (bgnL n 2147483648).mapIdx gV
theorem gst_len (n : Nat) : (gst n).length = n := by simp [gst, bgn_len]
theorem zcsok : HOk (stdV 2147483648 0 0).h := ordOk (rs2_ok 2147483648 0 0 (by omega) (by omega) (by omega))
theorem gV_ok (k : Nat) (hk : k < 64) (v : VV) (ok : HOk v.h) : HOk (gV k v).h :=
  HOk.x1 (h := { v.h with pc := 2147483648 + 64 * k }) { ok with pc := ⟨by show (0 : Int) ≤ 2147483648 + 64 * (k : Int); omega, by show 2147483648 + 64 * (k : Int) < _; omega⟩ } 5 _ (by omega) (by omega)
theorem bgn_ok (n : Nat) : ∀ x ∈ bgnL n 2147483648, HOk x.h := fun x hx => by
  rcases List.mem_or_eq_of_mem_set hx with h | h
  · rw [List.eq_of_mem_replicate h]; exact zok
  · rw [h]; exact zcsok
theorem gst_get (n k : Nat) (hk : k < n) : ∃ v, HOk v.h ∧ (gst n)[k]? = some (gV k v) := by
  obtain ⟨v, hv⟩ : ∃ v, (bgnL n 2147483648)[k]? = some v := ⟨_, List.getElem?_eq_getElem (by rw [bgn_len]; exact hk)⟩
  exact ⟨v, bgn_ok n v (List.mem_of_getElem? hv), by simp [gst, List.getElem?_mapIdx, hv]⟩
/-- the caller's registers -/
def calV (v : VV) (kd fn a b : Int) : VV := reg (reg (reg (reg v 17 kd) 16 fn) 10 a) 11 b
theorem cal_ok (v : VV) (ok : HOk v.h) (kd fn a b : Int) (q1 : 0 ≤ kd ∧ kd < 18446744073709551616) (q2 : 0 ≤ fn ∧ fn < 18446744073709551616) (q3 : 0 ≤ a ∧ a < 18446744073709551616) (q4 : 0 ≤ b ∧ b < 18446744073709551616) : HOk (calV v kd fn a b).h :=
  HOk.x1 (HOk.x1 (HOk.x1 (HOk.x1 ok 17 kd q1.1 q1.2) 16 fn q2.1 q2.2) 10 a q3.1 q3.2) 11 b q4.1 q4.2
theorem reg_cs (v : VV) (u : Int) (r : Nat) (hr : r = 5 ∨ r = 10 ∨ r = 11 ∨ r = 16 ∨ r = 17) : v.cs.set r (.int .u64 u) = (reg v r u).cs := by
  rcases hr with rfl | rfl | rfl | rfl | rfl <;> rfl
set_option maxHeartbeats 8000000 in
theorem c_calls (n i : Nat) (n0 : 1 ≤ n) (n1 : n ≤ 64) (hi : i < n) (kd fn a b : Int) (q1 : 0 ≤ kd ∧ kd < 18446744073709551616) (q2 : 0 ≤ fn ∧ fn < 18446744073709551616) (q3 : 0 ≤ a ∧ a < 18446744073709551616) (q4 : 0 ≤ b ∧ b < 18446744073709551616) (w : World) :
    Calls Try.prog 27 #[.int .i64 n, .int .i64 i, .int .u64 kd, .int .u64 fn, .int .u64 a, .int .u64 b] w fun e w' => ∃ v g1 c1 g c ov, HOk v.h ∧ (gst n)[i]? = some (gV i v) ∧ e = .returned (.tuple #[.slice (some ⟨g1, 0, none⟩) n c1, .slice (some ⟨g, 0, none⟩) n c, ov, .bool (callF ((gst n).set i (calV (gV i v) kd fn a b)) i (calV (gV i v) kd fn a b)).2.1.dn]) ∧ Vb w' g1 ((gst n).set i (calV (gV i v) kd fn a b)) ∧ Vb w' g (callF ((gst n).set i (calV (gV i v) kd fn a b)) i (calV (gV i v) kd fn a b)).1 ∧ OutIs w' w.heap.size ov (callF ((gst n).set i (calV (gV i v) kd fn a b)) i (calV (gV i v) kd fn a b)).2.2 ∧ Below w.heap.size w w' := by
  obtain ⟨v, vok, hv⟩ := gst_get n i hi
  have HVV := hid hv
  have OKV := hid (gV_ok i (by omega) v vok)
  have OKC := hid (cal_ok (gV i v) OKV.out kd fn a b q1 q2 q3 q4)
  have hgl : (gst n).length = n := gst_len n
  have HALL : Hid (∀ x ∈ (gst n).set i (calV (gV i v) kd fn a b), HOk x.h) := fun x hx => by
    rcases List.mem_or_eq_of_mem_set hx with h | h
    · obtain ⟨k, hk⟩ := List.mem_iff_getElem?.1 h
      have hkn : k < n := by have := (List.getElem?_eq_some_iff.1 hk).1; rwa [gst_len] at this
      obtain ⟨u, uok, hu⟩ := gst_get n k hkn
      rw [hu] at hk
      rw [← Option.some.inj hk]
      exact gV_ok k (by omega) u uok
    · rw [h]; exact OKC.out
  have HLL : Hid (((gst n).set i (calV (gV i v) kd fn a b)).length = n) := by show _ = _; simp [gst_len]
  have HLI : Hid (((gst n).set i (calV (gV i v) kd fn a b))[i]? = some (calV (gV i v) kd fn a b)) := List.getElem?_set_self (by rw [gst_len]; exact hi)
  have VOKV := hid vok
  clear hv vok
  go_enter Try.func27, Try.ntmps27
  go_upto_region 2 with (go_at_call 12; refine (v_Begin_good n 2147483648 n0 n1 (by omega) _).mono ?_; rintro e w1 ⟨g0, rfl, hvb, hg0, hb⟩; have A0 := hid hvb; have HB0 := hid hb; clear hvb hb)
  go_wp2_with fail
  go_loopw [17] (fun c wr => ∃ (k : Nat), k ≤ n ∧ c = .int .i64 k ∧ Vb wr g0 (pm gV (bgnL n 2147483648) k) ∧ Below w.heap.size w wr) (fun i _ => n - (intOf i).toNat)
  case atStart => exact ⟨0, by omega, rfl, by rw [pm_zero]; exact A0.out, HB0.out⟩
  case round =>
    clear A0 HB0
    obtain ⟨k, hk, rfl, hvb, hb⟩ := hrel
    have HA := hid hvb
    have HB := hid hb
    clear hvb hb
    by_cases hlt : k < n
    · obtain ⟨y, hy⟩ : ∃ y, (bgnL n 2147483648)[k]? = some y := ⟨_, List.getElem?_eq_getElem (by rw [bgn_len]; exact hlt)⟩
      have HY := hid (pm_get gV (bgnL n 2147483648) k y hy)
      have HZ := hid hy
      have hkl : k < (pm gV (bgnL n 2147483648) k).length := by rw [pm_len, bgn_len]; exact hlt
      have HKL := hid hkl
      clear hy hkl
      go_wp2_with (first
        | ((with_reducible refine wpL_vcell g0 k 49 (pm gV (bgnL n 2147483648) k) y (gV1 y) (.int .i64 1) ?_ ?_ ?_ ?_ ?_ ?_ ?_ ?_ ?_); exact .inr (.inl rfl); exact .inl ⟨_, _, rfl⟩; exact HY.out; omega; exact st_cs y 1; rfl; rfl; exact HA.out; intro w2 h2 ho2; have C1 := hid h2; have HB2 := hid (only_below HB.out hg0 ho2 HB.out.size); clear h2 ho2)
        | ((with_reducible refine wpL_vcell g0 k 32 ((pm gV (bgnL n 2147483648) k).set k (gV1 y)) (gV1 y) (gV2 k y) (.int .u64 (2147483648 + 64 * k)) ?_ ?_ ?_ ?_ ?_ ?_ ?_ ?_ ?_); exact .inl rfl; exact .inl ⟨_, _, rfl⟩; exact List.getElem?_set_self HKL.out; omega; exact pc_cs (gV1 y) _; rfl; rfl; exact C1.out; intro w3 h3 ho3; rw [List.set_set] at h3; have D1 := hid h3; have HB3 := hid (only_below HB2.out hg0 ho3 HB2.out.size); clear h3 ho3)
        | ((with_reducible refine wpL_vcell g0 k 5 ((pm gV (bgnL n 2147483648) k).set k (gV2 k y)) (gV2 k y) (gV k y) (.int .u64 (k + 100)) ?_ ?_ ?_ ?_ ?_ ?_ ?_ ?_ ?_); exact .inl rfl; exact .inl ⟨_, _, rfl⟩; exact List.getElem?_set_self HKL.out; omega; exact reg_cs (gV2 k y) _ 5 (.inl rfl); rfl; rfl; exact D1.out; intro w4 h4 ho4; rw [List.set_set] at h4; have E1 := hid h4; have HB4 := hid (only_below HB3.out hg0 ho4 HB3.out.size); clear h4 ho4))
      go_roundw
      case rel => exact ⟨k + 1, by omega, by go_num, by rw [← pm_succ gV (bgnL n 2147483648) k y HZ.out]; exact E1.out, HB4.out⟩
      case measure => simp [intOf]; omega
    · obtain rfl : k = n := by omega
      have HA2 : Hid (Vb wr g0 (gst k)) := by show Vb wr g0 _; have := HA.out; rw [show pm gV (bgnL k 2147483648) k = gst k from by have := pm_full gV (bgnL k 2147483648); rwa [bgn_len] at this] at this; exact this
      clear HA
      have hil : i < (gst k).length := by rw [gst_len]; exact hi
      have HIL := hid hil
      clear hil hgl
      go_wp2_with (first
        | ((with_reducible refine wpL_vcell g0 i 17 (gst k) (gV i v) (reg (gV i v) 17 kd) (.int .u64 kd) ?_ ?_ ?_ ?_ ?_ ?_ ?_ ?_ ?_); exact .inl rfl; exact .inl ⟨_, _, rfl⟩; exact HVV.out; omega; exact reg_cs (gV i v) _ 17 (by decide); rfl; rfl; exact HA2.out; intro wr1 h_ ho_; have A1 := hid h_; have HB1 := hid (only_below HB.out hg0 ho_ HB.out.size); clear h_ ho_)
        | ((with_reducible refine wpL_vcell g0 i 16 ((gst k).set i (reg (gV i v) 17 kd)) (reg (gV i v) 17 kd) (reg (reg (gV i v) 17 kd) 16 fn) (.int .u64 fn) ?_ ?_ ?_ ?_ ?_ ?_ ?_ ?_ ?_); exact .inl rfl; exact .inl ⟨_, _, rfl⟩; exact List.getElem?_set_self HIL.out; omega; exact reg_cs (reg (gV i v) 17 kd) _ 16 (by decide); rfl; rfl; exact A1.out; intro wr2 h_ ho_; rw [List.set_set] at h_; have A2 := hid h_; have HB2 := hid (only_below HB1.out hg0 ho_ HB1.out.size); clear h_ ho_)
        | ((with_reducible refine wpL_vcell g0 i 10 ((gst k).set i (reg (reg (gV i v) 17 kd) 16 fn)) (reg (reg (gV i v) 17 kd) 16 fn) (reg (reg (reg (gV i v) 17 kd) 16 fn) 10 a) (.int .u64 a) ?_ ?_ ?_ ?_ ?_ ?_ ?_ ?_ ?_); exact .inl rfl; exact .inl ⟨_, _, rfl⟩; exact List.getElem?_set_self HIL.out; omega; exact reg_cs (reg (reg (gV i v) 17 kd) 16 fn) _ 10 (by decide); rfl; rfl; exact A2.out; intro wr3 h_ ho_; rw [List.set_set] at h_; have A3 := hid h_; have HB3 := hid (only_below HB2.out hg0 ho_ HB2.out.size); clear h_ ho_)
        | ((with_reducible refine wpL_vcell g0 i 11 ((gst k).set i (reg (reg (reg (gV i v) 17 kd) 16 fn) 10 a)) (reg (reg (reg (gV i v) 17 kd) 16 fn) 10 a) (calV (gV i v) kd fn a b) (.int .u64 b) ?_ ?_ ?_ ?_ ?_ ?_ ?_ ?_ ?_); exact .inl rfl; exact .inl ⟨_, _, rfl⟩; exact List.getElem?_set_self HIL.out; omega; exact reg_cs (reg (reg (reg (gV i v) 17 kd) 16 fn) 10 a) _ 11 (by decide); rfl; rfl; exact A3.out; intro wr4 h_ ho_; rw [List.set_set] at h_; have A4 := hid h_; have HB4 := hid (only_below HB3.out hg0 ho_ HB3.out.size); clear h_ ho_)
        | ((with_reducible refine wpL_appendV wr4.heap.size (.slice none 0 0) (.slice (some ⟨g0, 0, none⟩) k k) ((gst k).set i (calV (gV i v) kd fn a b)) ?_ ?_ ?_ ?_ ?_ ?_ ?_); rfl; exact World.ownsRow_nil _ _ _ _; rfl; have := A4.out.rd (cap := k); rw [HLL.out] at this; exact this; rw [HLL.out]; omega; exact Nat.le_refl _; intro v5 w5 hv5 hb5; obtain ⟨g5, c5, rfl, hg5, hvb5⟩ := vs_at hv5 (by intro e; have := HLL.out; rw [e] at this; simp at this; omega); rw [HLL.out]; have A5 := hid hvb5; have A4' := hid (A4.out.below hb5); have HB5 := hid (HB4.out.trans (hb5.mono HB4.out.size)); clear hv5 hvb5 hb5)
        | (go_at_call 22; refine (v_Call _ (.slice (some ⟨g0, 0, none⟩) k k) ((gst k).set i (calV (gV i v) kd fn a b)) (by have := A4'.out.rd (cap := k); rw [HLL.out] at this; exact this) (by rw [HLL.out]; omega) HALL.out i (calV (gV i v) kd fn a b) HLI.out).mono ?_; rw [HLL.out]; rintro e w6 ⟨g, cp, ov, rfl, hvb, hg, hov, hb⟩; have A6 := hid hvb; have A5' := hid (A5.out.below hb); have HB6 := hid (HB5.out.trans (hb.mono HB5.out.size)); have HO6 := hid (hov.base HB5.out.size); clear hvb hg hov hb))
      go_returns
      exact ⟨v, g5, c5, g, cp, ov, VOKV.out, HVV.out, rfl, A5'.out, A6.out, HO6.out, HB6.out⟩
end Go.Proofs.Yteafjobmlfkppaa
namespace Go.Proofs.Yteafjobmlfkppaa
open Go.RowKit
set_option linter.unusedVariables false
set_option maxRecDepth 100000

theorem c_PlaceN (n m : Int) (m0 : 0 < m) (m1 : m ≤ 4611686018427387904) (h0 : -9223372036854775808 ≤ n) (h1 : n ≤ 9223372036854775807) (w : World) : Calls Try.prog 26 #[.int .i64 n, .int .i64 m] w fun e w' => ∃ k : Nat, e = .returned (.int .i64 k) ∧ (k : Int) < m ∧ w' = w := by
  refine (C.c_Place n m m0 m1 h0 h1 w).mono ?_
  rintro e w' ⟨rfl, rfl⟩
  have a := Int.emod_nonneg n (show m ≠ 0 by omega)
  have b := Int.emod_lt_of_pos n m0
  exact ⟨(n % m).toNat, by rw [Int.toNat_of_nonneg a], by rw [Int.toNat_of_nonneg a]; exact b, rfl⟩
def LcV (n i : Nat) (v : VV) (kd fn a b : Int) : List VV := (gst n).set i (calV (gV i v) kd fn a b)
theorem Lc_len (n i : Nat) (v : VV) (kd fn a b : Int) : (LcV n i v kd fn a b).length = n := by simp [LcV, gst_len]
theorem Lc_get (n i : Nat) (hi : i < n) (v : VV) (kd fn a b : Int) : (LcV n i v kd fn a b)[i]? = some (calV (gV i v) kd fn a b) := List.getElem?_set_self (by rw [gst_len]; exact hi)
theorem cal_nm (v : VV) (kd fn a b : Int) : nmOf ((ordV (calV v kd fn a b)).h.x 17) ((ordV (calV v kd fn a b)).h.x 16) = nmOf kd fn := by
  rw [ordX _ 17 (by decide), ordX _ 16 (by decide)]
  rfl
theorem finL_i (M : List VV) (i : Nat) (av : AV) (y : VV) (hs : av.st = false) (hy : M[i]? = some y) : (finL M i av)[i]? = some (finV y av.err av.val) := by
  unfold finL
  rw [if_neg (by rw [hs]; decide), hy]
  exact List.getElem?_set_self (List.getElem?_eq_some_iff.1 hy).1
theorem c_end1 (n i : Nat) (n0 : 1 ≤ n) (n1 : n ≤ 64) (hi : i < n) (a b : Int) (q3 : 0 ≤ a ∧ a < 18446744073709551616) (q4 : 0 ≤ b ∧ b < 18446744073709551616) (w : World) :
    Calls Try.prog 27 #[.int .i64 n, .int .i64 i, .int .u64 1397904212, .int .u64 0, .int .u64 a, .int .u64 b] w fun e w' => ∃ g1 c1 g c R, e = .returned (.tuple #[.slice (some ⟨g1, 0, none⟩) n c1, .slice (some ⟨g, 0, none⟩) n c, .slice none 0 0, .bool true]) ∧ Vb w' g R ∧ R.length = n ∧ (∀ (k : Nat) (z : VV), R[k]? = some z → z.st = 0) ∧ Below w.heap.size w w' := by
  refine (c_calls n i n0 n1 hi 1397904212 0 a b (by omega) (by omega) q3 q4 w).mono ?_
  rintro e w' ⟨v, g1, c1, g, c, ov, vok, hv, rfl, h1, h2, ho, hb⟩
  have hc : callF (LcV n i v 1397904212 0 a b) i (calV (gV i v) 1397904212 0 a b) = ((ordL (LcV n i v 1397904212 0 a b)).mapIdx fun _ => stopV, aDown, none) := by
    have e : ansF (ordL (LcV n i v 1397904212 0 a b)) i (ordV (calV (gV i v) 1397904212 0 a b)) = ((ordL (LcV n i v 1397904212 0 a b)).mapIdx fun _ => stopV, aDown, none) := by
      unfold ansF
      rw [cal_nm, show nmOf 1397904212 0 = keyN 26 by decide, ansG_26]
    unfold callF
    rw [e]
    rfl
  unfold LcV at hc
  rw [hc] at h2 ho ⊢
  obtain rfl : ov = nils := ho
  refine ⟨g1, c1, g, c, _, rfl, h2, by simp [ordL_len, gst_len], fun k z hz => ?_, hb⟩
  simp only [List.getElem?_mapIdx, Option.map_eq_some_iff] at hz
  obtain ⟨u, _, rfl⟩ := hz
  rfl
theorem c_end2 (n i : Nat) (n0 : 1 ≤ n) (n1 : n ≤ 64) (hi : i < n) (fn a b : Int) (q2 : 0 ≤ fn ∧ fn < 18446744073709551616) (q3 : 0 ≤ a ∧ a < 18446744073709551616) (q4 : 0 ≤ b ∧ b < 18446744073709551616) (w : World) :
    Calls Try.prog 27 #[.int .i64 n, .int .i64 i, .int .u64 1, .int .u64 fn, .int .u64 a, .int .u64 b] w fun e w' => ∃ g1 c1 g c o R z, e = .returned (.tuple #[.slice (some ⟨g1, 0, none⟩) n c1, .slice (some ⟨g, 0, none⟩) n c, .slice (some ⟨o, 0, none⟩) 1 1, .bool false]) ∧ C1 w' o (.int .u8 (a % 256)) ∧ Vb w' g R ∧ R[i]? = some z ∧ z.h.x 10 = 0 ∧ z.h.x 11 = b ∧ Below w.heap.size w w' := by
  refine (c_calls n i n0 n1 hi 1 fn a b (by omega) q2 q3 q4 w).mono ?_
  rintro e w' ⟨v, g1, c1, g, c, ov, vok, hv, rfl, h1, h2, ho, hb⟩
  have hP : (ordL (LcV n i v 1 fn a b))[i]? = some (ordV (calV (gV i v) 1 fn a b)) := ordL_get _ _ _ (Lc_get n i hi v 1 fn a b)
  have hc : callF (LcV n i v 1 fn a b) i (calV (gV i v) 1 fn a b) = (finL (ordL (LcV n i v 1 fn a b)) i (aVal b), aVal b, some (a % 256)) := by
    have e : ansF (ordL (LcV n i v 1 fn a b)) i (ordV (calV (gV i v) 1 fn a b)) = (ordL (LcV n i v 1 fn a b), aVal b, some (a % 256)) := by
      unfold ansF
      rw [cal_nm, show nmOf 1 fn = keyN 11 by simp [nmOf, keyN], ansG_11, ordX _ 11 (by decide), ordX _ 10 (by decide)]
      rfl
    unfold callF
    rw [e]
  have hz := finL_i (ordL (LcV n i v 1 fn a b)) i (aVal b) _ rfl hP
  unfold LcV at hc hz
  rw [hc] at h2 ho ⊢
  obtain ⟨o, rfl, hco, _⟩ := ho
  exact ⟨g1, c1, g, c, o, _, _, rfl, hco, h2, hz, rfl, rfl, hb⟩
theorem c_end3 (n i : Nat) (n0 : 1 ≤ n) (n1 : n ≤ 64) (hi : i < n) (kd fn a b : Int) (hk : ∀ k ∈ calI, keyN k ≠ nmOf kd fn) (q1 : 0 ≤ kd ∧ kd < 18446744073709551616) (q2 : 0 ≤ fn ∧ fn < 18446744073709551616) (q3 : 0 ≤ a ∧ a < 18446744073709551616) (q4 : 0 ≤ b ∧ b < 18446744073709551616) (w : World) :
    Calls Try.prog 27 #[.int .i64 n, .int .i64 i, .int .u64 kd, .int .u64 fn, .int .u64 a, .int .u64 b] w fun e w' => ∃ g1 c1 g c L1 x1 R z, e = .returned (.tuple #[.slice (some ⟨g1, 0, none⟩) n c1, .slice (some ⟨g, 0, none⟩) n c, .slice none 0 0, .bool false]) ∧ Vb w' g1 L1 ∧ L1[i]? = some x1 ∧ x1.h.pc = 2147483648 + 64 * i ∧ Vb w' g R ∧ R[i]? = some z ∧ z.h.x 10 = 18446744073709551614 ∧ z.h.x 11 = 0 ∧ z.h.pc = 2147483648 + 64 * i + 4 ∧ Below w.heap.size w w' := by
  refine (c_calls n i n0 n1 hi kd fn a b q1 q2 q3 q4 w).mono ?_
  rintro e w' ⟨v, g1, c1, g, c, ov, vok, hv, rfl, h1, h2, ho, hb⟩
  have hP : (ordL (LcV n i v kd fn a b))[i]? = some (ordV (calV (gV i v) kd fn a b)) := ordL_get _ _ _ (Lc_get n i hi v kd fn a b)
  have hc : callF (LcV n i v kd fn a b) i (calV (gV i v) kd fn a b) = (finL (ordL (LcV n i v kd fn a b)) i (aErr 18446744073709551614), aErr 18446744073709551614, none) := by
    have e : ansF (ordL (LcV n i v kd fn a b)) i (ordV (calV (gV i v) kd fn a b)) = (ordL (LcV n i v kd fn a b), aErr 18446744073709551614, none) := by
      unfold ansF
      rw [cal_nm, ansG_no _ hk]
    unfold callF
    rw [e]
  have hz := finL_i (ordL (LcV n i v kd fn a b)) i (aErr 18446744073709551614) _ rfl hP
  have hg := Lc_get n i hi v kd fn a b
  unfold LcV at hc hz hg
  rw [hc] at h2 ho ⊢
  obtain rfl : ov = nils := ho
  refine ⟨g1, c1, g, c, _, _, _, _, rfl, h1, hg, rfl, h2, hz, rfl, rfl, ?_, hb⟩
  show IntKind.u64.wrap ((2147483648 + 64 * (i : Int)) / 2 * 2 + 4) = _
  rw [IntKind.wrap_u64]
  omega
end Go.Proofs.Yteafjobmlfkppaa
namespace Go.Proofs.Yteafjobmlfkppaa
open Go.RowKit
set_option linter.unusedVariables false
set_option maxRecDepth 100000

theorem bgn_sip (n : Nat) : ∀ x ∈ bgnL n 2147483648, x.h.sip = 0 := fun x hx => by
  rcases List.mem_or_eq_of_mem_set hx with h | h
  · rw [List.eq_of_mem_replicate h]; rfl
  · rw [h]; rfl
theorem gst_get2 (n k : Nat) (hk : k < n) : ∃ v, v.h.sip = 0 ∧ (gst n)[k]? = some (gV k v) := by
  obtain ⟨v, hv⟩ : ∃ v, (bgnL n 2147483648)[k]? = some v := ⟨_, List.getElem?_eq_getElem (by rw [bgn_len]; exact hk)⟩
  exact ⟨v, bgn_sip n v (List.mem_of_getElem? hv), by simp [gst, List.getElem?_mapIdx, hv]⟩
/-- what the law asks of each of them -/
structure SndP (m f : Int) (k : Nat) (u z : VV) : Prop where
  st : z.st = 1
  x5 : z.h.x 5 = u.h.x 5
  sip : z.h.sip = bif sB m f k then 2 else 0
theorem ib0 : ib 0 = 0 := rfl
theorem or02 : bits .or .u64 0 2 = 2 := rfl
theorem snd_z (m f : Int) (k : Nat) (u : VV) (h1 : u.st = 1) (h2 : u.h.sip = 0) : SndP m f k u (snV m f k (ordV u)) := by
  have hs : (ordV u).h.sip = 0 := by show ib u.h.sip = 0; rw [h2]; rfl
  unfold snV
  cases hb : sB m f k with
  | true =>
    rw [if_pos rfl]
    exact ⟨h1, ordX u 5 (by decide), by rw [hb, hs]; rfl⟩
  | false =>
    rw [if_neg (by decide)]
    exact ⟨h1, ordX u 5 (by decide), by rw [hb, hs]; rfl⟩
theorem SndP.fin {m f : Int} {k : Nat} {u z : VV} (h : SndP m f k u z) (e v : Int) : SndP m f k u (finV z e v) := ⟨h.st, h.x5, h.sip⟩
theorem c_snd (n i : Nat) (n0 : 1 ≤ n) (n1 : n ≤ 64) (hi : i < n) (a b : Int) (q3 : 0 ≤ a ∧ a < 18446744073709551616) (q4 : 0 ≤ b ∧ b < 18446744073709551616) (w : World) :
    Calls Try.prog 27 #[.int .i64 n, .int .i64 i, .int .u64 7557193, .int .u64 0, .int .u64 a, .int .u64 b] w fun e w' => ∃ g1 c1 g c L R, e = .returned (.tuple #[.slice (some ⟨g1, 0, none⟩) n c1, .slice (some ⟨g, 0, none⟩) n c, .slice none 0 0, .bool false]) ∧ Vb w' g1 L ∧ L.length = n ∧ Vb w' g R ∧ R.length = n ∧ (∀ (k : Nat) (u z : VV), L[k]? = some u → R[k]? = some z → SndP a b k u z) ∧ (∃ u z, L[i]? = some u ∧ R[i]? = some z ∧ z.h.x 10 = 0 ∧ u.h.pc = 2147483648 + 64 * i ∧ z.h.pc = 2147483648 + 64 * i + 4) ∧ Below w.heap.size w w' := by
  refine (c_calls n i n0 n1 hi 7557193 0 a b (by omega) (by omega) q3 q4 w).mono ?_
  rintro e w' ⟨v, g1, c1, g, c, ov, vok, hv, rfl, h1, h2, ho, hb⟩
  have hLi := Lc_get n i hi v 7557193 0 a b
  have hP : (ordL (LcV n i v 7557193 0 a b))[i]? = some (ordV (calV (gV i v) 7557193 0 a b)) := ordL_get _ _ _ hLi
  have hM : ((ordL (LcV n i v 7557193 0 a b)).mapIdx (snV a b))[i]? = some (snV a b i (ordV (calV (gV i v) 7557193 0 a b))) := by simp [List.getElem?_mapIdx, hP]
  have hc : callF (LcV n i v 7557193 0 a b) i (calV (gV i v) 7557193 0 a b) = (finL ((ordL (LcV n i v 7557193 0 a b)).mapIdx (snV a b)) i AV.zero, AV.zero, none) := by
    have e : ansF (ordL (LcV n i v 7557193 0 a b)) i (ordV (calV (gV i v) 7557193 0 a b)) = ((ordL (LcV n i v 7557193 0 a b)).mapIdx (snV a b), AV.zero, none) := by
      unfold ansF
      rw [cal_nm, show nmOf 7557193 0 = keyN 14 by decide, ansG_14, ordX _ 11 (by decide), ordX _ 10 (by decide)]
      rfl
    unfold callF
    rw [e]
  have hz := finL_i ((ordL (LcV n i v 7557193 0 a b)).mapIdx (snV a b)) i AV.zero _ rfl hM
  have hlenR : (finL ((ordL (LcV n i v 7557193 0 a b)).mapIdx (snV a b)) i AV.zero).length = n := by rw [finL_len, List.length_mapIdx, ordL_len, Lc_len]
  have base : ∀ (k : Nat) (u : VV), (LcV n i v 7557193 0 a b)[k]? = some u → u.st = 1 ∧ u.h.sip = 0 := by
    intro k u hu
    have hkn : k < n := by have := (List.getElem?_eq_some_iff.1 hu).1; rwa [Lc_len] at this
    by_cases q : i = k
    · subst q
      rw [hLi] at hu
      rw [← Option.some.inj hu]
      obtain ⟨v', hs, hg⟩ := gst_get2 n i hkn
      rw [hv] at hg
      have e : gV i v = gV i v' := Option.some.inj hg
      refine ⟨rfl, ?_⟩
      have e2 : (gV i v).h.sip = (gV i v').h.sip := by rw [e]
      show v.h.sip = 0
      have e3 : v.h.sip = v'.h.sip := e2
      rw [e3, hs]
    · unfold LcV at hu
      rw [List.getElem?_set_ne q] at hu
      obtain ⟨v', hs, hg⟩ := gst_get2 n k hkn
      rw [hg] at hu
      rw [← Option.some.inj hu]
      exact ⟨rfl, hs⟩
  have all : ∀ (k : Nat) (u z : VV), (LcV n i v 7557193 0 a b)[k]? = some u → (finL ((ordL (LcV n i v 7557193 0 a b)).mapIdx (snV a b)) i AV.zero)[k]? = some z → SndP a b k u z := by
    intro k u z hu hzk
    obtain ⟨b1, b2⟩ := base k u hu
    have hPk := ordL_get _ k u hu
    by_cases q : i = k
    · subst q
      rw [hz] at hzk
      rw [← Option.some.inj hzk]
      rw [hLi] at hu
      rw [← Option.some.inj hu] at b1 b2 ⊢
      exact (snd_z a b i _ b1 b2).fin 0 0
    · rw [finL_ne _ _ _ _ q] at hzk
      simp only [List.getElem?_mapIdx, hPk, Option.map_some, Option.some.injEq] at hzk
      rw [← hzk]
      exact snd_z a b k u b1 b2
  have hpc : (finV (snV a b i (ordV (calV (gV i v) 7557193 0 a b))) AV.zero.err AV.zero.val).h.pc = 2147483648 + 64 * i + 4 := by
    have e : (snV a b i (ordV (calV (gV i v) 7557193 0 a b))).h.pc = (2147483648 + 64 * (i : Int)) / 2 * 2 := by
      unfold snV
      split <;> rfl
    show IntKind.u64.wrap ((snV a b i (ordV (calV (gV i v) 7557193 0 a b))).h.pc + 4) = _
    rw [e, IntKind.wrap_u64]
    omega
  unfold LcV at hc hz all hLi hlenR
  rw [hc] at h2 ho ⊢
  obtain rfl : ov = nils := ho
  exact ⟨g1, c1, g, c, _, _, rfl, h1, by simp [gst_len], h2, hlenR, all, ⟨_, _, hLi, hz, rfl, rfl, hpc⟩, hb⟩
/-- the law's word for the same -/
theorem sB_want (m f : Int) (k : Nat) (m0 : 0 ≤ m) (m1 : m < 18446744073709551616) : sB m f k = ((f == 18446744073709551615) || (decide (IntKind.u64.wrap (k - f) < 64) && (m / 2 ^ min (IntKind.u64.wrap (k - f)).toNat 64 % 2 == 1))) := by
  unfold sB
  congr 1
  have hq0 : 0 ≤ m / 2 ^ min (IntKind.u64.wrap (k - f)).toNat 64 := Int.ediv_nonneg m0 (by exact Int.le_of_lt (Int.pow_pos (by omega)))
  have hq1 : m / 2 ^ min (IntKind.u64.wrap (k - f)).toNat 64 < 18446744073709551616 := Int.lt_of_le_of_lt (Int.ediv_le_self _ m0) m1
  have hw := wrap_r (k - f)
  by_cases hd : IntKind.u64.wrap (k - f) < 64
  · rw [decide_eq_true hd, Bool.true_and]
    generalize m / 2 ^ min (IntKind.u64.wrap (k - f)).toNat 64 = q at hq0 hq1
    rw [u64_and q 1 hq0 hq1 (by omega) (by omega), show (1 : Int).toNat = 1 by rfl, Nat.and_one_is_mod]
    rcases Nat.mod_two_eq_zero_or_one q.toNat with h | h
    · rw [h]
      have : q % 2 = 0 := by omega
      rw [this]; rfl
    · rw [h]
      have : q % 2 = 1 := by omega
      rw [this]; rfl
  · rw [decide_eq_false hd, Bool.false_and]
    have e : min (IntKind.u64.wrap (k - f)).toNat 64 = 64 := by omega
    rw [e]
    have : m / 2 ^ 64 = 0 := Int.ediv_eq_zero_of_lt m0 (by omega)
    rw [this]
    rfl
end Go.Proofs.Yteafjobmlfkppaa
namespace Go.Proofs.Yteafjobmlfkppaa
open Go.RowKit
set_option linter.unusedVariables false
set_option maxRecDepth 100000

def AllOk (L : List VV) : Prop := ∀ x ∈ L, HOk x.h
theorem AllOk.get {L : List VV} (h : AllOk L) {k : Nat} {x : VV} (hx : L[k]? = some x) : HOk x.h := h x (List.mem_of_getElem? hx)
theorem AllOk.set {L : List VV} (h : AllOk L) {x : VV} (hx : HOk x.h) (k : Nat) : AllOk (L.set k x) := fun y hy => by
  rcases List.mem_or_eq_of_mem_set hy with q | q
  · exact h y q
  · rw [q]; exact hx
theorem AllOk.ord {L : List VV} (h : AllOk L) : AllOk (ordL L) := fun y hy => by
  obtain ⟨k, hk⟩ := List.mem_iff_getElem?.1 hy
  simp only [ordL, List.getElem?_mapIdx, Option.map_eq_some_iff] at hk
  obtain ⟨x, hx, rfl⟩ := hk
  exact ordOk (h.get hx)
theorem std_ok (pc a0 a1 : Int) (p : 0 ≤ pc ∧ pc < 18446744073709551616) (p0 : 0 ≤ a0 ∧ a0 < 18446744073709551616) (p1 : 0 ≤ a1 ∧ a1 < 18446744073709551616) : HOk (stdV pc a0 a1).h := ordOk (rs2_ok pc a0 a1 p p0 p1)
theorem fin_ok (y : VV) (ok : HOk y.h) (e v : Int) (e0 : 0 ≤ e ∧ e < 18446744073709551616) (v0 : 0 ≤ v ∧ v < 18446744073709551616) : HOk (finV y e v).h := by
  have h2 : HOk ({ y.h with pc := IntKind.u64.wrap (y.h.pc + 4) } : HV) := { ok with pc := wrap_r _ }
  exact HOk.x1 (HOk.x1 h2 10 e e0.1 e0.2) 11 v v0.1 v0.2
theorem reg_ok (y : VV) (ok : HOk y.h) (r : Nat) (v : Int) (v0 : 0 ≤ v ∧ v < 18446744073709551616) : HOk (reg y r v).h := HOk.x1 ok r v v0.1 v0.2
/-- what the call leaves, its name being known -/
theorem call_of (L : List VV) (i : Nat) (x : VV) (M : List VV) (av : AV) (o : Option Int) (h : ansF (ordL L) i (ordV x) = (M, av, o)) : callF L i x = (finL M i av, av, o) := by
  unfold callF
  rw [h]
/-- the caller's registers, of a call about harts -/
def hrt (v : VV) (fn t : Int) : VV := reg (reg (reg v 17 4739917) 16 fn) 10 t
def strt (v : VV) (t pc gv : Int) : VV := reg (reg (hrt v 0 t) 11 pc) 12 gv
theorem ans_hrt (L : List VV) (x : VV) (i : Nat) (k : Nat) (fn : Int) (h17 : x.h.x 17 = 4739917) (h16 : x.h.x 16 = fn) (hk : keyN k = (4739917, fn)) : ansF (ordL L) i (ordV x) = ansG (keyN k) (ordL L) i (ordV x) := by
  unfold ansF
  rw [ordX x 17 (by decide), ordX x 16 (by decide), h17, h16, show nmOf 4739917 fn = (4739917, fn) by simp [nmOf], hk]
/-- started -/
theorem s_A (L : List VV) (n t : Nat) (hl : L.length = n) (h0 : 0 < t) (ht : t < n) (hok : AllOk L) (v y : VV) (hv : L[0]? = some v) (hy : L[t]? = some y) (hst : y.st = 0) (pc gv : Int) (p : 0 ≤ pc ∧ pc < 18446744073709551616) (q : 0 ≤ gv ∧ gv < 18446744073709551616) (n8 : n ≤ 64) :
    ∃ R z, callF (L.set 0 (strt v t pc gv)) 0 (strt v t pc gv) = (R, AV.zero, none) ∧ R.length = n ∧ AllOk R ∧ R[0]? = some z ∧ z.h.x 10 = 0 ∧ R[t]? = some (stdV pc t gv) := by
  have t0 : 0 ≤ (t : Int) ∧ (t : Int) < 18446744073709551616 := by omega
  have okx : HOk (strt v t pc gv).h := reg_ok _ (reg_ok _ (reg_ok _ (reg_ok _ (reg_ok _ (hok.get hv) 17 _ (by omega)) 16 _ (by omega)) 10 _ t0) 11 _ p) 12 _ q
  have okL := hok.set okx 0
  have hPt : (ordL (L.set 0 (strt v t pc gv)))[t]? = some (ordV y) := ordL_get _ _ _ (by rw [List.getElem?_set_ne (by omega)]; exact hy)
  have hP0 : (ordL (L.set 0 (strt v t pc gv)))[0]? = some (ordV (strt v t pc gv)) := ordL_get _ _ _ (List.getElem?_set_self (by omega))
  have e : ansF (ordL (L.set 0 (strt v t pc gv))) 0 (ordV (strt v t pc gv)) = ((ordL (L.set 0 (strt v t pc gv))).set t (stdV pc t gv), AV.zero, none) := by
    rw [ans_hrt _ (strt v t pc gv) 0 17 0 rfl rfl rfl, ansG_17, ordX _ 10 (by decide), ordX _ 11 (by decide), ordX _ 12 (by decide)]
    have es : startL (ordL (L.set 0 (strt v t pc gv))) t pc gv = ((ordL (L.set 0 (strt v t pc gv))).set t (stdV pc t gv), AV.zero) := by
      unfold startL
      rw [Int.toNat_natCast, hPt]
      simp only
      rw [if_neg (by show ¬ y.st ≠ 0; rw [hst]; decide)]
    show ((startL _ t pc gv).1, (startL _ t pc gv).2, none) = _
    rw [es]
  have hM0 : ((ordL (L.set 0 (strt v t pc gv))).set t (stdV pc t gv))[0]? = some (ordV (strt v t pc gv)) := by rw [List.getElem?_set_ne (by omega)]; exact hP0
  have okM := (okL.ord).set (std_ok pc t gv p t0 q) t
  refine ⟨_, _, call_of _ _ _ _ _ _ e, by rw [finL_len, List.length_set, ordL_len, List.length_set, hl], ?_, finL_i _ 0 AV.zero _ rfl hM0, rfl, ?_⟩
  · have ef : finL ((ordL (L.set 0 (strt v t pc gv))).set t (stdV pc t gv)) 0 AV.zero = ((ordL (L.set 0 (strt v t pc gv))).set t (stdV pc t gv)).set 0 (finV (ordV (strt v t pc gv)) 0 0) := by
      unfold finL
      rw [if_neg (by decide), hM0]
      rfl
    rw [ef]
    exact okM.set (fin_ok _ (ordOk okx) 0 0 (by omega) (by omega)) 0
  · rw [finL_ne _ _ _ _ (by omega)]
    exact List.getElem?_set_self (by rw [ordL_len, List.length_set, hl]; exact ht)
/-- not begun again -/
theorem s_B (L : List VV) (n t : Nat) (hl : L.length = n) (h0 : 0 < t) (ht : t < n) (hok : AllOk L) (v y : VV) (hv : L[0]? = some v) (hy : L[t]? = some y) (hst : y.st = 1) (n8 : n ≤ 64) :
    ∃ R z, callF (L.set 0 (hrt v 0 t)) 0 (hrt v 0 t) = (R, aErr 18446744073709551610, none) ∧ R.length = n ∧ AllOk R ∧ R[0]? = some z ∧ z.h.x 10 = 18446744073709551610 ∧ R[t]? = some (ordV y) := by
  have t0 : 0 ≤ (t : Int) ∧ (t : Int) < 18446744073709551616 := by omega
  have okx : HOk (hrt v 0 t).h := reg_ok _ (reg_ok _ (reg_ok _ (hok.get hv) 17 _ (by omega)) 16 _ (by omega)) 10 _ t0
  have okL := hok.set okx 0
  have hPt : (ordL (L.set 0 (hrt v 0 t)))[t]? = some (ordV y) := ordL_get _ _ _ (by rw [List.getElem?_set_ne (by omega)]; exact hy)
  have hP0 : (ordL (L.set 0 (hrt v 0 t)))[0]? = some (ordV (hrt v 0 t)) := ordL_get _ _ _ (List.getElem?_set_self (by omega))
  have e : ansF (ordL (L.set 0 (hrt v 0 t))) 0 (ordV (hrt v 0 t)) = (ordL (L.set 0 (hrt v 0 t)), aErr 18446744073709551610, none) := by
    rw [ans_hrt _ (hrt v 0 t) 0 17 0 rfl rfl rfl, ansG_17, ordX _ 10 (by decide)]
    have es : ∀ a b, startL (ordL (L.set 0 (hrt v 0 t))) t a b = (ordL (L.set 0 (hrt v 0 t)), aErr 18446744073709551610) := fun a b => by
      unfold startL
      rw [Int.toNat_natCast, hPt]
      simp only
      rw [if_pos (by show y.st ≠ 0; rw [hst]; decide)]
    show ((startL _ t _ _).1, (startL _ t _ _).2, none) = _
    rw [es]
  refine ⟨_, _, call_of _ _ _ _ _ _ e, by rw [finL_len, ordL_len, List.length_set, hl], ?_, finL_i _ 0 (aErr 18446744073709551610) _ rfl hP0, rfl, ?_⟩
  · have ef : finL (ordL (L.set 0 (hrt v 0 t))) 0 (aErr 18446744073709551610) = (ordL (L.set 0 (hrt v 0 t))).set 0 (finV (ordV (hrt v 0 t)) 18446744073709551610 0) := by
      unfold finL
      rw [if_neg (by decide), hP0]
      rfl
    rw [ef]
    exact okL.ord.set (fin_ok _ (ordOk okx) 18446744073709551610 0 (by omega) (by omega)) 0
  · rw [finL_ne _ _ _ _ (by omega)]
    exact hPt
/-- it stops -/
def stp (y : VV) : VV := reg (reg y 17 4739917) 16 1
theorem s_C (L : List VV) (n t : Nat) (hl : L.length = n) (h0 : 0 < t) (ht : t < n) (hok : AllOk L) (v y : VV) (hv : L[0]? = some v) (hy : L[t]? = some y) :
    ∃ R z v', callF (L.set t (stp y)) t (stp y) = (R, aStay, none) ∧ R.length = n ∧ AllOk R ∧ R[0]? = some v' ∧ R[t]? = some z ∧ z.st = 0 ∧ z.h.pc = y.h.pc / 2 * 2 := by
  have okx : HOk (stp y).h := reg_ok _ (reg_ok _ (hok.get hy) 17 _ (by omega)) 16 _ (by omega)
  have okL := hok.set okx t
  have hPt : (ordL (L.set t (stp y)))[t]? = some (ordV (stp y)) := ordL_get _ _ _ (List.getElem?_set_self (by omega))
  have hP0 : (ordL (L.set t (stp y)))[0]? = some (ordV v) := ordL_get _ _ _ (by rw [List.getElem?_set_ne (by omega)]; exact hv)
  have e : ansF (ordL (L.set t (stp y))) t (ordV (stp y)) = ((ordL (L.set t (stp y))).set t (stopV (ordV (stp y))), aStay, none) := by
    rw [ans_hrt _ (stp y) t 20 1 rfl rfl rfl, ansG_20]
  refine ⟨_, stopV (ordV (stp y)), ordV v, call_of _ _ _ _ _ _ e, by rw [finL_len, List.length_set, ordL_len, List.length_set, hl], ?_, ?_, ?_, rfl, rfl⟩
  · show AllOk ((ordL (L.set t (stp y))).set t (stopV (ordV (stp y))))
    exact okL.ord.set (ordOk okx) t
  · show ((ordL (L.set t (stp y))).set t (stopV (ordV (stp y))))[0]? = _
    rw [List.getElem?_set_ne (by omega)]
    exact hP0
  · show ((ordL (L.set t (stp y))).set t (stopV (ordV (stp y))))[t]? = _
    exact List.getElem?_set_self (by rw [ordL_len, List.length_set, hl]; exact ht)
/-- asked after -/
theorem s_D (L : List VV) (n t : Nat) (hl : L.length = n) (h0 : 0 < t) (ht : t < n) (hok : AllOk L) (v y : VV) (hv : L[0]? = some v) (hy : L[t]? = some y) (hst : y.st = 0) (n8 : n ≤ 64) :
    ∃ R z u, callF (L.set 0 (hrt v 2 t)) 0 (hrt v 2 t) = (R, aVal 1, none) ∧ R.length = n ∧ AllOk R ∧ R[0]? = some z ∧ z.h.x 10 = 0 ∧ z.h.x 11 = 1 ∧ z.h.x 17 = 4739917 ∧ R[t]? = some u ∧ u.st = 0 := by
  have t0 : 0 ≤ (t : Int) ∧ (t : Int) < 18446744073709551616 := by omega
  have okx : HOk (hrt v 2 t).h := reg_ok _ (reg_ok _ (reg_ok _ (hok.get hv) 17 _ (by omega)) 16 _ (by omega)) 10 _ t0
  have okL := hok.set okx 0
  have hPt : (ordL (L.set 0 (hrt v 2 t)))[t]? = some (ordV y) := ordL_get _ _ _ (by rw [List.getElem?_set_ne (by omega)]; exact hy)
  have hP0 : (ordL (L.set 0 (hrt v 2 t)))[0]? = some (ordV (hrt v 2 t)) := ordL_get _ _ _ (List.getElem?_set_self (by omega))
  have e : ansF (ordL (L.set 0 (hrt v 2 t))) 0 (ordV (hrt v 2 t)) = (ordL (L.set 0 (hrt v 2 t)), aVal 1, none) := by
    rw [ans_hrt _ (hrt v 2 t) 0 23 2 rfl rfl rfl, ansG_23, ordX _ 10 (by decide)]
    have es : stpA (ordL (L.set 0 (hrt v 2 t))) t = aVal 1 := by
      unfold stpA
      rw [Int.toNat_natCast, hPt]
      simp only
      rw [show (ordV y).st = 0 from hst]
      rfl
    show (_, stpA _ t, none) = _
    rw [es]
  refine ⟨_, _, ordV y, call_of _ _ _ _ _ _ e, by rw [finL_len, ordL_len, List.length_set, hl], ?_, finL_i _ 0 (aVal 1) _ rfl hP0, rfl, rfl, rfl, ?_, hst⟩
  · have ef : finL (ordL (L.set 0 (hrt v 2 t))) 0 (aVal 1) = (ordL (L.set 0 (hrt v 2 t))).set 0 (finV (ordV (hrt v 2 t)) 0 1) := by
      unfold finL
      rw [if_neg (by decide), hP0]
      rfl
    rw [ef]
    exact okL.ord.set (fin_ok _ (ordOk okx) 0 1 (by omega) (by omega)) 0
  · rw [finL_ne _ _ _ _ (by omega)]
    exact hPt
/-- one that is not there -/
theorem s_E (L : List VV) (n : Nat) (hl : L.length = n) (hn : 0 < n) (hok : AllOk L) (v : VV) (hv : L[0]? = some v) (h17 : v.h.x 17 = 4739917) (n8 : n ≤ 64) :
    ∃ R z, callF (L.set 0 (reg (reg v 16 2) 10 n)) 0 (reg (reg v 16 2) 10 n) = (R, aErr 18446744073709551613, none) ∧ R.length = n ∧ R[0]? = some z ∧ z.h.x 10 = 18446744073709551613 := by
  have hP0 : (ordL (L.set 0 (reg (reg v 16 2) 10 n)))[0]? = some (ordV (reg (reg v 16 2) 10 n)) := ordL_get _ _ _ (List.getElem?_set_self (by omega))
  have e : ansF (ordL (L.set 0 (reg (reg v 16 2) 10 n))) 0 (ordV (reg (reg v 16 2) 10 n)) = (ordL (L.set 0 (reg (reg v 16 2) 10 n)), aErr 18446744073709551613, none) := by
    rw [ans_hrt _ (reg (reg v 16 2) 10 n) 0 23 2 (show v.h.x 17 = 4739917 from h17) rfl rfl, ansG_23, ordX _ 10 (by decide)]
    have es : stpA (ordL (L.set 0 (reg (reg v 16 2) 10 n))) n = aErr 18446744073709551613 := by
      unfold stpA
      rw [Int.toNat_natCast, List.getElem?_eq_none (by rw [ordL_len, List.length_set, hl]; exact Nat.le_refl _)]
    show (_, stpA _ n, none) = _
    rw [es]
  exact ⟨_, _, call_of _ _ _ _ _ _ e, by rw [finL_len, ordL_len, List.length_set, hl], finL_i _ 0 (aErr 18446744073709551613) _ rfl hP0, rfl⟩
end Go.Proofs.Yteafjobmlfkppaa
namespace Go.Proofs.Yteafjobmlfkppaa
open Go.RowKit
set_option linter.unusedVariables false
set_option maxRecDepth 100000

theorem r_known (a : Int) (a0 : 0 ≤ a) (a1 : a < 18446744073709551616) (b : Bool) (hb : knownB a = b) (w : World) : Calls Try.prog 35 #[.int .u64 a] w fun e w' => e = .returned (.bool b) ∧ w' = w := by
  subst hb
  have hk : a = 16 ∨ a = 1414090053 ∨ a = 1 ∨ a = 7557193 ∨ a = 4739917 ∨ a = 1397904212 ∨ ((a == 16) = false ∧ (a == 1414090053) = false ∧ (a == 1) = false ∧ (a == 7557193) = false ∧ (a == 4739917) = false ∧ (a == 1397904212) = false) := by
    simp only [beq_eq_false_iff_ne]
    omega
  rcases hk with rfl | rfl | rfl | rfl | rfl | rfl | ⟨e1, e2, e3, e4, e5, e6⟩
  · go_enter Try.func35, Try.ntmps35
    go_wp2_with fail
    go_ret
    exact ⟨rfl, rfl⟩
  · go_enter Try.func35, Try.ntmps35
    go_wp2_with fail
    go_ret
    exact ⟨rfl, rfl⟩
  · go_enter Try.func35, Try.ntmps35
    go_wp2_with fail
    go_ret
    exact ⟨rfl, rfl⟩
  · go_enter Try.func35, Try.ntmps35
    go_wp2_with fail
    go_ret
    exact ⟨rfl, rfl⟩
  · go_enter Try.func35, Try.ntmps35
    go_wp2_with fail
    go_ret
    exact ⟨rfl, rfl⟩
  · go_enter Try.func35, Try.ntmps35
    go_wp2_with fail
    go_ret
    exact ⟨rfl, rfl⟩
  · have e : knownB a = false := by simp only [beq_eq_false_iff_ne] at e1 e2 e3 e4 e5 e6; simp [knownB, e1, e2, e3, e4, e5, e6]
    rw [e]
    go_enter Try.func35, Try.ntmps35
    go_wp2_with fail
    go_ret
    exact ⟨rfl, rfl⟩
theorem r_minus (n m : Int) (h : (n = 2 ∧ m = 18446744073709551614) ∨ (n = 3 ∧ m = 18446744073709551613) ∨ (n = 6 ∧ m = 18446744073709551610)) (w : World) : Calls Try.prog 36 #[.int .u64 n] w fun e w' => e = .returned (.int .u64 m) ∧ w' = w := by
  rcases h with ⟨rfl, rfl⟩ | ⟨rfl, rfl⟩ | ⟨rfl, rfl⟩
  · go_enter Try.func36, Try.ntmps36
    go_wp2_with fail
    go_ret
    exact ⟨rfl, rfl⟩
  · go_enter Try.func36, Try.ntmps36
    go_wp2_with fail
    go_ret
    exact ⟨rfl, rfl⟩
  · go_enter Try.func36, Try.ntmps36
    go_wp2_with fail
    go_ret
    exact ⟨rfl, rfl⟩
theorem nm_none (kd fn : Int) (h1 : kd ≠ 1) (h2 : ¬ (kd = 16 ∧ fn = 0)) (h3 : ¬ (kd = 16 ∧ fn = 3)) (h4 : ¬ (kd = 1414090053 ∧ fn = 0)) (h5 : ¬ (kd = 7557193 ∧ fn = 0)) (h6 : ¬ (kd = 4739917 ∧ fn = 0)) (h7 : ¬ (kd = 4739917 ∧ fn = 1)) (h8 : ¬ (kd = 4739917 ∧ fn = 2)) (h9 : ¬ (kd = 1397904212 ∧ fn = 0)) : ∀ k ∈ calI, keyN k ≠ nmOf kd fn := by
  intro k hk e
  have e0 : nmOf kd fn = (kd, fn) := by simp [nmOf, h1]
  rw [e0] at e
  simp only [calI, List.mem_cons, List.not_mem_nil, or_false] at hk
  rcases hk with rfl | rfl | rfl | rfl | rfl | rfl | rfl | rfl | rfl <;> simp only [keyN, Prod.mk.injEq] at e <;> omega
theorem callF_of (L : List VV) (i : Nat) (x : VV) (M : List VV) (av : AV) (o : Option Int) (y : VV) (h : ansF (ordL L) i (ordV x) = (M, av, o)) (hs : av.st = false) (hy : M[i]? = some y) : callF L i x = (M.set i (finV y av.err av.val), av, o) := by
  unfold callF
  rw [h]
  simp only [finL, hy, hs]
  rfl
theorem callF_st (L : List VV) (i : Nat) (x : VV) (M : List VV) (av : AV) (o : Option Int) (h : ansF (ordL L) i (ordV x) = (M, av, o)) (hs : av.st = true) : callF L i x = (M, av, o) := by
  unfold callF
  rw [h]
  simp only [finL, hs]
  rfl
def pcV (y : VV) : VV := { y with h := { y.h with pc := IntKind.u64.wrap (y.h.pc + 4) } }
theorem fin11 (X : VV) (b : Int) (h : X.h.x 11 = b) : finV X 0 b = reg (pcV X) 10 0 := by
  have e : upd (upd X.h.x 10 0) 11 b = upd X.h.x 10 0 := by
    funext r
    unfold upd
    split
    · rename_i q; subst q; rw [if_neg (by decide)]; exact h.symm
    · rfl
  unfold finV reg pcV
  simp only [e]
set_option maxHeartbeats 64000000 in
theorem r_Call (w : World) (v : Value) (L : List VV) (hv : Vr w v L) (hl : L.length * 368 ≤ 140737488355328) (hok : ∀ x ∈ L, HOk x.h) (i : Nat) (x : VV) (hx : L[i]? = some x) :
    Calls Try.prog 23 #[v, .int .i64 i] w fun e w' => ∃ g cap ov, e = .returned (.tuple #[.slice (some ⟨g, 0, none⟩) L.length cap, ov, .bool (callF L i x).2.1.dn]) ∧ Vb w' g (callF L i x).1 ∧ w.heap.size ≤ g ∧ OutIs w' w.heap.size ov (callF L i x).2.2 ∧ Below w.heap.size w w' := by
  have HVB := hid hv
  have HL := hid hl
  have HK := hid hok
  have HX := hid hx
  have hi : i < L.length := (List.getElem?_eq_some_iff.1 hx).1
  have hL : L.length < 9223372036854775808 := by omega
  have hne : L ≠ [] := by rintro rfl; simp at hi
  have i0 : decide ((i : Int) < 0) = false := decide_eq_false (by omega)
  have i1 : ¬ L.length ≤ i := by omega
  have OKX : Hid (HOk (ordV x).h) := ordOk (hok x (List.mem_of_getElem? hx))
  clear hv hl hok hx
  go_enter Try.func23, Try.ntmps23
  go_upto_region 2 with ((with_reducible refine wpL_appendV w.heap.size (.slice none 0 0) v L ?_ ?_ ?_ ?_ ?_ ?_ ?_); rfl; exact World.ownsRow_nil _ _ _ _; rfl; exact HVB.out; exact HL.out; exact Nat.le_refl _; intro v1 w1 hv1 hb1; obtain ⟨g, cap, rfl, hg, hvb⟩ := vs_at hv1 hne; have A0 := hid hvb; have HG := hid hg; have HB := hid hb1; clear hv1 hb1 hvb hg)
  go_wp2_with fail
  go_loopw [8] (fun c wr => ∃ (k : Nat), k ≤ L.length ∧ c = .int .i64 k ∧ Vb wr g (pm (fun _ => ordV) L k) ∧ Below w.heap.size w wr) (fun i _ => L.length - (intOf i).toNat)
  case atStart => exact ⟨0, by omega, rfl, by rw [pm_zero]; exact A0.out, HB.out⟩
  case round =>
    clear A0 HB
    obtain ⟨k, hk, rfl, hvb, hb⟩ := hrel
    have HA := hid hvb
    have HB := hid hb
    clear hvb hb
    by_cases hlt : k < L.length
    · obtain ⟨y, hy⟩ : ∃ y, L[k]? = some y := ⟨_, List.getElem?_eq_getElem hlt⟩
      have HY := hid (pm_get (fun _ => ordV) L k y hy)
      have HZ := hid hy
      have HYK := hid (HK.out y (List.mem_of_getElem? hy))
      clear hy
      go_wp2_with (first
        | ((with_reducible refine wpL_vload (d := some 41) g (k * 52) y ?_ ?_ ?_); rfl; exact HA.out.range HY.out)
        | (go_at_call 32; refine (r_order y HYK.out _).mono ?_; rintro e w2 ⟨rfl, hb⟩; have B1 := hid (HA.out.below hb); have HB1 := hid (HB.out.trans (hb.mono HB.out.size)); clear hb)
        | ((with_reducible refine wpL_vstore (x := .tmp 43) (y := .tmp 42) g k (pm (fun _ => ordV) L k) (ordV y) ?_ ?_ ?_ ?_ ?_); rfl; rfl; exact B1.out; (rw [pm_len]; exact hlt); intro w3 h3 ho3; have C1 := hid h3; have HB3 := hid (only_below HB1.out HG.out ho3 HB1.out.size); clear h3 ho3))
      go_roundw
      case rel => exact ⟨k + 1, by omega, by go_num, by rw [← pm_succ (fun _ => ordV) L k y HZ.out]; exact C1.out, HB3.out⟩
      case measure => simp [intOf]; omega
    · obtain rfl : k = L.length := by omega
      have HA2 : Hid (Vb wr g (ordL L)) := by show Vb wr g _; have := HA.out; rwa [pm_full] at this
      clear HA
      obtain ⟨P, hP⟩ : ∃ P, P = ordL L := ⟨_, rfl⟩
      have hPl : P.length = L.length := by rw [hP, ordL_len]
      obtain ⟨X, hX⟩ : ∃ X, X = ordV x := ⟨_, rfl⟩
      have HPX : Hid (P[i]? = some X) := by show _ = _; rw [hP, hX]; exact ordL_get L i x HX.out
      have hin := hPl
      have OK : Hid (HOk X.h) := by rw [hX]; exact OKX.out
      obtain ⟨a, ha⟩ : ∃ a, X.h.x 10 = a := ⟨_, rfl⟩
      obtain ⟨b, hb⟩ : ∃ b, X.h.x 11 = b := ⟨_, rfl⟩
      obtain ⟨kd, hkd⟩ : ∃ kd, X.h.x 17 = kd := ⟨_, rfl⟩
      obtain ⟨fn, hfn⟩ : ∃ fn, X.h.x 16 = fn := ⟨_, rfl⟩
      have HAns : Hid (ansF (ordL L) i (ordV x) = ansG (nmOf kd fn) P i X) := by show _ = _; rw [← hP, ← hX]; unfold ansF; rw [hkd, hfn]
      have a0 : 0 ≤ a := by have := (OK.out.x 10).1; omega
      have a1 : a < 18446744073709551616 := by have := (OK.out.x 10).2; omega
      have b0 : 0 ≤ b := by have := (OK.out.x 11).1; omega
      have b1 : b < 18446744073709551616 := by have := (OK.out.x 11).2; omega
      rw [← hP] at HA2
      have HPL := hid hPl
      have HRX : Hid (wr.rangeAt g (i * 52) (xsL X.h)) := fun j y hy => by
        have hj : j < 32 := (List.getElem?_eq_some_iff.1 hy).1
        have e := HA2.out.cell HPX.out j (by omega)
        rw [e, VV.cs, List.getElem?_append_left (by rw [hv_len]; omega), ← hy]
        unfold xsL
        rw [List.getElem?_take_of_lt hj]
      have HGL : Hid (g < wr.heap.size) := HA2.out.lt
      go_upto_region 9 with (first
        | ((with_reducible refine wpL_xload g (i * 52) X.h ?_ ?_ ?_); rfl; exact HRX.out)
        | ((with_reducible refine wpList_newG (z := .agg (xsL HV.zero).toArray) wr.heap.size ?_ (xsL HV.zero).toArray ?_ ?_ ?_); rfl; rfl; exact z_a32)
        | ((with_reducible refine wpL_xstore wr.heap.size HV.zero X.h ?_ ?_ ?_ ?_); rfl; rfl; exact ⟨_, heap_alloc_new wr _⟩; intro wb h6 ho; have G6 := hid h6; have A3 : Hid (Vb wb g P) := (HA2.out.below ((Below.refl wr.heap.size wr).alloc (Nat.le_refl _) _)).only ho (fun (q : _ = _) => by have := HGL.out; omega); have HB3 := hid (only_below (HB.out.alloc HB.out.size _) HB.out.size ho (by simp; have := HB.out.size; omega)); clear h6 ho))
      have c10 : wb.cell? ⟨wr.heap.size, 10, none⟩ = some (.int .u64 a) := (G6.out.c 10 (by omega)).trans (by rw [ha])
      have c11 : wb.cell? ⟨wr.heap.size, 11, none⟩ = some (.int .u64 b) := (G6.out.c 11 (by omega)).trans (by rw [hb])
      have c17 : wb.cell? ⟨wr.heap.size, 17, none⟩ = some (.int .u64 kd) := (G6.out.c 17 (by omega)).trans (by rw [hkd])
      have c16 : wb.cell? ⟨wr.heap.size, 16, none⟩ = some (.int .u64 fn) := (G6.out.c 16 (by omega)).trans (by rw [hfn])
      go_upto_region 16 with fail
      have HXA := hid ha
      have HXB := hid hb
      clear c10 c11 c17 c16 ha hb hkd hfn hP hX hPl hin HRX HA2
      have hk : kd = 1 ∨ (kd = 16 ∧ fn = 0) ∨ (kd = 16 ∧ fn = 3) ∨ (kd = 1414090053 ∧ fn = 0) ∨ (kd = 7557193 ∧ fn = 0) ∨ (kd = 4739917 ∧ fn = 0) ∨ (kd = 4739917 ∧ fn = 1) ∨ (kd = 4739917 ∧ fn = 2) ∨ (kd = 1397904212 ∧ fn = 0)
          ∨ (kd = 16 ∧ (fn == 0) = false ∧ (fn == 3) = false) ∨ (kd = 1414090053 ∧ (fn == 0) = false) ∨ (kd = 7557193 ∧ (fn == 0) = false) ∨ (kd = 4739917 ∧ (fn == 0) = false ∧ (fn == 1) = false ∧ (fn == 2) = false) ∨ (kd = 1397904212 ∧ (fn == 0) = false)
          ∨ ((kd == 16) = false ∧ (kd == 1414090053) = false ∧ (kd == 1) = false ∧ (kd == 7557193) = false ∧ (kd == 4739917) = false ∧ (kd == 1397904212) = false) := by
        simp only [beq_eq_false_iff_ne]
        omega
      rcases hk with rfl | ⟨rfl, rfl⟩ | ⟨rfl, rfl⟩ | ⟨rfl, rfl⟩ | ⟨rfl, rfl⟩ | ⟨rfl, rfl⟩ | ⟨rfl, rfl⟩ | ⟨rfl, rfl⟩ | ⟨rfl, rfl⟩ | ⟨rfl, e1, e2⟩ | ⟨rfl, e1⟩ | ⟨rfl, e1⟩ | ⟨rfl, e1, e2, e3⟩ | ⟨rfl, e1⟩ | ⟨e1, e2, e3, e4, e5, e6⟩
      · have HC : Hid (callF L i x = (P.set i (finV X 0 b), aVal b, some (a % 256))) := callF_of L i x P (aVal b) (some (a % 256)) X (HAns.out.trans (by rw [show nmOf 1 fn = keyN 11 by simp [nmOf, keyN], ansG_11, HXA.out, HXB.out])) rfl HPX.out
        have cpc : wb.cell? ⟨g, i * 52 + 32, none⟩ = some (.int .u64 X.h.pc) := A3.out.cell HPX.out 32 (by omega)
        go_wp2_with (first
          | ((with_reducible refine wpL_vcell g i 32 P X (pcV X) (.int .u64 (IntKind.u64.wrap (X.h.pc + 4))) ?_ ?_ ?_ ?_ ?_ ?_ ?_ ?_ ?_); exact .inl rfl; exact .inl ⟨_, _, rfl⟩; exact HPX.out; omega; exact pc_cs X _; rfl; rfl; exact A3.out; intro w6 h_ ho_; have T1A := hid h_; have T1B := hid (only_below HB3.out HG.out ho_ HB3.out.size); clear h_ ho_)
          | ((with_reducible refine wpL_vcell g i 10 (P.set i (pcV X)) (pcV X) (reg (pcV X) 10 0) (.int .u64 0) ?_ ?_ ?_ ?_ ?_ ?_ ?_ ?_ ?_); exact .inl rfl; exact .inl ⟨_, _, rfl⟩; exact List.getElem?_set_self (show i < P.length from (List.getElem?_eq_some_iff.1 HPX.out).1); omega; exact x10_cs (pcV X) _; rfl; rfl; exact T1A.out; intro w7 h_ ho_; rw [List.set_set] at h_; have T2A := hid h_; have T2B := hid (only_below T1B.out HG.out ho_ T1B.out.size); clear h_ ho_))
        go_returns
        rw [HC.out, fin11 X b HXB.out]
        exact ⟨g, cap, _, rfl, T2A.out.below ((Below.refl _ _).alloc (Nat.le_refl _) _), HG.out, ⟨w7.heap.size, rfl, ⟨_, heap_alloc_new _ _⟩, T2B.out.size⟩, T2B.out.alloc T2B.out.size _⟩
      · have HC : Hid (callF L i x = (P.set i (finV X 0 33554432), (aVal 33554432), none)) := callF_of L i x P (aVal 33554432) none X (HAns.out.trans (ansG_2 P i X)) rfl HPX.out
        have cpc : wb.cell? ⟨g, i * 52 + 32, none⟩ = some (.int .u64 X.h.pc) := A3.out.cell HPX.out 32 (by omega)
        go_wp2_with (first
          | ((with_reducible refine wpL_vcell g i 32 P X (pcV X) (.int .u64 (IntKind.u64.wrap (X.h.pc + 4))) ?_ ?_ ?_ ?_ ?_ ?_ ?_ ?_ ?_); exact .inl rfl; exact .inl ⟨_, _, rfl⟩; exact HPX.out; omega; exact pc_cs X _; rfl; rfl; exact A3.out; intro w6 h_ ho_; have T1A := hid h_; have T1B := hid (only_below HB3.out HG.out ho_ HB3.out.size); clear h_ ho_)
          | ((with_reducible refine wpL_vcell g i 10 (P.set i (pcV X)) (pcV X) (reg (pcV X) 10 0) (.int .u64 0) ?_ ?_ ?_ ?_ ?_ ?_ ?_ ?_ ?_); exact .inl rfl; exact .inl ⟨_, _, rfl⟩; exact List.getElem?_set_self (show i < P.length from (List.getElem?_eq_some_iff.1 HPX.out).1); omega; exact x10_cs (pcV X) _; rfl; rfl; exact T1A.out; intro w7 h_ ho_; rw [List.set_set] at h_; have T2A := hid h_; have T2B := hid (only_below T1B.out HG.out ho_ T1B.out.size); clear h_ ho_)
          | ((with_reducible refine wpL_vcell g i 11 (P.set i (reg (pcV X) 10 0)) (reg (pcV X) 10 0) (finV X 0 33554432) (.int .u64 33554432) ?_ ?_ ?_ ?_ ?_ ?_ ?_ ?_ ?_); exact .inl rfl; exact .inl ⟨_, _, rfl⟩; exact List.getElem?_set_self (show i < P.length from (List.getElem?_eq_some_iff.1 HPX.out).1); omega; exact x11_cs (reg (pcV X) 10 0) _; rfl; rfl; exact T2A.out; intro w8 h_ ho_; rw [List.set_set] at h_; have T3A := hid h_; have T3B := hid (only_below T2B.out HG.out ho_ T2B.out.size); clear h_ ho_))
        go_returns
        rw [HC.out]
        exact ⟨g, cap, nils, rfl, T3A.out, HG.out, rfl, T3B.out⟩
      · cases hkb : knownB a with
        | true =>
          have HC : Hid (callF L i x = (P.set i (finV X 0 1), (aVal 1), none)) := callF_of L i x P (aVal 1) none X (HAns.out.trans ((ansG_5 P i X).trans (by rw [HXA.out, hkb]; rfl))) rfl HPX.out
          have cpc : wb.cell? ⟨g, i * 52 + 32, none⟩ = some (.int .u64 X.h.pc) := A3.out.cell HPX.out 32 (by omega)
          go_wp2_with (first
            | (go_at_call 35; refine (r_known a a0 a1 true hkb _).mono ?_; rintro e w5 ⟨rfl, hww⟩; obtain rfl : wb = w5 := hww.symm)
            | ((with_reducible refine wpL_vcell g i 32 P X (pcV X) (.int .u64 (IntKind.u64.wrap (X.h.pc + 4))) ?_ ?_ ?_ ?_ ?_ ?_ ?_ ?_ ?_); exact .inl rfl; exact .inl ⟨_, _, rfl⟩; exact HPX.out; omega; exact pc_cs X _; rfl; rfl; exact A3.out; intro w6 h_ ho_; have T1A := hid h_; have T1B := hid (only_below HB3.out HG.out ho_ HB3.out.size); clear h_ ho_)
            | ((with_reducible refine wpL_vcell g i 10 (P.set i (pcV X)) (pcV X) (reg (pcV X) 10 0) (.int .u64 0) ?_ ?_ ?_ ?_ ?_ ?_ ?_ ?_ ?_); exact .inl rfl; exact .inl ⟨_, _, rfl⟩; exact List.getElem?_set_self (show i < P.length from (List.getElem?_eq_some_iff.1 HPX.out).1); omega; exact x10_cs (pcV X) _; rfl; rfl; exact T1A.out; intro w7 h_ ho_; rw [List.set_set] at h_; have T2A := hid h_; have T2B := hid (only_below T1B.out HG.out ho_ T1B.out.size); clear h_ ho_)
            | ((with_reducible refine wpL_vcell g i 11 (P.set i (reg (pcV X) 10 0)) (reg (pcV X) 10 0) (finV X 0 1) (.int .u64 1) ?_ ?_ ?_ ?_ ?_ ?_ ?_ ?_ ?_); exact .inl rfl; exact .inl ⟨_, _, rfl⟩; exact List.getElem?_set_self (show i < P.length from (List.getElem?_eq_some_iff.1 HPX.out).1); omega; exact x11_cs (reg (pcV X) 10 0) _; rfl; rfl; exact T2A.out; intro w8 h_ ho_; rw [List.set_set] at h_; have T3A := hid h_; have T3B := hid (only_below T2B.out HG.out ho_ T2B.out.size); clear h_ ho_))
          go_returns
          rw [HC.out]
          exact ⟨g, cap, nils, rfl, T3A.out, HG.out, rfl, T3B.out⟩
        | false =>
          have HC : Hid (callF L i x = (P.set i (finV X 0 0), (aVal 0), none)) := callF_of L i x P (aVal 0) none X (HAns.out.trans ((ansG_5 P i X).trans (by rw [HXA.out, hkb]; rfl))) rfl HPX.out
          have cpc : wb.cell? ⟨g, i * 52 + 32, none⟩ = some (.int .u64 X.h.pc) := A3.out.cell HPX.out 32 (by omega)
          go_wp2_with (first
            | (go_at_call 35; refine (r_known a a0 a1 false hkb _).mono ?_; rintro e w5 ⟨rfl, hww⟩; obtain rfl : wb = w5 := hww.symm)
            | ((with_reducible refine wpL_vcell g i 32 P X (pcV X) (.int .u64 (IntKind.u64.wrap (X.h.pc + 4))) ?_ ?_ ?_ ?_ ?_ ?_ ?_ ?_ ?_); exact .inl rfl; exact .inl ⟨_, _, rfl⟩; exact HPX.out; omega; exact pc_cs X _; rfl; rfl; exact A3.out; intro w6 h_ ho_; have T1A := hid h_; have T1B := hid (only_below HB3.out HG.out ho_ HB3.out.size); clear h_ ho_)
            | ((with_reducible refine wpL_vcell g i 10 (P.set i (pcV X)) (pcV X) (reg (pcV X) 10 0) (.int .u64 0) ?_ ?_ ?_ ?_ ?_ ?_ ?_ ?_ ?_); exact .inl rfl; exact .inl ⟨_, _, rfl⟩; exact List.getElem?_set_self (show i < P.length from (List.getElem?_eq_some_iff.1 HPX.out).1); omega; exact x10_cs (pcV X) _; rfl; rfl; exact T1A.out; intro w7 h_ ho_; rw [List.set_set] at h_; have T2A := hid h_; have T2B := hid (only_below T1B.out HG.out ho_ T1B.out.size); clear h_ ho_)
            | ((with_reducible refine wpL_vcell g i 11 (P.set i (reg (pcV X) 10 0)) (reg (pcV X) 10 0) (finV X 0 0) (.int .u64 0) ?_ ?_ ?_ ?_ ?_ ?_ ?_ ?_ ?_); exact .inl rfl; exact .inl ⟨_, _, rfl⟩; exact List.getElem?_set_self (show i < P.length from (List.getElem?_eq_some_iff.1 HPX.out).1); omega; exact x11_cs (reg (pcV X) 10 0) _; rfl; rfl; exact T2A.out; intro w8 h_ ho_; rw [List.set_set] at h_; have T3A := hid h_; have T3B := hid (only_below T2B.out HG.out ho_ T2B.out.size); clear h_ ho_))
          go_returns
          rw [HC.out]
          exact ⟨g, cap, nils, rfl, T3A.out, HG.out, rfl, T3B.out⟩
      · go_upto_region 54 with (first
          | ((with_reducible refine wpL_vcell g i 50 P X { X with ar := true } (.bool true) ?_ ?_ ?_ ?_ ?_ ?_ ?_ ?_ ?_); exact .inr (.inr rfl); exact .inr ⟨_, rfl⟩; exact HPX.out; omega; exact (rfl : X.cs.set 50 (.bool true) = VV.cs { X with ar := true }); rfl; rfl; exact A3.out; intro ws1 h_ ho_; have S1A := hid h_; have S1B := hid (only_below HB3.out HG.out ho_ HB3.out.size); clear h_ ho_)
          | ((with_reducible refine wpL_vcell g i 51 (P.set i { X with ar := true }) { X with ar := true } (tm1 X a) (.int .u64 a) ?_ ?_ ?_ ?_ ?_ ?_ ?_ ?_ ?_); exact .inl rfl; exact .inl ⟨_, _, rfl⟩; exact List.getElem?_set_self (show i < P.length from (List.getElem?_eq_some_iff.1 HPX.out).1); omega; rfl; rfl; rfl; exact S1A.out; intro ws2 h_ ho_; rw [List.set_set] at h_; have S2A := hid h_; have S2B := hid (only_below S1B.out HG.out ho_ S1B.out.size); clear h_ ho_; have c46 : ws2.cell? ⟨g, i * 52 + 46, none⟩ = some (.int .u64 X.h.sip) := S2A.out.cell (x := tm1 X a) (List.getElem?_set_self (show i < P.length from (List.getElem?_eq_some_iff.1 HPX.out).1)) 46 (by omega))
          | ((with_reducible refine wpL_vcell g i 46 (P.set i (tm1 X a)) (tm1 X a) (tmV X a) (.int .u64 (bits .andNot .u64 X.h.sip 32)) ?_ ?_ ?_ ?_ ?_ ?_ ?_ ?_ ?_); exact .inl rfl; exact .inl ⟨_, _, rfl⟩; exact List.getElem?_set_self (show i < P.length from (List.getElem?_eq_some_iff.1 HPX.out).1); omega; exact sip_cs (tm1 X a) _; rfl; rfl; exact S2A.out; intro ws3 h_ ho_; rw [List.set_set] at h_; have S3A := hid h_; have S3B := hid (only_below S2B.out HG.out ho_ S2B.out.size); clear h_ ho_))
        clear c46
        have HMV : Hid ((P.set i (tmV X a))[i]? = some (tmV X a)) := List.getElem?_set_self (show i < P.length from (List.getElem?_eq_some_iff.1 HPX.out).1)
        have HC : Hid (callF L i x = ((P.set i (tmV X a)).set i (finV (tmV X a) 0 0), AV.zero, none)) := callF_of L i x (P.set i (tmV X a)) AV.zero none (tmV X a) (HAns.out.trans ((ansG_8 P i X).trans (by rw [HXA.out]))) rfl HMV.out
        have cpc : ws3.cell? ⟨g, i * 52 + 32, none⟩ = some (.int .u64 (tmV X a).h.pc) := S3A.out.cell HMV.out 32 (by omega)
        go_wp2_with (first
          | ((with_reducible refine wpL_vcell g i 32 (P.set i (tmV X a)) (tmV X a) (pcV (tmV X a)) (.int .u64 (IntKind.u64.wrap ((tmV X a).h.pc + 4))) ?_ ?_ ?_ ?_ ?_ ?_ ?_ ?_ ?_); exact .inl rfl; exact .inl ⟨_, _, rfl⟩; exact HMV.out; omega; exact pc_cs (tmV X a) _; rfl; rfl; exact S3A.out; intro w6 h_ ho_; have T1A := hid h_; have T1B := hid (only_below S3B.out HG.out ho_ S3B.out.size); clear h_ ho_)
          | ((with_reducible refine wpL_vcell g i 10 ((P.set i (tmV X a)).set i (pcV (tmV X a))) (pcV (tmV X a)) (reg (pcV (tmV X a)) 10 0) (.int .u64 0) ?_ ?_ ?_ ?_ ?_ ?_ ?_ ?_ ?_); exact .inl rfl; exact .inl ⟨_, _, rfl⟩; exact List.getElem?_set_self (show i < (P.set i (tmV X a)).length from (List.getElem?_eq_some_iff.1 HMV.out).1); omega; exact x10_cs (pcV (tmV X a)) _; rfl; rfl; exact T1A.out; intro w7 h_ ho_; rw [List.set_set] at h_; have T2A := hid h_; have T2B := hid (only_below T1B.out HG.out ho_ T1B.out.size); clear h_ ho_)
          | ((with_reducible refine wpL_vcell g i 11 ((P.set i (tmV X a)).set i (reg (pcV (tmV X a)) 10 0)) (reg (pcV (tmV X a)) 10 0) (finV (tmV X a) 0 0) (.int .u64 0) ?_ ?_ ?_ ?_ ?_ ?_ ?_ ?_ ?_); exact .inl rfl; exact .inl ⟨_, _, rfl⟩; exact List.getElem?_set_self (show i < (P.set i (tmV X a)).length from (List.getElem?_eq_some_iff.1 HMV.out).1); omega; exact x11_cs (reg (pcV (tmV X a)) 10 0) _; rfl; rfl; exact T2A.out; intro w8 h_ ho_; rw [List.set_set] at h_; have T3A := hid h_; have T3B := hid (only_below T2B.out HG.out ho_ T2B.out.size); clear h_ ho_))
        go_returns
        rw [HC.out]
        exact ⟨g, cap, nils, rfl, T3A.out, HG.out, rfl, T3B.out⟩
      · go_wp2_with fail
        go_loopw [16] (fun c wr => ∃ (k : Nat), k ≤ L.length ∧ c = .int .i64 k ∧ Vb wr g (pm (snV a b) P k) ∧ Below w.heap.size w wr) (fun i _ => L.length - (intOf i).toNat)
        case atStart => exact ⟨0, by omega, rfl, by rw [pm_zero]; exact A3.out, HB3.out⟩
        case round =>
          obtain ⟨k2, hk2, rfl, hvb, hb⟩ := hrel
          have QA := hid hvb
          have QB := hid hb
          clear hvb hb
          by_cases hlt2 : k2 < L.length
          · obtain ⟨y, hy⟩ : ∃ y, P[k2]? = some y := ⟨_, List.getElem?_eq_getElem (by rw [HPL.out]; exact hlt2)⟩
            have HY := hid (pm_get (snV a b) P k2 y hy)
            have HZ := hid hy
            clear hy
            have HW := hid (sB_want a b k2 a0 a1)
            have hq0 : 0 ≤ a / 2 ^ min (IntKind.u64.wrap (k2 - b)).toNat 64 := Int.ediv_nonneg a0 (by exact Int.le_of_lt (Int.pow_pos (by omega)))
            have hq1 : a / 2 ^ min (IntKind.u64.wrap (k2 - b)).toNat 64 ≤ 18446744073709551615 := by have := Int.ediv_le_self (2 ^ min (IntKind.u64.wrap (k2 - b)).toNat 64) a0; omega
            by_cases hf : b = 18446744073709551615
            · have HS : Hid (sB a b k2 = true) := by show _ = _; rw [HW.out, hf]; rfl
              clear HW
              subst hf
              have HSN : Hid (snV a 18446744073709551615 k2 y = { y with h := { y.h with sip := bits .or .u64 y.h.sip 2 } }) := if_pos HS.out
              have c46 : wr.cell? ⟨g, k2 * 52 + 46, none⟩ = some (.int .u64 y.h.sip) := QA.out.cell HY.out 46 (by omega)
              go_wp2_with ((with_reducible refine wpL_vcell g k2 46 (pm (snV a 18446744073709551615) P k2) y { y with h := { y.h with sip := bits .or .u64 y.h.sip 2 } } (.int .u64 (bits .or .u64 y.h.sip 2)) ?_ ?_ ?_ ?_ ?_ ?_ ?_ ?_ ?_); exact .inl rfl; exact .inl ⟨_, _, rfl⟩; exact HY.out; omega; exact sip_cs y _; rfl; rfl; exact QA.out; intro w6 h_ ho_; have C1 := hid h_; have C2 := hid (only_below QB.out HG.out ho_ QB.out.size); clear h_ ho_)
              go_roundw
              case rel => exact ⟨k2 + 1, by omega, by go_num, by rw [← pm_succ (snV a 18446744073709551615) P k2 y HZ.out, HSN.out]; exact C1.out, C2.out⟩
              case measure => simp [intOf]; omega
            · have hf1 : (b == 18446744073709551615) = false := by simpa using hf
              by_cases hd : IntKind.u64.wrap (k2 - b) < 64
              · cases hb : (a / 2 ^ min (IntKind.u64.wrap (k2 - b)).toNat 64 % 2 == 1) with
                | true =>
                  have HS : Hid (sB a b k2 = true) := by show _ = _; rw [HW.out, hf1, decide_eq_true hd, hb]; rfl
                  clear HW
                  have HSN : Hid (snV a b k2 y = { y with h := { y.h with sip := bits .or .u64 y.h.sip 2 } }) := if_pos HS.out
                  have c46 : wr.cell? ⟨g, k2 * 52 + 46, none⟩ = some (.int .u64 y.h.sip) := QA.out.cell HY.out 46 (by omega)
                  go_wp2_with ((with_reducible refine wpL_vcell g k2 46 (pm (snV a b) P k2) y { y with h := { y.h with sip := bits .or .u64 y.h.sip 2 } } (.int .u64 (bits .or .u64 y.h.sip 2)) ?_ ?_ ?_ ?_ ?_ ?_ ?_ ?_ ?_); exact .inl rfl; exact .inl ⟨_, _, rfl⟩; exact HY.out; omega; exact sip_cs y _; rfl; rfl; exact QA.out; intro w6 h_ ho_; have C1 := hid h_; have C2 := hid (only_below QB.out HG.out ho_ QB.out.size); clear h_ ho_)
                  go_roundw
                  case rel => exact ⟨k2 + 1, by omega, by go_num, by rw [← pm_succ (snV a b) P k2 y HZ.out, HSN.out]; exact C1.out, C2.out⟩
                  case measure => simp [intOf]; omega
                | false =>
                  have HS : Hid (¬ sB a b k2 = true) := by show ¬ _ = _; rw [HW.out, hf1, decide_eq_true hd, hb]; decide
                  clear HW
                  have HSN : Hid (snV a b k2 y = y) := if_neg HS.out
                  go_wp2_with fail
                  go_roundw
                  case rel => exact ⟨k2 + 1, by omega, by go_num, by rw [← pm_succ (snV a b) P k2 y HZ.out, HSN.out, set_same HY.out]; exact QA.out, QB.out⟩
                  case measure => simp [intOf]; omega
              · have HS : Hid (¬ sB a b k2 = true) := by show ¬ _ = _; rw [HW.out, hf1, decide_eq_false hd]; exact Bool.false_ne_true
                clear HW
                have HSN : Hid (snV a b k2 y = y) := if_neg HS.out
                go_wp2_with fail
                go_roundw
                case rel => exact ⟨k2 + 1, by omega, by go_num, by rw [← pm_succ (snV a b) P k2 y HZ.out, HSN.out, set_same HY.out]; exact QA.out, QB.out⟩
                case measure => simp [intOf]; omega
          · obtain rfl : k2 = L.length := by omega
            have QM : Hid (Vb wr g (P.mapIdx (snV a b))) := by show Vb wr g _; have := QA.out; rwa [← HPL.out, pm_full] at this
            clear QA
            have HMV : Hid ((P.mapIdx (snV a b))[i]? = some (snV a b i X)) := by show _ = _; simp [List.getElem?_mapIdx, HPX.out]
            have HC : Hid (callF L i x = ((P.mapIdx (snV a b)).set i (finV (snV a b i X) 0 0), AV.zero, none)) := callF_of L i x (P.mapIdx (snV a b)) AV.zero none (snV a b i X) (HAns.out.trans ((ansG_14 P i X).trans (by rw [HXA.out, HXB.out]))) rfl HMV.out
            have cpc : wr.cell? ⟨g, i * 52 + 32, none⟩ = some (.int .u64 (snV a b i X).h.pc) := QM.out.cell HMV.out 32 (by omega)
            go_wp2_with (first
              | ((with_reducible refine wpL_vcell g i 32 (P.mapIdx (snV a b)) (snV a b i X) (pcV (snV a b i X)) (.int .u64 (IntKind.u64.wrap ((snV a b i X).h.pc + 4))) ?_ ?_ ?_ ?_ ?_ ?_ ?_ ?_ ?_); exact .inl rfl; exact .inl ⟨_, _, rfl⟩; exact HMV.out; omega; exact pc_cs (snV a b i X) _; rfl; rfl; exact QM.out; intro w6 h_ ho_; have T1A := hid h_; have T1B := hid (only_below QB.out HG.out ho_ QB.out.size); clear h_ ho_)
              | ((with_reducible refine wpL_vcell g i 10 ((P.mapIdx (snV a b)).set i (pcV (snV a b i X))) (pcV (snV a b i X)) (reg (pcV (snV a b i X)) 10 0) (.int .u64 0) ?_ ?_ ?_ ?_ ?_ ?_ ?_ ?_ ?_); exact .inl rfl; exact .inl ⟨_, _, rfl⟩; exact List.getElem?_set_self (show i < (P.mapIdx (snV a b)).length from (List.getElem?_eq_some_iff.1 HMV.out).1); omega; exact x10_cs (pcV (snV a b i X)) _; rfl; rfl; exact T1A.out; intro w7 h_ ho_; rw [List.set_set] at h_; have T2A := hid h_; have T2B := hid (only_below T1B.out HG.out ho_ T1B.out.size); clear h_ ho_)
              | ((with_reducible refine wpL_vcell g i 11 ((P.mapIdx (snV a b)).set i (reg (pcV (snV a b i X)) 10 0)) (reg (pcV (snV a b i X)) 10 0) (finV (snV a b i X) 0 0) (.int .u64 0) ?_ ?_ ?_ ?_ ?_ ?_ ?_ ?_ ?_); exact .inl rfl; exact .inl ⟨_, _, rfl⟩; exact List.getElem?_set_self (show i < (P.mapIdx (snV a b)).length from (List.getElem?_eq_some_iff.1 HMV.out).1); omega; exact x11_cs (reg (pcV (snV a b i X)) 10 0) _; rfl; rfl; exact T2A.out; intro w8 h_ ho_; rw [List.set_set] at h_; have T3A := hid h_; have T3B := hid (only_below T2B.out HG.out ho_ T2B.out.size); clear h_ ho_))
            go_returns
            rw [HC.out]
            exact ⟨g, cap, nils, rfl, T3A.out, HG.out, rfl, T3B.out⟩
      · obtain ⟨c, hc⟩ : ∃ c, X.h.x 12 = c := ⟨_, rfl⟩
        have q0 : 0 ≤ c ∧ c < 18446744073709551616 := by have := OK.out.x 12; rw [hc] at this; exact this
        have HQ0 := hid q0
        have HB01 := hid (And.intro b0 b1)
        have HST : Hid (ansF (ordL L) i (ordV x) = ((startL P a b c).1, (startL P a b c).2, none)) := HAns.out.trans ((ansG_17 P i X).trans (by rw [HXA.out, HXB.out, hc]))
        have c12 : wb.cell? ⟨wr.heap.size, 12, none⟩ = some (.int .u64 c) := (G6.out.c 12 (by omega)).trans (by rw [hc])
        clear hc q0
        by_cases hge : (L.length : Int) ≤ a
        · have HE : Hid (startL P a b c = (P, aErr 18446744073709551613)) := by
            show _ = _
            unfold startL
            rw [List.getElem?_eq_none (by rw [HPL.out]; omega)]
          have HC : Hid (callF L i x = (P.set i (finV X 18446744073709551613 0), (aErr 18446744073709551613), none)) := callF_of L i x P (aErr 18446744073709551613) none X (HST.out.trans (by rw [HE.out])) rfl HPX.out
          have cpc : wb.cell? ⟨g, i * 52 + 32, none⟩ = some (.int .u64 X.h.pc) := A3.out.cell HPX.out 32 (by omega)
          go_wp2_with (first
            | (go_at_call 36; refine (r_minus 3 18446744073709551613 (by decide) _).mono ?_; rintro e w5 ⟨rfl, hww⟩; obtain rfl : wb = w5 := hww.symm)
            | ((with_reducible refine wpL_vcell g i 32 P X (pcV X) (.int .u64 (IntKind.u64.wrap (X.h.pc + 4))) ?_ ?_ ?_ ?_ ?_ ?_ ?_ ?_ ?_); exact .inl rfl; exact .inl ⟨_, _, rfl⟩; exact HPX.out; omega; exact pc_cs X _; rfl; rfl; exact A3.out; intro w6 h_ ho_; have T1A := hid h_; have T1B := hid (only_below HB3.out HG.out ho_ HB3.out.size); clear h_ ho_)
            | ((with_reducible refine wpL_vcell g i 10 (P.set i (pcV X)) (pcV X) (reg (pcV X) 10 18446744073709551613) (.int .u64 18446744073709551613) ?_ ?_ ?_ ?_ ?_ ?_ ?_ ?_ ?_); exact .inl rfl; exact .inl ⟨_, _, rfl⟩; exact List.getElem?_set_self (show i < P.length from (List.getElem?_eq_some_iff.1 HPX.out).1); omega; exact x10_cs (pcV X) _; rfl; rfl; exact T1A.out; intro w7 h_ ho_; rw [List.set_set] at h_; have T2A := hid h_; have T2B := hid (only_below T1B.out HG.out ho_ T1B.out.size); clear h_ ho_)
            | ((with_reducible refine wpL_vcell g i 11 (P.set i (reg (pcV X) 10 18446744073709551613)) (reg (pcV X) 10 18446744073709551613) (finV X 18446744073709551613 0) (.int .u64 0) ?_ ?_ ?_ ?_ ?_ ?_ ?_ ?_ ?_); exact .inl rfl; exact .inl ⟨_, _, rfl⟩; exact List.getElem?_set_self (show i < P.length from (List.getElem?_eq_some_iff.1 HPX.out).1); omega; exact x11_cs (reg (pcV X) 10 18446744073709551613) _; rfl; rfl; exact T2A.out; intro w8 h_ ho_; rw [List.set_set] at h_; have T3A := hid h_; have T3B := hid (only_below T2B.out HG.out ho_ T2B.out.size); clear h_ ho_))
          go_returns
          rw [HC.out]
          exact ⟨g, cap, nils, rfl, T3A.out, HG.out, rfl, T3B.out⟩
        · obtain ⟨t, ht⟩ : ∃ t : Nat, a = t := ⟨a.toNat, by omega⟩
          subst ht
          have htl : t < L.length := by omega
          have HT0 : Hid (0 ≤ (t : Int) ∧ (t : Int) < 18446744073709551616) := ⟨a0, a1⟩
          clear a0 a1
          obtain ⟨y, hy⟩ : ∃ y, P[t]? = some y := ⟨_, List.getElem?_eq_getElem (by rw [HPL.out]; exact htl)⟩
          have HTY := hid hy
          clear hy
          by_cases hst : y.st = 0
          · have HE : Hid (startL P t b c = (P.set t (stdV b t c), AV.zero)) := by
              show _ = _
              unfold startL
              rw [Int.toNat_natCast, HTY.out]
              simp only
              rw [if_neg (by rw [hst]; decide)]
            have t49 : wb.cell? ⟨g, t * 52 + 49, none⟩ = some (.int .i64 0) := (A3.out.cell HTY.out 49 (by omega)).trans (by rw [← hst]; rfl)
            have HTP : Hid (t < P.length) := by show t < P.length; rw [HPL.out]; exact htl
            go_upto_region 54 with (first
              | (go_at_call 29; refine (r_Reset b t c HB01.out HT0.out HQ0.out _).mono ?_; rintro e ws ⟨rfl, hb⟩; have S1A := hid (A3.out.below hb); have S1B := hid (HB3.out.trans (hb.mono HB3.out.size)); clear hb c12 t49)
              | ((with_reducible refine wpL_built [(0, (rstH b t c).v), (1, .int .i64 1)] (stdV b t c).ca ?_ ?_ ?_); rfl; exact built_std _)
              | ((with_reducible refine wpL_vstore (x := .tmp 211) (y := .tmp 210) g t P (stdV b t c) ?_ ?_ ?_ ?_ ?_); rfl; rfl; exact S1A.out; exact HTP.out; intro ws3 h_ ho_; have S3A := hid h_; have S3B := hid (only_below S1B.out HG.out ho_ S1B.out.size); clear h_ ho_))
            obtain ⟨z, hz⟩ : ∃ z, (P.set t (stdV b t c))[i]? = some z := ⟨_, List.getElem?_eq_getElem (by rw [List.length_set, HPL.out]; exact hi)⟩
            have HMV := hid hz
            clear hz
            have HC : Hid (callF L i x = ((P.set t (stdV b t c)).set i (finV z 0 0), AV.zero, none)) := callF_of L i x (P.set t (stdV b t c)) AV.zero none z (HST.out.trans (by rw [HE.out])) rfl HMV.out
            have cpc : ws3.cell? ⟨g, i * 52 + 32, none⟩ = some (.int .u64 z.h.pc) := S3A.out.cell HMV.out 32 (by omega)
            go_wp2_with (first
              | ((with_reducible refine wpL_vcell g i 32 (P.set t (stdV b t c)) z (pcV z) (.int .u64 (IntKind.u64.wrap (z.h.pc + 4))) ?_ ?_ ?_ ?_ ?_ ?_ ?_ ?_ ?_); exact .inl rfl; exact .inl ⟨_, _, rfl⟩; exact HMV.out; omega; exact pc_cs z _; rfl; rfl; exact S3A.out; intro w6 h_ ho_; have T1A := hid h_; have T1B := hid (only_below S3B.out HG.out ho_ S3B.out.size); clear h_ ho_)
              | ((with_reducible refine wpL_vcell g i 10 ((P.set t (stdV b t c)).set i (pcV z)) (pcV z) (reg (pcV z) 10 0) (.int .u64 0) ?_ ?_ ?_ ?_ ?_ ?_ ?_ ?_ ?_); exact .inl rfl; exact .inl ⟨_, _, rfl⟩; exact List.getElem?_set_self (show i < (P.set t (stdV b t c)).length from (List.getElem?_eq_some_iff.1 HMV.out).1); omega; exact x10_cs (pcV z) _; rfl; rfl; exact T1A.out; intro w7 h_ ho_; rw [List.set_set] at h_; have T2A := hid h_; have T2B := hid (only_below T1B.out HG.out ho_ T1B.out.size); clear h_ ho_)
              | ((with_reducible refine wpL_vcell g i 11 ((P.set t (stdV b t c)).set i (reg (pcV z) 10 0)) (reg (pcV z) 10 0) (finV z 0 0) (.int .u64 0) ?_ ?_ ?_ ?_ ?_ ?_ ?_ ?_ ?_); exact .inl rfl; exact .inl ⟨_, _, rfl⟩; exact List.getElem?_set_self (show i < (P.set t (stdV b t c)).length from (List.getElem?_eq_some_iff.1 HMV.out).1); omega; exact x11_cs (reg (pcV z) 10 0) _; rfl; rfl; exact T2A.out; intro w8 h_ ho_; rw [List.set_set] at h_; have T3A := hid h_; have T3B := hid (only_below T2B.out HG.out ho_ T2B.out.size); clear h_ ho_))
            go_returns
            rw [HC.out]
            exact ⟨g, cap, nils, rfl, T3A.out, HG.out, rfl, T3B.out⟩
          · have HE : Hid (startL P t b c = (P, aErr 18446744073709551610)) := by
              show _ = _
              unfold startL
              rw [Int.toNat_natCast, HTY.out]
              simp only
              rw [if_pos hst]
            have t49 : wb.cell? ⟨g, t * 52 + 49, none⟩ = some (.int .i64 y.st) := A3.out.cell HTY.out 49 (by omega)
            have hst0 : (y.st == 0) = false := by simpa using hst
            have HC : Hid (callF L i x = (P.set i (finV X 18446744073709551610 0), (aErr 18446744073709551610), none)) := callF_of L i x P (aErr 18446744073709551610) none X (HST.out.trans (by rw [HE.out])) rfl HPX.out
            have cpc : wb.cell? ⟨g, i * 52 + 32, none⟩ = some (.int .u64 X.h.pc) := A3.out.cell HPX.out 32 (by omega)
            go_wp2_with (first
              | (go_at_call 36; refine (r_minus 6 18446744073709551610 (by decide) _).mono ?_; rintro e w5 ⟨rfl, hww⟩; obtain rfl : wb = w5 := hww.symm)
              | ((with_reducible refine wpL_vcell g i 32 P X (pcV X) (.int .u64 (IntKind.u64.wrap (X.h.pc + 4))) ?_ ?_ ?_ ?_ ?_ ?_ ?_ ?_ ?_); exact .inl rfl; exact .inl ⟨_, _, rfl⟩; exact HPX.out; omega; exact pc_cs X _; rfl; rfl; exact A3.out; intro w6 h_ ho_; have T1A := hid h_; have T1B := hid (only_below HB3.out HG.out ho_ HB3.out.size); clear h_ ho_)
              | ((with_reducible refine wpL_vcell g i 10 (P.set i (pcV X)) (pcV X) (reg (pcV X) 10 18446744073709551610) (.int .u64 18446744073709551610) ?_ ?_ ?_ ?_ ?_ ?_ ?_ ?_ ?_); exact .inl rfl; exact .inl ⟨_, _, rfl⟩; exact List.getElem?_set_self (show i < P.length from (List.getElem?_eq_some_iff.1 HPX.out).1); omega; exact x10_cs (pcV X) _; rfl; rfl; exact T1A.out; intro w7 h_ ho_; rw [List.set_set] at h_; have T2A := hid h_; have T2B := hid (only_below T1B.out HG.out ho_ T1B.out.size); clear h_ ho_)
              | ((with_reducible refine wpL_vcell g i 11 (P.set i (reg (pcV X) 10 18446744073709551610)) (reg (pcV X) 10 18446744073709551610) (finV X 18446744073709551610 0) (.int .u64 0) ?_ ?_ ?_ ?_ ?_ ?_ ?_ ?_ ?_); exact .inl rfl; exact .inl ⟨_, _, rfl⟩; exact List.getElem?_set_self (show i < P.length from (List.getElem?_eq_some_iff.1 HPX.out).1); omega; exact x11_cs (reg (pcV X) 10 18446744073709551610) _; rfl; rfl; exact T2A.out; intro w8 h_ ho_; rw [List.set_set] at h_; have T3A := hid h_; have T3B := hid (only_below T2B.out HG.out ho_ T2B.out.size); clear h_ ho_))
            go_returns
            rw [HC.out]
            exact ⟨g, cap, nils, rfl, T3A.out, HG.out, rfl, T3B.out⟩
      · have HC : Hid (callF L i x = (P.set i (stopV X), aStay, none)) := callF_st L i x _ aStay none (HAns.out.trans (ansG_20 P i X)) rfl
        go_wp2_with ((with_reducible refine wpL_vcell g i 49 P X (stopV X) (.int .i64 0) ?_ ?_ ?_ ?_ ?_ ?_ ?_ ?_ ?_); exact .inr (.inl rfl); exact .inl ⟨_, _, rfl⟩; exact HPX.out; omega; exact st_cs X 0; rfl; rfl; exact A3.out; intro w6 h_ ho_; have T1A := hid h_; have T1B := hid (only_below HB3.out HG.out ho_ HB3.out.size); clear h_ ho_)
        go_returns
        rw [HC.out]
        exact ⟨g, cap, nils, rfl, T1A.out, HG.out, rfl, T1B.out⟩
      · have HST : Hid (ansF (ordL L) i (ordV x) = (P, stpA P a, none)) := HAns.out.trans ((ansG_23 P i X).trans (by rw [HXA.out]))
        by_cases hge : (L.length : Int) ≤ a
        · have HE : Hid (stpA P a = aErr 18446744073709551613) := by
            show _ = _
            unfold stpA
            rw [List.getElem?_eq_none (by rw [HPL.out]; omega)]
          have HC : Hid (callF L i x = (P.set i (finV X 18446744073709551613 0), (aErr 18446744073709551613), none)) := callF_of L i x P (aErr 18446744073709551613) none X (HST.out.trans (by rw [HE.out])) rfl HPX.out
          have cpc : wb.cell? ⟨g, i * 52 + 32, none⟩ = some (.int .u64 X.h.pc) := A3.out.cell HPX.out 32 (by omega)
          go_wp2_with (first
            | (go_at_call 36; refine (r_minus 3 18446744073709551613 (by decide) _).mono ?_; rintro e w5 ⟨rfl, hww⟩; obtain rfl : wb = w5 := hww.symm)
            | ((with_reducible refine wpL_vcell g i 32 P X (pcV X) (.int .u64 (IntKind.u64.wrap (X.h.pc + 4))) ?_ ?_ ?_ ?_ ?_ ?_ ?_ ?_ ?_); exact .inl rfl; exact .inl ⟨_, _, rfl⟩; exact HPX.out; omega; exact pc_cs X _; rfl; rfl; exact A3.out; intro w6 h_ ho_; have T1A := hid h_; have T1B := hid (only_below HB3.out HG.out ho_ HB3.out.size); clear h_ ho_)
            | ((with_reducible refine wpL_vcell g i 10 (P.set i (pcV X)) (pcV X) (reg (pcV X) 10 18446744073709551613) (.int .u64 18446744073709551613) ?_ ?_ ?_ ?_ ?_ ?_ ?_ ?_ ?_); exact .inl rfl; exact .inl ⟨_, _, rfl⟩; exact List.getElem?_set_self (show i < P.length from (List.getElem?_eq_some_iff.1 HPX.out).1); omega; exact x10_cs (pcV X) _; rfl; rfl; exact T1A.out; intro w7 h_ ho_; rw [List.set_set] at h_; have T2A := hid h_; have T2B := hid (only_below T1B.out HG.out ho_ T1B.out.size); clear h_ ho_)
            | ((with_reducible refine wpL_vcell g i 11 (P.set i (reg (pcV X) 10 18446744073709551613)) (reg (pcV X) 10 18446744073709551613) (finV X 18446744073709551613 0) (.int .u64 0) ?_ ?_ ?_ ?_ ?_ ?_ ?_ ?_ ?_); exact .inl rfl; exact .inl ⟨_, _, rfl⟩; exact List.getElem?_set_self (show i < P.length from (List.getElem?_eq_some_iff.1 HPX.out).1); omega; exact x11_cs (reg (pcV X) 10 18446744073709551613) _; rfl; rfl; exact T2A.out; intro w8 h_ ho_; rw [List.set_set] at h_; have T3A := hid h_; have T3B := hid (only_below T2B.out HG.out ho_ T2B.out.size); clear h_ ho_))
          go_returns
          rw [HC.out]
          exact ⟨g, cap, nils, rfl, T3A.out, HG.out, rfl, T3B.out⟩
        · obtain ⟨t, ht⟩ : ∃ t : Nat, a = t := ⟨a.toNat, by omega⟩
          subst ht
          have htl : t < L.length := by omega
          have HT0 : Hid (0 ≤ (t : Int) ∧ (t : Int) < 18446744073709551616) := ⟨a0, a1⟩
          clear a0 a1
          obtain ⟨y, hy⟩ : ∃ y, P[t]? = some y := ⟨_, List.getElem?_eq_getElem (by rw [HPL.out]; exact htl)⟩
          have HTY := hid hy
          clear hy
          by_cases hst : y.st = 0
          · have HE : Hid (stpA P t = aVal 1) := by
              show _ = _
              unfold stpA
              rw [Int.toNat_natCast, HTY.out]
              simp only
              rw [decide_eq_true hst]
              rfl
            have t49 : wb.cell? ⟨g, t * 52 + 49, none⟩ = some (.int .i64 0) := (A3.out.cell HTY.out 49 (by omega)).trans (by rw [← hst]; rfl)
            have HC : Hid (callF L i x = (P.set i (finV X 0 1), (aVal 1), none)) := callF_of L i x P (aVal 1) none X (HST.out.trans (by rw [HE.out])) rfl HPX.out
            have cpc : wb.cell? ⟨g, i * 52 + 32, none⟩ = some (.int .u64 X.h.pc) := A3.out.cell HPX.out 32 (by omega)
            go_wp2_with (first
              | ((with_reducible refine wpL_vcell g i 32 P X (pcV X) (.int .u64 (IntKind.u64.wrap (X.h.pc + 4))) ?_ ?_ ?_ ?_ ?_ ?_ ?_ ?_ ?_); exact .inl rfl; exact .inl ⟨_, _, rfl⟩; exact HPX.out; omega; exact pc_cs X _; rfl; rfl; exact A3.out; intro w6 h_ ho_; have T1A := hid h_; have T1B := hid (only_below HB3.out HG.out ho_ HB3.out.size); clear h_ ho_)
              | ((with_reducible refine wpL_vcell g i 10 (P.set i (pcV X)) (pcV X) (reg (pcV X) 10 0) (.int .u64 0) ?_ ?_ ?_ ?_ ?_ ?_ ?_ ?_ ?_); exact .inl rfl; exact .inl ⟨_, _, rfl⟩; exact List.getElem?_set_self (show i < P.length from (List.getElem?_eq_some_iff.1 HPX.out).1); omega; exact x10_cs (pcV X) _; rfl; rfl; exact T1A.out; intro w7 h_ ho_; rw [List.set_set] at h_; have T2A := hid h_; have T2B := hid (only_below T1B.out HG.out ho_ T1B.out.size); clear h_ ho_)
              | ((with_reducible refine wpL_vcell g i 11 (P.set i (reg (pcV X) 10 0)) (reg (pcV X) 10 0) (finV X 0 1) (.int .u64 1) ?_ ?_ ?_ ?_ ?_ ?_ ?_ ?_ ?_); exact .inl rfl; exact .inl ⟨_, _, rfl⟩; exact List.getElem?_set_self (show i < P.length from (List.getElem?_eq_some_iff.1 HPX.out).1); omega; exact x11_cs (reg (pcV X) 10 0) _; rfl; rfl; exact T2A.out; intro w8 h_ ho_; rw [List.set_set] at h_; have T3A := hid h_; have T3B := hid (only_below T2B.out HG.out ho_ T2B.out.size); clear h_ ho_))
            go_returns
            rw [HC.out]
            exact ⟨g, cap, nils, rfl, T3A.out, HG.out, rfl, T3B.out⟩
          · have HE : Hid (stpA P t = aVal 0) := by
              show _ = _
              unfold stpA
              rw [Int.toNat_natCast, HTY.out]
              simp only
              rw [decide_eq_false hst]
              rfl
            have t49 : wb.cell? ⟨g, t * 52 + 49, none⟩ = some (.int .i64 y.st) := A3.out.cell HTY.out 49 (by omega)
            have hst0 : (y.st == 0) = false := by simpa using hst
            have HC : Hid (callF L i x = (P.set i (finV X 0 0), (aVal 0), none)) := callF_of L i x P (aVal 0) none X (HST.out.trans (by rw [HE.out])) rfl HPX.out
            have cpc : wb.cell? ⟨g, i * 52 + 32, none⟩ = some (.int .u64 X.h.pc) := A3.out.cell HPX.out 32 (by omega)
            go_wp2_with (first
              | ((with_reducible refine wpL_vcell g i 32 P X (pcV X) (.int .u64 (IntKind.u64.wrap (X.h.pc + 4))) ?_ ?_ ?_ ?_ ?_ ?_ ?_ ?_ ?_); exact .inl rfl; exact .inl ⟨_, _, rfl⟩; exact HPX.out; omega; exact pc_cs X _; rfl; rfl; exact A3.out; intro w6 h_ ho_; have T1A := hid h_; have T1B := hid (only_below HB3.out HG.out ho_ HB3.out.size); clear h_ ho_)
              | ((with_reducible refine wpL_vcell g i 10 (P.set i (pcV X)) (pcV X) (reg (pcV X) 10 0) (.int .u64 0) ?_ ?_ ?_ ?_ ?_ ?_ ?_ ?_ ?_); exact .inl rfl; exact .inl ⟨_, _, rfl⟩; exact List.getElem?_set_self (show i < P.length from (List.getElem?_eq_some_iff.1 HPX.out).1); omega; exact x10_cs (pcV X) _; rfl; rfl; exact T1A.out; intro w7 h_ ho_; rw [List.set_set] at h_; have T2A := hid h_; have T2B := hid (only_below T1B.out HG.out ho_ T1B.out.size); clear h_ ho_)
              | ((with_reducible refine wpL_vcell g i 11 (P.set i (reg (pcV X) 10 0)) (reg (pcV X) 10 0) (finV X 0 0) (.int .u64 0) ?_ ?_ ?_ ?_ ?_ ?_ ?_ ?_ ?_); exact .inl rfl; exact .inl ⟨_, _, rfl⟩; exact List.getElem?_set_self (show i < P.length from (List.getElem?_eq_some_iff.1 HPX.out).1); omega; exact x11_cs (reg (pcV X) 10 0) _; rfl; rfl; exact T2A.out; intro w8 h_ ho_; rw [List.set_set] at h_; have T3A := hid h_; have T3B := hid (only_below T2B.out HG.out ho_ T2B.out.size); clear h_ ho_))
            go_returns
            rw [HC.out]
            exact ⟨g, cap, nils, rfl, T3A.out, HG.out, rfl, T3B.out⟩
      · have HC : Hid (callF L i x = (P.mapIdx fun _ => stopV, aDown, none)) := callF_st L i x _ aDown none (HAns.out.trans (ansG_26 P i X)) rfl
        go_wp2_with fail
        go_loopw [18] (fun c wr => ∃ (k : Nat), k ≤ L.length ∧ c = .int .i64 k ∧ Vb wr g (pm (fun _ => stopV) P k) ∧ Below w.heap.size w wr) (fun i _ => L.length - (intOf i).toNat)
        case atStart => exact ⟨0, by omega, rfl, by rw [pm_zero]; exact A3.out, HB3.out⟩
        case round =>
          obtain ⟨k2, hk2, rfl, hvb, hb⟩ := hrel
          have QA := hid hvb
          have QB := hid hb
          clear hvb hb
          by_cases hlt2 : k2 < L.length
          · obtain ⟨y, hy⟩ : ∃ y, P[k2]? = some y := ⟨_, List.getElem?_eq_getElem (by rw [HPL.out]; exact hlt2)⟩
            have HY := hid (pm_get (fun _ => stopV) P k2 y hy)
            have HZ := hid hy
            clear hy
            go_wp2_with ((with_reducible refine wpL_vcell g k2 49 (pm (fun _ => stopV) P k2) y (stopV y) (.int .i64 0) ?_ ?_ ?_ ?_ ?_ ?_ ?_ ?_ ?_); exact .inr (.inl rfl); exact .inl ⟨_, _, rfl⟩; exact HY.out; omega; exact st_cs y 0; rfl; rfl; exact QA.out; intro w6 h_ ho_; have C1 := hid h_; have C2 := hid (only_below QB.out HG.out ho_ QB.out.size); clear h_ ho_)
            go_roundw
            case rel => exact ⟨k2 + 1, by omega, by go_num, by rw [← pm_succ (fun _ => stopV) P k2 y HZ.out]; exact C1.out, C2.out⟩
            case measure => simp [intOf]; omega
          · obtain rfl : k2 = L.length := by omega
            have QM : Hid (Vb wr g (P.mapIdx fun _ => stopV)) := by show Vb wr g _; have := QA.out; rwa [← HPL.out, pm_full] at this
            clear QA
            go_wp2_with fail
            go_returns
            rw [HC.out]
            exact ⟨g, cap, nils, rfl, QM.out, HG.out, rfl, QB.out⟩
      · have HN : Hid (∀ k ∈ calI, keyN k ≠ nmOf 16 fn) := by
          have q := And.intro e1 e2
          simp only [beq_eq_false_iff_ne] at q
          exact nm_none 16 fn (by omega) (by omega) (by omega) (by omega) (by omega) (by omega) (by omega) (by omega) (by omega)
        have HC : Hid (callF L i x = (P.set i (finV X 18446744073709551614 0), (aErr 18446744073709551614), none)) := callF_of L i x P (aErr 18446744073709551614) none X (HAns.out.trans (ansG_no _ HN.out P i X)) rfl HPX.out
        have cpc : wb.cell? ⟨g, i * 52 + 32, none⟩ = some (.int .u64 X.h.pc) := A3.out.cell HPX.out 32 (by omega)
        go_wp2_with (first
          | (go_at_call 36; refine (r_minus 2 18446744073709551614 (by decide) _).mono ?_; rintro e w5 ⟨rfl, hww⟩; obtain rfl : wb = w5 := hww.symm)
          | ((with_reducible refine wpL_vcell g i 32 P X (pcV X) (.int .u64 (IntKind.u64.wrap (X.h.pc + 4))) ?_ ?_ ?_ ?_ ?_ ?_ ?_ ?_ ?_); exact .inl rfl; exact .inl ⟨_, _, rfl⟩; exact HPX.out; omega; exact pc_cs X _; rfl; rfl; exact A3.out; intro w6 h_ ho_; have T1A := hid h_; have T1B := hid (only_below HB3.out HG.out ho_ HB3.out.size); clear h_ ho_)
          | ((with_reducible refine wpL_vcell g i 10 (P.set i (pcV X)) (pcV X) (reg (pcV X) 10 18446744073709551614) (.int .u64 18446744073709551614) ?_ ?_ ?_ ?_ ?_ ?_ ?_ ?_ ?_); exact .inl rfl; exact .inl ⟨_, _, rfl⟩; exact List.getElem?_set_self (show i < P.length from (List.getElem?_eq_some_iff.1 HPX.out).1); omega; exact x10_cs (pcV X) _; rfl; rfl; exact T1A.out; intro w7 h_ ho_; rw [List.set_set] at h_; have T2A := hid h_; have T2B := hid (only_below T1B.out HG.out ho_ T1B.out.size); clear h_ ho_)
          | ((with_reducible refine wpL_vcell g i 11 (P.set i (reg (pcV X) 10 18446744073709551614)) (reg (pcV X) 10 18446744073709551614) (finV X 18446744073709551614 0) (.int .u64 0) ?_ ?_ ?_ ?_ ?_ ?_ ?_ ?_ ?_); exact .inl rfl; exact .inl ⟨_, _, rfl⟩; exact List.getElem?_set_self (show i < P.length from (List.getElem?_eq_some_iff.1 HPX.out).1); omega; exact x11_cs (reg (pcV X) 10 18446744073709551614) _; rfl; rfl; exact T2A.out; intro w8 h_ ho_; rw [List.set_set] at h_; have T3A := hid h_; have T3B := hid (only_below T2B.out HG.out ho_ T2B.out.size); clear h_ ho_))
        go_returns
        rw [HC.out]
        exact ⟨g, cap, nils, rfl, T3A.out, HG.out, rfl, T3B.out⟩
      · have HN : Hid (∀ k ∈ calI, keyN k ≠ nmOf 1414090053 fn) := by
          have q := And.intro e1 e1
          simp only [beq_eq_false_iff_ne] at q
          exact nm_none 1414090053 fn (by omega) (by omega) (by omega) (by omega) (by omega) (by omega) (by omega) (by omega) (by omega)
        have HC : Hid (callF L i x = (P.set i (finV X 18446744073709551614 0), (aErr 18446744073709551614), none)) := callF_of L i x P (aErr 18446744073709551614) none X (HAns.out.trans (ansG_no _ HN.out P i X)) rfl HPX.out
        have cpc : wb.cell? ⟨g, i * 52 + 32, none⟩ = some (.int .u64 X.h.pc) := A3.out.cell HPX.out 32 (by omega)
        go_wp2_with (first
          | (go_at_call 36; refine (r_minus 2 18446744073709551614 (by decide) _).mono ?_; rintro e w5 ⟨rfl, hww⟩; obtain rfl : wb = w5 := hww.symm)
          | ((with_reducible refine wpL_vcell g i 32 P X (pcV X) (.int .u64 (IntKind.u64.wrap (X.h.pc + 4))) ?_ ?_ ?_ ?_ ?_ ?_ ?_ ?_ ?_); exact .inl rfl; exact .inl ⟨_, _, rfl⟩; exact HPX.out; omega; exact pc_cs X _; rfl; rfl; exact A3.out; intro w6 h_ ho_; have T1A := hid h_; have T1B := hid (only_below HB3.out HG.out ho_ HB3.out.size); clear h_ ho_)
          | ((with_reducible refine wpL_vcell g i 10 (P.set i (pcV X)) (pcV X) (reg (pcV X) 10 18446744073709551614) (.int .u64 18446744073709551614) ?_ ?_ ?_ ?_ ?_ ?_ ?_ ?_ ?_); exact .inl rfl; exact .inl ⟨_, _, rfl⟩; exact List.getElem?_set_self (show i < P.length from (List.getElem?_eq_some_iff.1 HPX.out).1); omega; exact x10_cs (pcV X) _; rfl; rfl; exact T1A.out; intro w7 h_ ho_; rw [List.set_set] at h_; have T2A := hid h_; have T2B := hid (only_below T1B.out HG.out ho_ T1B.out.size); clear h_ ho_)
          | ((with_reducible refine wpL_vcell g i 11 (P.set i (reg (pcV X) 10 18446744073709551614)) (reg (pcV X) 10 18446744073709551614) (finV X 18446744073709551614 0) (.int .u64 0) ?_ ?_ ?_ ?_ ?_ ?_ ?_ ?_ ?_); exact .inl rfl; exact .inl ⟨_, _, rfl⟩; exact List.getElem?_set_self (show i < P.length from (List.getElem?_eq_some_iff.1 HPX.out).1); omega; exact x11_cs (reg (pcV X) 10 18446744073709551614) _; rfl; rfl; exact T2A.out; intro w8 h_ ho_; rw [List.set_set] at h_; have T3A := hid h_; have T3B := hid (only_below T2B.out HG.out ho_ T2B.out.size); clear h_ ho_))
        go_returns
        rw [HC.out]
        exact ⟨g, cap, nils, rfl, T3A.out, HG.out, rfl, T3B.out⟩
      · have HN : Hid (∀ k ∈ calI, keyN k ≠ nmOf 7557193 fn) := by
          have q := And.intro e1 e1
          simp only [beq_eq_false_iff_ne] at q
          exact nm_none 7557193 fn (by omega) (by omega) (by omega) (by omega) (by omega) (by omega) (by omega) (by omega) (by omega)
        have HC : Hid (callF L i x = (P.set i (finV X 18446744073709551614 0), (aErr 18446744073709551614), none)) := callF_of L i x P (aErr 18446744073709551614) none X (HAns.out.trans (ansG_no _ HN.out P i X)) rfl HPX.out
        have cpc : wb.cell? ⟨g, i * 52 + 32, none⟩ = some (.int .u64 X.h.pc) := A3.out.cell HPX.out 32 (by omega)
        go_wp2_with (first
          | (go_at_call 36; refine (r_minus 2 18446744073709551614 (by decide) _).mono ?_; rintro e w5 ⟨rfl, hww⟩; obtain rfl : wb = w5 := hww.symm)
          | ((with_reducible refine wpL_vcell g i 32 P X (pcV X) (.int .u64 (IntKind.u64.wrap (X.h.pc + 4))) ?_ ?_ ?_ ?_ ?_ ?_ ?_ ?_ ?_); exact .inl rfl; exact .inl ⟨_, _, rfl⟩; exact HPX.out; omega; exact pc_cs X _; rfl; rfl; exact A3.out; intro w6 h_ ho_; have T1A := hid h_; have T1B := hid (only_below HB3.out HG.out ho_ HB3.out.size); clear h_ ho_)
          | ((with_reducible refine wpL_vcell g i 10 (P.set i (pcV X)) (pcV X) (reg (pcV X) 10 18446744073709551614) (.int .u64 18446744073709551614) ?_ ?_ ?_ ?_ ?_ ?_ ?_ ?_ ?_); exact .inl rfl; exact .inl ⟨_, _, rfl⟩; exact List.getElem?_set_self (show i < P.length from (List.getElem?_eq_some_iff.1 HPX.out).1); omega; exact x10_cs (pcV X) _; rfl; rfl; exact T1A.out; intro w7 h_ ho_; rw [List.set_set] at h_; have T2A := hid h_; have T2B := hid (only_below T1B.out HG.out ho_ T1B.out.size); clear h_ ho_)
          | ((with_reducible refine wpL_vcell g i 11 (P.set i (reg (pcV X) 10 18446744073709551614)) (reg (pcV X) 10 18446744073709551614) (finV X 18446744073709551614 0) (.int .u64 0) ?_ ?_ ?_ ?_ ?_ ?_ ?_ ?_ ?_); exact .inl rfl; exact .inl ⟨_, _, rfl⟩; exact List.getElem?_set_self (show i < P.length from (List.getElem?_eq_some_iff.1 HPX.out).1); omega; exact x11_cs (reg (pcV X) 10 18446744073709551614) _; rfl; rfl; exact T2A.out; intro w8 h_ ho_; rw [List.set_set] at h_; have T3A := hid h_; have T3B := hid (only_below T2B.out HG.out ho_ T2B.out.size); clear h_ ho_))
        go_returns
        rw [HC.out]
        exact ⟨g, cap, nils, rfl, T3A.out, HG.out, rfl, T3B.out⟩
      · have HN : Hid (∀ k ∈ calI, keyN k ≠ nmOf 4739917 fn) := by
          have q := And.intro e1 (And.intro e2 e3)
          simp only [beq_eq_false_iff_ne] at q
          exact nm_none 4739917 fn (by omega) (by omega) (by omega) (by omega) (by omega) (by omega) (by omega) (by omega) (by omega)
        have HC : Hid (callF L i x = (P.set i (finV X 18446744073709551614 0), (aErr 18446744073709551614), none)) := callF_of L i x P (aErr 18446744073709551614) none X (HAns.out.trans (ansG_no _ HN.out P i X)) rfl HPX.out
        have cpc : wb.cell? ⟨g, i * 52 + 32, none⟩ = some (.int .u64 X.h.pc) := A3.out.cell HPX.out 32 (by omega)
        go_wp2_with (first
          | (go_at_call 36; refine (r_minus 2 18446744073709551614 (by decide) _).mono ?_; rintro e w5 ⟨rfl, hww⟩; obtain rfl : wb = w5 := hww.symm)
          | ((with_reducible refine wpL_vcell g i 32 P X (pcV X) (.int .u64 (IntKind.u64.wrap (X.h.pc + 4))) ?_ ?_ ?_ ?_ ?_ ?_ ?_ ?_ ?_); exact .inl rfl; exact .inl ⟨_, _, rfl⟩; exact HPX.out; omega; exact pc_cs X _; rfl; rfl; exact A3.out; intro w6 h_ ho_; have T1A := hid h_; have T1B := hid (only_below HB3.out HG.out ho_ HB3.out.size); clear h_ ho_)
          | ((with_reducible refine wpL_vcell g i 10 (P.set i (pcV X)) (pcV X) (reg (pcV X) 10 18446744073709551614) (.int .u64 18446744073709551614) ?_ ?_ ?_ ?_ ?_ ?_ ?_ ?_ ?_); exact .inl rfl; exact .inl ⟨_, _, rfl⟩; exact List.getElem?_set_self (show i < P.length from (List.getElem?_eq_some_iff.1 HPX.out).1); omega; exact x10_cs (pcV X) _; rfl; rfl; exact T1A.out; intro w7 h_ ho_; rw [List.set_set] at h_; have T2A := hid h_; have T2B := hid (only_below T1B.out HG.out ho_ T1B.out.size); clear h_ ho_)
          | ((with_reducible refine wpL_vcell g i 11 (P.set i (reg (pcV X) 10 18446744073709551614)) (reg (pcV X) 10 18446744073709551614) (finV X 18446744073709551614 0) (.int .u64 0) ?_ ?_ ?_ ?_ ?_ ?_ ?_ ?_ ?_); exact .inl rfl; exact .inl ⟨_, _, rfl⟩; exact List.getElem?_set_self (show i < P.length from (List.getElem?_eq_some_iff.1 HPX.out).1); omega; exact x11_cs (reg (pcV X) 10 18446744073709551614) _; rfl; rfl; exact T2A.out; intro w8 h_ ho_; rw [List.set_set] at h_; have T3A := hid h_; have T3B := hid (only_below T2B.out HG.out ho_ T2B.out.size); clear h_ ho_))
        go_returns
        rw [HC.out]
        exact ⟨g, cap, nils, rfl, T3A.out, HG.out, rfl, T3B.out⟩
      · have HN : Hid (∀ k ∈ calI, keyN k ≠ nmOf 1397904212 fn) := by
          have q := And.intro e1 e1
          simp only [beq_eq_false_iff_ne] at q
          exact nm_none 1397904212 fn (by omega) (by omega) (by omega) (by omega) (by omega) (by omega) (by omega) (by omega) (by omega)
        have HC : Hid (callF L i x = (P.set i (finV X 18446744073709551614 0), (aErr 18446744073709551614), none)) := callF_of L i x P (aErr 18446744073709551614) none X (HAns.out.trans (ansG_no _ HN.out P i X)) rfl HPX.out
        have cpc : wb.cell? ⟨g, i * 52 + 32, none⟩ = some (.int .u64 X.h.pc) := A3.out.cell HPX.out 32 (by omega)
        go_wp2_with (first
          | (go_at_call 36; refine (r_minus 2 18446744073709551614 (by decide) _).mono ?_; rintro e w5 ⟨rfl, hww⟩; obtain rfl : wb = w5 := hww.symm)
          | ((with_reducible refine wpL_vcell g i 32 P X (pcV X) (.int .u64 (IntKind.u64.wrap (X.h.pc + 4))) ?_ ?_ ?_ ?_ ?_ ?_ ?_ ?_ ?_); exact .inl rfl; exact .inl ⟨_, _, rfl⟩; exact HPX.out; omega; exact pc_cs X _; rfl; rfl; exact A3.out; intro w6 h_ ho_; have T1A := hid h_; have T1B := hid (only_below HB3.out HG.out ho_ HB3.out.size); clear h_ ho_)
          | ((with_reducible refine wpL_vcell g i 10 (P.set i (pcV X)) (pcV X) (reg (pcV X) 10 18446744073709551614) (.int .u64 18446744073709551614) ?_ ?_ ?_ ?_ ?_ ?_ ?_ ?_ ?_); exact .inl rfl; exact .inl ⟨_, _, rfl⟩; exact List.getElem?_set_self (show i < P.length from (List.getElem?_eq_some_iff.1 HPX.out).1); omega; exact x10_cs (pcV X) _; rfl; rfl; exact T1A.out; intro w7 h_ ho_; rw [List.set_set] at h_; have T2A := hid h_; have T2B := hid (only_below T1B.out HG.out ho_ T1B.out.size); clear h_ ho_)
          | ((with_reducible refine wpL_vcell g i 11 (P.set i (reg (pcV X) 10 18446744073709551614)) (reg (pcV X) 10 18446744073709551614) (finV X 18446744073709551614 0) (.int .u64 0) ?_ ?_ ?_ ?_ ?_ ?_ ?_ ?_ ?_); exact .inl rfl; exact .inl ⟨_, _, rfl⟩; exact List.getElem?_set_self (show i < P.length from (List.getElem?_eq_some_iff.1 HPX.out).1); omega; exact x11_cs (reg (pcV X) 10 18446744073709551614) _; rfl; rfl; exact T2A.out; intro w8 h_ ho_; rw [List.set_set] at h_; have T3A := hid h_; have T3B := hid (only_below T2B.out HG.out ho_ T2B.out.size); clear h_ ho_))
        go_returns
        rw [HC.out]
        exact ⟨g, cap, nils, rfl, T3A.out, HG.out, rfl, T3B.out⟩
      · have HN : Hid (∀ k ∈ calI, keyN k ≠ nmOf kd fn) := by
          have q := And.intro e1 (And.intro e2 (And.intro e3 (And.intro e4 (And.intro e5 e6))))
          simp only [beq_eq_false_iff_ne] at q
          exact nm_none kd fn (by omega) (by omega) (by omega) (by omega) (by omega) (by omega) (by omega) (by omega) (by omega)
        have HC : Hid (callF L i x = (P.set i (finV X 18446744073709551614 0), (aErr 18446744073709551614), none)) := callF_of L i x P (aErr 18446744073709551614) none X (HAns.out.trans (ansG_no _ HN.out P i X)) rfl HPX.out
        have cpc : wb.cell? ⟨g, i * 52 + 32, none⟩ = some (.int .u64 X.h.pc) := A3.out.cell HPX.out 32 (by omega)
        go_wp2_with (first
          | (go_at_call 36; refine (r_minus 2 18446744073709551614 (by decide) _).mono ?_; rintro e w5 ⟨rfl, hww⟩; obtain rfl : wb = w5 := hww.symm)
          | ((with_reducible refine wpL_vcell g i 32 P X (pcV X) (.int .u64 (IntKind.u64.wrap (X.h.pc + 4))) ?_ ?_ ?_ ?_ ?_ ?_ ?_ ?_ ?_); exact .inl rfl; exact .inl ⟨_, _, rfl⟩; exact HPX.out; omega; exact pc_cs X _; rfl; rfl; exact A3.out; intro w6 h_ ho_; have T1A := hid h_; have T1B := hid (only_below HB3.out HG.out ho_ HB3.out.size); clear h_ ho_)
          | ((with_reducible refine wpL_vcell g i 10 (P.set i (pcV X)) (pcV X) (reg (pcV X) 10 18446744073709551614) (.int .u64 18446744073709551614) ?_ ?_ ?_ ?_ ?_ ?_ ?_ ?_ ?_); exact .inl rfl; exact .inl ⟨_, _, rfl⟩; exact List.getElem?_set_self (show i < P.length from (List.getElem?_eq_some_iff.1 HPX.out).1); omega; exact x10_cs (pcV X) _; rfl; rfl; exact T1A.out; intro w7 h_ ho_; rw [List.set_set] at h_; have T2A := hid h_; have T2B := hid (only_below T1B.out HG.out ho_ T1B.out.size); clear h_ ho_)
          | ((with_reducible refine wpL_vcell g i 11 (P.set i (reg (pcV X) 10 18446744073709551614)) (reg (pcV X) 10 18446744073709551614) (finV X 18446744073709551614 0) (.int .u64 0) ?_ ?_ ?_ ?_ ?_ ?_ ?_ ?_ ?_); exact .inl rfl; exact .inl ⟨_, _, rfl⟩; exact List.getElem?_set_self (show i < P.length from (List.getElem?_eq_some_iff.1 HPX.out).1); omega; exact x11_cs (reg (pcV X) 10 18446744073709551614) _; rfl; rfl; exact T2A.out; intro w8 h_ ho_; rw [List.set_set] at h_; have T3A := hid h_; have T3B := hid (only_below T2B.out HG.out ho_ T2B.out.size); clear h_ ho_))
        go_returns
        rw [HC.out]
        exact ⟨g, cap, nils, rfl, T3A.out, HG.out, rfl, T3B.out⟩
end Go.Proofs.Yteafjobmlfkppaa
