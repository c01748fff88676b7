/- The document's Ready. -/
import Derived.Test.YteafjobmlfkppaaMH3
import Derived.Test.YteafjobmlfkppaaMH2
namespace Go.Proofs.Yteafjobmlfkppaa
open Go.RowKit
set_option linter.unusedVariables false
set_option maxRecDepth 100000

theorem sW_ff (o : HV) (h0 : 0 ≤ o.sip) (h1 : o.sip < 18446744073709551616) : sW o false false = bits .and .u64 o.sip 2 := by
  have a := and_r o.sip 2 h0 h1 (by omega) (by omega)
  simp only [sW, cond_false]
  rw [or0 _ a.1 a.2, or0 _ a.1 a.2]
theorem sW_tf (o : HV) (h0 : 0 ≤ o.sip) (h1 : o.sip < 18446744073709551616) : sW o true false = bits .or .u64 (bits .and .u64 o.sip 2) 32 := by
  have a := and_r o.sip 2 h0 h1 (by omega) (by omega)
  have b := or_r _ 32 a.1 a.2 (by omega) (by omega)
  simp only [sW, cond_false, cond_true]
  rw [or0 _ b.1 b.2]
theorem sW_ft (o : HV) (h0 : 0 ≤ o.sip) (h1 : o.sip < 18446744073709551616) : sW o false true = bits .or .u64 (bits .and .u64 o.sip 2) 512 := by
  have a := and_r o.sip 2 h0 h1 (by omega) (by omega)
  simp only [sW, cond_false, cond_true]
  rw [or0 _ a.1 a.2]
theorem sW_tt (o : HV) : sW o true true = bits .or .u64 (bits .or .u64 (bits .and .u64 o.sip 2) 32) 512 := rfl
set_option maxHeartbeats 4000000 in
theorem r_ReadyW (x : VV) (o : HV) (h0 : 0 ≤ o.sip) (h1 : o.sip < 18446744073709551616) (now : Int) (ext : Bool) (w : World) (hI : ∀ u, Calls Try.prog 32 #[x.v] u fun e w' => e = .returned (VV.v { x with h := o }) ∧ Below u.heap.size u w') : Calls Try.prog 16 #[x.v, .int .u64 now, .bool ext] w fun e w' => e = .returned (readyW x o (x.ar && decide (x.dl ≤ now)) ext).v ∧ Below w.heap.size w w' := by
  have HI := hid hI
  clear hI
  have A1 : Hid (V1 ((w.alloc (.cells x.ca 32)).alloc (.cells VV.zero.ca 32)) w.heap.size x) := V1.new1 x _
  have A2 : Hid (V1 ((w.alloc (.cells x.ca 32)).alloc (.cells VV.zero.ca 32)) (w.heap.size + 1) VV.zero) := V1.new2 VV.zero _
  have HB0 := hid (below2 (w := w) (.cells x.ca 32) (.cells VV.zero.ca 32))
  have hc : (x.ar = true ∧ x.dl ≤ now) ∨ (x.ar = true ∧ ¬ x.dl ≤ now) ∨ x.ar = false := by
    cases x.ar <;> by_cases q : x.dl ≤ now <;> simp [q]
  obtain ⟨d, hd⟩ : ∃ d, (x.ar && decide (x.dl ≤ now)) = d := ⟨_, rfl⟩
  rw [hd]
  obtain ⟨s, hs⟩ : ∃ s, s = sW o d ext := ⟨_, rfl⟩
  have HW : Hid (readyW x o d ext = ⟨{ o with sip := s }, if x.st = 2 ∧ bits .and .u64 s o.sie ≠ 0 then 1 else x.st, x.ar, x.dl⟩) := by rw [hs]; rfl
  rw [HW.out]
  clear HW
  obtain ⟨t, ht⟩ : ∃ t : Int, t = if x.st = 2 ∧ bits .and .u64 s o.sie ≠ 0 then 1 else x.st := ⟨_, rfl⟩
  rw [← ht]
  have HT := hid ht
  clear ht
  go_enter Try.func16, Try.ntmps16
  go_upto_region 2 with (first
    | ((with_reducible refine wpList_new (z := .agg VV.zero.ca) VV.zero.ca ?_ ?_ ?_); rfl; exact z_vcpu)
    | ((with_reducible refine wpL_vload (d := some 8) w.heap.size 0 x ?_ ?_ ?_); rfl; exact A1.out.range)
    | (go_at_call 32; refine (HI.out _).mono ?_; rintro e w1 ⟨rfl, hb⟩; have B1 := hid (A1.out.below hb); have B2 := hid (A2.out.below hb); have HB1 := hid (HB0.out.trans (hb.mono HB0.out.size)); clear hb)
    | ((with_reducible refine wpL_store1 (x := .tmp 3) (y := .tmp 9) w.heap.size x { x with h := o } ?_ ?_ ?_ ?_); rfl; rfl; exact B1.out; intro w2 h2 ho2; have C1 := hid h2; have C2 := hid (B2.out.only ho2 (fun (q : _ = _) => by omega)); have HB2 := hid (only_below HB1.out (Nat.le_refl _) ho2 HB1.out.size); clear h2 ho2))
  have c46 : w2.cell? ⟨w.heap.size, 46, none⟩ = some (.int .u64 o.sip) := C1.out.c 46
  have c51 : w2.cell? ⟨w.heap.size, 51, none⟩ = some (.int .u64 x.dl) := C1.out.c 51
  rcases hc with ⟨ha, hn⟩ | ⟨ha, hn⟩ | ha <;> cases ext
  all_goals
    have c50 : w2.cell? ⟨w.heap.size, 50, none⟩ = some (.bool x.ar) := C1.out.c 50
    rw [ha] at c50 hd
    first | rw [Bool.false_and] at hd | rw [show decide (x.dl ≤ now) = true from decide_eq_true (by omega), Bool.and_true] at hd | rw [show decide (x.dl ≤ now) = false from decide_eq_false (by omega), Bool.and_false] at hd
    rw [← hd] at hs
    clear hd
    have HW := hid (by first | exact hs.trans (sW_tt o) | exact hs.trans (sW_tf o h0 h1) | exact hs.trans (sW_ft o h0 h1) | exact hs.trans (sW_ff o h0 h1))
    clear hs
    go_upto_region 8 with ((with_reducible refine wpL_1cell w.heap.size 46 { x with h := o } { x with h := { o with sip := s } } (.int .u64 s) ?_ ?_ ?_ ?_ ?_ ?_ ?_ ?_); exact .inl rfl; exact .inl ⟨_, _, rfl⟩; omega; rfl; rfl; rw [HW.out]; rfl; exact C1.out; intro w3 h3 ho3; have D1 := hid h3; have D2 := hid (C2.out.only ho3 (fun (q : _ = _) => by omega)); have HB3 := hid (only_below HB2.out (Nat.le_refl _) ho3 HB2.out.size); clear h3 ho3)
    rw [← HW.out]
    clear HW c46 c50 c51
    have c46 : w3.cell? ⟨w.heap.size, 46, none⟩ = some (.int .u64 s) := D1.out.c 46
    have c45 : w3.cell? ⟨w.heap.size, 45, none⟩ = some (.int .u64 o.sie) := D1.out.c 45
    have c49 : w3.cell? ⟨w.heap.size, 49, none⟩ = some (.int .i64 x.st) := D1.out.c 49
    by_cases h2 : x.st = 2
    · by_cases hq : bits .and .u64 s o.sie = 0
      · have HX : Hid ((if x.st = 2 ∧ bits .and .u64 s o.sie ≠ 0 then 1 else x.st) = x.st) := if_neg (fun q => q.2 hq)
        go_wp2_with (first
          | ((with_reducible refine wpL_vload (d := some 42) w.heap.size 0 { x with h := { o with sip := s } } ?_ ?_ ?_); rfl; exact D1.out.range)
          | ((with_reducible refine wpL_store1 (x := .tmp 6) (y := .tmp 42) (w.heap.size + 1) VV.zero { x with h := { o with sip := s } } ?_ ?_ ?_ ?_); rfl; rfl; exact D2.out; intro w6 h6 ho6; have F1 := hid h6; have HB6 := hid (only_below HB3.out (by omega) ho6 HB3.out.size); clear h6 ho6))
        exact bodyPost_ret (ret_v Try.results16 (w.heap.size + 1) _ rfl F1.out) rfl ⟨by first | (rw [HT.out.trans HX.out]; done) | (rw [HT.out.trans HX.out, ha]; done), HB6.out⟩
      · have HX : Hid ((if x.st = 2 ∧ bits .and .u64 s o.sie ≠ 0 then 1 else x.st) = 1) := if_pos ⟨h2, hq⟩
        go_wp2_with (first
          | ((with_reducible refine wpL_1cell w.heap.size 49 { x with h := { o with sip := s } } { x with st := 1, h := { o with sip := s } } (.int .i64 1) ?_ ?_ ?_ ?_ ?_ ?_ ?_ ?_); exact .inr (.inl rfl); exact .inl ⟨_, _, rfl⟩; omega; rfl; rfl; rfl; exact D1.out; intro w4 h4 ho4; have E1 := hid h4; have E2 := hid (D2.out.only ho4 (fun (q : _ = _) => by omega)); have HB5 := hid (only_below HB3.out (Nat.le_refl _) ho4 HB3.out.size); clear h4 ho4)
          | ((with_reducible refine wpL_vload (d := some 42) w.heap.size 0 { x with st := 1, h := { o with sip := s } } ?_ ?_ ?_); rfl; exact E1.out.range)
          | ((with_reducible refine wpL_store1 (x := .tmp 6) (y := .tmp 42) (w.heap.size + 1) VV.zero { x with st := 1, h := { o with sip := s } } ?_ ?_ ?_ ?_); rfl; rfl; exact E2.out; intro w6 h6 ho6; have F1 := hid h6; have HB6 := hid (only_below HB5.out (by omega) ho6 HB5.out.size); clear h6 ho6))
        exact bodyPost_ret (ret_v Try.results16 (w.heap.size + 1) _ rfl F1.out) rfl ⟨by first | (rw [HT.out.trans HX.out]; done) | (rw [HT.out.trans HX.out, ha]; done), HB6.out⟩
    · have HX : Hid ((if x.st = 2 ∧ bits .and .u64 s o.sie ≠ 0 then 1 else x.st) = x.st) := if_neg (fun q => h2 q.1)
      go_wp2_with (first
        | ((with_reducible refine wpL_vload (d := some 42) w.heap.size 0 { x with h := { o with sip := s } } ?_ ?_ ?_); rfl; exact D1.out.range)
        | ((with_reducible refine wpL_store1 (x := .tmp 6) (y := .tmp 42) (w.heap.size + 1) VV.zero { x with h := { o with sip := s } } ?_ ?_ ?_ ?_); rfl; rfl; exact D2.out; intro w6 h6 ho6; have F1 := hid h6; have HB6 := hid (only_below HB3.out (by omega) ho6 HB3.out.size); clear h6 ho6))
      exact bodyPost_ret (ret_v Try.results16 (w.heap.size + 1) _ rfl F1.out) rfl ⟨by first | (rw [HT.out.trans HX.out]; done) | (rw [HT.out.trans HX.out, ha]; done), HB6.out⟩
theorem r_Ready (x : VV) (ok : HOk x.h) (now : Int) (ext : Bool) (w : World) : Calls Try.prog 16 #[x.v, .int .u64 now, .bool ext] w fun e w' => e = .returned (readyV x now ext).v ∧ Below w.heap.size w w' :=
  r_ReadyW x (ordH x.h) (ordOk ok).sip.1 (ordOk ok).sip.2 now ext w fun u => r_order x ok u
end Go.Proofs.Yteafjobmlfkppaa
namespace Go.Proofs.Yteafjobmlfkppaa
open Go.RowKit
set_option linter.unusedVariables false
set_option maxRecDepth 100000

theorem same_refl {L : List VV} : ∀ (k : Nat) (x y : VV), L[k]? = some x → L[k]? = some y → x.cs = y.cs := fun k x y hx hy => by rw [hx] at hy; cases hy; rfl
set_option maxHeartbeats 4000000 in
theorem w_VcpuReadies (w : World) (x : VV) (ok : VOk x) (now : Int) (n0 : 0 ≤ now) (n1 : now < 18446744073709551616) (ext : Bool) (ad : Option Addr) (la cap : Nat) (L : List VV) (hL : Vr w (.slice ad la cap) L ∧ (∀ x ∈ L, VOk x) ∧ L.length = la)
    (i : Int) (i0 : -9223372036854775808 ≤ i) (i1 : i ≤ 9223372036854775807) (gpa : Int) (p0 : 0 ≤ gpa) (p1 : gpa < 18446744073709551616) (hl : la * 368 ≤ 140737488355328) :
    Calls Try.prog 4 #[x.v, .int .u64 now, .bool ext, .slice ad la cap, .int .i64 i, .int .u64 gpa] w fun e w' => e = .returned (.bool true) ∧ Below w.heap.size w w' := by
  obtain ⟨hv, hok, hla⟩ := hL
  have HV := hid hv
  have HK := hid hok
  have HLN : Hid (L.length * 368 ≤ 140737488355328) := by show L.length * 368 ≤ _; rw [hla]; exact hl
  clear hv hok hla hl
  obtain ⟨t, ht⟩ : ∃ t, t = readyV x now ext := ⟨_, rfl⟩
  obtain ⟨u, hu⟩ : ∃ u, u = waitV x := ⟨_, rfl⟩
  have R1 : Hid (∀ w, Calls Try.prog 15 #[x.v, .int .u64 now, .bool ext] w fun e w' => e = .returned t.v ∧ Below w.heap.size w w') := fun w => by rw [ht]; exact v_Ready x ok.h now ext w
  have R2 : Hid (∀ w, Calls Try.prog 16 #[x.v, .int .u64 now, .bool ext] w fun e w' => e = .returned t.v ∧ Below w.heap.size w w') := fun w => by rw [ht]; exact r_Ready x ok.h now ext w
  have R3 : Hid (∀ w, Calls Try.prog 17 #[x.v] w fun e w' => e = .returned u.v ∧ Below w.heap.size w w') := fun w => by rw [hu]; exact v_Wait x w
  have R4 : Hid (∀ w, Calls Try.prog 18 #[x.v] w fun e w' => e = .returned u.v ∧ Below w.heap.size w w') := fun w => by rw [hu]; exact r_Wait x w
  clear ht hu ok
  have A1 : Hid (V1 (w.alloc (.cells x.ca 32)) w.heap.size x) := V1.new x
  have HB0 := hid ((Below.refl w.heap.size w).alloc (Nat.le_refl _) (.cells x.ca 32))
  have HR : Hid (∀ w', (∃ y : WB (w.alloc (.cells x.ca 32)), w' = y.w) → w'.rangeAt w.heap.size 0 x.cs) := fun w' ⟨y, hy⟩ => by rw [hy]; exact (A1.out.below y.h).range
  go_enter Try.func4, Try.ntmps4
  go_wp2_with fail
  refine wp_region_wb (by kernel_rfl) (by kernel_rfl) ?_
  repeat
    first
      | ((with_reducible refine wpQ_vload w.heap.size 0 x ?_ ?_ HR.out ?_); rfl; rfl)
      | ((with_reducible refine wpQ_neV t t ?_ ?_ ?_ ?_); rfl; rfl; rfl; rw [eqV_self, Bool.not_true])
      | ((with_reducible refine wpQ_neV u u ?_ ?_ ?_ ?_); rfl; rfl; rfl; rw [eqV_self, Bool.not_true])
      | (refine wpQuiet_step (fun K hK => ?_)
         go_simp
         first
           | (refine hK _ ?_; clear hK K)
           | (refine ⟨_, fun _ => rfl, hK _ ?_⟩; clear hK K)
           | (refine ⟨t.v, fun y => ?_, hK _ ?_⟩
              · first
                  | (go_at_call 15; exact Calls.wb y (R1.out y.w))
                  | (go_at_call 16; exact Calls.wb y (R2.out y.w))
              clear hK K)
           | (refine ⟨u.v, fun y => ?_, hK _ ?_⟩
              · first
                  | (go_at_call 17; exact Calls.wb y (R3.out y.w))
                  | (go_at_call 18; exact Calls.wb y (R4.out y.w))
              clear hK K))
  refine wpQuiet_nil ?_
  intro w1 hy
  have HB1 : Hid (Below w.heap.size w w1) := by obtain ⟨y, rfl⟩ := hy; exact HB0.out.trans (y.h.mono HB0.out.size)
  clear hy A1 HR
  have V1' := hid (HV.out.below HB1.out)
  go_wp2_with (first
    | (go_at_call 19; refine (c_copied _ _ L V1'.out HLN.out).mono ?_; rintro e w2 ⟨v2, rfl, h2, hb⟩; have S2 := hid h2; have HB2 := hid (HB1.out.trans (hb.mono HB1.out.size)); clear h2 hb)
    | (go_at_call 20; refine (v_Wrote _ _ L S2.out.rd HLN.out i i0 i1 gpa p0 p1 (fun x hx => (HK.out x hx).h.resv)).mono ?_; rintro e w3 ⟨v3, rfl, h3, hb⟩; have S3 := hid h3; have S2' := hid (S2.out.below (hb.mono (Nat.le_refl _))); have HB3 := hid (HB2.out.trans (hb.mono HB2.out.size)); have V3 := hid (HV.out.below HB3.out); clear h3 hb)
    | ((with_reducible go_at_call 11); refine (v_Same _ v2 _ L L S2'.out.rd V3.out rfl same_refl (by have := HLN.out; omega)).mono ?_; rintro e w4 ⟨rfl, hs⟩; have S4 := hid (S3.out.rd.same hs.heap); have HB4 := hid (HB3.out.trans (hs.below _)); have V4 := hid (HV.out.below HB4.out); clear hs S2')
    | (go_at_call 21; refine (r_Wrote _ _ L V4.out HLN.out i i0 i1 gpa p0 p1 (fun x hx => (HK.out x hx).h.resv)).mono ?_; rintro e w5 ⟨v5, rfl, h5, hb⟩; have S5 := hid h5; have S4' := hid (S4.out.below (hb.mono (Nat.le_refl _))); have HB5 := hid (HB4.out.trans (hb.mono HB4.out.size)); clear h5 hb)
    | (go_at_call 11; refine (v_Same _ v3 v5 _ _ S4'.out S5.out.rd rfl same_refl (by have := HLN.out; simp; omega)).mono ?_; rintro e w6 ⟨rfl, hs⟩; have HB6 := hid (HB5.out.trans (hs.below _)); clear hs)
    | (go_at_call 14; refine (v_awake _).mono ?_; rintro e w7 ⟨rfl, hb⟩; have HB7 := hid (HB6.out.trans (hb.mono HB6.out.size)); clear hb))
  go_ret
  exact ⟨rfl, HB7.out⟩
end Go.Proofs.Yteafjobmlfkppaa
namespace Go.Proofs.Yteafjobmlfkppaa
open Go.RowKit
set_option linter.unusedVariables false
set_option maxRecDepth 100000

theorem nmOf_eq {k f a b : Int} (h : nmOf k f = (a, b)) (ha : a ≠ 1) : k = a ∧ f = b := by
  unfold nmOf at h
  split at h
  · rename_i q
    simp only [Prod.mk.injEq] at h
    exact absurd (h.1.symm.trans q) ha
  · simpa using h
theorem ordX (x : VV) (r : Nat) (h : r ≠ 0) : (ordV x).h.x r = x.h.x r := by simp [ordV, ordH, zx, h]
def sentV (y : VV) : VV := { ordV y with h := { (ordV y).h with sip := bits .or .u64 (ordV y).h.sip 2 } }
def AloneP (x : VV) (k : Nat) (y z : VV) (dn : Bool) : Prop := z = ordV y ∨ ((x.h.x 17 = 4739917 ∧ x.h.x 16 = 0 ∧ x.h.x 10 = k ∧ y.st = 0) ∧ z.st = 1) ∨ ((x.h.x 17 = 7557193 ∧ x.h.x 16 = 0) ∧ z = sentV y) ∨ (dn = true ∧ z = stopV (ordV y) ∧ x.h.x 17 = 1397904212)
theorem finL_ne (M : List VV) (i : Nat) (av : AV) (k : Nat) (h : i ≠ k) : (finL M i av)[k]? = M[k]? := by
  unfold finL
  split
  · rfl
  · split
    · rfl
    · rw [List.getElem?_set_ne h]
theorem finL_len (M : List VV) (i : Nat) (av : AV) : (finL M i av).length = M.length := by
  unfold finL
  split
  · rfl
  · split <;> simp
theorem callF_len (L : List VV) (i : Nat) (x : VV) : (callF L i x).1.length = L.length := by
  unfold callF
  simp only
  rw [finL_len, ans_len, ordL_len]
theorem alone (L : List VV) (i : Nat) (x : VV) (ok : HOk x.h) (k : Nat) (y z : VV) (hk : i ≠ k) (hy : L[k]? = some y) (hz : (callF L i x).1[k]? = some z) : AloneP x k y z (callF L i x).2.1.dn := by
  have hP : (ordL L)[k]? = some (ordV y) := ordL_get L k y hy
  unfold callF at hz ⊢
  simp only at hz ⊢
  rw [finL_ne _ _ _ _ hk] at hz
  have e17 := ordX x 17 (by decide)
  have e16 := ordX x 16 (by decide)
  have e10 := ordX x 10 (by decide)
  by_cases w : ∃ n ∈ calI, keyN n = nmOf ((ordV x).h.x 17) ((ordV x).h.x 16)
  · obtain ⟨n, hn, e⟩ := w
    unfold ansF at hz ⊢
    rw [← e] at hz ⊢
    simp only [calI, List.mem_cons, List.not_mem_nil, or_false] at hn
    rcases hn with rfl | rfl | rfl | rfl | rfl | rfl | rfl | rfl | rfl
    · rw [ansG_2] at hz; rw [hP] at hz; exact .inl (Option.some.inj hz).symm
    · rw [ansG_5] at hz; rw [hP] at hz; exact .inl (Option.some.inj hz).symm
    · rw [ansG_8] at hz; rw [List.getElem?_set_ne hk, hP] at hz; exact .inl (Option.some.inj hz).symm
    · rw [ansG_11] at hz; rw [hP] at hz; exact .inl (Option.some.inj hz).symm
    · rw [ansG_14] at hz
      obtain ⟨q1, q2⟩ := nmOf_eq (a := 7557193) (b := 0) e.symm (by decide)
      simp only [List.getElem?_mapIdx, hP, Option.map_some, Option.some.injEq] at hz
      unfold snV at hz
      split at hz
      · exact .inr (.inr (.inl ⟨⟨e17 ▸ q1, e16 ▸ q2⟩, hz.symm⟩))
      · exact .inl hz.symm
    · rw [ansG_17] at hz
      obtain ⟨q1, q2⟩ := nmOf_eq (a := 4739917) (b := 0) e.symm (by decide)
      unfold startL at hz
      split at hz
      · rw [hP] at hz; exact .inl (Option.some.inj hz).symm
      · rename_i t ht
        split at hz
        · rw [hP] at hz; exact .inl (Option.some.inj hz).symm
        · rename_i hst
          by_cases hn : ((ordV x).h.x 10).toNat = k
          · subst hn
            rw [List.getElem?_set_self (List.getElem?_eq_some_iff.1 hP).1] at hz
            rw [hP] at ht
            obtain rfl := Option.some.inj ht
            refine .inr (.inl ⟨⟨e17 ▸ q1, e16 ▸ q2, ?_, by simpa [ordV] using hst⟩, by rw [← Option.some.inj hz]; rfl⟩)
            have := (ok.x 10).1
            rw [e10]
            omega
          · rw [List.getElem?_set_ne hn, hP] at hz
            exact .inl (Option.some.inj hz).symm
    · rw [ansG_20] at hz; rw [List.getElem?_set_ne hk, hP] at hz; exact .inl (Option.some.inj hz).symm
    · rw [ansG_23] at hz; rw [hP] at hz; exact .inl (Option.some.inj hz).symm
    · rw [ansG_26] at hz ⊢
      obtain ⟨q1, q2⟩ := nmOf_eq (a := 1397904212) (b := 0) e.symm (by decide)
      simp only [List.getElem?_mapIdx, hP, Option.map_some, Option.some.injEq] at hz
      exact .inr (.inr (.inr ⟨rfl, hz.symm, e17 ▸ q1⟩))
  · unfold ansF at hz
    rw [ansG_no _ (fun n hn e => w ⟨n, hn, e⟩)] at hz
    rw [hP] at hz
    exact .inl (Option.some.inj hz).symm
end Go.Proofs.Yteafjobmlfkppaa
namespace Go.Proofs.Yteafjobmlfkppaa
open Go.RowKit
set_option linter.unusedVariables false
set_option maxRecDepth 100000

theorem vr_at {w : World} {ad : Option Addr} {n cap : Nat} {L : List VV} (h : Vr w (.slice ad n cap) L) {i : Nat} {x : VV} (hx : L[i]? = some x) : ∃ g o, ad = some ⟨g, o, none⟩ ∧ g < w.heap.size ∧ n = L.length ∧ ∀ k y, L[k]? = some y → w.rangeAt g (o + k * 52) y.cs := by
  rcases h with ⟨_, rfl⟩ | ⟨a, c, e, h⟩
  · simp at hx
  · simp only [Value.slice.injEq] at e
    obtain ⟨rfl, rfl, rfl⟩ := e
    obtain ⟨g, o, rfl, hg, _⟩ := h i x hx
    refine ⟨g, o, rfl, hg, rfl, fun k y hy => ?_⟩
    obtain ⟨g', o', e', _, r⟩ := h k y hy
    simp only [Addr.mk.injEq, and_true] at e'
    obtain ⟨rfl, rfl⟩ := e'
    exact r
theorem rangeHead {w : World} {g o : Nat} {x : VV} (h : w.rangeAt g o x.cs) : w.rangeAt g o x.h.cs := fun j v hv => h j v (by
  have hj : j < 49 := (List.getElem?_eq_some_iff.1 hv).1
  rw [VV.cs, List.getElem?_append_left (by rw [hv_len]; exact hj)]; exact hv)
set_option maxHeartbeats 16000000 in
theorem w_VcpuAlone (w : World) (ad : Option Addr) (la cap : Nat) (L : List VV) (hL : Vr w (.slice ad la cap) L ∧ (∀ x ∈ L, VOk x) ∧ L.length = la)
    (i : Int) (i0 : -9223372036854775808 ≤ i) (i1 : i ≤ 9223372036854775807) (hl : la * 368 ≤ 140737488355328) :
    Calls Try.prog 6 #[.slice ad la cap, .int .i64 i] w fun e w' => e = .returned (.bool true) ∧ Below w.heap.size w w' := by
  obtain ⟨hv, hok, hla⟩ := hL
  subst hla
  have HVB := hid hv
  have HK := hid hok
  have HL := hid hl
  have hlb : L.length ≤ 9223372036854775807 := by omega
  by_cases hno : i < 0 ∨ (L.length : Int) ≤ i
  · clear hv hok hl
    have HNO := hid hno
    rcases hno with hn | hn
    · go_enter Try.func6, Try.ntmps6
      go_wp2_with (first
        | (go_at_call 19; refine (c_copied _ _ L HVB.out HL.out).mono ?_; rintro e w1 ⟨v1, rfl, h1, hb⟩; have S1 := hid h1; have HB1 := hid hb; clear h1 hb)
        | (go_at_call 22; refine (v_Call_no _ v1 L S1.out.rd HL.out i i0 i1 HNO.out).mono ?_; rintro e w2 ⟨v2, rfl, h2, hb⟩; have S2 := hid h2; have HB2 := hid (HB1.out.trans (hb.mono HB1.out.size)); have V2 := hid (HVB.out.below HB2.out); clear h2 hb)
        | (go_at_call 11; refine (v_Same _ v2 _ L L S2.out.rd V2.out rfl same_refl hlb).mono ?_; rintro e w3 ⟨rfl, hs⟩; have HB3 := hid (HB2.out.trans (hs.below _)); clear hs)
        | (go_at_call 14; refine (v_awake _).mono ?_; rintro e w4 ⟨rfl, hb⟩; have HB4 := hid (HB3.out.trans (hb.mono HB3.out.size)); clear hb))
      go_ret
      exact ⟨rfl, HB4.out⟩
    · have h0 : ¬ i < 0 := by omega
      go_enter Try.func6, Try.ntmps6
      go_wp2_with (first
        | (go_at_call 19; refine (c_copied _ _ L HVB.out HL.out).mono ?_; rintro e w1 ⟨v1, rfl, h1, hb⟩; have S1 := hid h1; have HB1 := hid hb; clear h1 hb)
        | (go_at_call 22; refine (v_Call_no _ v1 L S1.out.rd HL.out i i0 i1 HNO.out).mono ?_; rintro e w2 ⟨v2, rfl, h2, hb⟩; have S2 := hid h2; have HB2 := hid (HB1.out.trans (hb.mono HB1.out.size)); have V2 := hid (HVB.out.below HB2.out); clear h2 hb)
        | (go_at_call 11; refine (v_Same _ v2 _ L L S2.out.rd V2.out rfl same_refl hlb).mono ?_; rintro e w3 ⟨rfl, hs⟩; have HB3 := hid (HB2.out.trans (hs.below _)); clear hs)
        | (go_at_call 14; refine (v_awake _).mono ?_; rintro e w4 ⟨rfl, hb⟩; have HB4 := hid (HB3.out.trans (hb.mono HB3.out.size)); clear hb))
      go_ret
      exact ⟨rfl, HB4.out⟩
  · obtain ⟨m, rfl⟩ : ∃ m : Nat, i = m := ⟨i.toNat, by omega⟩
    have hm : m < L.length := by omega
    have d0 : decide ((m : Int) < 0) = false := decide_eq_false (by omega)
    have d1 : ¬ L.length ≤ m := by omega
    obtain ⟨x, hx⟩ : ∃ x, L[m]? = some x := ⟨_, List.getElem?_eq_getElem hm⟩
    obtain ⟨g0, o0, rfl, hg0, _, hra⟩ := vr_at hv hx
    have HRA := hid hra
    have HX := hid hx
    have HXK := hid (hok x (List.mem_of_getElem? hx)).h
    have HALL := hid fun k y z (hk : m ≠ k) hy hz => alone L m x HXK.out k y z hk hy hz
    have HLEN := hid (callF_len L m x)
    have HCALL : Hid (∀ u v, Vr u v L → Calls Try.prog 22 #[v, .int .i64 m] u fun e w' => ∃ g cap ov, e = .returned (.tuple #[.slice (some ⟨g, 0, none⟩) L.length cap, ov, .bool (callF L m x).2.1.dn]) ∧ Vb w' g (callF L m x).1 ∧ u.heap.size ≤ g ∧ OutIs w' u.heap.size ov (callF L m x).2.2 ∧ Below u.heap.size u w') := fun u v hv => v_Call u v L hv HL.out (fun x hx => (HK.out x hx).h) m x HX.out
    generalize hR : callF L m x = RR at HALL HLEN HCALL
    obtain ⟨R, av, oo⟩ := RR
    simp only at HALL HLEN HCALL
    obtain ⟨dn, hdn⟩ : ∃ dn, dn = av.dn := ⟨_, rfl⟩
    rw [← hdn] at HALL HCALL
    clear hv hok hl hra hx hR hdn
    go_enter Try.func6, Try.ntmps6
    go_upto_region 7 with (first
      | (go_at_call 19; refine (c_copied _ _ L HVB.out HL.out).mono ?_; rintro e w1 ⟨v1, rfl, h1, hb⟩; have S1 := hid h1; have HB1 := hid hb; clear h1 hb)
      | (go_at_call 22; refine (HCALL.out _ _ S1.out.rd).mono ?_; rintro e w2 ⟨g, cp, ov, rfl, hvb, hg, hov, hb⟩; have A2 := hid hvb; have HB2 := hid (HB1.out.trans (hb.mono HB1.out.size)); have hg2 : w.heap.size ≤ g := Nat.le_trans HB1.out.size hg; clear hvb hb hov hg))
    have R2 : Hid (w2.rangeAt g0 (o0 + m * 52) x.cs) := range_same (HB2.out.block g0 hg0) (HRA.out m x HX.out)
    go_upto_region 8 with (first
      | ((with_reducible refine wpL_hload (d := some 65) g0 (o0 + m * 52) x.h ?_ ?_ ?_); rfl; exact rangeHead R2.out)
      | ((with_reducible refine wpList_new (z := .agg HV.zero.ca) HV.zero.ca ?_ ?_ ?_); rfl; exact z_hart)
      | ((with_reducible refine wpL_storeH1 w2.heap.size HV.zero x.h ?_ ?_ ?_ ?_); rfl; rfl; exact H1.new HV.zero; intro w3 h3 ho3; have A3 := hid h3; have G3 := hid (only_below ((Below.refl w2.heap.size w2).alloc (Nat.le_refl _) (.cells HV.zero.ca 30)) (Nat.le_refl _) ho3 (by simp)); have B3 := hid (A2.out.below G3.out); have HB3 := hid (HB2.out.trans (G3.out.mono HB2.out.size)); have hgl : g < w2.heap.size := A2.out.lt; have hwb : w.heap.size ≤ w2.heap.size := HB2.out.size; clear h3 ho3))
    clear A2 S1 HB1 R2 HCALL G3
    generalize w2.heap.size = b11 at *
    go_wp2_with fail
    go_loopw [12] (fun c wr => ∃ (k : Nat), k ≤ L.length ∧ c = .int .i64 k ∧ Vb wr g R ∧ H1 wr b11 x.h ∧ Below w.heap.size w wr) (fun i _ => L.length - (intOf i).toNat)
    case atStart => exact ⟨0, by omega, rfl, B3.out, A3.out, HB3.out⟩
    case round =>
      clear B3 A3 HB3
      obtain ⟨k, hk, rfl, hvb, hh, hb⟩ := hrel
      have A5 := hid hvb
      have H5 := hid hh
      have HB5 := hid hb
      clear hvb hh hb
      by_cases hlt : k < L.length
      · obtain ⟨y, hy⟩ : ∃ y, L[k]? = some y := ⟨_, List.getElem?_eq_getElem hlt⟩
        obtain ⟨z, hz⟩ : ∃ z, R[k]? = some z := ⟨_, List.getElem?_eq_getElem (by rw [HLEN.out]; exact hlt)⟩
        have HY := hid hy
        have HZ := hid hz
        have HYK := hid (HK.out y (List.mem_of_getElem? hy)).h
        have R5 : Hid (wr.rangeAt g0 (o0 + k * 52) y.cs) := range_same (HB5.out.block g0 hg0) (HRA.out k y hy)
        have hwr : w.heap.size ≤ wr.heap.size := HB5.out.size
        clear hy hz
        go_upto_region 13 with (first
          | ((with_reducible refine wpL_vload (d := some 75) g0 (o0 + k * 52) y ?_ ?_ ?_); rfl; exact R5.out)
          | ((with_reducible refine wpList_new (z := .agg VV.zero.ca) VV.zero.ca ?_ ?_ ?_); rfl; exact z_vcpu)
          | ((with_reducible refine wpL_store1 (x := .tmp 13) (y := .tmp 75) wr.heap.size VV.zero y ?_ ?_ ?_ ?_); rfl; rfl; exact V1.new VV.zero; intro w6 h6 ho6; have V6 := hid h6; have G6 := hid (only_below ((Below.refl wr.heap.size wr).alloc (Nat.le_refl _) (.cells VV.zero.ca 32)) (Nat.le_refl _) ho6 (by simp)); clear h6 ho6)
          | ((with_reducible refine wpL_hload (d := some 77) wr.heap.size 0 y.h ?_ ?_ ?_); rfl; exact V6.out.rangeH)
          | (go_at_call 25; refine (r_Order y.h HYK.out _).mono ?_; rintro e w7 ⟨rfl, hb⟩; have V7 := hid (V6.out.below hb); have G7 := hid (G6.out.trans (hb.mono G6.out.size)); clear hb)
          | ((with_reducible refine wpL_storeh1 (x := .tmp 79) (y := .tmp 78) wr.heap.size y (ordH y.h) ?_ ?_ ?_ ?_); rfl; rfl; exact V7.out; intro w8 h8 ho8; have V8 : Hid (V1 w8 wr.heap.size (ordV y)) := hid h8; have G8 := hid (only_below G7.out (Nat.le_refl _) ho8 G7.out.size); clear h8 ho8))
        have A8 := hid (A5.out.below G8.out)
        have H8 := hid (H5.out.below G8.out)
        have HB8 := hid (HB5.out.trans (G8.out.mono HB5.out.size))
        clear V6 V7 G6 G7
        have RZ : Hid (∀ u, (∃ n, u = w8.drewN n) → u.rangeAt g (k * 52) z.cs) := fun u ⟨n, hn⟩ => by rw [hn]; exact (A8.out.same rfl : Vb (w8.drewN n) g R).range HZ.out
        have RY : Hid (∀ u, (∃ n, u = w8.drewN n) → u.rangeAt wr.heap.size 0 (ordV y).cs) := fun u ⟨n, hn⟩ => by rw [hn]; exact (show V1 (w8.drewN n) wr.heap.size (ordV y) from V8.out).range
        simp only [Act.put]
        by_cases hmk : k = m
        · subst hmk
          refine wp_region_quiet_lit (by kernel_rfl) (by kernel_rfl) ?_
          repeat
            first
              | go_big_quiet_step (fail)
          refine wpQuiet_nil ?_
          intro _ hw'
          obtain ⟨nq, hw''⟩ := hw'
          subst hw''
          go_wp2_with fail
          go_roundw
          case rel => exact ⟨k + 1, by omega, by go_num, A8.out.same rfl, H8.out, below_dn HB8.out _⟩
          case measure => simp [intOf]; omega
        · have hkm : ((k : Int) == (m : Int)) = false := by simp; omega
          have HAL := hid (HALL.out k y z (fun e => hmk e.symm) HY.out HZ.out)
          cases hE : eqV z (ordV y) with
          | true =>
            refine wp_region_quiet_lit (by kernel_rfl) (by kernel_rfl) ?_
            repeat
              first
                | (((with_reducible refine wpQ_vload g (k * 52) z ?_ ?_ RZ.out ?_); rfl; rfl); simp only [Act.put, List.setIfInBounds_toArray, List.set_cons_succ, List.set_cons_zero])
                | (((with_reducible refine wpQ_vload wr.heap.size 0 (ordV y) ?_ ?_ RY.out ?_); rfl; rfl); simp only [Act.put, List.setIfInBounds_toArray, List.set_cons_succ, List.set_cons_zero])
                | (((with_reducible refine wpQ_eqV z (ordV y) ?_ ?_ ?_ ?_); rfl; rfl; rfl; rw [hE]); simp only [Act.put, List.setIfInBounds_toArray, List.set_cons_succ, List.set_cons_zero])
                | go_big_quiet_step (fail)
            refine wpQuiet_nil ?_
            intro _ hw'
            obtain ⟨nq, hw''⟩ := hw'
            subst hw''
            go_wp2_with fail
            go_roundw
            case rel => exact ⟨k + 1, by omega, by go_num, A8.out.same rfl, H8.out, below_dn HB8.out _⟩
            case measure => simp [intOf]; omega
          | false =>
            refine wp_region_quiet_lit (by kernel_rfl) (by kernel_rfl) ?_
            repeat
              first
                | (((with_reducible refine wpQ_vload g (k * 52) z ?_ ?_ RZ.out ?_); rfl; rfl); simp only [Act.put, List.setIfInBounds_toArray, List.set_cons_succ, List.set_cons_zero])
                | (((with_reducible refine wpQ_vload wr.heap.size 0 (ordV y) ?_ ?_ RY.out ?_); rfl; rfl); simp only [Act.put, List.setIfInBounds_toArray, List.set_cons_succ, List.set_cons_zero])
                | (((with_reducible refine wpQ_eqV z (ordV y) ?_ ?_ ?_ ?_); rfl; rfl; rfl; rw [hE]); simp only [Act.put, List.setIfInBounds_toArray, List.set_cons_succ, List.set_cons_zero])
                | go_big_quiet_step (fail)
            refine wpQuiet_nil ?_
            intro _ hw'
            obtain ⟨nq, hw''⟩ := hw'
            subst hw''
            have A9 : Hid (Vb (w8.drewN nq) g R) := A8.out.same rfl
            have H9 : Hid (H1 (w8.drewN nq) b11 x.h) := H8.out
            have V9 : Hid (V1 (w8.drewN nq) wr.heap.size (ordV y)) := V8.out
            have HB9 : Hid (Below w.heap.size w (w8.drewN nq)) := below_dn HB8.out nq
            have hwr9 : wr.heap.size < (w8.drewN nq).heap.size := V8.out.lt
            clear A8 H8 V8 HB8 RZ RY G8
            generalize w8.drewN nq = w9 at *
            have d17 : w9.cell? ⟨b11, 17, none⟩ = some (.int .u64 (x.h.x 17)) := H9.out.c 17
            have d16 : w9.cell? ⟨b11, 16, none⟩ = some (.int .u64 (x.h.x 16)) := H9.out.c 16
            have d10 : w9.cell? ⟨b11, 10, none⟩ = some (.int .u64 (x.h.x 10)) := H9.out.c 10
            have e49 : w9.cell? ⟨wr.heap.size, 49, none⟩ = some (.int .i64 y.st) := V9.out.c 49
            have z49 : w9.cell? ⟨g, k * 52 + 49, none⟩ = some (.int .i64 z.st) := A9.out.cell HZ.out 49 (by omega)
            have hk63 : (k : Int) < 9223372036854775808 := by omega
            have hE' := hE
            clear hE
            rcases HAL.out with hq | ⟨⟨h17, h16, h10, hys⟩, hzs⟩ | ⟨⟨h17, h16⟩, hzs⟩ | ⟨hdn, hzs, h17⟩
            · rw [hq, eqV_self] at hE'; cases hE'
            · rw [h17] at d17
              rw [h16] at d16
              rw [h10] at d10
              rw [hys] at e49
              rw [hzs] at z49
              clear HAL hE'
              go_upto_region 19 with (first
                | ((with_reducible refine wpL_vload (d := some 122) wr.heap.size 0 (ordV y) ?_ ?_ ?_); rfl; exact V9.out.range)
                | ((with_reducible refine wpL_vload (d := some 129) wr.heap.size 0 (ordV y) ?_ ?_ ?_); rfl; exact V12.out.range)
                | ((with_reducible refine wpList_new (z := .agg VV.zero.ca) VV.zero.ca ?_ ?_ ?_); rfl; exact z_vcpu)
                | ((with_reducible refine wpL_store1 (x := .tmp 15) (y := .tmp 122) w9.heap.size VV.zero (ordV y) ?_ ?_ ?_ ?_); rfl; rfl; exact V1.new VV.zero; intro w10 h10 ho10; have P10 := hid h10; have G10 := hid (only_below ((Below.refl w9.heap.size w9).alloc (Nat.le_refl _) (.cells VV.zero.ca 32)) (Nat.le_refl _) ho10 (by simp)); have p46 : w10.cell? ⟨w9.heap.size, 46, none⟩ = some (.int .u64 (ordV y).h.sip) := h10.c 46; clear h10 ho10)
                | ((with_reducible refine wpL_1cell w9.heap.size 46 (ordV y) (sentV y) (.int .u64 (bits .or .u64 (ordV y).h.sip 2)) ?_ ?_ ?_ ?_ ?_ ?_ ?_ ?_); exact .inl rfl; exact .inl ⟨_, _, rfl⟩; omega; rfl; rfl; rfl; exact P10.out; intro w12 h12 ho12; have P12 := hid h12; have G12 := hid (only_below G10.out (Nat.le_refl _) ho12 G10.out.size); have V12 := hid (V9.out.below G12.out); clear h12 ho12 p46)
                | ((with_reducible refine wpL_store1 (x := .tmp 16) (y := .tmp 129) w12.heap.size VV.zero (ordV y) ?_ ?_ ?_ ?_); rfl; rfl; exact V1.new VV.zero; intro w13 h13 ho13; have P13 := hid h13; have G13 := hid (only_below ((Below.refl w12.heap.size w12).alloc (Nat.le_refl _) (.cells VV.zero.ca 32)) (Nat.le_refl _) ho13 (by simp)); clear h13 ho13)
                | ((with_reducible refine wpL_1cell w12.heap.size 49 (ordV y) (stopV (ordV y)) (.int .i64 0) ?_ ?_ ?_ ?_ ?_ ?_ ?_ ?_); exact .inr (.inl rfl); exact .inl ⟨_, _, rfl⟩; omega; rfl; rfl; rfl; exact P13.out; intro w14 h14 ho14; have P14 := hid h14; have G14 := hid (only_below G13.out (Nat.le_refl _) ho14 G13.out.size); clear h14 ho14))
              have G15 := hid (G12.out.trans (G14.out.mono G12.out.size))
              have A14 := hid (A9.out.below G15.out)
              have H14 := hid (H9.out.below G15.out)
              have HB14 := hid (HB9.out.trans (G15.out.mono HB9.out.size))
              have S14 := hid (P12.out.below G14.out)
              simp only [Act.put]
              have f17 : ∀ u, (∃ n, u = w14.drewN n) → True := fun _ _ => trivial
              have k17 : w14.cell? ⟨b11, 17, none⟩ = some (.int .u64 (x.h.x 17)) := H14.out.c 17
              have k16 : w14.cell? ⟨b11, 16, none⟩ = some (.int .u64 (x.h.x 16)) := H14.out.c 16
              clear f17
              rw [h17] at k17
              have RZ : Hid (∀ u, (∃ n, u = w14.drewN n) → u.rangeAt g (k * 52) z.cs) := fun u ⟨n, hn⟩ => by rw [hn]; exact (A14.out.same rfl : Vb (w14.drewN n) g R).range HZ.out
              have RS : Hid (∀ u, (∃ n, u = w14.drewN n) → u.rangeAt w9.heap.size 0 (sentV y).cs) := fun u ⟨n, hn⟩ => by rw [hn]; exact (show V1 (w14.drewN n) w9.heap.size (sentV y) from S14.out).range
              have RT : Hid (∀ u, (∃ n, u = w14.drewN n) → u.rangeAt w12.heap.size 0 (stopV (ordV y)).cs) := fun u ⟨n, hn⟩ => by rw [hn]; exact (show V1 (w14.drewN n) w12.heap.size (stopV (ordV y)) from P14.out).range
              refine wp_region_quiet_lit (by kernel_rfl) (by kernel_rfl) ?_
              repeat
                first
                  | go_big_quiet_step (fail)
              refine wpQuiet_nil ?_
              intro _ hw'
              obtain ⟨nq, hw''⟩ := hw'
              subst hw''
              go_wp2_with fail
              go_roundw
              case rel => exact ⟨k + 1, by omega, by go_num, A14.out.same rfl, H14.out, below_dn HB14.out _⟩
              case measure => simp [intOf]; omega
            · rw [h17] at d17
              rw [h16] at d16
              clear HAL hE' d10 e49 z49
              go_upto_region 19 with (first
                | ((with_reducible refine wpL_vload (d := some 122) wr.heap.size 0 (ordV y) ?_ ?_ ?_); rfl; exact V9.out.range)
                | ((with_reducible refine wpL_vload (d := some 129) wr.heap.size 0 (ordV y) ?_ ?_ ?_); rfl; exact V12.out.range)
                | ((with_reducible refine wpList_new (z := .agg VV.zero.ca) VV.zero.ca ?_ ?_ ?_); rfl; exact z_vcpu)
                | ((with_reducible refine wpL_store1 (x := .tmp 15) (y := .tmp 122) w9.heap.size VV.zero (ordV y) ?_ ?_ ?_ ?_); rfl; rfl; exact V1.new VV.zero; intro w10 h10 ho10; have P10 := hid h10; have G10 := hid (only_below ((Below.refl w9.heap.size w9).alloc (Nat.le_refl _) (.cells VV.zero.ca 32)) (Nat.le_refl _) ho10 (by simp)); have p46 : w10.cell? ⟨w9.heap.size, 46, none⟩ = some (.int .u64 (ordV y).h.sip) := h10.c 46; clear h10 ho10)
                | ((with_reducible refine wpL_1cell w9.heap.size 46 (ordV y) (sentV y) (.int .u64 (bits .or .u64 (ordV y).h.sip 2)) ?_ ?_ ?_ ?_ ?_ ?_ ?_ ?_); exact .inl rfl; exact .inl ⟨_, _, rfl⟩; omega; rfl; rfl; rfl; exact P10.out; intro w12 h12 ho12; have P12 := hid h12; have G12 := hid (only_below G10.out (Nat.le_refl _) ho12 G10.out.size); have V12 := hid (V9.out.below G12.out); clear h12 ho12 p46)
                | ((with_reducible refine wpL_store1 (x := .tmp 16) (y := .tmp 129) w12.heap.size VV.zero (ordV y) ?_ ?_ ?_ ?_); rfl; rfl; exact V1.new VV.zero; intro w13 h13 ho13; have P13 := hid h13; have G13 := hid (only_below ((Below.refl w12.heap.size w12).alloc (Nat.le_refl _) (.cells VV.zero.ca 32)) (Nat.le_refl _) ho13 (by simp)); clear h13 ho13)
                | ((with_reducible refine wpL_1cell w12.heap.size 49 (ordV y) (stopV (ordV y)) (.int .i64 0) ?_ ?_ ?_ ?_ ?_ ?_ ?_ ?_); exact .inr (.inl rfl); exact .inl ⟨_, _, rfl⟩; omega; rfl; rfl; rfl; exact P13.out; intro w14 h14 ho14; have P14 := hid h14; have G14 := hid (only_below G13.out (Nat.le_refl _) ho14 G13.out.size); clear h14 ho14))
              have G15 := hid (G12.out.trans (G14.out.mono G12.out.size))
              have A14 := hid (A9.out.below G15.out)
              have H14 := hid (H9.out.below G15.out)
              have HB14 := hid (HB9.out.trans (G15.out.mono HB9.out.size))
              have S14 := hid (P12.out.below G14.out)
              simp only [Act.put]
              have f17 : ∀ u, (∃ n, u = w14.drewN n) → True := fun _ _ => trivial
              have k17 : w14.cell? ⟨b11, 17, none⟩ = some (.int .u64 (x.h.x 17)) := H14.out.c 17
              have k16 : w14.cell? ⟨b11, 16, none⟩ = some (.int .u64 (x.h.x 16)) := H14.out.c 16
              clear f17
              rw [h17] at k17
              have RZ : Hid (∀ u, (∃ n, u = w14.drewN n) → u.rangeAt g (k * 52) z.cs) := fun u ⟨n, hn⟩ => by rw [hn]; exact (A14.out.same rfl : Vb (w14.drewN n) g R).range HZ.out
              have RS : Hid (∀ u, (∃ n, u = w14.drewN n) → u.rangeAt w9.heap.size 0 (sentV y).cs) := fun u ⟨n, hn⟩ => by rw [hn]; exact (show V1 (w14.drewN n) w9.heap.size (sentV y) from S14.out).range
              have RT : Hid (∀ u, (∃ n, u = w14.drewN n) → u.rangeAt w12.heap.size 0 (stopV (ordV y)).cs) := fun u ⟨n, hn⟩ => by rw [hn]; exact (show V1 (w14.drewN n) w12.heap.size (stopV (ordV y)) from P14.out).range
              rw [h16] at k16
              refine wp_region_quiet_lit (by kernel_rfl) (by kernel_rfl) ?_
              repeat
                first
                  | (((with_reducible refine wpQ_vload g (k * 52) z ?_ ?_ RZ.out ?_); rfl; rfl); simp only [Act.put, List.setIfInBounds_toArray, List.set_cons_succ, List.set_cons_zero])
                  | (((with_reducible refine wpQ_vload w9.heap.size 0 (sentV y) ?_ ?_ RS.out ?_); rfl; rfl); simp only [Act.put, List.setIfInBounds_toArray, List.set_cons_succ, List.set_cons_zero])
                  | (((with_reducible refine wpQ_eqV z (sentV y) ?_ ?_ ?_ ?_); rfl; rfl; rfl; rw [hzs, eqV_self]); simp only [Act.put, List.setIfInBounds_toArray, List.set_cons_succ, List.set_cons_zero])
                  | go_big_quiet_step (fail)
              refine wpQuiet_nil ?_
              intro _ hw'
              obtain ⟨nq, hw''⟩ := hw'
              subst hw''
              go_wp2_with fail
              go_roundw
              case rel => exact ⟨k + 1, by omega, by go_num, A14.out.same rfl, H14.out, below_dn HB14.out _⟩
              case measure => simp [intOf]; omega
            · rw [h17] at d17
              subst hdn
              clear HAL hE' d16 d10 e49 z49
              go_upto_region 19 with (first
                | ((with_reducible refine wpL_vload (d := some 122) wr.heap.size 0 (ordV y) ?_ ?_ ?_); rfl; exact V9.out.range)
                | ((with_reducible refine wpL_vload (d := some 129) wr.heap.size 0 (ordV y) ?_ ?_ ?_); rfl; exact V12.out.range)
                | ((with_reducible refine wpList_new (z := .agg VV.zero.ca) VV.zero.ca ?_ ?_ ?_); rfl; exact z_vcpu)
                | ((with_reducible refine wpL_store1 (x := .tmp 15) (y := .tmp 122) w9.heap.size VV.zero (ordV y) ?_ ?_ ?_ ?_); rfl; rfl; exact V1.new VV.zero; intro w10 h10 ho10; have P10 := hid h10; have G10 := hid (only_below ((Below.refl w9.heap.size w9).alloc (Nat.le_refl _) (.cells VV.zero.ca 32)) (Nat.le_refl _) ho10 (by simp)); have p46 : w10.cell? ⟨w9.heap.size, 46, none⟩ = some (.int .u64 (ordV y).h.sip) := h10.c 46; clear h10 ho10)
                | ((with_reducible refine wpL_1cell w9.heap.size 46 (ordV y) (sentV y) (.int .u64 (bits .or .u64 (ordV y).h.sip 2)) ?_ ?_ ?_ ?_ ?_ ?_ ?_ ?_); exact .inl rfl; exact .inl ⟨_, _, rfl⟩; omega; rfl; rfl; rfl; exact P10.out; intro w12 h12 ho12; have P12 := hid h12; have G12 := hid (only_below G10.out (Nat.le_refl _) ho12 G10.out.size); have V12 := hid (V9.out.below G12.out); clear h12 ho12 p46)
                | ((with_reducible refine wpL_store1 (x := .tmp 16) (y := .tmp 129) w12.heap.size VV.zero (ordV y) ?_ ?_ ?_ ?_); rfl; rfl; exact V1.new VV.zero; intro w13 h13 ho13; have P13 := hid h13; have G13 := hid (only_below ((Below.refl w12.heap.size w12).alloc (Nat.le_refl _) (.cells VV.zero.ca 32)) (Nat.le_refl _) ho13 (by simp)); clear h13 ho13)
                | ((with_reducible refine wpL_1cell w12.heap.size 49 (ordV y) (stopV (ordV y)) (.int .i64 0) ?_ ?_ ?_ ?_ ?_ ?_ ?_ ?_); exact .inr (.inl rfl); exact .inl ⟨_, _, rfl⟩; omega; rfl; rfl; rfl; exact P13.out; intro w14 h14 ho14; have P14 := hid h14; have G14 := hid (only_below G13.out (Nat.le_refl _) ho14 G13.out.size); clear h14 ho14))
              have G15 := hid (G12.out.trans (G14.out.mono G12.out.size))
              have A14 := hid (A9.out.below G15.out)
              have H14 := hid (H9.out.below G15.out)
              have HB14 := hid (HB9.out.trans (G15.out.mono HB9.out.size))
              have S14 := hid (P12.out.below G14.out)
              simp only [Act.put]
              have f17 : ∀ u, (∃ n, u = w14.drewN n) → True := fun _ _ => trivial
              have k17 : w14.cell? ⟨b11, 17, none⟩ = some (.int .u64 (x.h.x 17)) := H14.out.c 17
              have k16 : w14.cell? ⟨b11, 16, none⟩ = some (.int .u64 (x.h.x 16)) := H14.out.c 16
              clear f17
              rw [h17] at k17
              have RZ : Hid (∀ u, (∃ n, u = w14.drewN n) → u.rangeAt g (k * 52) z.cs) := fun u ⟨n, hn⟩ => by rw [hn]; exact (A14.out.same rfl : Vb (w14.drewN n) g R).range HZ.out
              have RS : Hid (∀ u, (∃ n, u = w14.drewN n) → u.rangeAt w9.heap.size 0 (sentV y).cs) := fun u ⟨n, hn⟩ => by rw [hn]; exact (show V1 (w14.drewN n) w9.heap.size (sentV y) from S14.out).range
              have RT : Hid (∀ u, (∃ n, u = w14.drewN n) → u.rangeAt w12.heap.size 0 (stopV (ordV y)).cs) := fun u ⟨n, hn⟩ => by rw [hn]; exact (show V1 (w14.drewN n) w12.heap.size (stopV (ordV y)) from P14.out).range
              refine wp_region_quiet_lit (by kernel_rfl) (by kernel_rfl) ?_
              repeat
                first
                  | (((with_reducible refine wpQ_vload g (k * 52) z ?_ ?_ RZ.out ?_); rfl; rfl); simp only [Act.put, List.setIfInBounds_toArray, List.set_cons_succ, List.set_cons_zero])
                  | (((with_reducible refine wpQ_vload w12.heap.size 0 (stopV (ordV y)) ?_ ?_ RT.out ?_); rfl; rfl); simp only [Act.put, List.setIfInBounds_toArray, List.set_cons_succ, List.set_cons_zero])
                  | (((with_reducible refine wpQ_eqV z (stopV (ordV y)) ?_ ?_ ?_ ?_); rfl; rfl; rfl; rw [hzs, eqV_self]); simp only [Act.put, List.setIfInBounds_toArray, List.set_cons_succ, List.set_cons_zero])
                  | go_big_quiet_step (fail)
              refine wpQuiet_nil ?_
              intro _ hw'
              obtain ⟨nq, hw''⟩ := hw'
              subst hw''
              go_wp2_with fail
              go_roundw
              case rel => exact ⟨k + 1, by omega, by go_num, A14.out.same rfl, H14.out, below_dn HB14.out _⟩
              case measure => simp [intOf]; omega
      · obtain rfl : k = L.length := by omega
        go_wp2_with (go_at_call 14; refine (v_awake _).mono ?_; rintro e w9 ⟨rfl, hb⟩; have HB9 := hid (HB5.out.trans (hb.mono HB5.out.size)); clear hb)
        go_ret
        exact ⟨rfl, HB9.out⟩
end Go.Proofs.Yteafjobmlfkppaa
