/- The document's Ready. -/
import Derived.Test.YteafjobmlfkppaaMH3
import Derived.Test.YteafjobmlfkppaaMH2
namespace Go.Proofs.Yteafjobmlfkppaa
open Go.RowKit
set_option linter.unusedVariables false
set_option maxRecDepth 100000

theorem sW_ff (o : HV) (h0 : 0 ≤ o.sip) (h1 : o.sip < 18446744073709551616) : sW o false false = bits .and .u64 o.sip 2 := by
  have a := and_r o.sip 2 h0 h1 (by omega) (by omega)
  simp only [sW, cond_false]
  rw [or0 _ a.1 a.2, or0 _ a.1 a.2]
theorem sW_tf (o : HV) (h0 : 0 ≤ o.sip) (h1 : o.sip < 18446744073709551616) : sW o true false = bits .or .u64 (bits .and .u64 o.sip 2) 32 := by
  have a := and_r o.sip 2 h0 h1 (by omega) (by omega)
  have b := or_r _ 32 a.1 a.2 (by omega) (by omega)
  simp only [sW, cond_false, cond_true]
  rw [or0 _ b.1 b.2]
theorem sW_ft (o : HV) (h0 : 0 ≤ o.sip) (h1 : o.sip < 18446744073709551616) : sW o false true = bits .or .u64 (bits .and .u64 o.sip 2) 512 := by
  have a := and_r o.sip 2 h0 h1 (by omega) (by omega)
  simp only [sW, cond_false, cond_true]
  rw [or0 _ a.1 a.2]
theorem sW_tt (o : HV) : sW o true true = bits .or .u64 (bits .or .u64 (bits .and .u64 o.sip 2) 32) 512 := rfl
set_option maxHeartbeats 4000000 in
theorem r_ReadyW (x : VV) (o : HV) (h0 : 0 ≤ o.sip) (h1 : o.sip < 18446744073709551616) (now : Int) (ext : Bool) (w : World) (hI : ∀ u, Calls Try.prog 32 #[x.v] u fun e w' => e = .returned (VV.v { x with h := o }) ∧ Below u.heap.size u w') : Calls Try.prog 16 #[x.v, .int .u64 now, .bool ext] w fun e w' => e = .returned (readyW x o (x.ar && decide (x.dl ≤ now)) ext).v ∧ Below w.heap.size w w' := by
  have HI := hid hI
  clear hI
  have A1 : Hid (V1 ((w.alloc (.cells x.ca 32)).alloc (.cells VV.zero.ca 32)) w.heap.size x) := V1.new1 x _
  have A2 : Hid (V1 ((w.alloc (.cells x.ca 32)).alloc (.cells VV.zero.ca 32)) (w.heap.size + 1) VV.zero) := V1.new2 VV.zero _
  have HB0 := hid (below2 (w := w) (.cells x.ca 32) (.cells VV.zero.ca 32))
  have hc : (x.ar = true ∧ x.dl ≤ now) ∨ (x.ar = true ∧ ¬ x.dl ≤ now) ∨ x.ar = false := by
    cases x.ar <;> by_cases q : x.dl ≤ now <;> simp [q]
  obtain ⟨d, hd⟩ : ∃ d, (x.ar && decide (x.dl ≤ now)) = d := ⟨_, rfl⟩
  rw [hd]
  obtain ⟨s, hs⟩ : ∃ s, s = sW o d ext := ⟨_, rfl⟩
  have HW : Hid (readyW x o d ext = ⟨{ o with sip := s }, if x.st = 2 ∧ bits .and .u64 s o.sie ≠ 0 then 1 else x.st, x.ar, x.dl⟩) := by rw [hs]; rfl
  rw [HW.out]
  clear HW
  obtain ⟨t, ht⟩ : ∃ t : Int, t = if x.st = 2 ∧ bits .and .u64 s o.sie ≠ 0 then 1 else x.st := ⟨_, rfl⟩
  rw [← ht]
  have HT := hid ht
  clear ht
  go_enter Try.func16, Try.ntmps16
  go_upto_region 2 with (first
    | ((with_reducible refine wpList_new (z := .agg VV.zero.ca) VV.zero.ca ?_ ?_ ?_); rfl; exact z_vcpu)
    | ((with_reducible refine wpL_vload (d := some 8) w.heap.size 0 x ?_ ?_ ?_); rfl; exact A1.out.range)
    | (go_at_call 32; refine (HI.out _).mono ?_; rintro e w1 ⟨rfl, hb⟩; have B1 := hid (A1.out.below hb); have B2 := hid (A2.out.below hb); have HB1 := hid (HB0.out.trans (hb.mono HB0.out.size)); clear hb)
    | ((with_reducible refine wpL_store1 (x := .tmp 3) (y := .tmp 9) w.heap.size x { x with h := o } ?_ ?_ ?_ ?_); rfl; rfl; exact B1.out; intro w2 h2 ho2; have C1 := hid h2; have C2 := hid (B2.out.only ho2 (fun (q : _ = _) => by omega)); have HB2 := hid (only_below HB1.out (Nat.le_refl _) ho2 HB1.out.size); clear h2 ho2))
  have c46 : w2.cell? ⟨w.heap.size, 46, none⟩ = some (.int .u64 o.sip) := C1.out.c 46
  have c51 : w2.cell? ⟨w.heap.size, 51, none⟩ = some (.int .u64 x.dl) := C1.out.c 51
  rcases hc with ⟨ha, hn⟩ | ⟨ha, hn⟩ | ha <;> cases ext
  all_goals
    have c50 : w2.cell? ⟨w.heap.size, 50, none⟩ = some (.bool x.ar) := C1.out.c 50
    rw [ha] at c50 hd
    first | rw [Bool.false_and] at hd | rw [show decide (x.dl ≤ now) = true from decide_eq_true (by omega), Bool.and_true] at hd | rw [show decide (x.dl ≤ now) = false from decide_eq_false (by omega), Bool.and_false] at hd
    rw [← hd] at hs
    clear hd
    have HW := hid (by first | exact hs.trans (sW_tt o) | exact hs.trans (sW_tf o h0 h1) | exact hs.trans (sW_ft o h0 h1) | exact hs.trans (sW_ff o h0 h1))
    clear hs
    go_upto_region 8 with ((with_reducible refine wpL_1cell w.heap.size 46 { x with h := o } { x with h := { o with sip := s } } (.int .u64 s) ?_ ?_ ?_ ?_ ?_ ?_ ?_ ?_); exact .inl rfl; exact .inl ⟨_, _, rfl⟩; omega; rfl; rfl; rw [HW.out]; rfl; exact C1.out; intro w3 h3 ho3; have D1 := hid h3; have D2 := hid (C2.out.only ho3 (fun (q : _ = _) => by omega)); have HB3 := hid (only_below HB2.out (Nat.le_refl _) ho3 HB2.out.size); clear h3 ho3)
    rw [← HW.out]
    clear HW c46 c50 c51
    have c46 : w3.cell? ⟨w.heap.size, 46, none⟩ = some (.int .u64 s) := D1.out.c 46
    have c45 : w3.cell? ⟨w.heap.size, 45, none⟩ = some (.int .u64 o.sie) := D1.out.c 45
    have c49 : w3.cell? ⟨w.heap.size, 49, none⟩ = some (.int .i64 x.st) := D1.out.c 49
    by_cases h2 : x.st = 2
    · by_cases hq : bits .and .u64 s o.sie = 0
      · have HX : Hid ((if x.st = 2 ∧ bits .and .u64 s o.sie ≠ 0 then 1 else x.st) = x.st) := if_neg (fun q => q.2 hq)
        go_wp2_with (first
          | ((with_reducible refine wpL_vload (d := some 42) w.heap.size 0 { x with h := { o with sip := s } } ?_ ?_ ?_); rfl; exact D1.out.range)
          | ((with_reducible refine wpL_store1 (x := .tmp 6) (y := .tmp 42) (w.heap.size + 1) VV.zero { x with h := { o with sip := s } } ?_ ?_ ?_ ?_); rfl; rfl; exact D2.out; intro w6 h6 ho6; have F1 := hid h6; have HB6 := hid (only_below HB3.out (by omega) ho6 HB3.out.size); clear h6 ho6))
        exact bodyPost_ret (ret_v Try.results16 (w.heap.size + 1) _ rfl F1.out) rfl ⟨by first | (rw [HT.out.trans HX.out]; done) | (rw [HT.out.trans HX.out, ha]; done), HB6.out⟩
      · have HX : Hid ((if x.st = 2 ∧ bits .and .u64 s o.sie ≠ 0 then 1 else x.st) = 1) := if_pos ⟨h2, hq⟩
        go_wp2_with (first
          | ((with_reducible refine wpL_1cell w.heap.size 49 { x with h := { o with sip := s } } { x with st := 1, h := { o with sip := s } } (.int .i64 1) ?_ ?_ ?_ ?_ ?_ ?_ ?_ ?_); exact .inr (.inl rfl); exact .inl ⟨_, _, rfl⟩; omega; rfl; rfl; rfl; exact D1.out; intro w4 h4 ho4; have E1 := hid h4; have E2 := hid (D2.out.only ho4 (fun (q : _ = _) => by omega)); have HB5 := hid (only_below HB3.out (Nat.le_refl _) ho4 HB3.out.size); clear h4 ho4)
          | ((with_reducible refine wpL_vload (d := some 42) w.heap.size 0 { x with st := 1, h := { o with sip := s } } ?_ ?_ ?_); rfl; exact E1.out.range)
          | ((with_reducible refine wpL_store1 (x := .tmp 6) (y := .tmp 42) (w.heap.size + 1) VV.zero { x with st := 1, h := { o with sip := s } } ?_ ?_ ?_ ?_); rfl; rfl; exact E2.out; intro w6 h6 ho6; have F1 := hid h6; have HB6 := hid (only_below HB5.out (by omega) ho6 HB5.out.size); clear h6 ho6))
        exact bodyPost_ret (ret_v Try.results16 (w.heap.size + 1) _ rfl F1.out) rfl ⟨by first | (rw [HT.out.trans HX.out]; done) | (rw [HT.out.trans HX.out, ha]; done), HB6.out⟩
    · have HX : Hid ((if x.st = 2 ∧ bits .and .u64 s o.sie ≠ 0 then 1 else x.st) = x.st) := if_neg (fun q => h2 q.1)
      go_wp2_with (first
        | ((with_reducible refine wpL_vload (d := some 42) w.heap.size 0 { x with h := { o with sip := s } } ?_ ?_ ?_); rfl; exact D1.out.range)
        | ((with_reducible refine wpL_store1 (x := .tmp 6) (y := .tmp 42) (w.heap.size + 1) VV.zero { x with h := { o with sip := s } } ?_ ?_ ?_ ?_); rfl; rfl; exact D2.out; intro w6 h6 ho6; have F1 := hid h6; have HB6 := hid (only_below HB3.out (by omega) ho6 HB3.out.size); clear h6 ho6))
      exact bodyPost_ret (ret_v Try.results16 (w.heap.size + 1) _ rfl F1.out) rfl ⟨by first | (rw [HT.out.trans HX.out]; done) | (rw [HT.out.trans HX.out, ha]; done), HB6.out⟩
theorem r_Ready (x : VV) (ok : HOk x.h) (now : Int) (ext : Bool) (w : World) : Calls Try.prog 16 #[x.v, .int .u64 now, .bool ext] w fun e w' => e = .returned (readyV x now ext).v ∧ Below w.heap.size w w' :=
  r_ReadyW x (ordH x.h) (ordOk ok).sip.1 (ordOk ok).sip.2 now ext w fun u => r_order x ok u
end Go.Proofs.Yteafjobmlfkppaa
namespace Go.Proofs.Yteafjobmlfkppaa
open Go.RowKit
set_option linter.unusedVariables false
set_option maxRecDepth 100000

theorem same_refl {L : List VV} : ∀ (k : Nat) (x y : VV), L[k]? = some x → L[k]? = some y → x.cs = y.cs := fun k x y hx hy => by rw [hx] at hy; cases hy; rfl
set_option maxHeartbeats 4000000 in
theorem w_VcpuReadies (w : World) (x : VV) (ok : VOk x) (now : Int) (n0 : 0 ≤ now) (n1 : now < 18446744073709551616) (ext : Bool) (ad : Option Addr) (la cap : Nat) (L : List VV) (hL : Vr w (.slice ad la cap) L ∧ (∀ x ∈ L, VOk x) ∧ L.length = la)
    (i : Int) (i0 : -9223372036854775808 ≤ i) (i1 : i ≤ 9223372036854775807) (gpa : Int) (p0 : 0 ≤ gpa) (p1 : gpa < 18446744073709551616) (hl : la * 368 ≤ 140737488355328) :
    Calls Try.prog 4 #[x.v, .int .u64 now, .bool ext, .slice ad la cap, .int .i64 i, .int .u64 gpa] w fun e w' => e = .returned (.bool true) ∧ Below w.heap.size w w' := by
  obtain ⟨hv, hok, hla⟩ := hL
  have HV := hid hv
  have HK := hid hok
  have HLN : Hid (L.length * 368 ≤ 140737488355328) := by show L.length * 368 ≤ _; rw [hla]; exact hl
  clear hv hok hla hl
  obtain ⟨t, ht⟩ : ∃ t, t = readyV x now ext := ⟨_, rfl⟩
  obtain ⟨u, hu⟩ : ∃ u, u = waitV x := ⟨_, rfl⟩
  have R1 : Hid (∀ w, Calls Try.prog 15 #[x.v, .int .u64 now, .bool ext] w fun e w' => e = .returned t.v ∧ Below w.heap.size w w') := fun w => by rw [ht]; exact v_Ready x ok.h now ext w
  have R2 : Hid (∀ w, Calls Try.prog 16 #[x.v, .int .u64 now, .bool ext] w fun e w' => e = .returned t.v ∧ Below w.heap.size w w') := fun w => by rw [ht]; exact r_Ready x ok.h now ext w
  have R3 : Hid (∀ w, Calls Try.prog 17 #[x.v] w fun e w' => e = .returned u.v ∧ Below w.heap.size w w') := fun w => by rw [hu]; exact v_Wait x w
  have R4 : Hid (∀ w, Calls Try.prog 18 #[x.v] w fun e w' => e = .returned u.v ∧ Below w.heap.size w w') := fun w => by rw [hu]; exact r_Wait x w
  clear ht hu ok
  have A1 : Hid (V1 (w.alloc (.cells x.ca 32)) w.heap.size x) := V1.new x
  have HB0 := hid ((Below.refl w.heap.size w).alloc (Nat.le_refl _) (.cells x.ca 32))
  have HR : Hid (∀ w', (∃ y : WB (w.alloc (.cells x.ca 32)), w' = y.w) → w'.rangeAt w.heap.size 0 x.cs) := fun w' ⟨y, hy⟩ => by rw [hy]; exact (A1.out.below y.h).range
  go_enter Try.func4, Try.ntmps4
  go_wp2_with fail
  refine wp_region_wb (by kernel_rfl) (by kernel_rfl) ?_
  repeat
    first
      | ((with_reducible refine wpQ_vload w.heap.size 0 x ?_ ?_ HR.out ?_); rfl; rfl)
      | ((with_reducible refine wpQ_neV t t ?_ ?_ ?_ ?_); rfl; rfl; rfl; rw [eqV_self, Bool.not_true])
      | ((with_reducible refine wpQ_neV u u ?_ ?_ ?_ ?_); rfl; rfl; rfl; rw [eqV_self, Bool.not_true])
      | (refine wpQuiet_step (fun K hK => ?_)
         go_simp
         first
           | (refine hK _ ?_; clear hK K)
           | (refine ⟨_, fun _ => rfl, hK _ ?_⟩; clear hK K)
           | (refine ⟨t.v, fun y => ?_, hK _ ?_⟩
              · first
                  | (go_at_call 15; exact Calls.wb y (R1.out y.w))
                  | (go_at_call 16; exact Calls.wb y (R2.out y.w))
              clear hK K)
           | (refine ⟨u.v, fun y => ?_, hK _ ?_⟩
              · first
                  | (go_at_call 17; exact Calls.wb y (R3.out y.w))
                  | (go_at_call 18; exact Calls.wb y (R4.out y.w))
              clear hK K))
  refine wpQuiet_nil ?_
  intro w1 hy
  have HB1 : Hid (Below w.heap.size w w1) := by obtain ⟨y, rfl⟩ := hy; exact HB0.out.trans (y.h.mono HB0.out.size)
  clear hy A1 HR
  have V1' := hid (HV.out.below HB1.out)
  go_wp2_with (first
    | (go_at_call 19; refine (c_copied _ _ L V1'.out HLN.out).mono ?_; rintro e w2 ⟨v2, rfl, h2, hb⟩; have S2 := hid h2; have HB2 := hid (HB1.out.trans (hb.mono HB1.out.size)); clear h2 hb)
    | (go_at_call 20; refine (v_Wrote _ _ L S2.out.rd HLN.out i i0 i1 gpa p0 p1 (fun x hx => (HK.out x hx).h.resv)).mono ?_; rintro e w3 ⟨v3, rfl, h3, hb⟩; have S3 := hid h3; have S2' := hid (S2.out.below (hb.mono (Nat.le_refl _))); have HB3 := hid (HB2.out.trans (hb.mono HB2.out.size)); have V3 := hid (HV.out.below HB3.out); clear h3 hb)
    | ((with_reducible go_at_call 11); refine (v_Same _ v2 _ L L S2'.out.rd V3.out rfl same_refl (by have := HLN.out; omega)).mono ?_; rintro e w4 ⟨rfl, hs⟩; have S4 := hid (S3.out.rd.same hs.heap); have HB4 := hid (HB3.out.trans (hs.below _)); have V4 := hid (HV.out.below HB4.out); clear hs S2')
    | (go_at_call 21; refine (r_Wrote _ _ L V4.out HLN.out i i0 i1 gpa p0 p1 (fun x hx => (HK.out x hx).h.resv)).mono ?_; rintro e w5 ⟨v5, rfl, h5, hb⟩; have S5 := hid h5; have S4' := hid (S4.out.below (hb.mono (Nat.le_refl _))); have HB5 := hid (HB4.out.trans (hb.mono HB4.out.size)); clear h5 hb)
    | (go_at_call 11; refine (v_Same _ v3 v5 _ _ S4'.out S5.out.rd rfl same_refl (by have := HLN.out; simp; omega)).mono ?_; rintro e w6 ⟨rfl, hs⟩; have HB6 := hid (HB5.out.trans (hs.below _)); clear hs)
    | (go_at_call 14; refine (v_awake _).mono ?_; rintro e w7 ⟨rfl, hb⟩; have HB7 := hid (HB6.out.trans (hb.mono HB6.out.size)); clear hb))
  go_ret
  exact ⟨rfl, HB7.out⟩
end Go.Proofs.Yteafjobmlfkppaa
namespace Go.Proofs.Yteafjobmlfkppaa
open Go.RowKit
set_option linter.unusedVariables false
set_option maxRecDepth 100000

theorem nmOf_eq {k f a b : Int} (h : nmOf k f = (a, b)) (ha : a ≠ 1) : k = a ∧ f = b := by
  unfold nmOf at h
  split at h
  · rename_i q
    simp only [Prod.mk.injEq] at h
    exact absurd (h.1.symm.trans q) ha
  · simpa using h
theorem ordX (x : VV) (r : Nat) (h : r ≠ 0) : (ordV x).h.x r = x.h.x r := by simp [ordV, ordH, zx, h]
def sentV (y : VV) : VV := { ordV y with h := { (ordV y).h with sip := bits .or .u64 (ordV y).h.sip 2 } }
def AloneP (x : VV) (k : Nat) (y z : VV) (dn : Bool) : Prop := z = ordV y ∨ ((x.h.x 17 = 4739917 ∧ x.h.x 16 = 0 ∧ x.h.x 10 = k ∧ y.st = 0) ∧ z.st = 1) ∨ ((x.h.x 17 = 7557193 ∧ x.h.x 16 = 0) ∧ z = sentV y) ∨ (dn = true ∧ z = stopV (ordV y) ∧ x.h.x 17 = 1397904212)
theorem finL_ne (M : List VV) (i : Nat) (av : AV) (k : Nat) (h : i ≠ k) : (finL M i av)[k]? = M[k]? := by
  unfold finL
  split
  · rfl
  · split
    · rfl
    · rw [List.getElem?_set_ne h]
theorem finL_len (M : List VV) (i : Nat) (av : AV) : (finL M i av).length = M.length := by
  unfold finL
  split
  · rfl
  · split <;> simp
theorem callF_len (L : List VV) (i : Nat) (x : VV) : (callF L i x).1.length = L.length := by
  unfold callF
  simp only
  rw [finL_len, ans_len, ordL_len]
theorem alone (L : List VV) (i : Nat) (x : VV) (ok : HOk x.h) (k : Nat) (y z : VV) (hk : i ≠ k) (hy : L[k]? = some y) (hz : (callF L i x).1[k]? = some z) : AloneP x k y z (callF L i x).2.1.dn := by
  have hP : (ordL L)[k]? = some (ordV y) := ordL_get L k y hy
  unfold callF at hz ⊢
  simp only at hz ⊢
  rw [finL_ne _ _ _ _ hk] at hz
  have e17 := ordX x 17 (by decide)
  have e16 := ordX x 16 (by decide)
  have e10 := ordX x 10 (by decide)
  by_cases w : ∃ n ∈ calI, keyN n = nmOf ((ordV x).h.x 17) ((ordV x).h.x 16)
  · obtain ⟨n, hn, e⟩ := w
    unfold ansF at hz ⊢
    rw [← e] at hz ⊢
    simp only [calI, List.mem_cons, List.not_mem_nil, or_false] at hn
    rcases hn with rfl | rfl | rfl | rfl | rfl | rfl | rfl | rfl | rfl
    · rw [ansG_2] at hz; rw [hP] at hz; exact .inl (Option.some.inj hz).symm
    · rw [ansG_5] at hz; rw [hP] at hz; exact .inl (Option.some.inj hz).symm
    · rw [ansG_8] at hz; rw [List.getElem?_set_ne hk, hP] at hz; exact .inl (Option.some.inj hz).symm
    · rw [ansG_11] at hz; rw [hP] at hz; exact .inl (Option.some.inj hz).symm
    · rw [ansG_14] at hz
      obtain ⟨q1, q2⟩ := nmOf_eq (a := 7557193) (b := 0) e.symm (by decide)
      simp only [List.getElem?_mapIdx, hP, Option.map_some, Option.some.injEq] at hz
      unfold snV at hz
      split at hz
      · exact .inr (.inr (.inl ⟨⟨e17 ▸ q1, e16 ▸ q2⟩, hz.symm⟩))
      · exact .inl hz.symm
    · rw [ansG_17] at hz
      obtain ⟨q1, q2⟩ := nmOf_eq (a := 4739917) (b := 0) e.symm (by decide)
      unfold startL at hz
      split at hz
      · rw [hP] at hz; exact .inl (Option.some.inj hz).symm
      · rename_i t ht
        split at hz
        · rw [hP] at hz; exact .inl (Option.some.inj hz).symm
        · rename_i hst
          by_cases hn : ((ordV x).h.x 10).toNat = k
          · subst hn
            rw [List.getElem?_set_self (List.getElem?_eq_some_iff.1 hP).1] at hz
            rw [hP] at ht
            obtain rfl := Option.some.inj ht
            refine .inr (.inl ⟨⟨e17 ▸ q1, e16 ▸ q2, ?_, by simpa [ordV] using hst⟩, by rw [← Option.some.inj hz]; rfl⟩)
            have := (ok.x 10).1
            rw [e10]
            omega
          · rw [List.getElem?_set_ne hn, hP] at hz
            exact .inl (Option.some.inj hz).symm
    · rw [ansG_20] at hz; rw [List.getElem?_set_ne hk, hP] at hz; exact .inl (Option.some.inj hz).symm
    · rw [ansG_23] at hz; rw [hP] at hz; exact .inl (Option.some.inj hz).symm
    · rw [ansG_26] at hz ⊢
      obtain ⟨q1, q2⟩ := nmOf_eq (a := 1397904212) (b := 0) e.symm (by decide)
      simp only [List.getElem?_mapIdx, hP, Option.map_some, Option.some.injEq] at hz
      exact .inr (.inr (.inr ⟨rfl, hz.symm, e17 ▸ q1⟩))
  · unfold ansF at hz
    rw [ansG_no _ (fun n hn e => w ⟨n, hn, e⟩)] at hz
    rw [hP] at hz
    exact .inl (Option.some.inj hz).symm
end Go.Proofs.Yteafjobmlfkppaa
namespace Go.Proofs.Yteafjobmlfkppaa
open Go.RowKit
set_option linter.unusedVariables false
set_option maxRecDepth 100000

theorem fill1 (x : VV) : Instr.fill (fun i => some (i * 52, 52)) ((Array.range (1 * 52)).map ((Value.agg VV.zero.ca).cells[· % (Value.agg VV.zero.ca).cells.size]!)) [(0, x.v)] = some x.ca := by kernel_rfl
/-- a list of one -/
theorem wpL_slice1 {ops : Array Oper} {rest : List Oper} {d : Option Nat} {tt : TypeId} {y : Operand} {pos : String} {after : Array Edge} {a : Act} {w : World} {Q : Exit → Act → World → Prop}
    (x : VV) (hy : a.eval y = x.v) (K : wpList Try.prog ops Q rest (a.put d (.slice (some ⟨w.heap.size, 0, none⟩) 1 1)) (w.alloc (.cells (vflat [x]).toArray 32))) :
    wpList Try.prog ops Q ({ dst := d, op := Op.buildSlice 24 1 #[(0, y)], type := tt, pos := pos, after := after, guard := none } :: rest) a w := by
  obtain ⟨i, hi1, hz, hs, hb⟩ := info_parts info_v
  refine wpList_buildSlice rfl 24 32 1 #[(0, y)] rfl x.ca i (.agg VV.zero.ca) u_sV hi1 hz (by rw [hs]; decide) (by rw [hs]; decide) ?_ ?_
  · rw [hs]
    have e : ((#[(0, y)] : Array (Nat × Operand)).map fun (i, x) => (i, a.eval x)).toList = [(0, x.v)] := by simp [hy]
    rw [e]
    exact fill1 x
  · have e : (vflat [x]).toArray = x.ca := by simp [vflat, VV.ca]
    rw [e] at K
    exact K
theorem and0 (s : Int) (h0 : 0 ≤ s) (h1 : s < 18446744073709551616) : bits .and .u64 (bits .andNot .u64 s 32) 32 = 0 := by
  rw [u64_andNot s 32 h0 h1 (by omega) (by omega)]
  have hb : s.toNat &&& (18446744073709551615 - (32 : Int).toNat) ≤ s.toNat := Nat.and_le_left
  rw [u64_and _ 32 (by omega) (by omega) (by omega) (by omega), Int.toNat_natCast, Nat.and_assoc, show (18446744073709551615 - (32 : Int).toNat) &&& (32 : Int).toNat = 0 by decide, Nat.and_zero]
  rfl
theorem rdy (o : HV) (h0 : 0 ≤ o.sip) (h1 : o.sip < 18446744073709551616) (d : Bool) : (bits .and .u64 (sW o d false) 32 != 0) = d := by
  have a := and_r o.sip 2 h0 h1 (by omega) (by omega)
  have hb : o.sip.toNat &&& (2 : Int).toNat ≤ o.sip.toNat := Nat.and_le_left
  cases d with
  | false =>
    rw [sW_ff o h0 h1, u64_and o.sip 2 h0 h1 (by omega) (by omega), u64_and _ 32 (by omega) (by omega) (by omega) (by omega), Int.toNat_natCast, Nat.and_assoc, show (2 : Int).toNat &&& (32 : Int).toNat = 0 by decide, Nat.and_zero]
    rfl
  | true =>
    rw [sW_tf o h0 h1, u64_and o.sip 2 h0 h1 (by omega) (by omega), u64_or _ 32 (by omega) (by omega) (by omega) (by omega), Int.toNat_natCast]
    have hc : o.sip.toNat &&& (2 : Int).toNat ||| (32 : Int).toNat < 2 ^ 64 := Nat.or_lt_two_pow (by omega) (by decide)
    rw [u64_and _ 32 (by omega) (by omega) (by omega) (by omega), Int.toNat_natCast, Nat.and_or_distrib_right, Nat.and_assoc, show (2 : Int).toNat &&& (32 : Int).toNat = 0 by decide, Nat.and_zero]
    rfl
/-- the bit of the clock -/
def B5 (n : Int) : Prop := n.toNat.testBit 5 = true ∧ 0 ≤ n ∧ n < 18446744073709551616
theorem B5.or (n : Int) (h0 : 0 ≤ n) (h1 : n < 18446744073709551616) : B5 (bits .or .u64 n 32) := by
  have r := or_r n 32 h0 h1 (by omega) (by omega)
  refine ⟨?_, r⟩
  rw [u64_or n 32 h0 h1 (by omega) (by omega), Int.toNat_natCast, Nat.testBit_or, show ((32 : Int).toNat).testBit 5 = true by decide, Bool.or_true]
theorem B5.ib {n : Int} (h : B5 n) : B5 (ib n) := by
  have r := and_r n 546 h.2.1 h.2.2 (by omega) (by omega)
  refine ⟨?_, r⟩
  unfold Go.Proofs.Yteafjobmlfkppaa.ib
  rw [u64_and n 546 h.2.1 h.2.2 (by omega) (by omega), Int.toNat_natCast, Nat.testBit_and, h.1, show ((546 : Int).toNat).testBit 5 = true by decide]
  rfl
theorem B5.and {a b : Int} (ha : B5 a) (hb : B5 b) : bits .and .u64 a b ≠ 0 := by
  rw [u64_and a b ha.2.1 ha.2.2 hb.2.1 hb.2.2]
  intro h
  have : a.toNat &&& b.toNat = 0 := by omega
  have t := Nat.testBit_and a.toNat b.toNat 5
  rw [this, ha.1, hb.1] at t
  simp at t
theorem B5.sW (o : HV) (h0 : 0 ≤ o.sip) (h1 : o.sip < 18446744073709551616) : B5 (sW o true false) := by
  rw [sW_tf o h0 h1]
  have a := and_r o.sip 2 h0 h1 (by omega) (by omega)
  exact B5.or _ a.1 a.2
def reg (x : VV) (r : Nat) (v : Int) : VV := { x with h := { x.h with x := upd x.h.x r v } }
def tick (v : VV) : VV := finV (tmV (ordV v) (v.h.x 10)) 0 0
theorem callF_tick (v : VV) (h17 : v.h.x 17 = 1414090053) (h16 : v.h.x 16 = 0) : callF [v] 0 v = ([tick v], AV.zero, none) := by
  have e : ansF (ordL [v]) 0 (ordV v) = ([tmV (ordV v) (v.h.x 10)], AV.zero, none) := by
    unfold ansF
    rw [ordX v 17 (by decide), ordX v 16 (by decide), h17, h16, show nmOf 1414090053 0 = keyN 8 by decide, ansG_8, ordX v 10 (by decide)]
    rfl
  unfold callF
  rw [e]
  rfl
theorem c_tick (u : World) (s : Nat) (v : VV) (ok : HOk v.h) (h17 : v.h.x 17 = 1414090053) (h16 : v.h.x 16 = 0) (hs : Vb u s [v]) : Calls Try.prog 22 #[.slice (some ⟨s, 0, none⟩) 1 1, .int .i64 0] u fun e w' => ∃ g cap, e = .returned (.tuple #[.slice (some ⟨g, 0, none⟩) 1 cap, .slice none 0 0, .bool false]) ∧ Vb w' g [tick v] ∧ u.heap.size ≤ g ∧ Below u.heap.size u w' := by
  have h := v_Call u (.slice (some ⟨s, 0, none⟩) 1 1) [v] hs.rd (by simp) (fun x hx => by simp at hx; subst hx; exact ok) 0 v rfl
  rw [callF_tick v h17 h16] at h
  refine h.mono ?_
  rintro e w' ⟨g, cap, ov, rfl, hv, hg, ho, hb⟩
  obtain rfl : ov = nils := ho
  exact ⟨g, cap, rfl, hv, hg, hb⟩
theorem wrap_r (n : Int) : 0 ≤ IntKind.u64.wrap n ∧ IntKind.u64.wrap n < 18446744073709551616 := by
  rw [IntKind.wrap_u64]
  omega
theorem andNot_r (n m : Int) (h0 : 0 ≤ n) (h1 : n < 18446744073709551616) (m0 : 0 ≤ m) (m1 : m < 18446744073709551616) : 0 ≤ bits .andNot .u64 n m ∧ bits .andNot .u64 n m < 18446744073709551616 := by
  rw [u64_andNot n m h0 h1 m0 m1]
  have : n.toNat &&& (18446744073709551615 - m.toNat) ≤ n.toNat := Nat.and_le_left
  omega
theorem tick_ok (v : VV) (ok : HOk v.h) : HOk (tick v).h := by
  have o := ordOk ok
  have h1 : HOk ({ (ordH v.h) with sip := bits .andNot .u64 (ordH v.h).sip 32 } : HV) := { o with sip := andNot_r _ 32 o.sip.1 o.sip.2 (by omega) (by omega) }
  have h2 : HOk ({ (ordH v.h) with sip := bits .andNot .u64 (ordH v.h).sip 32, pc := IntKind.u64.wrap ((ordH v.h).pc + 4) } : HV) := { h1 with pc := wrap_r _ }
  have h3 := HOk.x1 h2 10 0 (by omega) (by omega)
  exact HOk.x1 h3 11 0 (by omega) (by omega)
theorem tick_sip (v : VV) (ok : HOk v.h) : bits .and .u64 (tick v).h.sip 32 = 0 := and0 _ (ordOk ok).sip.1 (ordOk ok).sip.2
end Go.Proofs.Yteafjobmlfkppaa
namespace Go.Proofs.Yteafjobmlfkppaa
open Go.RowKit
set_option linter.unusedVariables false
set_option maxRecDepth 100000

theorem sW_r (o : HV) (h0 : 0 ≤ o.sip) (h1 : o.sip < 18446744073709551616) (d e : Bool) : 0 ≤ sW o d e ∧ sW o d e < 18446744073709551616 := by
  have a := and_r o.sip 2 h0 h1 (by omega) (by omega)
  have b : 0 ≤ bits .or .u64 (bits .and .u64 o.sip 2) (bif d then 32 else 0) ∧ bits .or .u64 (bits .and .u64 o.sip 2) (bif d then 32 else 0) < 18446744073709551616 := by cases d <;> exact or_r _ _ a.1 a.2 (by decide) (by decide)
  cases e <;> exact or_r _ _ b.1 b.2 (by decide) (by decide)
theorem ready_ok (x : VV) (ok : HOk x.h) (now : Int) (e : Bool) : HOk (readyV x now e).h := { ordOk ok with sip := sW_r _ (ordOk ok).sip.1 (ordOk ok).sip.2 _ _ }
def armV (x : VV) (a : Int) : VV := reg (reg (reg x 17 1414090053) 16 0) 10 a
theorem arm_ok (x : VV) (ok : HOk x.h) (a : Int) (a0 : 0 ≤ a) (a1 : a < 18446744073709551616) : HOk (armV x a).h := HOk.x1 (HOk.x1 (HOk.x1 ok 17 1414090053 (by omega) (by omega)) 16 0 (by omega) (by omega)) 10 a a0 a1
def fstV (x : VV) (a : Int) : VV := { armV x a with st := 1, h := { (armV x a).h with sie := bits .or .u64 x.h.sie 32 } }
theorem fst_ok (x : VV) (ok : HOk x.h) (a : Int) (a0 : 0 ≤ a) (a1 : a < 18446744073709551616) : HOk (fstV x a).h := { arm_ok x ok a a0 a1 with sie := or_r _ 32 ok.sie.1 ok.sie.2 (by omega) (by omega) }
def T1 (x : VV) (a now : Int) : VV := readyV (waitV (tick (fstV x a))) now false
theorem T1_st (x : VV) (ok : HOk x.h) (a now : Int) (a0 : 0 ≤ a) (a1 : a < 18446744073709551616) (h : a ≤ now) : (T1 x a now).st = 1 := by
  have ok2 := tick_ok _ (fst_ok x ok a a0 a1)
  have hb : B5 (ordH (waitV (tick (fstV x a))).h).sie := (B5.ib (B5.or x.h.sie ok.sie.1 ok.sie.2)).ib
  have hs := B5.sW (ordH (waitV (tick (fstV x a))).h) (ordOk ok2).sip.1 (ordOk ok2).sip.2
  have hd : ((waitV (tick (fstV x a))).ar && decide ((waitV (tick (fstV x a))).dl ≤ now)) = true := by
    show (true && decide (a ≤ now)) = true
    simp [h]
  unfold T1 readyV readyW
  simp only
  rw [hd, if_pos ⟨rfl, hs.and hb⟩]
theorem T1_st2 (x : VV) (a now : Int) (h : (T1 x a now).st = 1) : bits .and .u64 (T1 x a now).h.sip (T1 x a now).h.sie ≠ 0 := by
  unfold T1 readyV readyW at h ⊢
  simp only at h ⊢
  split at h
  · rename_i q
    exact q.2
  · have : (waitV (tick (fstV x a))).st = 2 := rfl
    omega
theorem T1_sip (x : VV) (ok : HOk x.h) (a now : Int) (a0 : 0 ≤ a) (a1 : a < 18446744073709551616) : (bits .and .u64 (T1 x a now).h.sip 32 != 0) = decide (a ≤ now) := by
  have ok2 := tick_ok _ (fst_ok x ok a a0 a1)
  have := rdy (ordH (waitV (tick (fstV x a))).h) (ordOk ok2).sip.1 (ordOk ok2).sip.2 (decide (a ≤ now))
  exact this
theorem T2_sip (x : VV) (ok : HOk x.h) (a now : Int) (a0 : 0 ≤ a) (a1 : a < 18446744073709551616) : (bits .and .u64 (readyV (tick (armV x a)) now false).h.sip 32 != 0) = decide (a ≤ now) := by
  have ok2 := tick_ok _ (arm_ok x ok a a0 a1)
  have := rdy (ordH (tick (armV x a)).h) (ordOk ok2).sip.1 (ordOk ok2).sip.2 (decide (a ≤ now))
  exact this
set_option maxHeartbeats 16000000 in
theorem w_VcpuTimers (w : World) (x : VV) (ok : VOk x) (at_ : Int) (a0 : 0 ≤ at_) (a1 : at_ < 18446744073709551616) (now : Int) (n0 : 0 ≤ now) (n1 : now < 18446744073709551616) (ag : Int) (g0 : 0 ≤ ag) (g1 : ag < 18446744073709551616) :
    Calls Try.prog 7 #[x.v, .int .u64 at_, .int .u64 now, .int .u64 ag] w fun e w' => e = .returned (.bool true) ∧ Below w.heap.size w w' := by
  have P0 := hid (V1.new (w := w) x)
  have HB0 := hid ((Below.refl w.heap.size w).alloc (Nat.le_refl _) (.cells x.ca 32))
  obtain ⟨q, hq⟩ : ∃ q, q = tick (fstV x at_) := ⟨_, rfl⟩
  obtain ⟨r, hr⟩ : ∃ r, r = T1 x at_ now := ⟨_, rfl⟩
  have okq : HOk q.h := by rw [hq]; exact tick_ok _ (fst_ok x ok.h at_ a0 a1)
  have okr : HOk r.h := by rw [hr]; exact ready_ok _ (by exact tick_ok _ (fst_ok x ok.h at_ a0 a1)) now false
  obtain ⟨y, hy⟩ : ∃ y, y = readyV (tick (armV r ag)) now false := ⟨_, rfl⟩
  have OKX := hid ok.h
  have OKF := hid (fst_ok x ok.h at_ a0 a1)
  have OKQ := hid okq
  have OKR := hid okr
  have OKA := hid (arm_ok r okr ag g0 g1)
  have OKT := hid (tick_ok _ OKA.out)
  have s32 : bits .and .u64 q.h.sip 32 = 0 := by rw [hq]; exact tick_sip _ OKF.out
  have rs : (bits .and .u64 r.h.sip 32 != 0) = decide (at_ ≤ now) := by rw [hr]; exact T1_sip x ok.h at_ now a0 a1
  have ys : (bits .and .u64 y.h.sip 32 != 0) = decide (ag ≤ now) := by rw [hy]; exact T2_sip r okr ag now g0 g1
  have rt1 := hid (fun h : at_ ≤ now => (by rw [hr]; exact T1_st x ok.h at_ now a0 a1 h : r.st = 1))
  have rt2 := hid (fun h : r.st = 1 => (by rw [hr] at h ⊢; exact T1_st2 x at_ now h : bits .and .u64 r.h.sip r.h.sie ≠ 0))
  have HW : Hid (waitV q = { q with st := 2 }) := by show waitV q = _; rw [hq]; rfl
  have q10 : q.h.x 10 = 0 := by rw [hq]; rfl
  have CT1 : Hid (∀ u s, Vb u s [fstV x at_] → Calls Try.prog 22 #[.slice (some ⟨s, 0, none⟩) 1 1, .int .i64 0] u fun e w' => ∃ g cap, e = .returned (.tuple #[.slice (some ⟨g, 0, none⟩) 1 cap, .slice none 0 0, .bool false]) ∧ Vb w' g [q] ∧ u.heap.size ≤ g ∧ Below u.heap.size u w') := fun u s h => by rw [hq]; exact c_tick u s _ OKF.out rfl rfl h
  have CR1 : Hid (∀ u, Calls Try.prog 15 #[VV.v { q with st := 2 }, .int .u64 now, .bool false] u fun e w' => e = .returned r.v ∧ Below u.heap.size u w') := fun u => by
    have := v_Ready { q with st := 2 } okq now false u
    rw [hr]
    unfold T1
    rw [← hq, HW.out]
    exact this
  have CT2 : Hid (∀ u s, Vb u s [armV r ag] → Calls Try.prog 22 #[.slice (some ⟨s, 0, none⟩) 1 1, .int .i64 0] u fun e w' => ∃ g cap, e = .returned (.tuple #[.slice (some ⟨g, 0, none⟩) 1 cap, .slice none 0 0, .bool false]) ∧ Vb w' g [tick (armV r ag)] ∧ u.heap.size ≤ g ∧ Below u.heap.size u w') := fun u s h => c_tick u s _ OKA.out rfl rfl h
  have CR2 : Hid (∀ u, Calls Try.prog 15 #[(tick (armV r ag)).v, .int .u64 now, .bool false] u fun e w' => e = .returned y.v ∧ Below u.heap.size u w') := fun u => by rw [hy]; exact v_Ready _ OKT.out now false u
  generalize tick (armV r ag) = tk at CT2 CR2 OKT
  clear hq hr hy ok okq okr
  go_enter Try.func7, Try.ntmps7
  go_upto_region 1 with fail
  generalize w.alloc (.cells x.ca 32) = wz at *
  go_upto_region 7 with (first
    | ((with_reducible refine wpL_1cell w.heap.size 17 x (reg x 17 1414090053) (.int .u64 1414090053) ?_ ?_ ?_ ?_ ?_ ?_ ?_ ?_); exact .inl rfl; exact .inl ⟨_, _, rfl⟩; omega; rfl; rfl; rfl; exact P0.out; intro w1 h1 ho1; have P1 := hid h1; have HB1 := hid (only_below HB0.out (Nat.le_refl _) ho1 HB0.out.size); clear h1 ho1)
    | ((with_reducible refine wpL_1cell w.heap.size 16 (reg x 17 1414090053) (reg (reg x 17 1414090053) 16 0) (.int .u64 0) ?_ ?_ ?_ ?_ ?_ ?_ ?_ ?_); exact .inl rfl; exact .inl ⟨_, _, rfl⟩; omega; rfl; rfl; rfl; exact P1.out; intro w2 h2 ho2; have P2 := hid h2; have HB2 := hid (only_below HB1.out (Nat.le_refl _) ho2 HB1.out.size); clear h2 ho2)
    | ((with_reducible refine wpL_1cell w.heap.size 10 (reg (reg x 17 1414090053) 16 0) (armV x at_) (.int .u64 at_) ?_ ?_ ?_ ?_ ?_ ?_ ?_ ?_); exact .inl rfl; exact .inl ⟨_, _, rfl⟩; omega; rfl; rfl; rfl; exact P2.out; intro w3 h3 ho3; have P3 := hid h3; have HB3 := hid (only_below HB2.out (Nat.le_refl _) ho3 HB2.out.size); have e45 : w3.cell? ⟨w.heap.size, 45, none⟩ = some (.int .u64 x.h.sie) := h3.c 45; clear h3 ho3)
    | ((with_reducible refine wpL_1cell w.heap.size 45 (armV x at_) { armV x at_ with h := { (armV x at_).h with sie := bits .or .u64 x.h.sie 32 } } (.int .u64 (bits .or .u64 x.h.sie 32)) ?_ ?_ ?_ ?_ ?_ ?_ ?_ ?_); exact .inl rfl; exact .inl ⟨_, _, rfl⟩; omega; rfl; rfl; rfl; exact P3.out; intro w4 h4 ho4; have P4 := hid h4; have HB4 := hid (only_below HB3.out (Nat.le_refl _) ho4 HB3.out.size); clear h4 ho4 e45)
    | ((with_reducible refine wpL_1cell w.heap.size 49 { armV x at_ with h := { (armV x at_).h with sie := bits .or .u64 x.h.sie 32 } } (fstV x at_) (.int .i64 1) ?_ ?_ ?_ ?_ ?_ ?_ ?_ ?_); exact .inr (.inl rfl); exact .inl ⟨_, _, rfl⟩; omega; rfl; rfl; rfl; exact P4.out; intro w5 h5 ho5; have P5 := hid h5; have HB5 := hid (only_below HB4.out (Nat.le_refl _) ho5 HB4.out.size); clear h5 ho5)
    | ((with_reducible refine wpL_vload (d := some 33) w.heap.size 0 (fstV x at_) ?_ ?_ ?_); rfl; exact P5.out.range)
    | ((with_reducible refine wpL_slice1 (fstV x at_) ?_ ?_); rfl)
    | (go_at_call 22; refine (CT1.out _ _ (vb_new w5 [fstV x at_])).mono ?_; rintro e w6 ⟨ga, ca, rfl, hv, hg, hb⟩; have A6 := hid hv; have HB6 := hid (HB5.out.trans (((Below.refl w.heap.size w5).alloc HB5.out.size _).trans (hb.mono (by simp; have := HB5.out.size; omega)))); clear hv hb hg))
  have k10 : w6.cell? ⟨ga, 10, none⟩ = some (.int .u64 0) := (A6.out.cell (i := 0) (x := q) rfl 10 (by omega)).trans (by rw [← q10]; rfl)
  have k46 : w6.cell? ⟨ga, 46, none⟩ = some (.int .u64 q.h.sip) := A6.out.cell (i := 0) (x := q) rfl 46 (by omega)
  have R6 : Hid (w6.rangeAt ga 0 q.cs) := by have := A6.out.range (i := 0) (x := q) rfl; rwa [Nat.zero_mul] at this
  go_upto_region 11 with (first
    | ((with_reducible refine wpL_vload (d := some 62) ga 0 q ?_ ?_ ?_); rfl; exact R6.out)
    | (go_at_call 17; refine (v_Wait q _).mono ?_; rintro e w7 ⟨rfl, hb⟩; rw [HW.out]; have HB7 := hid (HB6.out.trans (hb.mono HB6.out.size)); clear hb k10 k46)
    | ((with_reducible refine wpList_new (z := .agg VV.zero.ca) VV.zero.ca ?_ ?_ ?_); rfl; exact z_vcpu)
    | ((with_reducible refine wpL_store1 (x := .tmp 12) (y := .tmp 63) w7.heap.size VV.zero { q with st := 2 } ?_ ?_ ?_ ?_); rfl; rfl; exact V1.new VV.zero; intro w8 h8 ho8; have P8 := hid h8; have G8 := hid (only_below ((Below.refl w7.heap.size w7).alloc (Nat.le_refl _) (.cells VV.zero.ca 32)) (Nat.le_refl _) ho8 (by simp)); have HB8 := hid (HB7.out.trans (G8.out.mono HB7.out.size)); clear h8 ho8)
    | ((with_reducible refine wpL_vload (d := some 64) w7.heap.size 0 { q with st := 2 } ?_ ?_ ?_); rfl; exact P8.out.range)
    | (go_at_call 15; refine (CR1.out _).mono ?_; rintro e w9 ⟨rfl, hb⟩; have P9 := hid (P8.out.below hb); have HB9 := hid (HB8.out.trans (hb.mono HB8.out.size)); clear hb)
    | ((with_reducible refine wpL_store1 (x := .tmp 13) (y := .tmp 66) w9.heap.size VV.zero r ?_ ?_ ?_ ?_); rfl; rfl; exact V1.new VV.zero; intro w10 h10 ho10; have R10 := hid h10; have G10 := hid (only_below ((Below.refl w9.heap.size w9).alloc (Nat.le_refl _) (.cells VV.zero.ca 32)) (Nat.le_refl _) ho10 (by simp)); have P10 := hid (P9.out.below G10.out); have HB10 := hid (HB9.out.trans (G10.out.mono HB9.out.size)); clear h10 ho10))
  have k49 : w10.cell? ⟨w7.heap.size, 49, none⟩ = some (.int .i64 2) := P10.out.c 49
  have r46 : w10.cell? ⟨w9.heap.size, 46, none⟩ = some (.int .u64 r.h.sip) := R10.out.c 46
  have r45 : w10.cell? ⟨w9.heap.size, 45, none⟩ = some (.int .u64 r.h.sie) := R10.out.c 45
  have r49 : w10.cell? ⟨w9.heap.size, 49, none⟩ = some (.int .i64 r.st) := R10.out.c 49
  clear P8 P9 P10 G8 G10 A6 R6 P0 P1 P2 P3 P4 P5 CT1 CR1
  have hcase : (at_ ≤ now ∧ r.st = 1) ∨ (¬ at_ ≤ now ∧ r.st = 1 ∧ ¬ bits .and .u64 r.h.sip r.h.sie = 0) ∨ (¬ at_ ≤ now ∧ (r.st == 1) = false) := by
    by_cases h : at_ ≤ now
    · exact .inl ⟨h, rt1.out h⟩
    · by_cases h2 : r.st = 1
      · exact .inr (.inl ⟨h, h2, rt2.out h2⟩)
      · exact .inr (.inr ⟨h, by simpa using h2⟩)
  have h2case : ag ≤ now ∨ ¬ ag ≤ now := by omega
  rcases hcase with ⟨hd, hst⟩ | ⟨hd, hst, hz⟩ | ⟨hd, hst⟩ <;> rcases h2case with hg | hg
  all_goals
    first | rw [decide_eq_true hd] at rs | rw [decide_eq_false hd] at rs
    first | rw [decide_eq_true hg] at ys | rw [decide_eq_false hg] at ys
    try rw [hst] at r49
    go_wp2_with (first
      | ((with_reducible refine wpL_1cell w9.heap.size 17 r (reg r 17 1414090053) (.int .u64 1414090053) ?_ ?_ ?_ ?_ ?_ ?_ ?_ ?_); exact .inl rfl; exact .inl ⟨_, _, rfl⟩; omega; rfl; rfl; rfl; exact R10.out; intro w11 h11 ho11; have P11 := hid h11; have HB11 := hid (only_below HB10.out HB9.out.size ho11 HB10.out.size); clear h11 ho11 k49 r46 r45 r49)
      | ((with_reducible refine wpL_1cell w9.heap.size 16 (reg r 17 1414090053) (reg (reg r 17 1414090053) 16 0) (.int .u64 0) ?_ ?_ ?_ ?_ ?_ ?_ ?_ ?_); exact .inl rfl; exact .inl ⟨_, _, rfl⟩; omega; rfl; rfl; rfl; exact P11.out; intro w12 h12 ho12; have P12 := hid h12; have HB12 := hid (only_below HB11.out HB9.out.size ho12 HB11.out.size); clear h12 ho12)
      | ((with_reducible refine wpL_1cell w9.heap.size 10 (reg (reg r 17 1414090053) 16 0) (armV r ag) (.int .u64 ag) ?_ ?_ ?_ ?_ ?_ ?_ ?_ ?_); exact .inl rfl; exact .inl ⟨_, _, rfl⟩; omega; rfl; rfl; rfl; exact P12.out; intro w13 h13 ho13; have P13 := hid h13; have HB13 := hid (only_below HB12.out HB9.out.size ho13 HB12.out.size); clear h13 ho13)
      | ((with_reducible refine wpL_vload (d := some 120) w9.heap.size 0 (armV r ag) ?_ ?_ ?_); rfl; exact P13.out.range)
      | ((with_reducible refine wpL_slice1 (armV r ag) ?_ ?_); rfl)
      | (go_at_call 22; refine (CT2.out _ _ (vb_new w13 [armV r ag])).mono ?_; rintro e w14 ⟨gb, cb, rfl, hv, hg, hb⟩; have A14 : Hid (w14.rangeAt gb 0 tk.cs) := (by have := hv.range (i := 0) (x := tk) rfl; rwa [Nat.zero_mul] at this); have HB14 := hid (HB13.out.trans (((Below.refl w.heap.size w13).alloc HB13.out.size _).trans (hb.mono (by simp; have := HB13.out.size; omega)))); clear hv hb hg)
      | ((with_reducible refine wpL_vload (d := some 128) gb 0 tk ?_ ?_ ?_); rfl; exact A14.out)
      | (go_at_call 15; refine (CR2.out _).mono ?_; rintro e w15 ⟨rfl, hb⟩; have HB15 := hid (HB14.out.trans (hb.mono HB14.out.size)); clear hb)
      | ((with_reducible refine wpList_new (z := .agg VV.zero.ca) VV.zero.ca ?_ ?_ ?_); rfl; exact z_vcpu)
      | ((with_reducible refine wpL_store1 (x := .tmp 14) (y := .tmp 130) w15.heap.size VV.zero y ?_ ?_ ?_ ?_); rfl; rfl; exact V1.new VV.zero; intro w16 h16 ho16; have e46 : w16.cell? ⟨w15.heap.size, 46, none⟩ = some (.int .u64 y.h.sip) := h16.c 46; have G16 := hid (only_below ((Below.refl w15.heap.size w15).alloc (Nat.le_refl _) (.cells VV.zero.ca 32)) (Nat.le_refl _) ho16 (by simp)); have HB16 := hid (HB15.out.trans (G16.out.mono HB15.out.size)); clear h16 ho16)
      | (go_at_call 14; refine (v_awake _).mono ?_; rintro e w17 ⟨rfl, hb⟩; have HB17 := hid (HB16.out.trans (hb.mono HB16.out.size)); clear hb))
    go_ret
    refine ⟨?_, HB17.out⟩
    first
      | rfl
      | (show Ending.returned (Value.bool (!decide (ag ≤ now))) = _
         rw [show decide (ag ≤ now) = false from decide_eq_false (by omega)]
         rfl)
end Go.Proofs.Yteafjobmlfkppaa
