/- The document's Ready. -/
import Derived.Test.YteafjobmlfkppaaMH3
import Derived.Test.YteafjobmlfkppaaMH2
import Derived.Test.YteafjobmlfkppaaMC2
namespace Go.Proofs.Yteafjobmlfkppaa
open Go.RowKit
set_option linter.unusedVariables false
set_option maxRecDepth 100000

theorem sW_ff (o : HV) (h0 : 0 ≤ o.sip) (h1 : o.sip < 18446744073709551616) : sW o false false = bits .and .u64 o.sip 2 := by
  have a := and_r o.sip 2 h0 h1 (by omega) (by omega)
  simp only [sW, cond_false]
  rw [or0 _ a.1 a.2, or0 _ a.1 a.2]
theorem sW_tf (o : HV) (h0 : 0 ≤ o.sip) (h1 : o.sip < 18446744073709551616) : sW o true false = bits .or .u64 (bits .and .u64 o.sip 2) 32 := by
  have a := and_r o.sip 2 h0 h1 (by omega) (by omega)
  have b := or_r _ 32 a.1 a.2 (by omega) (by omega)
  simp only [sW, cond_false, cond_true]
  rw [or0 _ b.1 b.2]
theorem sW_ft (o : HV) (h0 : 0 ≤ o.sip) (h1 : o.sip < 18446744073709551616) : sW o false true = bits .or .u64 (bits .and .u64 o.sip 2) 512 := by
  have a := and_r o.sip 2 h0 h1 (by omega) (by omega)
  simp only [sW, cond_false, cond_true]
  rw [or0 _ a.1 a.2]
theorem sW_tt (o : HV) : sW o true true = bits .or .u64 (bits .or .u64 (bits .and .u64 o.sip 2) 32) 512 := rfl
set_option maxHeartbeats 4000000 in
theorem r_ReadyW (x : VV) (o : HV) (h0 : 0 ≤ o.sip) (h1 : o.sip < 18446744073709551616) (now : Int) (ext : Bool) (w : World) (hI : ∀ u, Calls Try.prog 32 #[x.v] u fun e w' => e = .returned (VV.v { x with h := o }) ∧ Below u.heap.size u w') : Calls Try.prog 16 #[x.v, .int .u64 now, .bool ext] w fun e w' => e = .returned (readyW x o (x.ar && decide (x.dl ≤ now)) ext).v ∧ Below w.heap.size w w' := by
  have HI := hid hI
  clear hI
  have A1 : Hid (V1 ((w.alloc (.cells x.ca 32)).alloc (.cells VV.zero.ca 32)) w.heap.size x) := V1.new1 x _
  have A2 : Hid (V1 ((w.alloc (.cells x.ca 32)).alloc (.cells VV.zero.ca 32)) (w.heap.size + 1) VV.zero) := V1.new2 VV.zero _
  have HB0 := hid (below2 (w := w) (.cells x.ca 32) (.cells VV.zero.ca 32))
  have hc : (x.ar = true ∧ x.dl ≤ now) ∨ (x.ar = true ∧ ¬ x.dl ≤ now) ∨ x.ar = false := by
    cases x.ar <;> by_cases q : x.dl ≤ now <;> simp [q]
  obtain ⟨d, hd⟩ : ∃ d, (x.ar && decide (x.dl ≤ now)) = d := ⟨_, rfl⟩
  rw [hd]
  obtain ⟨s, hs⟩ : ∃ s, s = sW o d ext := ⟨_, rfl⟩
  have HW : Hid (readyW x o d ext = ⟨{ o with sip := s }, if x.st = 2 ∧ bits .and .u64 s o.sie ≠ 0 then 1 else x.st, x.ar, x.dl⟩) := by rw [hs]; rfl
  rw [HW.out]
  clear HW
  obtain ⟨t, ht⟩ : ∃ t : Int, t = if x.st = 2 ∧ bits .and .u64 s o.sie ≠ 0 then 1 else x.st := ⟨_, rfl⟩
  rw [← ht]
  have HT := hid ht
  clear ht
  go_enter Try.func16, Try.ntmps16
  go_upto_region 2 with (first
    | ((with_reducible refine wpList_new (z := .agg VV.zero.ca) VV.zero.ca ?_ ?_ ?_); rfl; exact z_vcpu)
    | ((with_reducible refine wpL_vload (d := some 8) w.heap.size 0 x ?_ ?_ ?_); rfl; exact A1.out.range)
    | (go_at_call 32; refine (HI.out _).mono ?_; rintro e w1 ⟨rfl, hb⟩; have B1 := hid (A1.out.below hb); have B2 := hid (A2.out.below hb); have HB1 := hid (HB0.out.trans (hb.mono HB0.out.size)); clear hb)
    | ((with_reducible refine wpL_store1 (x := .tmp 3) (y := .tmp 9) w.heap.size x { x with h := o } ?_ ?_ ?_ ?_); rfl; rfl; exact B1.out; intro w2 h2 ho2; have C1 := hid h2; have C2 := hid (B2.out.only ho2 (fun (q : _ = _) => by omega)); have HB2 := hid (only_below HB1.out (Nat.le_refl _) ho2 HB1.out.size); clear h2 ho2))
  have c46 : w2.cell? ⟨w.heap.size, 46, none⟩ = some (.int .u64 o.sip) := C1.out.c 46
  have c51 : w2.cell? ⟨w.heap.size, 51, none⟩ = some (.int .u64 x.dl) := C1.out.c 51
  rcases hc with ⟨ha, hn⟩ | ⟨ha, hn⟩ | ha <;> cases ext
  all_goals
    have c50 : w2.cell? ⟨w.heap.size, 50, none⟩ = some (.bool x.ar) := C1.out.c 50
    rw [ha] at c50 hd
    first | rw [Bool.false_and] at hd | rw [show decide (x.dl ≤ now) = true from decide_eq_true (by omega), Bool.and_true] at hd | rw [show decide (x.dl ≤ now) = false from decide_eq_false (by omega), Bool.and_false] at hd
    rw [← hd] at hs
    clear hd
    have HW := hid (by first | exact hs.trans (sW_tt o) | exact hs.trans (sW_tf o h0 h1) | exact hs.trans (sW_ft o h0 h1) | exact hs.trans (sW_ff o h0 h1))
    clear hs
    go_upto_region 8 with ((with_reducible refine wpL_1cell w.heap.size 46 { x with h := o } { x with h := { o with sip := s } } (.int .u64 s) ?_ ?_ ?_ ?_ ?_ ?_ ?_ ?_); exact .inl rfl; exact .inl ⟨_, _, rfl⟩; omega; rfl; rfl; rw [HW.out]; rfl; exact C1.out; intro w3 h3 ho3; have D1 := hid h3; have D2 := hid (C2.out.only ho3 (fun (q : _ = _) => by omega)); have HB3 := hid (only_below HB2.out (Nat.le_refl _) ho3 HB2.out.size); clear h3 ho3)
    rw [← HW.out]
    clear HW c46 c50 c51
    have c46 : w3.cell? ⟨w.heap.size, 46, none⟩ = some (.int .u64 s) := D1.out.c 46
    have c45 : w3.cell? ⟨w.heap.size, 45, none⟩ = some (.int .u64 o.sie) := D1.out.c 45
    have c49 : w3.cell? ⟨w.heap.size, 49, none⟩ = some (.int .i64 x.st) := D1.out.c 49
    by_cases h2 : x.st = 2
    · by_cases hq : bits .and .u64 s o.sie = 0
      · have HX : Hid ((if x.st = 2 ∧ bits .and .u64 s o.sie ≠ 0 then 1 else x.st) = x.st) := if_neg (fun q => q.2 hq)
        go_wp2_with (first
          | ((with_reducible refine wpL_vload (d := some 42) w.heap.size 0 { x with h := { o with sip := s } } ?_ ?_ ?_); rfl; exact D1.out.range)
          | ((with_reducible refine wpL_store1 (x := .tmp 6) (y := .tmp 42) (w.heap.size + 1) VV.zero { x with h := { o with sip := s } } ?_ ?_ ?_ ?_); rfl; rfl; exact D2.out; intro w6 h6 ho6; have F1 := hid h6; have HB6 := hid (only_below HB3.out (by omega) ho6 HB3.out.size); clear h6 ho6))
        exact bodyPost_ret (ret_v Try.results16 (w.heap.size + 1) _ rfl F1.out) rfl ⟨by first | (rw [HT.out.trans HX.out]; done) | (rw [HT.out.trans HX.out, ha]; done), HB6.out⟩
      · have HX : Hid ((if x.st = 2 ∧ bits .and .u64 s o.sie ≠ 0 then 1 else x.st) = 1) := if_pos ⟨h2, hq⟩
        go_wp2_with (first
          | ((with_reducible refine wpL_1cell w.heap.size 49 { x with h := { o with sip := s } } { x with st := 1, h := { o with sip := s } } (.int .i64 1) ?_ ?_ ?_ ?_ ?_ ?_ ?_ ?_); exact .inr (.inl rfl); exact .inl ⟨_, _, rfl⟩; omega; rfl; rfl; rfl; exact D1.out; intro w4 h4 ho4; have E1 := hid h4; have E2 := hid (D2.out.only ho4 (fun (q : _ = _) => by omega)); have HB5 := hid (only_below HB3.out (Nat.le_refl _) ho4 HB3.out.size); clear h4 ho4)
          | ((with_reducible refine wpL_vload (d := some 42) w.heap.size 0 { x with st := 1, h := { o with sip := s } } ?_ ?_ ?_); rfl; exact E1.out.range)
          | ((with_reducible refine wpL_store1 (x := .tmp 6) (y := .tmp 42) (w.heap.size + 1) VV.zero { x with st := 1, h := { o with sip := s } } ?_ ?_ ?_ ?_); rfl; rfl; exact E2.out; intro w6 h6 ho6; have F1 := hid h6; have HB6 := hid (only_below HB5.out (by omega) ho6 HB5.out.size); clear h6 ho6))
        exact bodyPost_ret (ret_v Try.results16 (w.heap.size + 1) _ rfl F1.out) rfl ⟨by first | (rw [HT.out.trans HX.out]; done) | (rw [HT.out.trans HX.out, ha]; done), HB6.out⟩
    · have HX : Hid ((if x.st = 2 ∧ bits .and .u64 s o.sie ≠ 0 then 1 else x.st) = x.st) := if_neg (fun q => h2 q.1)
      go_wp2_with (first
        | ((with_reducible refine wpL_vload (d := some 42) w.heap.size 0 { x with h := { o with sip := s } } ?_ ?_ ?_); rfl; exact D1.out.range)
        | ((with_reducible refine wpL_store1 (x := .tmp 6) (y := .tmp 42) (w.heap.size + 1) VV.zero { x with h := { o with sip := s } } ?_ ?_ ?_ ?_); rfl; rfl; exact D2.out; intro w6 h6 ho6; have F1 := hid h6; have HB6 := hid (only_below HB3.out (by omega) ho6 HB3.out.size); clear h6 ho6))
      exact bodyPost_ret (ret_v Try.results16 (w.heap.size + 1) _ rfl F1.out) rfl ⟨by first | (rw [HT.out.trans HX.out]; done) | (rw [HT.out.trans HX.out, ha]; done), HB6.out⟩
theorem r_Ready (x : VV) (ok : HOk x.h) (now : Int) (ext : Bool) (w : World) : Calls Try.prog 16 #[x.v, .int .u64 now, .bool ext] w fun e w' => e = .returned (readyV x now ext).v ∧ Below w.heap.size w w' :=
  r_ReadyW x (ordH x.h) (ordOk ok).sip.1 (ordOk ok).sip.2 now ext w fun u => r_order x ok u
end Go.Proofs.Yteafjobmlfkppaa
namespace Go.Proofs.Yteafjobmlfkppaa
open Go.RowKit
set_option linter.unusedVariables false
set_option maxRecDepth 100000

theorem same_refl {L : List VV} : ∀ (k : Nat) (x y : VV), L[k]? = some x → L[k]? = some y → x.cs = y.cs := fun k x y hx hy => by rw [hx] at hy; cases hy; rfl
set_option maxHeartbeats 4000000 in
theorem w_VcpuReadies (w : World) (x : VV) (ok : VOk x) (now : Int) (n0 : 0 ≤ now) (n1 : now < 18446744073709551616) (ext : Bool) (ad : Option Addr) (la cap : Nat) (L : List VV) (hL : Vr w (.slice ad la cap) L ∧ (∀ x ∈ L, VOk x) ∧ L.length = la)
    (i : Int) (i0 : -9223372036854775808 ≤ i) (i1 : i ≤ 9223372036854775807) (gpa : Int) (p0 : 0 ≤ gpa) (p1 : gpa < 18446744073709551616) (hl : la * 368 ≤ 140737488355328) :
    Calls Try.prog 4 #[x.v, .int .u64 now, .bool ext, .slice ad la cap, .int .i64 i, .int .u64 gpa] w fun e w' => e = .returned (.bool true) ∧ Below w.heap.size w w' := by
  obtain ⟨hv, hok, hla⟩ := hL
  have HV := hid hv
  have HK := hid hok
  have HLN : Hid (L.length * 368 ≤ 140737488355328) := by show L.length * 368 ≤ _; rw [hla]; exact hl
  clear hv hok hla hl
  obtain ⟨t, ht⟩ : ∃ t, t = readyV x now ext := ⟨_, rfl⟩
  obtain ⟨u, hu⟩ : ∃ u, u = waitV x := ⟨_, rfl⟩
  have R1 : Hid (∀ w, Calls Try.prog 15 #[x.v, .int .u64 now, .bool ext] w fun e w' => e = .returned t.v ∧ Below w.heap.size w w') := fun w => by rw [ht]; exact v_Ready x ok.h now ext w
  have R2 : Hid (∀ w, Calls Try.prog 16 #[x.v, .int .u64 now, .bool ext] w fun e w' => e = .returned t.v ∧ Below w.heap.size w w') := fun w => by rw [ht]; exact r_Ready x ok.h now ext w
  have R3 : Hid (∀ w, Calls Try.prog 17 #[x.v] w fun e w' => e = .returned u.v ∧ Below w.heap.size w w') := fun w => by rw [hu]; exact v_Wait x w
  have R4 : Hid (∀ w, Calls Try.prog 18 #[x.v] w fun e w' => e = .returned u.v ∧ Below w.heap.size w w') := fun w => by rw [hu]; exact r_Wait x w
  clear ht hu ok
  have A1 : Hid (V1 (w.alloc (.cells x.ca 32)) w.heap.size x) := V1.new x
  have HB0 := hid ((Below.refl w.heap.size w).alloc (Nat.le_refl _) (.cells x.ca 32))
  have HR : Hid (∀ w', (∃ y : WB (w.alloc (.cells x.ca 32)), w' = y.w) → w'.rangeAt w.heap.size 0 x.cs) := fun w' ⟨y, hy⟩ => by rw [hy]; exact (A1.out.below y.h).range
  go_enter Try.func4, Try.ntmps4
  go_wp2_with fail
  refine wp_region_wb (by kernel_rfl) (by kernel_rfl) ?_
  repeat
    first
      | ((with_reducible refine wpQ_vload w.heap.size 0 x ?_ ?_ HR.out ?_); rfl; rfl)
      | ((with_reducible refine wpQ_neV t t ?_ ?_ ?_ ?_); rfl; rfl; rfl; rw [eqV_self, Bool.not_true])
      | ((with_reducible refine wpQ_neV u u ?_ ?_ ?_ ?_); rfl; rfl; rfl; rw [eqV_self, Bool.not_true])
      | (refine wpQuiet_step (fun K hK => ?_)
         go_simp
         first
           | (refine hK _ ?_; clear hK K)
           | (refine ⟨_, fun _ => rfl, hK _ ?_⟩; clear hK K)
           | (refine ⟨t.v, fun y => ?_, hK _ ?_⟩
              · first
                  | (go_at_call 15; exact Calls.wb y (R1.out y.w))
                  | (go_at_call 16; exact Calls.wb y (R2.out y.w))
              clear hK K)
           | (refine ⟨u.v, fun y => ?_, hK _ ?_⟩
              · first
                  | (go_at_call 17; exact Calls.wb y (R3.out y.w))
                  | (go_at_call 18; exact Calls.wb y (R4.out y.w))
              clear hK K))
  refine wpQuiet_nil ?_
  intro w1 hy
  have HB1 : Hid (Below w.heap.size w w1) := by obtain ⟨y, rfl⟩ := hy; exact HB0.out.trans (y.h.mono HB0.out.size)
  clear hy A1 HR
  have V1' := hid (HV.out.below HB1.out)
  go_wp2_with (first
    | (go_at_call 19; refine (c_copied _ _ L V1'.out HLN.out).mono ?_; rintro e w2 ⟨v2, rfl, h2, hb⟩; have S2 := hid h2; have HB2 := hid (HB1.out.trans (hb.mono HB1.out.size)); clear h2 hb)
    | (go_at_call 20; refine (v_Wrote _ _ L S2.out.rd HLN.out i i0 i1 gpa p0 p1 (fun x hx => (HK.out x hx).h.resv)).mono ?_; rintro e w3 ⟨v3, rfl, h3, hb⟩; have S3 := hid h3; have S2' := hid (S2.out.below (hb.mono (Nat.le_refl _))); have HB3 := hid (HB2.out.trans (hb.mono HB2.out.size)); have V3 := hid (HV.out.below HB3.out); clear h3 hb)
    | ((with_reducible go_at_call 11); refine (v_Same _ v2 _ L L S2'.out.rd V3.out rfl same_refl (by have := HLN.out; omega)).mono ?_; rintro e w4 ⟨rfl, hs⟩; have S4 := hid (S3.out.rd.same hs.heap); have HB4 := hid (HB3.out.trans (hs.below _)); have V4 := hid (HV.out.below HB4.out); clear hs S2')
    | (go_at_call 21; refine (r_Wrote _ _ L V4.out HLN.out i i0 i1 gpa p0 p1 (fun x hx => (HK.out x hx).h.resv)).mono ?_; rintro e w5 ⟨v5, rfl, h5, hb⟩; have S5 := hid h5; have S4' := hid (S4.out.below (hb.mono (Nat.le_refl _))); have HB5 := hid (HB4.out.trans (hb.mono HB4.out.size)); clear h5 hb)
    | (go_at_call 11; refine (v_Same _ v3 v5 _ _ S4'.out S5.out.rd rfl same_refl (by have := HLN.out; simp; omega)).mono ?_; rintro e w6 ⟨rfl, hs⟩; have HB6 := hid (HB5.out.trans (hs.below _)); clear hs)
    | (go_at_call 14; refine (v_awake _).mono ?_; rintro e w7 ⟨rfl, hb⟩; have HB7 := hid (HB6.out.trans (hb.mono HB6.out.size)); clear hb))
  go_ret
  exact ⟨rfl, HB7.out⟩
end Go.Proofs.Yteafjobmlfkppaa
namespace Go.Proofs.Yteafjobmlfkppaa
open Go.RowKit
set_option linter.unusedVariables false
set_option maxRecDepth 100000

theorem nmOf_eq {k f a b : Int} (h : nmOf k f = (a, b)) (ha : a ≠ 1) : k = a ∧ f = b := by
  unfold nmOf at h
  split at h
  · rename_i q
    simp only [Prod.mk.injEq] at h
    exact absurd (h.1.symm.trans q) ha
  · simpa using h
theorem ordX (x : VV) (r : Nat) (h : r ≠ 0) : (ordV x).h.x r = x.h.x r := by simp [ordV, ordH, zx, h]
def sentV (y : VV) : VV := { ordV y with h := { (ordV y).h with sip := bits .or .u64 (ordV y).h.sip 2 } }
def AloneP (x : VV) (k : Nat) (y z : VV) (dn : Bool) : Prop := z = ordV y ∨ ((x.h.x 17 = 4739917 ∧ x.h.x 16 = 0 ∧ x.h.x 10 = k ∧ y.st = 0) ∧ z.st = 1) ∨ ((x.h.x 17 = 7557193 ∧ x.h.x 16 = 0) ∧ z = sentV y) ∨ (dn = true ∧ z = stopV (ordV y) ∧ x.h.x 17 = 1397904212)
theorem finL_ne (M : List VV) (i : Nat) (av : AV) (k : Nat) (h : i ≠ k) : (finL M i av)[k]? = M[k]? := by
  unfold finL
  split
  · rfl
  · split
    · rfl
    · rw [List.getElem?_set_ne h]
theorem finL_len (M : List VV) (i : Nat) (av : AV) : (finL M i av).length = M.length := by
  unfold finL
  split
  · rfl
  · split <;> simp
theorem callF_len (L : List VV) (i : Nat) (x : VV) : (callF L i x).1.length = L.length := by
  unfold callF
  simp only
  rw [finL_len, ans_len, ordL_len]
theorem alone (L : List VV) (i : Nat) (x : VV) (ok : HOk x.h) (k : Nat) (y z : VV) (hk : i ≠ k) (hy : L[k]? = some y) (hz : (callF L i x).1[k]? = some z) : AloneP x k y z (callF L i x).2.1.dn := by
  have hP : (ordL L)[k]? = some (ordV y) := ordL_get L k y hy
  unfold callF at hz ⊢
  simp only at hz ⊢
  rw [finL_ne _ _ _ _ hk] at hz
  have e17 := ordX x 17 (by decide)
  have e16 := ordX x 16 (by decide)
  have e10 := ordX x 10 (by decide)
  by_cases w : ∃ n ∈ calI, keyN n = nmOf ((ordV x).h.x 17) ((ordV x).h.x 16)
  · obtain ⟨n, hn, e⟩ := w
    unfold ansF at hz ⊢
    rw [← e] at hz ⊢
    simp only [calI, List.mem_cons, List.not_mem_nil, or_false] at hn
    rcases hn with rfl | rfl | rfl | rfl | rfl | rfl | rfl | rfl | rfl
    · rw [ansG_2] at hz; rw [hP] at hz; exact .inl (Option.some.inj hz).symm
    · rw [ansG_5] at hz; rw [hP] at hz; exact .inl (Option.some.inj hz).symm
    · rw [ansG_8] at hz; rw [List.getElem?_set_ne hk, hP] at hz; exact .inl (Option.some.inj hz).symm
    · rw [ansG_11] at hz; rw [hP] at hz; exact .inl (Option.some.inj hz).symm
    · rw [ansG_14] at hz
      obtain ⟨q1, q2⟩ := nmOf_eq (a := 7557193) (b := 0) e.symm (by decide)
      simp only [List.getElem?_mapIdx, hP, Option.map_some, Option.some.injEq] at hz
      unfold snV at hz
      split at hz
      · exact .inr (.inr (.inl ⟨⟨e17 ▸ q1, e16 ▸ q2⟩, hz.symm⟩))
      · exact .inl hz.symm
    · rw [ansG_17] at hz
      obtain ⟨q1, q2⟩ := nmOf_eq (a := 4739917) (b := 0) e.symm (by decide)
      unfold startL at hz
      split at hz
      · rw [hP] at hz; exact .inl (Option.some.inj hz).symm
      · rename_i t ht
        split at hz
        · rw [hP] at hz; exact .inl (Option.some.inj hz).symm
        · rename_i hst
          by_cases hn : ((ordV x).h.x 10).toNat = k
          · subst hn
            rw [List.getElem?_set_self (List.getElem?_eq_some_iff.1 hP).1] at hz
            rw [hP] at ht
            obtain rfl := Option.some.inj ht
            refine .inr (.inl ⟨⟨e17 ▸ q1, e16 ▸ q2, ?_, by simpa [ordV] using hst⟩, by rw [← Option.some.inj hz]; rfl⟩)
            have := (ok.x 10).1
            rw [e10]
            omega
          · rw [List.getElem?_set_ne hn, hP] at hz
            exact .inl (Option.some.inj hz).symm
    · rw [ansG_20] at hz; rw [List.getElem?_set_ne hk, hP] at hz; exact .inl (Option.some.inj hz).symm
    · rw [ansG_23] at hz; rw [hP] at hz; exact .inl (Option.some.inj hz).symm
    · rw [ansG_26] at hz ⊢
      obtain ⟨q1, q2⟩ := nmOf_eq (a := 1397904212) (b := 0) e.symm (by decide)
      simp only [List.getElem?_mapIdx, hP, Option.map_some, Option.some.injEq] at hz
      exact .inr (.inr (.inr ⟨rfl, hz.symm, e17 ▸ q1⟩))
  · unfold ansF at hz
    rw [ansG_no _ (fun n hn e => w ⟨n, hn, e⟩)] at hz
    rw [hP] at hz
    exact .inl (Option.some.inj hz).symm
end Go.Proofs.Yteafjobmlfkppaa
namespace Go.Proofs.Yteafjobmlfkppaa
open Go.RowKit
set_option linter.unusedVariables false
set_option maxRecDepth 100000

theorem fill1 (x : VV) : Instr.fill (fun i => some (i * 52, 52)) ((Array.range (1 * 52)).map ((Value.agg VV.zero.ca).cells[· % (Value.agg VV.zero.ca).cells.size]!)) [(0, x.v)] = some x.ca := by kernel_rfl
/-- a list of one -/
theorem wpL_slice1 {ops : Array Oper} {rest : List Oper} {d : Option Nat} {tt : TypeId} {y : Operand} {pos : String} {after : Array Edge} {a : Act} {w : World} {Q : Exit → Act → World → Prop}
    (x : VV) (hy : a.eval y = x.v) (K : wpList Try.prog ops Q rest (a.put d (.slice (some ⟨w.heap.size, 0, none⟩) 1 1)) (w.alloc (.cells (vflat [x]).toArray 32))) :
    wpList Try.prog ops Q ({ dst := d, op := Op.buildSlice 24 1 #[(0, y)], type := tt, pos := pos, after := after, guard := none } :: rest) a w := by
  obtain ⟨i, hi1, hz, hs, hb⟩ := info_parts info_v
  refine wpList_buildSlice rfl 24 32 1 #[(0, y)] rfl x.ca i (.agg VV.zero.ca) u_sV hi1 hz (by rw [hs]; decide) (by rw [hs]; decide) ?_ ?_
  · rw [hs]
    have e : ((#[(0, y)] : Array (Nat × Operand)).map fun (i, x) => (i, a.eval x)).toList = [(0, x.v)] := by simp [hy]
    rw [e]
    exact fill1 x
  · have e : (vflat [x]).toArray = x.ca := by simp [vflat, VV.ca]
    rw [e] at K
    exact K
theorem and0 (s : Int) (h0 : 0 ≤ s) (h1 : s < 18446744073709551616) : bits .and .u64 (bits .andNot .u64 s 32) 32 = 0 := by
  rw [u64_andNot s 32 h0 h1 (by omega) (by omega)]
  have hb : s.toNat &&& (18446744073709551615 - (32 : Int).toNat) ≤ s.toNat := Nat.and_le_left
  rw [u64_and _ 32 (by omega) (by omega) (by omega) (by omega), Int.toNat_natCast, Nat.and_assoc, show (18446744073709551615 - (32 : Int).toNat) &&& (32 : Int).toNat = 0 by decide, Nat.and_zero]
  rfl
theorem rdy (o : HV) (h0 : 0 ≤ o.sip) (h1 : o.sip < 18446744073709551616) (d : Bool) : (bits .and .u64 (sW o d false) 32 != 0) = d := by
  have a := and_r o.sip 2 h0 h1 (by omega) (by omega)
  have hb : o.sip.toNat &&& (2 : Int).toNat ≤ o.sip.toNat := Nat.and_le_left
  cases d with
  | false =>
    rw [sW_ff o h0 h1, u64_and o.sip 2 h0 h1 (by omega) (by omega), u64_and _ 32 (by omega) (by omega) (by omega) (by omega), Int.toNat_natCast, Nat.and_assoc, show (2 : Int).toNat &&& (32 : Int).toNat = 0 by decide, Nat.and_zero]
    rfl
  | true =>
    rw [sW_tf o h0 h1, u64_and o.sip 2 h0 h1 (by omega) (by omega), u64_or _ 32 (by omega) (by omega) (by omega) (by omega), Int.toNat_natCast]
    have hc : o.sip.toNat &&& (2 : Int).toNat ||| (32 : Int).toNat < 2 ^ 64 := Nat.or_lt_two_pow (by omega) (by decide)
    rw [u64_and _ 32 (by omega) (by omega) (by omega) (by omega), Int.toNat_natCast, Nat.and_or_distrib_right, Nat.and_assoc, show (2 : Int).toNat &&& (32 : Int).toNat = 0 by decide, Nat.and_zero]
    rfl
/-- the bit of the clock -/
def B5 (n : Int) : Prop := n.toNat.testBit 5 = true ∧ 0 ≤ n ∧ n < 18446744073709551616
theorem B5.or (n : Int) (h0 : 0 ≤ n) (h1 : n < 18446744073709551616) : B5 (bits .or .u64 n 32) := by
  have r := or_r n 32 h0 h1 (by omega) (by omega)
  refine ⟨?_, r⟩
  rw [u64_or n 32 h0 h1 (by omega) (by omega), Int.toNat_natCast, Nat.testBit_or, show ((32 : Int).toNat).testBit 5 = true by decide, Bool.or_true]
theorem B5.ib {n : Int} (h : B5 n) : B5 (ib n) := by
  have r := and_r n 546 h.2.1 h.2.2 (by omega) (by omega)
  refine ⟨?_, r⟩
  unfold Go.Proofs.Yteafjobmlfkppaa.ib
  rw [u64_and n 546 h.2.1 h.2.2 (by omega) (by omega), Int.toNat_natCast, Nat.testBit_and, h.1, show ((546 : Int).toNat).testBit 5 = true by decide]
  rfl
theorem B5.and {a b : Int} (ha : B5 a) (hb : B5 b) : bits .and .u64 a b ≠ 0 := by
  rw [u64_and a b ha.2.1 ha.2.2 hb.2.1 hb.2.2]
  intro h
  have : a.toNat &&& b.toNat = 0 := by omega
  have t := Nat.testBit_and a.toNat b.toNat 5
  rw [this, ha.1, hb.1] at t
  simp at t
theorem B5.sW (o : HV) (h0 : 0 ≤ o.sip) (h1 : o.sip < 18446744073709551616) : B5 (sW o true false) := by
  rw [sW_tf o h0 h1]
  have a := and_r o.sip 2 h0 h1 (by omega) (by omega)
  exact B5.or _ a.1 a.2
def reg (x : VV) (r : Nat) (v : Int) : VV := { x with h := { x.h with x := upd x.h.x r v } }
def tick (v : VV) : VV := finV (tmV (ordV v) (v.h.x 10)) 0 0
theorem callF_tick (v : VV) (h17 : v.h.x 17 = 1414090053) (h16 : v.h.x 16 = 0) : callF [v] 0 v = ([tick v], AV.zero, none) := by
  have e : ansF (ordL [v]) 0 (ordV v) = ([tmV (ordV v) (v.h.x 10)], AV.zero, none) := by
    unfold ansF
    rw [ordX v 17 (by decide), ordX v 16 (by decide), h17, h16, show nmOf 1414090053 0 = keyN 8 by decide, ansG_8, ordX v 10 (by decide)]
    rfl
  unfold callF
  rw [e]
  rfl
theorem c_tick (u : World) (s : Nat) (v : VV) (ok : HOk v.h) (h17 : v.h.x 17 = 1414090053) (h16 : v.h.x 16 = 0) (hs : Vb u s [v]) : Calls Try.prog 22 #[.slice (some ⟨s, 0, none⟩) 1 1, .int .i64 0] u fun e w' => ∃ g cap, e = .returned (.tuple #[.slice (some ⟨g, 0, none⟩) 1 cap, .slice none 0 0, .bool false]) ∧ Vb w' g [tick v] ∧ u.heap.size ≤ g ∧ Below u.heap.size u w' := by
  have h := v_Call u (.slice (some ⟨s, 0, none⟩) 1 1) [v] hs.rd (by simp) (fun x hx => by simp at hx; subst hx; exact ok) 0 v rfl
  rw [callF_tick v h17 h16] at h
  refine h.mono ?_
  rintro e w' ⟨g, cap, ov, rfl, hv, hg, ho, hb⟩
  obtain rfl : ov = nils := ho
  exact ⟨g, cap, rfl, hv, hg, hb⟩
theorem wrap_r (n : Int) : 0 ≤ IntKind.u64.wrap n ∧ IntKind.u64.wrap n < 18446744073709551616 := by
  rw [IntKind.wrap_u64]
  omega
theorem andNot_r (n m : Int) (h0 : 0 ≤ n) (h1 : n < 18446744073709551616) (m0 : 0 ≤ m) (m1 : m < 18446744073709551616) : 0 ≤ bits .andNot .u64 n m ∧ bits .andNot .u64 n m < 18446744073709551616 := by
  rw [u64_andNot n m h0 h1 m0 m1]
  have : n.toNat &&& (18446744073709551615 - m.toNat) ≤ n.toNat := Nat.and_le_left
  omega
theorem tick_ok (v : VV) (ok : HOk v.h) : HOk (tick v).h := by
  have o := ordOk ok
  have h1 : HOk ({ (ordH v.h) with sip := bits .andNot .u64 (ordH v.h).sip 32 } : HV) := { o with sip := andNot_r _ 32 o.sip.1 o.sip.2 (by omega) (by omega) }
  have h2 : HOk ({ (ordH v.h) with sip := bits .andNot .u64 (ordH v.h).sip 32, pc := IntKind.u64.wrap ((ordH v.h).pc + 4) } : HV) := { h1 with pc := wrap_r _ }
  have h3 := HOk.x1 h2 10 0 (by omega) (by omega)
  exact HOk.x1 h3 11 0 (by omega) (by omega)
theorem tick_sip (v : VV) (ok : HOk v.h) : bits .and .u64 (tick v).h.sip 32 = 0 := and0 _ (ordOk ok).sip.1 (ordOk ok).sip.2
end Go.Proofs.Yteafjobmlfkppaa
namespace Go.Proofs.Yteafjobmlfkppaa
open Go.RowKit
set_option linter.unusedVariables false
set_option maxRecDepth 100000

def gV1 (v : VV) : VV := { v with st := 1 }
def gV2 (k : Nat) (v : VV) : VV := { gV1 v with h := { v.h with pc := 2147483648 + 64 * k } }
def gV (k : Nat) (v : VV) : VV := reg (gV2 k v) 5 (k + 100)
def gst (n : Nat) : List VV := (bgnL n 2147483648).mapIdx gV
theorem gst_len (n : Nat) : (gst n).length = n := by simp [gst, bgn_len]
theorem zcsok : HOk (stdV 2147483648 0 0).h := ordOk (rs2_ok 2147483648 0 0 (by omega) (by omega) (by omega))
theorem gV_ok (k : Nat) (hk : k < 64) (v : VV) (ok : HOk v.h) : HOk (gV k v).h :=
  HOk.x1 (h := { v.h with pc := 2147483648 + 64 * k }) { ok with pc := ⟨by show (0 : Int) ≤ 2147483648 + 64 * (k : Int); omega, by show 2147483648 + 64 * (k : Int) < _; omega⟩ } 5 _ (by omega) (by omega)
theorem bgn_ok (n : Nat) : ∀ x ∈ bgnL n 2147483648, HOk x.h := fun x hx => by
  rcases List.mem_or_eq_of_mem_set hx with h | h
  · rw [List.eq_of_mem_replicate h]; exact zok
  · rw [h]; exact zcsok
theorem gst_get (n k : Nat) (hk : k < n) : ∃ v, HOk v.h ∧ (gst n)[k]? = some (gV k v) := by
  obtain ⟨v, hv⟩ : ∃ v, (bgnL n 2147483648)[k]? = some v := ⟨_, List.getElem?_eq_getElem (by rw [bgn_len]; exact hk)⟩
  exact ⟨v, bgn_ok n v (List.mem_of_getElem? hv), by simp [gst, List.getElem?_mapIdx, hv]⟩
/-- the caller's registers -/
def calV (v : VV) (kd fn a b : Int) : VV := reg (reg (reg (reg v 17 kd) 16 fn) 10 a) 11 b
theorem cal_ok (v : VV) (ok : HOk v.h) (kd fn a b : Int) (q1 : 0 ≤ kd ∧ kd < 18446744073709551616) (q2 : 0 ≤ fn ∧ fn < 18446744073709551616) (q3 : 0 ≤ a ∧ a < 18446744073709551616) (q4 : 0 ≤ b ∧ b < 18446744073709551616) : HOk (calV v kd fn a b).h :=
  HOk.x1 (HOk.x1 (HOk.x1 (HOk.x1 ok 17 kd q1.1 q1.2) 16 fn q2.1 q2.2) 10 a q3.1 q3.2) 11 b q4.1 q4.2
theorem reg_cs (v : VV) (u : Int) (r : Nat) (hr : r = 5 ∨ r = 10 ∨ r = 11 ∨ r = 16 ∨ r = 17) : v.cs.set r (.int .u64 u) = (reg v r u).cs := by
  rcases hr with rfl | rfl | rfl | rfl | rfl <;> rfl
set_option maxHeartbeats 8000000 in
theorem c_calls (n i : Nat) (n0 : 1 ≤ n) (n1 : n ≤ 64) (hi : i < n) (kd fn a b : Int) (q1 : 0 ≤ kd ∧ kd < 18446744073709551616) (q2 : 0 ≤ fn ∧ fn < 18446744073709551616) (q3 : 0 ≤ a ∧ a < 18446744073709551616) (q4 : 0 ≤ b ∧ b < 18446744073709551616) (w : World) :
    Calls Try.prog 27 #[.int .i64 n, .int .i64 i, .int .u64 kd, .int .u64 fn, .int .u64 a, .int .u64 b] w fun e w' => ∃ v g1 c1 g c ov, HOk v.h ∧ (gst n)[i]? = some (gV i v) ∧ e = .returned (.tuple #[.slice (some ⟨g1, 0, none⟩) n c1, .slice (some ⟨g, 0, none⟩) n c, ov, .bool (callF ((gst n).set i (calV (gV i v) kd fn a b)) i (calV (gV i v) kd fn a b)).2.1.dn]) ∧ Vb w' g1 ((gst n).set i (calV (gV i v) kd fn a b)) ∧ Vb w' g (callF ((gst n).set i (calV (gV i v) kd fn a b)) i (calV (gV i v) kd fn a b)).1 ∧ OutIs w' w.heap.size ov (callF ((gst n).set i (calV (gV i v) kd fn a b)) i (calV (gV i v) kd fn a b)).2.2 ∧ Below w.heap.size w w' := by
  obtain ⟨v, vok, hv⟩ := gst_get n i hi
  have HVV := hid hv
  have OKV := hid (gV_ok i (by omega) v vok)
  have OKC := hid (cal_ok (gV i v) OKV.out kd fn a b q1 q2 q3 q4)
  have hgl : (gst n).length = n := gst_len n
  have HALL : Hid (∀ x ∈ (gst n).set i (calV (gV i v) kd fn a b), HOk x.h) := fun x hx => by
    rcases List.mem_or_eq_of_mem_set hx with h | h
    · obtain ⟨k, hk⟩ := List.mem_iff_getElem?.1 h
      have hkn : k < n := by have := (List.getElem?_eq_some_iff.1 hk).1; rwa [gst_len] at this
      obtain ⟨u, uok, hu⟩ := gst_get n k hkn
      rw [hu] at hk
      rw [← Option.some.inj hk]
      exact gV_ok k (by omega) u uok
    · rw [h]; exact OKC.out
  have HLL : Hid (((gst n).set i (calV (gV i v) kd fn a b)).length = n) := by show _ = _; simp [gst_len]
  have HLI : Hid (((gst n).set i (calV (gV i v) kd fn a b))[i]? = some (calV (gV i v) kd fn a b)) := List.getElem?_set_self (by rw [gst_len]; exact hi)
  have VOKV := hid vok
  clear hv vok
  go_enter Try.func27, Try.ntmps27
  go_upto_region 2 with (go_at_call 12; refine (v_Begin_good n 2147483648 n0 n1 (by omega) _).mono ?_; rintro e w1 ⟨g0, rfl, hvb, hg0, hb⟩; have A0 := hid hvb; have HB0 := hid hb; clear hvb hb)
  go_wp2_with fail
  go_loopw [17] (fun c wr => ∃ (k : Nat), k ≤ n ∧ c = .int .i64 k ∧ Vb wr g0 (pm gV (bgnL n 2147483648) k) ∧ Below w.heap.size w wr) (fun i _ => n - (intOf i).toNat)
  case atStart => exact ⟨0, by omega, rfl, by rw [pm_zero]; exact A0.out, HB0.out⟩
  case round =>
    clear A0 HB0
    obtain ⟨k, hk, rfl, hvb, hb⟩ := hrel
    have HA := hid hvb
    have HB := hid hb
    clear hvb hb
    by_cases hlt : k < n
    · obtain ⟨y, hy⟩ : ∃ y, (bgnL n 2147483648)[k]? = some y := ⟨_, List.getElem?_eq_getElem (by rw [bgn_len]; exact hlt)⟩
      have HY := hid (pm_get gV (bgnL n 2147483648) k y hy)
      have HZ := hid hy
      have hkl : k < (pm gV (bgnL n 2147483648) k).length := by rw [pm_len, bgn_len]; exact hlt
      have HKL := hid hkl
      clear hy hkl
      go_wp2_with (first
        | ((with_reducible refine wpL_vcell g0 k 49 (pm gV (bgnL n 2147483648) k) y (gV1 y) (.int .i64 1) ?_ ?_ ?_ ?_ ?_ ?_ ?_ ?_ ?_); exact .inr (.inl rfl); exact .inl ⟨_, _, rfl⟩; exact HY.out; omega; exact st_cs y 1; rfl; rfl; exact HA.out; intro w2 h2 ho2; have C1 := hid h2; have HB2 := hid (only_below HB.out hg0 ho2 HB.out.size); clear h2 ho2)
        | ((with_reducible refine wpL_vcell g0 k 32 ((pm gV (bgnL n 2147483648) k).set k (gV1 y)) (gV1 y) (gV2 k y) (.int .u64 (2147483648 + 64 * k)) ?_ ?_ ?_ ?_ ?_ ?_ ?_ ?_ ?_); exact .inl rfl; exact .inl ⟨_, _, rfl⟩; exact List.getElem?_set_self HKL.out; omega; exact pc_cs (gV1 y) _; rfl; rfl; exact C1.out; intro w3 h3 ho3; rw [List.set_set] at h3; have D1 := hid h3; have HB3 := hid (only_below HB2.out hg0 ho3 HB2.out.size); clear h3 ho3)
        | ((with_reducible refine wpL_vcell g0 k 5 ((pm gV (bgnL n 2147483648) k).set k (gV2 k y)) (gV2 k y) (gV k y) (.int .u64 (k + 100)) ?_ ?_ ?_ ?_ ?_ ?_ ?_ ?_ ?_); exact .inl rfl; exact .inl ⟨_, _, rfl⟩; exact List.getElem?_set_self HKL.out; omega; exact reg_cs (gV2 k y) _ 5 (.inl rfl); rfl; rfl; exact D1.out; intro w4 h4 ho4; rw [List.set_set] at h4; have E1 := hid h4; have HB4 := hid (only_below HB3.out hg0 ho4 HB3.out.size); clear h4 ho4))
      go_roundw
      case rel => exact ⟨k + 1, by omega, by go_num, by rw [← pm_succ gV (bgnL n 2147483648) k y HZ.out]; exact E1.out, HB4.out⟩
      case measure => simp [intOf]; omega
    · obtain rfl : k = n := by omega
      have HA2 : Hid (Vb wr g0 (gst k)) := by show Vb wr g0 _; have := HA.out; rw [show pm gV (bgnL k 2147483648) k = gst k from by have := pm_full gV (bgnL k 2147483648); rwa [bgn_len] at this] at this; exact this
      clear HA
      have hil : i < (gst k).length := by rw [gst_len]; exact hi
      have HIL := hid hil
      clear hil hgl
      go_wp2_with (first
        | ((with_reducible refine wpL_vcell g0 i 17 (gst k) (gV i v) (reg (gV i v) 17 kd) (.int .u64 kd) ?_ ?_ ?_ ?_ ?_ ?_ ?_ ?_ ?_); exact .inl rfl; exact .inl ⟨_, _, rfl⟩; exact HVV.out; omega; exact reg_cs (gV i v) _ 17 (by decide); rfl; rfl; exact HA2.out; intro wr1 h_ ho_; have A1 := hid h_; have HB1 := hid (only_below HB.out hg0 ho_ HB.out.size); clear h_ ho_)
        | ((with_reducible refine wpL_vcell g0 i 16 ((gst k).set i (reg (gV i v) 17 kd)) (reg (gV i v) 17 kd) (reg (reg (gV i v) 17 kd) 16 fn) (.int .u64 fn) ?_ ?_ ?_ ?_ ?_ ?_ ?_ ?_ ?_); exact .inl rfl; exact .inl ⟨_, _, rfl⟩; exact List.getElem?_set_self HIL.out; omega; exact reg_cs (reg (gV i v) 17 kd) _ 16 (by decide); rfl; rfl; exact A1.out; intro wr2 h_ ho_; rw [List.set_set] at h_; have A2 := hid h_; have HB2 := hid (only_below HB1.out hg0 ho_ HB1.out.size); clear h_ ho_)
        | ((with_reducible refine wpL_vcell g0 i 10 ((gst k).set i (reg (reg (gV i v) 17 kd) 16 fn)) (reg (reg (gV i v) 17 kd) 16 fn) (reg (reg (reg (gV i v) 17 kd) 16 fn) 10 a) (.int .u64 a) ?_ ?_ ?_ ?_ ?_ ?_ ?_ ?_ ?_); exact .inl rfl; exact .inl ⟨_, _, rfl⟩; exact List.getElem?_set_self HIL.out; omega; exact reg_cs (reg (reg (gV i v) 17 kd) 16 fn) _ 10 (by decide); rfl; rfl; exact A2.out; intro wr3 h_ ho_; rw [List.set_set] at h_; have A3 := hid h_; have HB3 := hid (only_below HB2.out hg0 ho_ HB2.out.size); clear h_ ho_)
        | ((with_reducible refine wpL_vcell g0 i 11 ((gst k).set i (reg (reg (reg (gV i v) 17 kd) 16 fn) 10 a)) (reg (reg (reg (gV i v) 17 kd) 16 fn) 10 a) (calV (gV i v) kd fn a b) (.int .u64 b) ?_ ?_ ?_ ?_ ?_ ?_ ?_ ?_ ?_); exact .inl rfl; exact .inl ⟨_, _, rfl⟩; exact List.getElem?_set_self HIL.out; omega; exact reg_cs (reg (reg (reg (gV i v) 17 kd) 16 fn) 10 a) _ 11 (by decide); rfl; rfl; exact A3.out; intro wr4 h_ ho_; rw [List.set_set] at h_; have A4 := hid h_; have HB4 := hid (only_below HB3.out hg0 ho_ HB3.out.size); clear h_ ho_)
        | ((with_reducible refine wpL_appendV wr4.heap.size (.slice none 0 0) (.slice (some ⟨g0, 0, none⟩) k k) ((gst k).set i (calV (gV i v) kd fn a b)) ?_ ?_ ?_ ?_ ?_ ?_ ?_); rfl; exact World.ownsRow_nil _ _ _ _; rfl; have := A4.out.rd (cap := k); rw [HLL.out] at this; exact this; rw [HLL.out]; omega; exact Nat.le_refl _; intro v5 w5 hv5 hb5; obtain ⟨g5, c5, rfl, hg5, hvb5⟩ := vs_at hv5 (by intro e; have := HLL.out; rw [e] at this; simp at this; omega); rw [HLL.out]; have A5 := hid hvb5; have A4' := hid (A4.out.below hb5); have HB5 := hid (HB4.out.trans (hb5.mono HB4.out.size)); clear hv5 hvb5 hb5)
        | (go_at_call 22; refine (v_Call _ (.slice (some ⟨g0, 0, none⟩) k k) ((gst k).set i (calV (gV i v) kd fn a b)) (by have := A4'.out.rd (cap := k); rw [HLL.out] at this; exact this) (by rw [HLL.out]; omega) HALL.out i (calV (gV i v) kd fn a b) HLI.out).mono ?_; rw [HLL.out]; rintro e w6 ⟨g, cp, ov, rfl, hvb, hg, hov, hb⟩; have A6 := hid hvb; have A5' := hid (A5.out.below hb); have HB6 := hid (HB5.out.trans (hb.mono HB5.out.size)); have HO6 := hid (hov.base HB5.out.size); clear hvb hg hov hb))
      go_returns
      exact ⟨v, g5, c5, g, cp, ov, VOKV.out, HVV.out, rfl, A5'.out, A6.out, HO6.out, HB6.out⟩
end Go.Proofs.Yteafjobmlfkppaa
namespace Go.Proofs.Yteafjobmlfkppaa
open Go.RowKit
set_option linter.unusedVariables false
set_option maxRecDepth 100000

theorem c_PlaceN (n m : Int) (m0 : 0 < m) (m1 : m ≤ 4611686018427387904) (h0 : -9223372036854775808 ≤ n) (h1 : n ≤ 9223372036854775807) (w : World) : Calls Try.prog 26 #[.int .i64 n, .int .i64 m] w fun e w' => ∃ k : Nat, e = .returned (.int .i64 k) ∧ (k : Int) < m ∧ w' = w := by
  refine (C.c_Place n m m0 m1 h0 h1 w).mono ?_
  rintro e w' ⟨rfl, rfl⟩
  have a := Int.emod_nonneg n (show m ≠ 0 by omega)
  have b := Int.emod_lt_of_pos n m0
  exact ⟨(n % m).toNat, by rw [Int.toNat_of_nonneg a], by rw [Int.toNat_of_nonneg a]; exact b, rfl⟩
def LcV (n i : Nat) (v : VV) (kd fn a b : Int) : List VV := (gst n).set i (calV (gV i v) kd fn a b)
theorem Lc_len (n i : Nat) (v : VV) (kd fn a b : Int) : (LcV n i v kd fn a b).length = n := by simp [LcV, gst_len]
theorem Lc_get (n i : Nat) (hi : i < n) (v : VV) (kd fn a b : Int) : (LcV n i v kd fn a b)[i]? = some (calV (gV i v) kd fn a b) := List.getElem?_set_self (by rw [gst_len]; exact hi)
theorem cal_nm (v : VV) (kd fn a b : Int) : nmOf ((ordV (calV v kd fn a b)).h.x 17) ((ordV (calV v kd fn a b)).h.x 16) = nmOf kd fn := by
  rw [ordX _ 17 (by decide), ordX _ 16 (by decide)]
  rfl
theorem finL_i (M : List VV) (i : Nat) (av : AV) (y : VV) (hs : av.st = false) (hy : M[i]? = some y) : (finL M i av)[i]? = some (finV y av.err av.val) := by
  unfold finL
  rw [if_neg (by rw [hs]; decide), hy]
  exact List.getElem?_set_self (List.getElem?_eq_some_iff.1 hy).1
theorem c_end1 (n i : Nat) (n0 : 1 ≤ n) (n1 : n ≤ 64) (hi : i < n) (a b : Int) (q3 : 0 ≤ a ∧ a < 18446744073709551616) (q4 : 0 ≤ b ∧ b < 18446744073709551616) (w : World) :
    Calls Try.prog 27 #[.int .i64 n, .int .i64 i, .int .u64 1397904212, .int .u64 0, .int .u64 a, .int .u64 b] w fun e w' => ∃ g1 c1 g c R, e = .returned (.tuple #[.slice (some ⟨g1, 0, none⟩) n c1, .slice (some ⟨g, 0, none⟩) n c, .slice none 0 0, .bool true]) ∧ Vb w' g R ∧ R.length = n ∧ (∀ (k : Nat) (z : VV), R[k]? = some z → z.st = 0) ∧ Below w.heap.size w w' := by
  refine (c_calls n i n0 n1 hi 1397904212 0 a b (by omega) (by omega) q3 q4 w).mono ?_
  rintro e w' ⟨v, g1, c1, g, c, ov, vok, hv, rfl, h1, h2, ho, hb⟩
  have hc : callF (LcV n i v 1397904212 0 a b) i (calV (gV i v) 1397904212 0 a b) = ((ordL (LcV n i v 1397904212 0 a b)).mapIdx fun _ => stopV, aDown, none) := by
    have e : ansF (ordL (LcV n i v 1397904212 0 a b)) i (ordV (calV (gV i v) 1397904212 0 a b)) = ((ordL (LcV n i v 1397904212 0 a b)).mapIdx fun _ => stopV, aDown, none) := by
      unfold ansF
      rw [cal_nm, show nmOf 1397904212 0 = keyN 26 by decide, ansG_26]
    unfold callF
    rw [e]
    rfl
  unfold LcV at hc
  rw [hc] at h2 ho ⊢
  obtain rfl : ov = nils := ho
  refine ⟨g1, c1, g, c, _, rfl, h2, by simp [ordL_len, gst_len], fun k z hz => ?_, hb⟩
  simp only [List.getElem?_mapIdx, Option.map_eq_some_iff] at hz
  obtain ⟨u, _, rfl⟩ := hz
  rfl
theorem c_end2 (n i : Nat) (n0 : 1 ≤ n) (n1 : n ≤ 64) (hi : i < n) (fn a b : Int) (q2 : 0 ≤ fn ∧ fn < 18446744073709551616) (q3 : 0 ≤ a ∧ a < 18446744073709551616) (q4 : 0 ≤ b ∧ b < 18446744073709551616) (w : World) :
    Calls Try.prog 27 #[.int .i64 n, .int .i64 i, .int .u64 1, .int .u64 fn, .int .u64 a, .int .u64 b] w fun e w' => ∃ g1 c1 g c o R z, e = .returned (.tuple #[.slice (some ⟨g1, 0, none⟩) n c1, .slice (some ⟨g, 0, none⟩) n c, .slice (some ⟨o, 0, none⟩) 1 1, .bool false]) ∧ C1 w' o (.int .u8 (a % 256)) ∧ Vb w' g R ∧ R[i]? = some z ∧ z.h.x 10 = 0 ∧ z.h.x 11 = b ∧ Below w.heap.size w w' := by
  refine (c_calls n i n0 n1 hi 1 fn a b (by omega) q2 q3 q4 w).mono ?_
  rintro e w' ⟨v, g1, c1, g, c, ov, vok, hv, rfl, h1, h2, ho, hb⟩
  have hP : (ordL (LcV n i v 1 fn a b))[i]? = some (ordV (calV (gV i v) 1 fn a b)) := ordL_get _ _ _ (Lc_get n i hi v 1 fn a b)
  have hc : callF (LcV n i v 1 fn a b) i (calV (gV i v) 1 fn a b) = (finL (ordL (LcV n i v 1 fn a b)) i (aVal b), aVal b, some (a % 256)) := by
    have e : ansF (ordL (LcV n i v 1 fn a b)) i (ordV (calV (gV i v) 1 fn a b)) = (ordL (LcV n i v 1 fn a b), aVal b, some (a % 256)) := by
      unfold ansF
      rw [cal_nm, show nmOf 1 fn = keyN 11 by simp [nmOf, keyN], ansG_11, ordX _ 11 (by decide), ordX _ 10 (by decide)]
      rfl
    unfold callF
    rw [e]
  have hz := finL_i (ordL (LcV n i v 1 fn a b)) i (aVal b) _ rfl hP
  unfold LcV at hc hz
  rw [hc] at h2 ho ⊢
  obtain ⟨o, rfl, hco, _⟩ := ho
  exact ⟨g1, c1, g, c, o, _, _, rfl, hco, h2, hz, rfl, rfl, hb⟩
theorem c_end3 (n i : Nat) (n0 : 1 ≤ n) (n1 : n ≤ 64) (hi : i < n) (kd fn a b : Int) (hk : ∀ k ∈ calI, keyN k ≠ nmOf kd fn) (q1 : 0 ≤ kd ∧ kd < 18446744073709551616) (q2 : 0 ≤ fn ∧ fn < 18446744073709551616) (q3 : 0 ≤ a ∧ a < 18446744073709551616) (q4 : 0 ≤ b ∧ b < 18446744073709551616) (w : World) :
    Calls Try.prog 27 #[.int .i64 n, .int .i64 i, .int .u64 kd, .int .u64 fn, .int .u64 a, .int .u64 b] w fun e w' => ∃ g1 c1 g c L1 x1 R z, e = .returned (.tuple #[.slice (some ⟨g1, 0, none⟩) n c1, .slice (some ⟨g, 0, none⟩) n c, .slice none 0 0, .bool false]) ∧ Vb w' g1 L1 ∧ L1[i]? = some x1 ∧ x1.h.pc = 2147483648 + 64 * i ∧ Vb w' g R ∧ R[i]? = some z ∧ z.h.x 10 = 18446744073709551614 ∧ z.h.x 11 = 0 ∧ z.h.pc = 2147483648 + 64 * i + 4 ∧ Below w.heap.size w w' := by
  refine (c_calls n i n0 n1 hi kd fn a b q1 q2 q3 q4 w).mono ?_
  rintro e w' ⟨v, g1, c1, g, c, ov, vok, hv, rfl, h1, h2, ho, hb⟩
  have hP : (ordL (LcV n i v kd fn a b))[i]? = some (ordV (calV (gV i v) kd fn a b)) := ordL_get _ _ _ (Lc_get n i hi v kd fn a b)
  have hc : callF (LcV n i v kd fn a b) i (calV (gV i v) kd fn a b) = (finL (ordL (LcV n i v kd fn a b)) i (aErr 18446744073709551614), aErr 18446744073709551614, none) := by
    have e : ansF (ordL (LcV n i v kd fn a b)) i (ordV (calV (gV i v) kd fn a b)) = (ordL (LcV n i v kd fn a b), aErr 18446744073709551614, none) := by
      unfold ansF
      rw [cal_nm, ansG_no _ hk]
    unfold callF
    rw [e]
  have hz := finL_i (ordL (LcV n i v kd fn a b)) i (aErr 18446744073709551614) _ rfl hP
  have hg := Lc_get n i hi v kd fn a b
  unfold LcV at hc hz hg
  rw [hc] at h2 ho ⊢
  obtain rfl : ov = nils := ho
  refine ⟨g1, c1, g, c, _, _, _, _, rfl, h1, hg, rfl, h2, hz, rfl, rfl, ?_, hb⟩
  show IntKind.u64.wrap ((2147483648 + 64 * (i : Int)) / 2 * 2 + 4) = _
  rw [IntKind.wrap_u64]
  omega
end Go.Proofs.Yteafjobmlfkppaa
namespace Go.Proofs.Yteafjobmlfkppaa
open Go.RowKit
set_option linter.unusedVariables false
set_option maxRecDepth 100000

def AllOk (L : List VV) : Prop := ∀ x ∈ L, HOk x.h
theorem AllOk.get {L : List VV} (h : AllOk L) {k : Nat} {x : VV} (hx : L[k]? = some x) : HOk x.h := h x (List.mem_of_getElem? hx)
theorem AllOk.set {L : List VV} (h : AllOk L) {x : VV} (hx : HOk x.h) (k : Nat) : AllOk (L.set k x) := fun y hy => by
  rcases List.mem_or_eq_of_mem_set hy with q | q
  · exact h y q
  · rw [q]; exact hx
theorem AllOk.ord {L : List VV} (h : AllOk L) : AllOk (ordL L) := fun y hy => by
  obtain ⟨k, hk⟩ := List.mem_iff_getElem?.1 hy
  simp only [ordL, List.getElem?_mapIdx, Option.map_eq_some_iff] at hk
  obtain ⟨x, hx, rfl⟩ := hk
  exact ordOk (h.get hx)
theorem std_ok (pc a0 a1 : Int) (p : 0 ≤ pc ∧ pc < 18446744073709551616) (p0 : 0 ≤ a0 ∧ a0 < 18446744073709551616) (p1 : 0 ≤ a1 ∧ a1 < 18446744073709551616) : HOk (stdV pc a0 a1).h := ordOk (rs2_ok pc a0 a1 p p0 p1)
theorem fin_ok (y : VV) (ok : HOk y.h) (e v : Int) (e0 : 0 ≤ e ∧ e < 18446744073709551616) (v0 : 0 ≤ v ∧ v < 18446744073709551616) : HOk (finV y e v).h := by
  have h2 : HOk ({ y.h with pc := IntKind.u64.wrap (y.h.pc + 4) } : HV) := { ok with pc := wrap_r _ }
  exact HOk.x1 (HOk.x1 h2 10 e e0.1 e0.2) 11 v v0.1 v0.2
theorem reg_ok (y : VV) (ok : HOk y.h) (r : Nat) (v : Int) (v0 : 0 ≤ v ∧ v < 18446744073709551616) : HOk (reg y r v).h := HOk.x1 ok r v v0.1 v0.2
/-- what the call leaves, its name being known -/
theorem call_of (L : List VV) (i : Nat) (x : VV) (M : List VV) (av : AV) (o : Option Int) (h : ansF (ordL L) i (ordV x) = (M, av, o)) : callF L i x = (finL M i av, av, o) := by
  unfold callF
  rw [h]
/-- the caller's registers, of a call about harts -/
def hrt (v : VV) (fn t : Int) : VV := reg (reg (reg v 17 4739917) 16 fn) 10 t
def strt (v : VV) (t pc gv : Int) : VV := reg (reg (hrt v 0 t) 11 pc) 12 gv
theorem ans_hrt (L : List VV) (x : VV) (i : Nat) (k : Nat) (fn : Int) (h17 : x.h.x 17 = 4739917) (h16 : x.h.x 16 = fn) (hk : keyN k = (4739917, fn)) : ansF (ordL L) i (ordV x) = ansG (keyN k) (ordL L) i (ordV x) := by
  unfold ansF
  rw [ordX x 17 (by decide), ordX x 16 (by decide), h17, h16, show nmOf 4739917 fn = (4739917, fn) by simp [nmOf], hk]
/-- started -/
theorem s_A (L : List VV) (n t : Nat) (hl : L.length = n) (h0 : 0 < t) (ht : t < n) (hok : AllOk L) (v y : VV) (hv : L[0]? = some v) (hy : L[t]? = some y) (hst : y.st = 0) (pc gv : Int) (p : 0 ≤ pc ∧ pc < 18446744073709551616) (q : 0 ≤ gv ∧ gv < 18446744073709551616) (n8 : n ≤ 64) :
    ∃ R z, callF (L.set 0 (strt v t pc gv)) 0 (strt v t pc gv) = (R, AV.zero, none) ∧ R.length = n ∧ AllOk R ∧ R[0]? = some z ∧ z.h.x 10 = 0 ∧ R[t]? = some (stdV pc t gv) := by
  have t0 : 0 ≤ (t : Int) ∧ (t : Int) < 18446744073709551616 := by omega
  have okx : HOk (strt v t pc gv).h := reg_ok _ (reg_ok _ (reg_ok _ (reg_ok _ (reg_ok _ (hok.get hv) 17 _ (by omega)) 16 _ (by omega)) 10 _ t0) 11 _ p) 12 _ q
  have okL := hok.set okx 0
  have hPt : (ordL (L.set 0 (strt v t pc gv)))[t]? = some (ordV y) := ordL_get _ _ _ (by rw [List.getElem?_set_ne (by omega)]; exact hy)
  have hP0 : (ordL (L.set 0 (strt v t pc gv)))[0]? = some (ordV (strt v t pc gv)) := ordL_get _ _ _ (List.getElem?_set_self (by omega))
  have e : ansF (ordL (L.set 0 (strt v t pc gv))) 0 (ordV (strt v t pc gv)) = ((ordL (L.set 0 (strt v t pc gv))).set t (stdV pc t gv), AV.zero, none) := by
    rw [ans_hrt _ (strt v t pc gv) 0 17 0 rfl rfl rfl, ansG_17, ordX _ 10 (by decide), ordX _ 11 (by decide), ordX _ 12 (by decide)]
    have es : startL (ordL (L.set 0 (strt v t pc gv))) t pc gv = ((ordL (L.set 0 (strt v t pc gv))).set t (stdV pc t gv), AV.zero) := by
      unfold startL
      rw [Int.toNat_natCast, hPt]
      simp only
      rw [if_neg (by show ¬ y.st ≠ 0; rw [hst]; decide)]
    show ((startL _ t pc gv).1, (startL _ t pc gv).2, none) = _
    rw [es]
  have hM0 : ((ordL (L.set 0 (strt v t pc gv))).set t (stdV pc t gv))[0]? = some (ordV (strt v t pc gv)) := by rw [List.getElem?_set_ne (by omega)]; exact hP0
  have okM := (okL.ord).set (std_ok pc t gv p t0 q) t
  refine ⟨_, _, call_of _ _ _ _ _ _ e, by rw [finL_len, List.length_set, ordL_len, List.length_set, hl], ?_, finL_i _ 0 AV.zero _ rfl hM0, rfl, ?_⟩
  · have ef : finL ((ordL (L.set 0 (strt v t pc gv))).set t (stdV pc t gv)) 0 AV.zero = ((ordL (L.set 0 (strt v t pc gv))).set t (stdV pc t gv)).set 0 (finV (ordV (strt v t pc gv)) 0 0) := by
      unfold finL
      rw [if_neg (by decide), hM0]
      rfl
    rw [ef]
    exact okM.set (fin_ok _ (ordOk okx) 0 0 (by omega) (by omega)) 0
  · rw [finL_ne _ _ _ _ (by omega)]
    exact List.getElem?_set_self (by rw [ordL_len, List.length_set, hl]; exact ht)
/-- not begun again -/
theorem s_B (L : List VV) (n t : Nat) (hl : L.length = n) (h0 : 0 < t) (ht : t < n) (hok : AllOk L) (v y : VV) (hv : L[0]? = some v) (hy : L[t]? = some y) (hst : y.st = 1) (n8 : n ≤ 64) :
    ∃ R z, callF (L.set 0 (hrt v 0 t)) 0 (hrt v 0 t) = (R, aErr 18446744073709551610, none) ∧ R.length = n ∧ AllOk R ∧ R[0]? = some z ∧ z.h.x 10 = 18446744073709551610 ∧ R[t]? = some (ordV y) := by
  have t0 : 0 ≤ (t : Int) ∧ (t : Int) < 18446744073709551616 := by omega
  have okx : HOk (hrt v 0 t).h := reg_ok _ (reg_ok _ (reg_ok _ (hok.get hv) 17 _ (by omega)) 16 _ (by omega)) 10 _ t0
  have okL := hok.set okx 0
  have hPt : (ordL (L.set 0 (hrt v 0 t)))[t]? = some (ordV y) := ordL_get _ _ _ (by rw [List.getElem?_set_ne (by omega)]; exact hy)
  have hP0 : (ordL (L.set 0 (hrt v 0 t)))[0]? = some (ordV (hrt v 0 t)) := ordL_get _ _ _ (List.getElem?_set_self (by omega))
  have e : ansF (ordL (L.set 0 (hrt v 0 t))) 0 (ordV (hrt v 0 t)) = (ordL (L.set 0 (hrt v 0 t)), aErr 18446744073709551610, none) := by
    rw [ans_hrt _ (hrt v 0 t) 0 17 0 rfl rfl rfl, ansG_17, ordX _ 10 (by decide)]
    have es : ∀ a b, startL (ordL (L.set 0 (hrt v 0 t))) t a b = (ordL (L.set 0 (hrt v 0 t)), aErr 18446744073709551610) := fun a b => by
      unfold startL
      rw [Int.toNat_natCast, hPt]
      simp only
      rw [if_pos (by show y.st ≠ 0; rw [hst]; decide)]
    show ((startL _ t _ _).1, (startL _ t _ _).2, none) = _
    rw [es]
  refine ⟨_, _, call_of _ _ _ _ _ _ e, by rw [finL_len, ordL_len, List.length_set, hl], ?_, finL_i _ 0 (aErr 18446744073709551610) _ rfl hP0, rfl, ?_⟩
  · have ef : finL (ordL (L.set 0 (hrt v 0 t))) 0 (aErr 18446744073709551610) = (ordL (L.set 0 (hrt v 0 t))).set 0 (finV (ordV (hrt v 0 t)) 18446744073709551610 0) := by
      unfold finL
      rw [if_neg (by decide), hP0]
      rfl
    rw [ef]
    exact okL.ord.set (fin_ok _ (ordOk okx) 18446744073709551610 0 (by omega) (by omega)) 0
  · rw [finL_ne _ _ _ _ (by omega)]
    exact hPt
/-- it stops -/
def stp (y : VV) : VV := reg (reg y 17 4739917) 16 1
theorem s_C (L : List VV) (n t : Nat) (hl : L.length = n) (h0 : 0 < t) (ht : t < n) (hok : AllOk L) (v y : VV) (hv : L[0]? = some v) (hy : L[t]? = some y) :
    ∃ R z v', callF (L.set t (stp y)) t (stp y) = (R, aStay, none) ∧ R.length = n ∧ AllOk R ∧ R[0]? = some v' ∧ R[t]? = some z ∧ z.st = 0 ∧ z.h.pc = y.h.pc / 2 * 2 := by
  have okx : HOk (stp y).h := reg_ok _ (reg_ok _ (hok.get hy) 17 _ (by omega)) 16 _ (by omega)
  have okL := hok.set okx t
  have hPt : (ordL (L.set t (stp y)))[t]? = some (ordV (stp y)) := ordL_get _ _ _ (List.getElem?_set_self (by omega))
  have hP0 : (ordL (L.set t (stp y)))[0]? = some (ordV v) := ordL_get _ _ _ (by rw [List.getElem?_set_ne (by omega)]; exact hv)
  have e : ansF (ordL (L.set t (stp y))) t (ordV (stp y)) = ((ordL (L.set t (stp y))).set t (stopV (ordV (stp y))), aStay, none) := by
    rw [ans_hrt _ (stp y) t 20 1 rfl rfl rfl, ansG_20]
  refine ⟨_, stopV (ordV (stp y)), ordV v, call_of _ _ _ _ _ _ e, by rw [finL_len, List.length_set, ordL_len, List.length_set, hl], ?_, ?_, ?_, rfl, rfl⟩
  · show AllOk ((ordL (L.set t (stp y))).set t (stopV (ordV (stp y))))
    exact okL.ord.set (ordOk okx) t
  · show ((ordL (L.set t (stp y))).set t (stopV (ordV (stp y))))[0]? = _
    rw [List.getElem?_set_ne (by omega)]
    exact hP0
  · show ((ordL (L.set t (stp y))).set t (stopV (ordV (stp y))))[t]? = _
    exact List.getElem?_set_self (by rw [ordL_len, List.length_set, hl]; exact ht)
/-- asked after -/
theorem s_D (L : List VV) (n t : Nat) (hl : L.length = n) (h0 : 0 < t) (ht : t < n) (hok : AllOk L) (v y : VV) (hv : L[0]? = some v) (hy : L[t]? = some y) (hst : y.st = 0) (n8 : n ≤ 64) :
    ∃ R z u, callF (L.set 0 (hrt v 2 t)) 0 (hrt v 2 t) = (R, aVal 1, none) ∧ R.length = n ∧ AllOk R ∧ R[0]? = some z ∧ z.h.x 10 = 0 ∧ z.h.x 11 = 1 ∧ z.h.x 17 = 4739917 ∧ R[t]? = some u ∧ u.st = 0 := by
  have t0 : 0 ≤ (t : Int) ∧ (t : Int) < 18446744073709551616 := by omega
  have okx : HOk (hrt v 2 t).h := reg_ok _ (reg_ok _ (reg_ok _ (hok.get hv) 17 _ (by omega)) 16 _ (by omega)) 10 _ t0
  have okL := hok.set okx 0
  have hPt : (ordL (L.set 0 (hrt v 2 t)))[t]? = some (ordV y) := ordL_get _ _ _ (by rw [List.getElem?_set_ne (by omega)]; exact hy)
  have hP0 : (ordL (L.set 0 (hrt v 2 t)))[0]? = some (ordV (hrt v 2 t)) := ordL_get _ _ _ (List.getElem?_set_self (by omega))
  have e : ansF (ordL (L.set 0 (hrt v 2 t))) 0 (ordV (hrt v 2 t)) = (ordL (L.set 0 (hrt v 2 t)), aVal 1, none) := by
    rw [ans_hrt _ (hrt v 2 t) 0 23 2 rfl rfl rfl, ansG_23, ordX _ 10 (by decide)]
    have es : stpA (ordL (L.set 0 (hrt v 2 t))) t = aVal 1 := by
      unfold stpA
      rw [Int.toNat_natCast, hPt]
      simp only
      rw [show (ordV y).st = 0 from hst]
      rfl
    show (_, stpA _ t, none) = _
    rw [es]
  refine ⟨_, _, ordV y, call_of _ _ _ _ _ _ e, by rw [finL_len, ordL_len, List.length_set, hl], ?_, finL_i _ 0 (aVal 1) _ rfl hP0, rfl, rfl, rfl, ?_, hst⟩
  · have ef : finL (ordL (L.set 0 (hrt v 2 t))) 0 (aVal 1) = (ordL (L.set 0 (hrt v 2 t))).set 0 (finV (ordV (hrt v 2 t)) 0 1) := by
      unfold finL
      rw [if_neg (by decide), hP0]
      rfl
    rw [ef]
    exact okL.ord.set (fin_ok _ (ordOk okx) 0 1 (by omega) (by omega)) 0
  · rw [finL_ne _ _ _ _ (by omega)]
    exact hPt
/-- one that is not there -/
theorem s_E (L : List VV) (n : Nat) (hl : L.length = n) (hn : 0 < n) (hok : AllOk L) (v : VV) (hv : L[0]? = some v) (h17 : v.h.x 17 = 4739917) (n8 : n ≤ 64) :
    ∃ R z, callF (L.set 0 (reg (reg v 16 2) 10 n)) 0 (reg (reg v 16 2) 10 n) = (R, aErr 18446744073709551613, none) ∧ R.length = n ∧ R[0]? = some z ∧ z.h.x 10 = 18446744073709551613 := by
  have hP0 : (ordL (L.set 0 (reg (reg v 16 2) 10 n)))[0]? = some (ordV (reg (reg v 16 2) 10 n)) := ordL_get _ _ _ (List.getElem?_set_self (by omega))
  have e : ansF (ordL (L.set 0 (reg (reg v 16 2) 10 n))) 0 (ordV (reg (reg v 16 2) 10 n)) = (ordL (L.set 0 (reg (reg v 16 2) 10 n)), aErr 18446744073709551613, none) := by
    rw [ans_hrt _ (reg (reg v 16 2) 10 n) 0 23 2 (show v.h.x 17 = 4739917 from h17) rfl rfl, ansG_23, ordX _ 10 (by decide)]
    have es : stpA (ordL (L.set 0 (reg (reg v 16 2) 10 n))) n = aErr 18446744073709551613 := by
      unfold stpA
      rw [Int.toNat_natCast, List.getElem?_eq_none (by rw [ordL_len, List.length_set, hl]; exact Nat.le_refl _)]
    show (_, stpA _ n, none) = _
    rw [es]
  exact ⟨_, _, call_of _ _ _ _ _ _ e, by rw [finL_len, ordL_len, List.length_set, hl], finL_i _ 0 (aErr 18446744073709551613) _ rfl hP0, rfl⟩
end Go.Proofs.Yteafjobmlfkppaa
namespace Go.Proofs.Yteafjobmlfkppaa
open Go.RowKit
set_option linter.unusedVariables false
set_option maxRecDepth 100000

theorem rg12 (v : VV) (u : Int) : v.cs.set 12 (.int .u64 u) = (reg v 12 u).cs := rfl
theorem zx2 (f : Nat → Int) : zx (zx f) = zx f := by funext i; unfold zx; split <;> rfl
theorem ord2 (h : HV) (h1 : ib (ib h.sie) = ib h.sie) (h2 : ib (ib h.sip) = ib h.sip) : ordH (ordH h) = ordH h := by
  have a := zx2 h.x
  have b : h.pc / 2 * 2 / 2 * 2 = h.pc / 2 * 2 := by omega
  have c : h.sepc / 2 * 2 / 2 * 2 = h.sepc / 2 * 2 := by omega
  have d : (h.stvec / 4 * 4 + h.stvec % 2) / 4 * 4 + (h.stvec / 4 * 4 + h.stvec % 2) % 2 = h.stvec / 4 * 4 + h.stvec % 2 := by omega
  unfold ordH
  simp only [a, b, c, d, h1, h2]
theorem ibz : ib 0 = 0 := rfl
theorem ordstd (pc a0 a1 : Int) : ordV (stdV pc a0 a1) = stdV pc a0 a1 := by
  have e : ordH (rstH pc a0 a1) = rstH pc a0 a1 := ord2 (rs2H pc a0 a1) (by show ib (ib 0) = ib 0; rw [ibz, ibz]) (by show ib (ib 0) = ib 0; rw [ibz, ibz])
  show VV.mk (ordH (rstH pc a0 a1)) 1 false 0 = VV.mk (rstH pc a0 a1) 1 false 0
  rw [e]
theorem bgn_at (n t : Nat) (pc : Int) (h0 : 0 < t) (ht : t < n) : (bgnL n pc)[t]? = some VV.zero := by
  unfold bgnL
  rw [List.getElem?_set_ne (by omega), List.getElem?_replicate, if_pos ht]
/-- one round: the four calls -/
theorem s_round (L : List VV) (n t : Nat) (hl : L.length = n) (h0 : 0 < t) (ht : t < n) (hok : AllOk L) (v y : VV) (hv : L[0]? = some v) (hy : L[t]? = some y) (hst : y.st = 0) (pc gv : Int) (p : 0 ≤ pc ∧ pc < 18446744073709551616) (q : 0 ≤ gv ∧ gv < 18446744073709551616) (n8 : n ≤ 64) :
    ∃ R1 z1 X R2 R3 v3 R4, Hid ((L.set 0 (strt v t pc gv)).length = n) ∧ Hid (AllOk (L.set 0 (strt v t pc gv))) ∧ Hid ((L.set 0 (strt v t pc gv))[0]? = some (strt v t pc gv))
      ∧ Hid (callF (L.set 0 (strt v t pc gv)) 0 (strt v t pc gv) = (R1, AV.zero, none)) ∧ Hid (R1.length = n) ∧ Hid (R1[0]? = some z1) ∧ Hid (z1.h.x 10 = 0) ∧ Hid (R1[t]? = some X) ∧ Hid (X = stdV pc t gv)
      ∧ Hid ((R1.set 0 (hrt z1 0 t)).length = n) ∧ Hid (AllOk (R1.set 0 (hrt z1 0 t))) ∧ Hid ((R1.set 0 (hrt z1 0 t))[0]? = some (hrt z1 0 t)) ∧ Hid ((R1.set 0 (hrt z1 0 t))[t]? = some X)
      ∧ Hid (callF (R1.set 0 (hrt z1 0 t)) 0 (hrt z1 0 t) = (R2, aErr 18446744073709551610, none)) ∧ Hid (R2.length = n) ∧ Hid (∃ z2, R2[0]? = some z2 ∧ z2.h.x 10 = 18446744073709551610) ∧ Hid (R2[t]? = some X)
      ∧ Hid ((R2.set t (stp X)).length = n) ∧ Hid (AllOk (R2.set t (stp X))) ∧ Hid ((R2.set t (stp X))[t]? = some (stp X))
      ∧ Hid (callF (R2.set t (stp X)) t (stp X) = (R3, aStay, none)) ∧ Hid (R3.length = n) ∧ Hid (R3[0]? = some v3) ∧ Hid (∃ z3, R3[t]? = some z3 ∧ z3.st = 0 ∧ z3.h.pc = X.h.pc)
      ∧ Hid ((R3.set 0 (hrt v3 2 t)).length = n) ∧ Hid (AllOk (R3.set 0 (hrt v3 2 t))) ∧ Hid ((R3.set 0 (hrt v3 2 t))[0]? = some (hrt v3 2 t))
      ∧ Hid (callF (R3.set 0 (hrt v3 2 t)) 0 (hrt v3 2 t) = (R4, aVal 1, none)) ∧ Hid (R4.length = n) ∧ Hid (AllOk R4) ∧ Hid (∃ z4, R4[0]? = some z4 ∧ z4.h.x 10 = 0 ∧ z4.h.x 11 = 1 ∧ z4.h.x 17 = 4739917) ∧ Hid (∃ u4, R4[t]? = some u4 ∧ u4.st = 0) := by
  have t0 : 0 ≤ (t : Int) ∧ (t : Int) < 18446744073709551616 := by omega
  have okh : ∀ (z : VV), HOk z.h → ∀ fn : Int, 0 ≤ fn ∧ fn < 18446744073709551616 → HOk (hrt z fn t).h := fun z hz fn hf => reg_ok _ (reg_ok _ (reg_ok _ hz 17 _ (by omega)) 16 _ hf) 10 _ t0
  have okx : HOk (strt v t pc gv).h := reg_ok _ (reg_ok _ (okh v (hok.get hv) 0 (by omega)) 11 _ p) 12 _ q
  obtain ⟨R1, z1, e1, l1, k1, a1, b1, c1⟩ := s_A L n t hl h0 ht hok v y hv hy hst pc gv p q n8
  obtain ⟨R2, z2, e2, l2, k2, a2, b2, c2⟩ := s_B R1 n t l1 h0 ht k1 z1 _ a1 c1 rfl n8
  rw [ordstd] at c2
  obtain ⟨R3, z3, v3, e3, l3, k3, a3, b3, c3, d3⟩ := s_C R2 n t l2 h0 ht k2 z2 _ a2 c2
  obtain ⟨R4, z4, u4, e4, l4, k4, a4, b4, c4, d4, f4, g4⟩ := s_D R3 n t l3 h0 ht k3 v3 z3 a3 b3 c3 n8
  have okX : HOk (stp (stdV pc t gv)).h := reg_ok _ (reg_ok _ (k2.get c2) 17 _ (by omega)) 16 _ (by omega)
  refine ⟨R1, z1, stdV pc t gv, R2, R3, v3, R4, ?_, hok.set okx 0, ?_, e1, l1, a1, b1, c1, rfl, ?_, k1.set (okh z1 (k1.get a1) 0 (by omega)) 0, ?_, ?_, e2, l2, ⟨z2, a2, b2⟩, c2, ?_, k2.set okX t, ?_, e3, l3, a3, ⟨z3, b3, c3, ?_⟩, ?_, k3.set (okh v3 (k3.get a3) 2 (by omega)) 0, ?_, e4, l4, k4, ⟨z4, a4, b4, c4, d4⟩, ⟨u4, f4, g4⟩⟩
  · show _ = _; rw [List.length_set, hl]
  · show _ = _; exact List.getElem?_set_self (by omega)
  · show _ = _; rw [List.length_set, l1]
  · show _ = _; exact List.getElem?_set_self (by omega)
  · show _ = _; rw [List.getElem?_set_ne (by omega)]; exact c1
  · show _ = _; rw [List.length_set, l2]
  · show _ = _; exact List.getElem?_set_self (by omega)
  · rw [d3]; show pc / 2 * 2 / 2 * 2 = pc / 2 * 2; omega
  · show _ = _; rw [List.length_set, l3]
  · show _ = _; exact List.getElem?_set_self (by omega)
theorem s_last (L : List VV) (n : Nat) (hl : L.length = n) (hn : 0 < n) (hok : AllOk L) (v : VV) (hv : L[0]? = some v) (h17 : v.h.x 17 = 4739917) (n8 : n ≤ 64) :
    ∃ R, Hid ((L.set 0 (reg (reg v 16 2) 10 n)).length = n) ∧ Hid (AllOk (L.set 0 (reg (reg v 16 2) 10 n))) ∧ Hid ((L.set 0 (reg (reg v 16 2) 10 n))[0]? = some (reg (reg v 16 2) 10 n)) ∧ Hid (callF (L.set 0 (reg (reg v 16 2) 10 n)) 0 (reg (reg v 16 2) 10 n) = (R, aErr 18446744073709551613, none)) ∧ Hid (R.length = n) ∧ Hid (∃ z, R[0]? = some z ∧ z.h.x 10 = 18446744073709551613) := by
  obtain ⟨R, z, e, l, a, b⟩ := s_E L n hl hn hok v hv h17 n8
  exact ⟨R, by show _ = _; rw [List.length_set, hl], hok.set (reg_ok _ (reg_ok _ (hok.get hv) 16 _ (by omega)) 10 _ (by omega)) 0, List.getElem?_set_self (by omega), e, l, z, a, b⟩
set_option maxHeartbeats 64000000 in
theorem w_VcpuStarts (w : World) (hs : Int) (h0 : -9223372036854775808 ≤ hs) (h1 : hs ≤ 9223372036854775807) (tg : Int) (f0 : -9223372036854775808 ≤ tg) (f1 : tg ≤ 9223372036854775807) (pc : Int) (p0 : 0 ≤ pc) (p1 : pc < 18446744073709551616) (gv : Int) (q0 : 0 ≤ gv) (q1 : gv < 18446744073709551616) :
    Calls Try.prog 9 #[.int .i64 hs, .int .i64 tg, .int .u64 pc, .int .u64 gv] w fun e w' => e = .returned (.bool true) ∧ Below w.heap.size w w' := by
  have PC := hid (And.intro p0 p1)
  have GV := hid (And.intro q0 q1)
  go_enter Try.func9, Try.ntmps9
  go_upto_region 2 with (go_at_call 26; refine (c_PlaceN hs 6 (by omega) (by omega) h0 h1 _).mono ?_; rintro e w1 ⟨p, rfl, hp, hww⟩; obtain rfl : w = w1 := hww.symm)
  obtain ⟨n, hn⟩ : ∃ n : Nat, n = 2 + p := ⟨_, rfl⟩
  have hnc : (2 + (p : Int)) = (n : Int) := by omega
  rw [hnc]
  have hn2 : 2 ≤ n := by omega
  have hn8 : n ≤ 64 := by omega
  clear hnc hn hp h0 h1
  go_upto_region 3 with (go_at_call 26; refine (c_PlaceN tg (n - 1) (by omega) (by omega) f0 f1 _).mono ?_; rintro e w1 ⟨i, rfl, hi, hww⟩; obtain rfl : w = w1 := hww.symm)
  obtain ⟨t, ht⟩ : ∃ t : Nat, t = 1 + i := ⟨_, rfl⟩
  have htc : (1 + (i : Int)) = (t : Int) := by omega
  rw [htc]
  have ht0 : 0 < t := by omega
  have htn : t < n := by omega
  clear htc ht hi f0 f1
  go_upto_region 4 with (go_at_call 12; refine (v_Begin_good n 2147483648 (by omega) hn8 (by omega) _).mono ?_; rintro e w1 ⟨g0, rfl, hvb, hg0, hb⟩; have A0 := hid hvb; have HG0 := hid hg0; have HB0 := hid hb; clear hvb hg0 hb)
  go_wp2_with fail
  go_loopw [11, 12] (fun l c wr => ∃ (r g cap : Nat) (L : List VV) (v y : VV), r ≤ 2 ∧ c = .int .i64 r ∧ l = .slice (some ⟨g, 0, none⟩) n cap ∧ Vb wr g L ∧ L.length = n ∧ AllOk L ∧ w.heap.size ≤ g ∧ L[0]? = some v ∧ L[t]? = some y ∧ y.st = 0 ∧ (r = 0 ∨ v.h.x 17 = 4739917) ∧ Below w.heap.size w wr) (fun _ c _ => 2 - (intOf c).toNat)
  case atStart => exact ⟨0, g0, n, _, _, _, by omega, rfl, rfl, A0.out, bgn_len _ _, bgn_ok n, HG0.out, bgn_0 n _ (by omega), bgn_at n t _ ht0 htn, rfl, .inl rfl, HB0.out⟩
  case round =>
    clear A0 HG0 HB0
    obtain ⟨r, g, cap, L, v, y, hr, rfl, rfl, hvb, hl, hok, hg, hv, hy, hst, h17, hb⟩ := hrel
    have HA := hid hvb
    have HB := hid hb
    have HG := hid hg
    have aG := hid hv
    have HL0 : Hid (0 < L.length) := by show 0 < L.length; omega
    clear hvb hb hg
    by_cases hlt : r < 2
    · obtain ⟨R1, z1, X, R2, R3, v3, R4, la, oka, ata, ea, l1, bG, z10, x1, HX, lb, okb, atb, xb, eb, l2, az2, cG, lc, okc, atc, ec, l3, dG, az3, ld, okd, atd, ed, l4, ok4, az4, au4⟩ := s_round L n t hl ht0 htn hok v y hv hy hst pc gv PC.out GV.out hn8
      have HR1 : Hid (0 < R1.length) := by show 0 < R1.length; rw [l1.out]; omega
      have HR2 : Hid (t < R2.length) := by show t < R2.length; rw [l2.out]; exact htn
      have HR3 : Hid (0 < R3.length) := by show 0 < R3.length; rw [l3.out]; omega
      clear hl hok hv hy hst h17
      have X49 : Hid (X.cs[49]? = some (.int .i64 1)) := by show _ = _; rw [HX.out]; rfl
      have X32 : Hid (X.cs[32]? = some (.int .u64 (pc / 2 * 2))) := by show _ = _; rw [HX.out]; rfl
      have X10 : Hid (X.cs[10]? = some (.int .u64 t)) := by show _ = _; rw [HX.out]; rfl
      have X11 : Hid (X.cs[11]? = some (.int .u64 gv)) := by show _ = _; rw [HX.out]; rfl
      have X50 : Hid (X.cs[50]? = some (.bool false)) := by show _ = _; rw [HX.out]; rfl
      clear HX
      go_upto_region 15 with (first
        | ((with_reducible refine wpL_vcell g 0 17 L v (reg v 17 4739917) (.int .u64 4739917) ?_ ?_ ?_ ?_ ?_ ?_ ?_ ?_ ?_); exact .inl rfl; exact .inl ⟨_, _, rfl⟩; exact aG.out; omega; exact reg_cs v _ 17 (by decide); rfl; rfl; exact HA.out; intro wa1 h_ ho_; have aA1 := hid h_; have aB1 := hid (only_below HB.out HG.out ho_ HB.out.size); clear h_ ho_)
        | ((with_reducible refine wpL_vcell g 0 16 (L.set 0 (reg v 17 4739917)) (reg v 17 4739917) (reg (reg v 17 4739917) 16 0) (.int .u64 0) ?_ ?_ ?_ ?_ ?_ ?_ ?_ ?_ ?_); exact .inl rfl; exact .inl ⟨_, _, rfl⟩; exact List.getElem?_set_self HL0.out; omega; exact reg_cs (reg v 17 4739917) _ 16 (by decide); rfl; rfl; exact aA1.out; intro wa2 h_ ho_; rw [List.set_set] at h_; have aA2 := hid h_; have aB2 := hid (only_below aB1.out HG.out ho_ aB1.out.size); clear h_ ho_)
        | ((with_reducible refine wpL_vcell g 0 10 (L.set 0 (reg (reg v 17 4739917) 16 0)) (reg (reg v 17 4739917) 16 0) (hrt v 0 t) (.int .u64 t) ?_ ?_ ?_ ?_ ?_ ?_ ?_ ?_ ?_); exact .inl rfl; exact .inl ⟨_, _, rfl⟩; exact List.getElem?_set_self HL0.out; omega; exact reg_cs (reg (reg v 17 4739917) 16 0) _ 10 (by decide); rfl; rfl; exact aA2.out; intro wa3 h_ ho_; rw [List.set_set] at h_; have aA3 := hid h_; have aB3 := hid (only_below aB2.out HG.out ho_ aB2.out.size); clear h_ ho_)
        | ((with_reducible refine wpL_vcell g 0 11 (L.set 0 (hrt v 0 t)) (hrt v 0 t) (reg (hrt v 0 t) 11 pc) (.int .u64 pc) ?_ ?_ ?_ ?_ ?_ ?_ ?_ ?_ ?_); exact .inl rfl; exact .inl ⟨_, _, rfl⟩; exact List.getElem?_set_self HL0.out; omega; exact reg_cs (hrt v 0 t) _ 11 (by decide); rfl; rfl; exact aA3.out; intro wa4 h_ ho_; rw [List.set_set] at h_; have aA4 := hid h_; have aB4 := hid (only_below aB3.out HG.out ho_ aB3.out.size); clear h_ ho_)
        | ((with_reducible refine wpL_vcell g 0 12 (L.set 0 (reg (hrt v 0 t) 11 pc)) (reg (hrt v 0 t) 11 pc) (strt v t pc gv) (.int .u64 gv) ?_ ?_ ?_ ?_ ?_ ?_ ?_ ?_ ?_); exact .inl rfl; exact .inl ⟨_, _, rfl⟩; exact List.getElem?_set_self HL0.out; omega; exact rg12 (reg (hrt v 0 t) 11 pc) _; rfl; rfl; exact aA4.out; intro wa5 h_ ho_; rw [List.set_set] at h_; have aA5 := hid h_; have aB5 := hid (only_below aB4.out HG.out ho_ aB4.out.size); clear h_ ho_)
        | (go_at_call 22; refine (v_Call _ (.slice (some ⟨g, 0, none⟩) n cap) (L.set 0 (strt v t pc gv)) (by have := aA5.out.rd (cap := cap); rw [la.out] at this; exact this) (by rw [la.out]; omega) oka.out 0 (strt v t pc gv) ata.out).mono ?_; rw [la.out, ea.out]; rintro e wA ⟨g1, c1, ov, rfl, hvb, hgn, hov, hb⟩; obtain rfl : ov = nils := hov; have aV : Hid (Vb wA g1 R1) := hid hvb; have aO := hid (aA5.out.below hb); have aH := hid (aB5.out.trans (hb.mono aB5.out.size)); have HG1 : Hid (w.heap.size ≤ g1) := hid (Nat.le_trans aB5.out.size hgn); clear hvb hgn hb))
      have c10 : wA.cell? ⟨g1, 10, none⟩ = some (.int .u64 0) := (aV.out.cell (i := 0) bG.out 10 (by omega)).trans (by rw [← z10.out]; rfl)
      have t49 : wA.cell? ⟨g1, t * 52 + 49, none⟩ = some (.int .i64 1) := (aV.out.cell x1.out 49 (by omega)).trans X49.out
      have t32 : wA.cell? ⟨g1, t * 52 + 32, none⟩ = some (.int .u64 (pc / 2 * 2)) := (aV.out.cell x1.out 32 (by omega)).trans X32.out
      have t10 : wA.cell? ⟨g1, t * 52 + 10, none⟩ = some (.int .u64 t) := (aV.out.cell x1.out 10 (by omega)).trans X10.out
      have t11 : wA.cell? ⟨g1, t * 52 + 11, none⟩ = some (.int .u64 gv) := (aV.out.cell x1.out 11 (by omega)).trans X11.out
      have t50 : wA.cell? ⟨g1, t * 52 + 50, none⟩ = some (.bool false) := (aV.out.cell x1.out 50 (by omega)).trans X50.out
      go_upto_region 17 with fail
      clear c10 t49 t32 t10 t11 t50
      go_upto_region 21 with (first
        | ((with_reducible refine wpL_vcell g1 0 17 R1 z1 (reg z1 17 4739917) (.int .u64 4739917) ?_ ?_ ?_ ?_ ?_ ?_ ?_ ?_ ?_); exact .inl rfl; exact .inl ⟨_, _, rfl⟩; exact bG.out; omega; exact reg_cs z1 _ 17 (by decide); rfl; rfl; exact aV.out; intro wb1 h_ ho_; have bA1 := hid h_; have bB1 := hid (only_below aH.out HG1.out ho_ aH.out.size); clear h_ ho_)
        | ((with_reducible refine wpL_vcell g1 0 16 (R1.set 0 (reg z1 17 4739917)) (reg z1 17 4739917) (reg (reg z1 17 4739917) 16 0) (.int .u64 0) ?_ ?_ ?_ ?_ ?_ ?_ ?_ ?_ ?_); exact .inl rfl; exact .inl ⟨_, _, rfl⟩; exact List.getElem?_set_self HR1.out; omega; exact reg_cs (reg z1 17 4739917) _ 16 (by decide); rfl; rfl; exact bA1.out; intro wb2 h_ ho_; rw [List.set_set] at h_; have bA2 := hid h_; have bB2 := hid (only_below bB1.out HG1.out ho_ bB1.out.size); clear h_ ho_)
        | ((with_reducible refine wpL_vcell g1 0 10 (R1.set 0 (reg (reg z1 17 4739917) 16 0)) (reg (reg z1 17 4739917) 16 0) (hrt z1 0 t) (.int .u64 t) ?_ ?_ ?_ ?_ ?_ ?_ ?_ ?_ ?_); exact .inl rfl; exact .inl ⟨_, _, rfl⟩; exact List.getElem?_set_self HR1.out; omega; exact reg_cs (reg (reg z1 17 4739917) 16 0) _ 10 (by decide); rfl; rfl; exact bA2.out; intro wb3 h_ ho_; rw [List.set_set] at h_; have bA3 := hid h_; have bB3 := hid (only_below bB2.out HG1.out ho_ bB2.out.size); clear h_ ho_)
        | (go_at_call 22; refine (v_Call _ (.slice (some ⟨g1, 0, none⟩) n c1) (R1.set 0 (hrt z1 0 t)) (by have := bA3.out.rd (cap := c1); rw [lb.out] at this; exact this) (by rw [lb.out]; omega) okb.out 0 (hrt z1 0 t) atb.out).mono ?_; rw [lb.out, eb.out]; rintro e wB ⟨g2, c2, ov, rfl, hvb, hgn, hov, hb⟩; obtain rfl : ov = nils := hov; have bV : Hid (Vb wB g2 R2) := hid hvb; have bO := hid (bA3.out.below hb); have bH := hid (bB3.out.trans (hb.mono bB3.out.size)); have HG2 : Hid (w.heap.size ≤ g2) := hid (Nat.le_trans bB3.out.size hgn); clear hvb hgn hb))
      obtain ⟨z2, hz2, hz210⟩ := az2.out
      have c10 : wB.cell? ⟨g2, 10, none⟩ = some (.int .u64 18446744073709551610) := (bV.out.cell (i := 0) hz2 10 (by omega)).trans (by rw [← hz210]; rfl)
      clear hz2 hz210
      have RA : Hid (∀ u, (∃ n, u = wB.drewN n) → u.rangeAt g2 (t * 52) X.cs) := fun u ⟨m, hm⟩ => range_same (by rw [hm]; rfl) (bV.out.range cG.out)
      have RB : Hid (∀ u, (∃ n, u = wB.drewN n) → u.rangeAt g1 (t * 52) X.cs) := fun u ⟨m, hm⟩ => range_same (by rw [hm]; rfl) (bO.out.range xb.out)
      refine wp_region_quiet_lit (by kernel_rfl) (by kernel_rfl) ?_
      repeat
        first
          | ((with_reducible refine wpQ_vload g2 (t * 52) X ?_ ?_ RA.out ?_); rfl; rfl)
          | ((with_reducible refine wpQ_vload g1 (t * 52) X ?_ ?_ RB.out ?_); rfl; rfl)
          | ((with_reducible refine wpQ_neV X X ?_ ?_ ?_ ?_); rfl; rfl; rfl; rw [eqV_self, Bool.not_true])
          | go_big_quiet_step (fail)
          | (refine wpQuiet_step (fun K hK => ?_)
             go_simp
             first
               | (refine hK _ ?_; clear hK K)
               | (refine ⟨_, fun _ => rfl, hK _ ?_⟩; clear hK K))
      refine wpQuiet_nil ?_
      intro _ hw'
      obtain ⟨nq1, hw''⟩ := hw'
      subst hw''
      clear c10 RA RB
      have bV2 : Hid (Vb (wB.drewN nq1) g2 R2) := bV.out.same rfl
      have bH2 : Hid (Below w.heap.size w (wB.drewN nq1)) := below_dn bH.out _
      go_upto_region 26 with (first
        | ((with_reducible refine wpL_vcell g2 t 17 R2 X (reg X 17 4739917) (.int .u64 4739917) ?_ ?_ ?_ ?_ ?_ ?_ ?_ ?_ ?_); exact .inl rfl; exact .inl ⟨_, _, rfl⟩; exact cG.out; omega; exact reg_cs X _ 17 (by decide); rfl; rfl; exact bV2.out; intro wc1 h_ ho_; have cA1 := hid h_; have cB1 := hid (only_below bH2.out HG2.out ho_ bH2.out.size); clear h_ ho_)
        | ((with_reducible refine wpL_vcell g2 t 16 (R2.set t (reg X 17 4739917)) (reg X 17 4739917) (stp X) (.int .u64 1) ?_ ?_ ?_ ?_ ?_ ?_ ?_ ?_ ?_); exact .inl rfl; exact .inl ⟨_, _, rfl⟩; exact List.getElem?_set_self HR2.out; omega; exact reg_cs (reg X 17 4739917) _ 16 (by decide); rfl; rfl; exact cA1.out; intro wc2 h_ ho_; rw [List.set_set] at h_; have cA2 := hid h_; have cB2 := hid (only_below cB1.out HG2.out ho_ cB1.out.size); clear h_ ho_)
        | (go_at_call 22; refine (v_Call _ (.slice (some ⟨g2, 0, none⟩) n c2) (R2.set t (stp X)) (by have := cA2.out.rd (cap := c2); rw [lc.out] at this; exact this) (by rw [lc.out]; omega) okc.out t (stp X) atc.out).mono ?_; rw [lc.out, ec.out]; rintro e wC ⟨g3, c3, ov, rfl, hvb, hgn, hov, hb⟩; obtain rfl : ov = nils := hov; have cV : Hid (Vb wC g3 R3) := hid hvb; have cO := hid (cA2.out.below hb); have cH := hid (cB2.out.trans (hb.mono cB2.out.size)); have HG3 : Hid (w.heap.size ≤ g3) := hid (Nat.le_trans cB2.out.size hgn); clear hvb hgn hb))
      obtain ⟨z3, hz3, hz349, hz3p⟩ := az3.out
      have t49 : wC.cell? ⟨g3, t * 52 + 49, none⟩ = some (.int .i64 0) := (cV.out.cell hz3 49 (by omega)).trans (by rw [← hz349]; rfl)
      have t32 : wC.cell? ⟨g3, t * 52 + 32, none⟩ = some (.int .u64 X.h.pc) := (cV.out.cell hz3 32 (by omega)).trans (by rw [← hz3p]; rfl)
      have y32 : wC.cell? ⟨g2, t * 52 + 32, none⟩ = some (.int .u64 X.h.pc) := (cO.out.cell atc.out 32 (by omega)).trans rfl
      clear hz3 hz349 hz3p
      go_quiet (fail)
      clear t49 t32 y32
      have cV2 : Hid (Vb (wC.drewN nq) g3 R3) := cV.out.same rfl
      have cH2 : Hid (Below w.heap.size w (wC.drewN nq)) := below_dn cH.out _
      go_upto_region 32 with (first
        | ((with_reducible refine wpL_vcell g3 0 17 R3 v3 (reg v3 17 4739917) (.int .u64 4739917) ?_ ?_ ?_ ?_ ?_ ?_ ?_ ?_ ?_); exact .inl rfl; exact .inl ⟨_, _, rfl⟩; exact dG.out; omega; exact reg_cs v3 _ 17 (by decide); rfl; rfl; exact cV2.out; intro wd1 h_ ho_; have dA1 := hid h_; have dB1 := hid (only_below cH2.out HG3.out ho_ cH2.out.size); clear h_ ho_)
        | ((with_reducible refine wpL_vcell g3 0 16 (R3.set 0 (reg v3 17 4739917)) (reg v3 17 4739917) (reg (reg v3 17 4739917) 16 2) (.int .u64 2) ?_ ?_ ?_ ?_ ?_ ?_ ?_ ?_ ?_); exact .inl rfl; exact .inl ⟨_, _, rfl⟩; exact List.getElem?_set_self HR3.out; omega; exact reg_cs (reg v3 17 4739917) _ 16 (by decide); rfl; rfl; exact dA1.out; intro wd2 h_ ho_; rw [List.set_set] at h_; have dA2 := hid h_; have dB2 := hid (only_below dB1.out HG3.out ho_ dB1.out.size); clear h_ ho_)
        | ((with_reducible refine wpL_vcell g3 0 10 (R3.set 0 (reg (reg v3 17 4739917) 16 2)) (reg (reg v3 17 4739917) 16 2) (hrt v3 2 t) (.int .u64 t) ?_ ?_ ?_ ?_ ?_ ?_ ?_ ?_ ?_); exact .inl rfl; exact .inl ⟨_, _, rfl⟩; exact List.getElem?_set_self HR3.out; omega; exact reg_cs (reg (reg v3 17 4739917) 16 2) _ 10 (by decide); rfl; rfl; exact dA2.out; intro wd3 h_ ho_; rw [List.set_set] at h_; have dA3 := hid h_; have dB3 := hid (only_below dB2.out HG3.out ho_ dB2.out.size); clear h_ ho_)
        | (go_at_call 22; refine (v_Call _ (.slice (some ⟨g3, 0, none⟩) n c3) (R3.set 0 (hrt v3 2 t)) (by have := dA3.out.rd (cap := c3); rw [ld.out] at this; exact this) (by rw [ld.out]; omega) okd.out 0 (hrt v3 2 t) atd.out).mono ?_; rw [ld.out, ed.out]; rintro e wD ⟨g4, c4, ov, rfl, hvb, hgn, hov, hb⟩; obtain rfl : ov = nils := hov; have dV : Hid (Vb wD g4 R4) := hid hvb; have dO := hid (dA3.out.below hb); have dH := hid (dB3.out.trans (hb.mono dB3.out.size)); have HG4 : Hid (w.heap.size ≤ g4) := hid (Nat.le_trans dB3.out.size hgn); clear hvb hgn hb))
      obtain ⟨z4, hz4, hz410, hz411, hz417⟩ := az4.out
      obtain ⟨u4, hu4, hu4s⟩ := au4.out
      have HZ4 := hid hz4
      have HZ17 := hid hz417
      have HU4 := hid hu4
      have HU4S := hid hu4s
      have c10 : wD.cell? ⟨g4, 10, none⟩ = some (.int .u64 0) := (dV.out.cell (i := 0) hz4 10 (by omega)).trans (by rw [← hz410]; rfl)
      have c11 : wD.cell? ⟨g4, 11, none⟩ = some (.int .u64 1) := (dV.out.cell (i := 0) hz4 11 (by omega)).trans (by rw [← hz411]; rfl)
      clear hz4 hz410 hz411 hz417 hu4 hu4s
      go_wp2_with fail
      go_roundw
      case rel => exact ⟨r + 1, g4, c4, R4, z4, u4, by omega, by go_num, rfl, dV.out, l4.out, ok4.out, HG4.out, HZ4.out, HU4.out, HU4S.out, .inr HZ17.out, dH.out⟩
      case measure => simp [intOf]; omega
    · obtain rfl : r = 2 := by omega
      have h17' : v.h.x 17 = 4739917 := by rcases h17 with h | h; exact absurd h (by decide); exact h
      obtain ⟨R5, la, oka, ata, ea, l5, az5⟩ := s_last L n hl (by omega) hok v hv h17' hn8
      clear hl hok hv hy hst h17 h17'
      go_upto_region 37 with (first
        | ((with_reducible refine wpL_vcell g 0 16 L v (reg v 16 2) (.int .u64 2) ?_ ?_ ?_ ?_ ?_ ?_ ?_ ?_ ?_); exact .inl rfl; exact .inl ⟨_, _, rfl⟩; exact aG.out; omega; exact reg_cs v _ 16 (by decide); rfl; rfl; exact HA.out; intro we1 h_ ho_; have eA1 := hid h_; have eB1 := hid (only_below HB.out HG.out ho_ HB.out.size); clear h_ ho_)
        | ((with_reducible refine wpL_vcell g 0 10 (L.set 0 (reg v 16 2)) (reg v 16 2) (reg (reg v 16 2) 10 n) (.int .u64 n) ?_ ?_ ?_ ?_ ?_ ?_ ?_ ?_ ?_); exact .inl rfl; exact .inl ⟨_, _, rfl⟩; exact List.getElem?_set_self HL0.out; omega; exact reg_cs (reg v 16 2) _ 10 (by decide); rfl; rfl; exact eA1.out; intro we2 h_ ho_; rw [List.set_set] at h_; have eA2 := hid h_; have eB2 := hid (only_below eB1.out HG.out ho_ eB1.out.size); clear h_ ho_)
        | (go_at_call 22; refine (v_Call _ (.slice (some ⟨g, 0, none⟩) n cap) (L.set 0 (reg (reg v 16 2) 10 n)) (by have := eA2.out.rd (cap := cap); rw [la.out] at this; exact this) (by rw [la.out]; omega) oka.out 0 (reg (reg v 16 2) 10 n) ata.out).mono ?_; rw [la.out, ea.out]; rintro e wE ⟨g5, c5, ov, rfl, hvb, hgn, hov, hb⟩; obtain rfl : ov = nils := hov; have eV : Hid (Vb wE g5 R5) := hid hvb; have eO := hid (eA2.out.below hb); have eH := hid (eB2.out.trans (hb.mono eB2.out.size)); have HG5 : Hid (w.heap.size ≤ g5) := hid (Nat.le_trans eB2.out.size hgn); clear hvb hgn hb))
      obtain ⟨z5, hz5, hz510⟩ := az5.out
      have c10 : wE.cell? ⟨g5, 10, none⟩ = some (.int .u64 18446744073709551613) := (eV.out.cell (i := 0) hz5 10 (by omega)).trans (by rw [← hz510]; rfl)
      clear hz5 hz510
      go_wp2_with (go_at_call 14; refine (v_awake _).mono ?_; rintro e w9 ⟨rfl, hb⟩; have HB9 := hid (eH.out.trans (hb.mono eH.out.size)); clear hb)
      go_ret
      exact ⟨rfl, HB9.out⟩
end Go.Proofs.Yteafjobmlfkppaa
