/- The document's Ready. -/
import Derived.Test.YteafjobmlfkppaaMH2
namespace Go.Proofs.Yteafjobmlfkppaa
open Go.RowKit
set_option linter.unusedVariables false
set_option maxRecDepth 100000

theorem sW_ff (o : HV) (h0 : 0 ≤ o.sip) (h1 : o.sip < 18446744073709551616) : sW o false false = bits .and .u64 o.sip 2 := by
  have a := and_r o.sip 2 h0 h1 (by omega) (by omega)
  simp only [sW, cond_false]
  rw [or0 _ a.1 a.2, or0 _ a.1 a.2]
theorem sW_tf (o : HV) (h0 : 0 ≤ o.sip) (h1 : o.sip < 18446744073709551616) : sW o true false = bits .or .u64 (bits .and .u64 o.sip 2) 32 := by
  have a := and_r o.sip 2 h0 h1 (by omega) (by omega)
  have b := or_r _ 32 a.1 a.2 (by omega) (by omega)
  simp only [sW, cond_false, cond_true]
  rw [or0 _ b.1 b.2]
theorem sW_ft (o : HV) (h0 : 0 ≤ o.sip) (h1 : o.sip < 18446744073709551616) : sW o false true = bits .or .u64 (bits .and .u64 o.sip 2) 512 := by
  have a := and_r o.sip 2 h0 h1 (by omega) (by omega)
  simp only [sW, cond_false, cond_true]
  rw [or0 _ a.1 a.2]
theorem sW_tt (o : HV) : sW o true true = bits .or .u64 (bits .or .u64 (bits .and .u64 o.sip 2) 32) 512 := rfl
set_option maxHeartbeats 4000000 in
theorem r_ReadyW (x : VV) (o : HV) (h0 : 0 ≤ o.sip) (h1 : o.sip < 18446744073709551616) (now : Int) (ext : Bool) (w : World) (hI : ∀ u, Calls Try.prog 32 #[x.v] u fun e w' => e = .returned (VV.v { x with h := o }) ∧ Below u.heap.size u w') : Calls Try.prog 16 #[x.v, .int .u64 now, .bool ext] w fun e w' => e = .returned (readyW x o (x.ar && decide (x.dl ≤ now)) ext).v ∧ Below w.heap.size w w' := by
  have HI := hid hI
  clear hI
  have A1 : Hid (V1 ((w.alloc (.cells x.ca 32)).alloc (.cells VV.zero.ca 32)) w.heap.size x) := V1.new1 x _
  have A2 : Hid (V1 ((w.alloc (.cells x.ca 32)).alloc (.cells VV.zero.ca 32)) (w.heap.size + 1) VV.zero) := V1.new2 VV.zero _
  have HB0 := hid (below2 (w := w) (.cells x.ca 32) (.cells VV.zero.ca 32))
  have hc : (x.ar = true ∧ x.dl ≤ now) ∨ (x.ar = true ∧ ¬ x.dl ≤ now) ∨ x.ar = false := by
    cases x.ar <;> by_cases q : x.dl ≤ now <;> simp [q]
  obtain ⟨d, hd⟩ : ∃ d, (x.ar && decide (x.dl ≤ now)) = d := ⟨_, rfl⟩
  rw [hd]
  obtain ⟨s, hs⟩ : ∃ s, s = sW o d ext := ⟨_, rfl⟩
  have HW : Hid (readyW x o d ext = ⟨{ o with sip := s }, if x.st = 2 ∧ bits .and .u64 s o.sie ≠ 0 then 1 else x.st, x.ar, x.dl⟩) := by rw [hs]; rfl
  rw [HW.out]
  clear HW
  obtain ⟨t, ht⟩ : ∃ t : Int, t = if x.st = 2 ∧ bits .and .u64 s o.sie ≠ 0 then 1 else x.st := ⟨_, rfl⟩
  rw [← ht]
  have HT := hid ht
  clear ht
  go_enter Try.func16, Try.ntmps16
  go_upto_region 2 with (first
    | ((with_reducible refine wpList_new (z := .agg VV.zero.ca) VV.zero.ca ?_ ?_ ?_); rfl; exact z_vcpu)
    | ((with_reducible refine wpL_vload (d := some 8) w.heap.size 0 x ?_ ?_ ?_); rfl; exact A1.out.range)
    | (go_at_call 32; refine (HI.out _).mono ?_; rintro e w1 ⟨rfl, hb⟩; have B1 := hid (A1.out.below hb); have B2 := hid (A2.out.below hb); have HB1 := hid (HB0.out.trans (hb.mono HB0.out.size)); clear hb)
    | ((with_reducible refine wpL_store1 (x := .tmp 3) (y := .tmp 9) w.heap.size x { x with h := o } ?_ ?_ ?_ ?_); rfl; rfl; exact B1.out; intro w2 h2 ho2; have C1 := hid h2; have C2 := hid (B2.out.only ho2 (fun (q : _ = _) => by omega)); have HB2 := hid (only_below HB1.out (Nat.le_refl _) ho2 HB1.out.size); clear h2 ho2))
  have c46 : w2.cell? ⟨w.heap.size, 46, none⟩ = some (.int .u64 o.sip) := C1.out.c 46
  have c51 : w2.cell? ⟨w.heap.size, 51, none⟩ = some (.int .u64 x.dl) := C1.out.c 51
  rcases hc with ⟨ha, hn⟩ | ⟨ha, hn⟩ | ha <;> cases ext
  all_goals
    have c50 : w2.cell? ⟨w.heap.size, 50, none⟩ = some (.bool x.ar) := C1.out.c 50
    rw [ha] at c50 hd
    first | rw [Bool.false_and] at hd | rw [show decide (x.dl ≤ now) = true from decide_eq_true (by omega), Bool.and_true] at hd | rw [show decide (x.dl ≤ now) = false from decide_eq_false (by omega), Bool.and_false] at hd
    rw [← hd] at hs
    clear hd
    have HW := hid (by first | exact hs.trans (sW_tt o) | exact hs.trans (sW_tf o h0 h1) | exact hs.trans (sW_ft o h0 h1) | exact hs.trans (sW_ff o h0 h1))
    clear hs
    go_upto_region 8 with ((with_reducible refine wpL_1cell w.heap.size 46 { x with h := o } { x with h := { o with sip := s } } (.int .u64 s) ?_ ?_ ?_ ?_ ?_ ?_ ?_ ?_); exact .inl rfl; exact .inl ⟨_, _, rfl⟩; omega; rfl; rfl; rw [HW.out]; rfl; exact C1.out; intro w3 h3 ho3; have D1 := hid h3; have D2 := hid (C2.out.only ho3 (fun (q : _ = _) => by omega)); have HB3 := hid (only_below HB2.out (Nat.le_refl _) ho3 HB2.out.size); clear h3 ho3)
    rw [← HW.out]
    clear HW c46 c50 c51
    have c46 : w3.cell? ⟨w.heap.size, 46, none⟩ = some (.int .u64 s) := D1.out.c 46
    have c45 : w3.cell? ⟨w.heap.size, 45, none⟩ = some (.int .u64 o.sie) := D1.out.c 45
    have c49 : w3.cell? ⟨w.heap.size, 49, none⟩ = some (.int .i64 x.st) := D1.out.c 49
    by_cases h2 : x.st = 2
    · by_cases hq : bits .and .u64 s o.sie = 0
      · have HX : Hid ((if x.st = 2 ∧ bits .and .u64 s o.sie ≠ 0 then 1 else x.st) = x.st) := if_neg (fun q => q.2 hq)
        go_wp2_with (first
          | ((with_reducible refine wpL_vload (d := some 42) w.heap.size 0 { x with h := { o with sip := s } } ?_ ?_ ?_); rfl; exact D1.out.range)
          | ((with_reducible refine wpL_store1 (x := .tmp 6) (y := .tmp 42) (w.heap.size + 1) VV.zero { x with h := { o with sip := s } } ?_ ?_ ?_ ?_); rfl; rfl; exact D2.out; intro w6 h6 ho6; have F1 := hid h6; have HB6 := hid (only_below HB3.out (by omega) ho6 HB3.out.size); clear h6 ho6))
        exact bodyPost_ret (ret_v Try.results16 (w.heap.size + 1) _ rfl F1.out) rfl ⟨by first | (rw [HT.out.trans HX.out]; done) | (rw [HT.out.trans HX.out, ha]; done), HB6.out⟩
      · have HX : Hid ((if x.st = 2 ∧ bits .and .u64 s o.sie ≠ 0 then 1 else x.st) = 1) := if_pos ⟨h2, hq⟩
        go_wp2_with (first
          | ((with_reducible refine wpL_1cell w.heap.size 49 { x with h := { o with sip := s } } { x with st := 1, h := { o with sip := s } } (.int .i64 1) ?_ ?_ ?_ ?_ ?_ ?_ ?_ ?_); exact .inr (.inl rfl); exact .inl ⟨_, _, rfl⟩; omega; rfl; rfl; rfl; exact D1.out; intro w4 h4 ho4; have E1 := hid h4; have E2 := hid (D2.out.only ho4 (fun (q : _ = _) => by omega)); have HB5 := hid (only_below HB3.out (Nat.le_refl _) ho4 HB3.out.size); clear h4 ho4)
          | ((with_reducible refine wpL_vload (d := some 42) w.heap.size 0 { x with st := 1, h := { o with sip := s } } ?_ ?_ ?_); rfl; exact E1.out.range)
          | ((with_reducible refine wpL_store1 (x := .tmp 6) (y := .tmp 42) (w.heap.size + 1) VV.zero { x with st := 1, h := { o with sip := s } } ?_ ?_ ?_ ?_); rfl; rfl; exact E2.out; intro w6 h6 ho6; have F1 := hid h6; have HB6 := hid (only_below HB5.out (by omega) ho6 HB5.out.size); clear h6 ho6))
        exact bodyPost_ret (ret_v Try.results16 (w.heap.size + 1) _ rfl F1.out) rfl ⟨by first | (rw [HT.out.trans HX.out]; done) | (rw [HT.out.trans HX.out, ha]; done), HB6.out⟩
    · have HX : Hid ((if x.st = 2 ∧ bits .and .u64 s o.sie ≠ 0 then 1 else x.st) = x.st) := if_neg (fun q => h2 q.1)
      go_wp2_with (first
        | ((with_reducible refine wpL_vload (d := some 42) w.heap.size 0 { x with h := { o with sip := s } } ?_ ?_ ?_); rfl; exact D1.out.range)
        | ((with_reducible refine wpL_store1 (x := .tmp 6) (y := .tmp 42) (w.heap.size + 1) VV.zero { x with h := { o with sip := s } } ?_ ?_ ?_ ?_); rfl; rfl; exact D2.out; intro w6 h6 ho6; have F1 := hid h6; have HB6 := hid (only_below HB3.out (by omega) ho6 HB3.out.size); clear h6 ho6))
      exact bodyPost_ret (ret_v Try.results16 (w.heap.size + 1) _ rfl F1.out) rfl ⟨by first | (rw [HT.out.trans HX.out]; done) | (rw [HT.out.trans HX.out, ha]; done), HB6.out⟩
theorem r_Ready (x : VV) (ok : HOk x.h) (now : Int) (ext : Bool) (w : World) : Calls Try.prog 16 #[x.v, .int .u64 now, .bool ext] w fun e w' => e = .returned (readyV x now ext).v ∧ Below w.heap.size w w' :=
  r_ReadyW x (ordH x.h) (ordOk ok).sip.1 (ordOk ok).sip.2 now ext w fun u => r_order x ok u
end Go.Proofs.Yteafjobmlfkppaa
namespace Go.Proofs.Yteafjobmlfkppaa
open Go.RowKit
set_option linter.unusedVariables false
set_option maxRecDepth 100000

/-- one of them, behind a store by number i -/
def wrV (i gpa : Int) (k : Nat) (x : VV) : VV := if (k : Int) ≠ i ∧ x.h.resv / 8 = gpa / 8 then { x with h := { x.h with resd := false } } else x
def wrL (i gpa : Int) (L : List VV) (k : Nat) : List VV := (L.take k).mapIdx (wrV i gpa) ++ L.drop k
theorem wrL_len (i gpa : Int) (L : List VV) (k : Nat) : (wrL i gpa L k).length = L.length := by simp [wrL]; omega
theorem wrL_zero (i gpa : Int) (L : List VV) : wrL i gpa L 0 = L := by simp [wrL]
theorem wrL_get (i gpa : Int) (L : List VV) (k : Nat) (x : VV) (h : L[k]? = some x) : (wrL i gpa L k)[k]? = some x := by
  have hk : k < L.length := (List.getElem?_eq_some_iff.1 h).1
  unfold wrL
  rw [List.getElem?_append_right (by simp; omega)]
  simp [Nat.min_eq_left (Nat.le_of_lt hk), h]
theorem wrL_succ (i gpa : Int) (L : List VV) (k : Nat) (x : VV) (h : L[k]? = some x) : (wrL i gpa L k).set k (wrV i gpa k x) = wrL i gpa L (k + 1) := by
  have hk : k < L.length := (List.getElem?_eq_some_iff.1 h).1
  apply List.ext_getElem?
  intro j
  rcases Nat.lt_trichotomy j k with q | q | q
  · rw [List.getElem?_set_ne (by omega)]
    unfold wrL
    rw [List.getElem?_append_left (by simp; omega), List.getElem?_append_left (by simp; omega)]
    simp [List.getElem?_mapIdx, List.getElem?_take_of_lt q, List.getElem?_take_of_lt (show j < k + 1 by omega)]
  · subst q
    rw [List.getElem?_set_self (by rw [wrL_len]; exact hk)]
    unfold wrL
    rw [List.getElem?_append_left (by simp; omega)]
    simp [List.getElem?_mapIdx, List.getElem?_take_of_lt (show j < j + 1 by omega), h]
  · rw [List.getElem?_set_ne (by omega)]
    unfold wrL
    rw [List.getElem?_append_right (by simp; omega), List.getElem?_append_right (by simp; omega)]
    simp [Nat.min_eq_left (Nat.le_of_lt hk), Nat.min_eq_left (show k + 1 ≤ L.length by omega)]
    congr 1
    omega
theorem wrL_full (i gpa : Int) (L : List VV) : wrL i gpa L L.length = L.mapIdx (wrV i gpa) := by simp [wrL]
theorem resd_cs (x : VV) : x.cs.set 39 (.bool false) = VV.cs { x with h := { x.h with resd := false } } := rfl
theorem vs_at {w : World} {B : Nat} {v : Value} {L : List VV} (h : Vs w B v L) (hL : L ≠ []) : ∃ g cap, v = .slice (some ⟨g, 0, none⟩) L.length cap ∧ B ≤ g ∧ Vb w g L := by
  rcases h with ⟨_, h⟩ | h
  · exact absurd h hL
  · exact h
theorem resd_same (x : VV) (hd : x.h.resd = false) : ({ x with h := { x.h with resd := false } } : VV) = x := by
  obtain ⟨h, s, a, d⟩ := x
  cases h
  simp only at hd
  subst hd
  rfl
set_option maxHeartbeats 2000000 in
theorem v_Wrote (w : World) (v : Value) (L : List VV) (hv : Vr w v L) (hl : L.length * 368 ≤ 140737488355328) (i : Int) (i0 : -9223372036854775808 ≤ i) (i1 : i ≤ 9223372036854775807) (gpa : Int) (p0 : 0 ≤ gpa) (p1 : gpa < 18446744073709551616) (hr : ∀ x ∈ L, 0 ≤ x.h.resv ∧ x.h.resv < 18446744073709551616) :
    Calls Try.prog 20 #[v, .int .i64 i, .int .u64 gpa] w fun e w' => ∃ v', e = .returned v' ∧ Vs w' w.heap.size v' (L.mapIdx (wrV i gpa)) ∧ Below w.heap.size w w' := by
  have HV := hid hv
  have HL := hid hl
  have HR := hid hr
  clear hv hl hr
  have hL : L.length ≤ 9223372036854775807 := by have := HL.out; omega
  go_enter Try.func20, Try.ntmps20
  go_upto_region 2 with (go_at_call 33; refine (v_Clone _ v L HV.out HL.out).mono ?_; rintro e w1 ⟨v1, rfl, h1, hb⟩; have HS := hid h1; have HB := hid hb; clear h1 hb)
  rcases HS.out with ⟨rfl, hn⟩ | ⟨g, cap, rfl, hg, hvb⟩
  · subst hn
    go_wp2_with fail
    go_loopw [14] (fun i wr => i = .int .i64 0 ∧ wr = w1) (fun i _ => 0)
    case atStart => exact ⟨rfl, rfl⟩
    case round =>
      obtain ⟨rfl, rfl⟩ := hrel
      go_wp2_with fail
      go_ret
      exact ⟨_, rfl, .inl ⟨rfl, rfl⟩, HB.out⟩
  · have A1 := hid hvb
    clear hvb
    go_wp2_with fail
    go_loopw [14] (fun c wr => ∃ (k : Nat), k ≤ L.length ∧ c = .int .i64 k ∧ Vb wr g (wrL i gpa L k) ∧ Below w.heap.size w wr) (fun i _ => L.length - (intOf i).toNat)
    case atStart => exact ⟨0, by omega, rfl, by rw [wrL_zero]; exact A1.out, HB.out⟩
    case round =>
      clear A1 HB HS
      obtain ⟨k, hk, rfl, hvb, hb⟩ := hrel
      have HA := hid hvb
      have HB := hid hb
      clear hvb hb
      by_cases hlt : k < L.length
      · obtain ⟨x, hx⟩ : ∃ x, L[k]? = some x := ⟨_, List.getElem?_eq_getElem hlt⟩
        have HX := hid hx
        have HY := hid (wrL_get i gpa L k x hx)
        have hxr := HR.out x (List.mem_of_getElem? hx)
        clear hx
        have c48 : wr.cell? ⟨g, k * 52 + 48, none⟩ = some (.int .u64 x.h.resv) := HA.out.cell HY.out 48 (by omega)
        by_cases hi : (k : Int) = i
        · have HW : Hid (wrV i gpa k x = x) := if_neg (fun q => q.1 hi)
          go_wp2_with fail
          go_roundw
          case rel => exact ⟨k + 1, by omega, by go_num, by rw [← wrL_succ i gpa L k x HX.out, HW.out, set_same HY.out]; exact HA.out, HB.out⟩
          case measure => simp [intOf]; omega
        · by_cases hq : x.h.resv / 8 = gpa / 8
          · have HW : Hid (wrV i gpa k x = { x with h := { x.h with resd := false } }) := if_pos ⟨hi, hq⟩
            go_wp2_with ((with_reducible refine wpL_vcell g k 39 (wrL i gpa L k) x { x with h := { x.h with resd := false } } (.bool false) ?_ ?_ ?_ ?_ ?_ ?_ ?_ ?_ ?_); exact .inr (.inr rfl); exact .inr ⟨_, rfl⟩; exact HY.out; omega; exact resd_cs x; rfl; rfl; exact HA.out; intro w2 h2 ho2; have C1 := hid h2; have HB2 := hid (only_below HB.out hg ho2 HB.out.size); clear h2 ho2)
            go_roundw
            case rel => exact ⟨k + 1, by omega, by go_num, by rw [← wrL_succ i gpa L k x HX.out, HW.out]; exact C1.out, HB2.out⟩
            case measure => simp [intOf]; omega
          · have HW : Hid (wrV i gpa k x = x) := if_neg (fun q => hq q.2)
            have hq' : (x.h.resv / 8 == gpa / 8) = false := by simpa using hq
            go_wp2_with fail
            go_roundw
            case rel => exact ⟨k + 1, by omega, by go_num, by rw [← wrL_succ i gpa L k x HX.out, HW.out, set_same HY.out]; exact HA.out, HB.out⟩
            case measure => simp [intOf]; omega
      · obtain rfl : k = L.length := by omega
        go_wp2_with fail
        go_ret
        exact ⟨_, rfl, .inr ⟨g, cap, by simp, hg, by rw [← wrL_full]; exact HA.out⟩, HB.out⟩
set_option maxHeartbeats 2000000 in
theorem r_Wrote (w : World) (v : Value) (L : List VV) (hv : Vr w v L) (hl : L.length * 368 ≤ 140737488355328) (i : Int) (i0 : -9223372036854775808 ≤ i) (i1 : i ≤ 9223372036854775807) (gpa : Int) (p0 : 0 ≤ gpa) (p1 : gpa < 18446744073709551616) (hr : ∀ x ∈ L, 0 ≤ x.h.resv ∧ x.h.resv < 18446744073709551616) :
    Calls Try.prog 21 #[v, .int .i64 i, .int .u64 gpa] w fun e w' => ∃ v', e = .returned v' ∧ Vs w' w.heap.size v' (L.mapIdx (wrV i gpa)) ∧ Below w.heap.size w w' := by
  have HV := hid hv
  have HL := hid hl
  have HR := hid hr
  clear hv hl hr
  have hL : L.length ≤ 9223372036854775807 := by have := HL.out; omega
  go_enter Try.func21, Try.ntmps21
  go_upto_region 2 with ((with_reducible refine wpL_appendV w.heap.size (.slice none 0 0) v L ?_ ?_ ?_ ?_ ?_ ?_ ?_); rfl; exact World.ownsRow_nil _ _ _ _; rfl; exact HV.out; exact HL.out; exact Nat.le_refl _; intro v1 w1 hv' hb'; have HS := hid hv'; have HB := hid hb'; clear hv' hb')
  rcases HS.out with ⟨rfl, hn⟩ | ⟨g, cap, rfl, hg, hvb⟩
  · subst hn
    go_wp2_with fail
    go_loopw [8] (fun i wr => i = .int .i64 0 ∧ wr = w1) (fun i _ => 0)
    case atStart => exact ⟨rfl, rfl⟩
    case round =>
      obtain ⟨rfl, rfl⟩ := hrel
      go_wp2_with fail
      go_ret
      exact ⟨_, rfl, .inl ⟨rfl, rfl⟩, HB.out⟩
  · have A1 := hid hvb
    clear hvb
    go_wp2_with fail
    go_loopw [8] (fun c wr => ∃ (k : Nat), k ≤ L.length ∧ c = .int .i64 k ∧ Vb wr g (wrL i gpa L k) ∧ Below w.heap.size w wr) (fun i _ => L.length - (intOf i).toNat)
    case atStart => exact ⟨0, by omega, rfl, by rw [wrL_zero]; exact A1.out, HB.out⟩
    case round =>
      clear A1 HB HS
      obtain ⟨k, hk, rfl, hvb, hb⟩ := hrel
      have HA := hid hvb
      have HB := hid hb
      clear hvb hb
      by_cases hlt : k < L.length
      · obtain ⟨x, hx⟩ : ∃ x, L[k]? = some x := ⟨_, List.getElem?_eq_getElem hlt⟩
        have HX := hid hx
        have HY := hid (wrL_get i gpa L k x hx)
        have hxr := HR.out x (List.mem_of_getElem? hx)
        clear hx
        have c48 : wr.cell? ⟨g, k * 52 + 48, none⟩ = some (.int .u64 x.h.resv) := HA.out.cell HY.out 48 (by omega)
        have c39 : wr.cell? ⟨g, k * 52 + 39, none⟩ = some (.bool x.h.resd) := HA.out.cell HY.out 39 (by omega)
        by_cases hi : (k : Int) = i
        · have HW : Hid (wrV i gpa k x = x) := if_neg (fun q => q.1 hi)
          go_wp2_with fail
          go_roundw
          case rel => exact ⟨k + 1, by omega, by go_num, by rw [← wrL_succ i gpa L k x HX.out, HW.out, set_same HY.out]; exact HA.out, HB.out⟩
          case measure => simp [intOf]; omega
        · by_cases hd : x.h.resd = true
          · rw [hd] at c39
            by_cases hq : x.h.resv / 8 = gpa / 8
            · have HW : Hid (wrV i gpa k x = { x with h := { x.h with resd := false } }) := if_pos ⟨hi, hq⟩
              go_wp2_with ((with_reducible refine wpL_vcell g k 39 (wrL i gpa L k) x { x with h := { x.h with resd := false } } (.bool false) ?_ ?_ ?_ ?_ ?_ ?_ ?_ ?_ ?_); exact .inr (.inr rfl); exact .inr ⟨_, rfl⟩; exact HY.out; omega; exact resd_cs x; rfl; rfl; exact HA.out; intro w2 h2 ho2; have C1 := hid h2; have HB2 := hid (only_below HB.out hg ho2 HB.out.size); clear h2 ho2)
              go_roundw
              case rel => exact ⟨k + 1, by omega, by go_num, by rw [← wrL_succ i gpa L k x HX.out, HW.out]; exact C1.out, HB2.out⟩
              case measure => simp [intOf]; omega
            · have HW : Hid (wrV i gpa k x = x) := if_neg (fun q => hq q.2)
              have hq' : (x.h.resv / 8 == gpa / 8) = false := by simpa using hq
              go_wp2_with fail
              go_roundw
              case rel => exact ⟨k + 1, by omega, by go_num, by rw [← wrL_succ i gpa L k x HX.out, HW.out, set_same HY.out]; exact HA.out, HB.out⟩
              case measure => simp [intOf]; omega
          · rw [Bool.not_eq_true] at hd
            rw [hd] at c39
            have HW : Hid (wrV i gpa k x = x) := by show wrV i gpa k x = x; unfold wrV; split; exact resd_same x hd; rfl
            go_wp2_with fail
            go_roundw
            case rel => exact ⟨k + 1, by omega, by go_num, by rw [← wrL_succ i gpa L k x HX.out, HW.out, set_same HY.out]; exact HA.out, HB.out⟩
            case measure => simp [intOf]; omega
      · obtain rfl : k = L.length := by omega
        go_wp2_with fail
        go_ret
        exact ⟨_, rfl, .inr ⟨g, cap, by simp, hg, by rw [← wrL_full]; exact HA.out⟩, HB.out⟩
end Go.Proofs.Yteafjobmlfkppaa
namespace Go.Proofs.Yteafjobmlfkppaa
open Go.RowKit
set_option linter.unusedVariables false
set_option maxRecDepth 100000

theorem same_refl {L : List VV} : ∀ (k : Nat) (x y : VV), L[k]? = some x → L[k]? = some y → x.cs = y.cs := fun k x y hx hy => by rw [hx] at hy; cases hy; rfl
set_option maxHeartbeats 4000000 in
theorem w_VcpuReadies (w : World) (x : VV) (ok : VOk x) (now : Int) (n0 : 0 ≤ now) (n1 : now < 18446744073709551616) (ext : Bool) (ad : Option Addr) (la cap : Nat) (L : List VV) (hL : Vr w (.slice ad la cap) L ∧ (∀ x ∈ L, VOk x) ∧ L.length = la)
    (i : Int) (i0 : -9223372036854775808 ≤ i) (i1 : i ≤ 9223372036854775807) (gpa : Int) (p0 : 0 ≤ gpa) (p1 : gpa < 18446744073709551616) (hl : la * 368 ≤ 140737488355328) :
    Calls Try.prog 4 #[x.v, .int .u64 now, .bool ext, .slice ad la cap, .int .i64 i, .int .u64 gpa] w fun e w' => e = .returned (.bool true) ∧ Below w.heap.size w w' := by
  obtain ⟨hv, hok, hla⟩ := hL
  have HV := hid hv
  have HK := hid hok
  have HLN : Hid (L.length * 368 ≤ 140737488355328) := by show L.length * 368 ≤ _; rw [hla]; exact hl
  clear hv hok hla hl
  obtain ⟨t, ht⟩ : ∃ t, t = readyV x now ext := ⟨_, rfl⟩
  obtain ⟨u, hu⟩ : ∃ u, u = waitV x := ⟨_, rfl⟩
  have R1 : Hid (∀ w, Calls Try.prog 15 #[x.v, .int .u64 now, .bool ext] w fun e w' => e = .returned t.v ∧ Below w.heap.size w w') := fun w => by rw [ht]; exact v_Ready x ok.h now ext w
  have R2 : Hid (∀ w, Calls Try.prog 16 #[x.v, .int .u64 now, .bool ext] w fun e w' => e = .returned t.v ∧ Below w.heap.size w w') := fun w => by rw [ht]; exact r_Ready x ok.h now ext w
  have R3 : Hid (∀ w, Calls Try.prog 17 #[x.v] w fun e w' => e = .returned u.v ∧ Below w.heap.size w w') := fun w => by rw [hu]; exact v_Wait x w
  have R4 : Hid (∀ w, Calls Try.prog 18 #[x.v] w fun e w' => e = .returned u.v ∧ Below w.heap.size w w') := fun w => by rw [hu]; exact r_Wait x w
  clear ht hu ok
  have A1 : Hid (V1 (w.alloc (.cells x.ca 32)) w.heap.size x) := V1.new x
  have HB0 := hid ((Below.refl w.heap.size w).alloc (Nat.le_refl _) (.cells x.ca 32))
  have HR : Hid (∀ w', (∃ y : WB (w.alloc (.cells x.ca 32)), w' = y.w) → w'.rangeAt w.heap.size 0 x.cs) := fun w' ⟨y, hy⟩ => by rw [hy]; exact (A1.out.below y.h).range
  go_enter Try.func4, Try.ntmps4
  go_wp2_with fail
  refine wp_region_wb (by kernel_rfl) (by kernel_rfl) ?_
  repeat
    first
      | ((with_reducible refine wpQ_vload w.heap.size 0 x ?_ ?_ HR.out ?_); rfl; rfl)
      | ((with_reducible refine wpQ_neV t t ?_ ?_ ?_ ?_); rfl; rfl; rfl; rw [eqV_self, Bool.not_true])
      | ((with_reducible refine wpQ_neV u u ?_ ?_ ?_ ?_); rfl; rfl; rfl; rw [eqV_self, Bool.not_true])
      | (refine wpQuiet_step (fun K hK => ?_)
         go_simp
         first
           | (refine hK _ ?_; clear hK K)
           | (refine ⟨_, fun _ => rfl, hK _ ?_⟩; clear hK K)
           | (refine ⟨t.v, fun y => ?_, hK _ ?_⟩
              · first
                  | (go_at_call 15; exact Calls.wb y (R1.out y.w))
                  | (go_at_call 16; exact Calls.wb y (R2.out y.w))
              clear hK K)
           | (refine ⟨u.v, fun y => ?_, hK _ ?_⟩
              · first
                  | (go_at_call 17; exact Calls.wb y (R3.out y.w))
                  | (go_at_call 18; exact Calls.wb y (R4.out y.w))
              clear hK K))
  refine wpQuiet_nil ?_
  intro w1 hy
  have HB1 : Hid (Below w.heap.size w w1) := by obtain ⟨y, rfl⟩ := hy; exact HB0.out.trans (y.h.mono HB0.out.size)
  clear hy A1 HR
  have V1' := hid (HV.out.below HB1.out)
  go_wp2_with (first
    | (go_at_call 19; refine (c_copied _ _ L V1'.out HLN.out).mono ?_; rintro e w2 ⟨v2, rfl, h2, hb⟩; have S2 := hid h2; have HB2 := hid (HB1.out.trans (hb.mono HB1.out.size)); clear h2 hb)
    | (go_at_call 20; refine (v_Wrote _ _ L S2.out.rd HLN.out i i0 i1 gpa p0 p1 (fun x hx => (HK.out x hx).h.resv)).mono ?_; rintro e w3 ⟨v3, rfl, h3, hb⟩; have S3 := hid h3; have S2' := hid (S2.out.below (hb.mono (Nat.le_refl _))); have HB3 := hid (HB2.out.trans (hb.mono HB2.out.size)); have V3 := hid (HV.out.below HB3.out); clear h3 hb)
    | ((with_reducible go_at_call 11); refine (v_Same _ v2 _ L L S2'.out.rd V3.out rfl same_refl (by have := HLN.out; omega)).mono ?_; rintro e w4 ⟨rfl, hs⟩; have S4 := hid (S3.out.rd.same hs.heap); have HB4 := hid (HB3.out.trans (hs.below _)); have V4 := hid (HV.out.below HB4.out); clear hs S2')
    | (go_at_call 21; refine (r_Wrote _ _ L V4.out HLN.out i i0 i1 gpa p0 p1 (fun x hx => (HK.out x hx).h.resv)).mono ?_; rintro e w5 ⟨v5, rfl, h5, hb⟩; have S5 := hid h5; have S4' := hid (S4.out.below (hb.mono (Nat.le_refl _))); have HB5 := hid (HB4.out.trans (hb.mono HB4.out.size)); clear h5 hb)
    | (go_at_call 11; refine (v_Same _ v3 v5 _ _ S4'.out S5.out.rd rfl same_refl (by have := HLN.out; simp; omega)).mono ?_; rintro e w6 ⟨rfl, hs⟩; have HB6 := hid (HB5.out.trans (hs.below _)); clear hs)
    | (go_at_call 14; refine (v_awake _).mono ?_; rintro e w7 ⟨rfl, hb⟩; have HB7 := hid (HB6.out.trans (hb.mono HB6.out.size)); clear hb))
  go_ret
  exact ⟨rfl, HB7.out⟩
end Go.Proofs.Yteafjobmlfkppaa
