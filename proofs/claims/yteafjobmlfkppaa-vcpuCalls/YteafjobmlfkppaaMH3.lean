/- A list walked from its head: what has been done to its first ones; send; the closures. -/
import Derived.Test.YteafjobmlfkppaaMH2
import Derived.WideKeyRuns
import Derived.Orders
import Derived.Deep.RegionHeld
import Derived.Deep.RegionHeldLaw
namespace Go.Proofs.Yteafjobmlfkppaa
open Go.RowKit
set_option linter.unusedVariables false
set_option maxRecDepth 100000

/-- the first k turned by F -/
def pm (F : Nat → VV → VV) (L : List VV) (k : Nat) : List VV := (L.take k).mapIdx F ++ L.drop k
section
variable (F : Nat → VV → VV) (L : List VV)
theorem pm_len (k : Nat) : (pm F L k).length = L.length := by simp [pm]; omega
theorem pm_zero : pm F L 0 = L := by simp [pm]
theorem pm_get (k : Nat) (x : VV) (h : L[k]? = some x) : (pm F L k)[k]? = some x := by
  have hk : k < L.length := (List.getElem?_eq_some_iff.1 h).1
  unfold pm
  rw [List.getElem?_append_right (by simp; omega)]
  simp [Nat.min_eq_left (Nat.le_of_lt hk), h]
theorem pm_succ (k : Nat) (x : VV) (h : L[k]? = some x) : (pm F L k).set k (F k x) = pm F L (k + 1) := by
  have hk : k < L.length := (List.getElem?_eq_some_iff.1 h).1
  apply List.ext_getElem?
  intro j
  rcases Nat.lt_trichotomy j k with q | q | q
  · rw [List.getElem?_set_ne (by omega)]
    unfold pm
    rw [List.getElem?_append_left (by simp; omega), List.getElem?_append_left (by simp; omega)]
    simp [List.getElem?_mapIdx, List.getElem?_take_of_lt q, List.getElem?_take_of_lt (show j < k + 1 by omega)]
  · subst q
    rw [List.getElem?_set_self (by rw [pm_len]; exact hk)]
    unfold pm
    rw [List.getElem?_append_left (by simp; omega)]
    simp [List.getElem?_mapIdx, List.getElem?_take_of_lt (show j < j + 1 by omega), h]
  · rw [List.getElem?_set_ne (by omega)]
    unfold pm
    rw [List.getElem?_append_right (by simp; omega), List.getElem?_append_right (by simp; omega)]
    simp [Nat.min_eq_left (Nat.le_of_lt hk), Nat.min_eq_left (show k + 1 ≤ L.length by omega)]
    congr 1
    omega
theorem pm_full : pm F L L.length = L.mapIdx F := by simp [pm]
end
/-- is number k meant? -/
def sB (m f : Int) (k : Nat) : Bool := (f == 18446744073709551615) || (bits .and .u64 (m / 2 ^ min (IntKind.u64.wrap (k - f)).toNat 64) 1 != 0)
def snV (m f : Int) (k : Nat) (x : VV) : VV := if sB m f k = true then { x with h := { x.h with sip := bits .or .u64 x.h.sip 2 } } else x
theorem sip_cs (x : VV) (s : Int) : x.cs.set 46 (.int .u64 s) = VV.cs { x with h := { x.h with sip := s } } := rfl
theorem st_cs (x : VV) (s : Int) : x.cs.set 49 (.int .i64 s) = VV.cs { x with st := s } := rfl
set_option maxHeartbeats 2000000 in
theorem v_send (w : World) (g cap : Nat) (L : List VV) (hL : L.length < 9223372036854775808) (hv : Vb w g L) (m f : Int) (m0 : 0 ≤ m) (m1 : m < 18446744073709551616) (f0 : 0 ≤ f) (f1 : f < 18446744073709551616) :
    Calls Try.prog 49 #[.slice (some ⟨g, 0, none⟩) L.length cap, .int .u64 m, .int .u64 f] w fun e w' => e = .returned (.tuple #[]) ∧ Vb w' g (L.mapIdx (snV m f)) ∧ C.Only (· = g) w w' := by
  have HV := hid hv
  clear hv
  go_enter Try.func49, Try.ntmps49
  go_wp2_with fail
  go_loopw [9] (fun c wr => ∃ (k : Nat), k ≤ L.length ∧ c = .int .i64 k ∧ Vb wr g (pm (snV m f) L k) ∧ C.Only (· = g) w wr) (fun i _ => L.length - (intOf i).toNat)
  case atStart => exact ⟨0, by omega, rfl, by rw [pm_zero]; exact HV.out, C.Only.refl _⟩
  case round =>
    clear HV
    obtain ⟨k, hk, rfl, hvb, ho⟩ := hrel
    have HA := hid hvb
    have HO := hid ho
    clear hvb ho
    by_cases hlt : k < L.length
    · obtain ⟨x, hx⟩ : ∃ x, L[k]? = some x := ⟨_, List.getElem?_eq_getElem hlt⟩
      have HX := hid hx
      have HY := hid (pm_get (snV m f) L k x hx)
      clear hx
      have c46 : wr.cell? ⟨g, k * 52 + 46, none⟩ = some (.int .u64 x.h.sip) := HA.out.cell HY.out 46 (by omega)
      by_cases hf : f = 18446744073709551615
      · have HB : Hid (snV m f k x = { x with h := { x.h with sip := bits .or .u64 x.h.sip 2 } }) := if_pos (by unfold sB; rw [hf]; rfl)
        subst hf
        go_wp2_with ((with_reducible refine wpL_vcell g k 46 (pm (snV m 18446744073709551615) L k) x { x with h := { x.h with sip := bits .or .u64 x.h.sip 2 } } (.int .u64 (bits .or .u64 x.h.sip 2)) ?_ ?_ ?_ ?_ ?_ ?_ ?_ ?_ ?_); exact .inl rfl; exact .inl ⟨_, _, rfl⟩; exact HY.out; omega; exact sip_cs x _; rfl; rfl; exact HA.out; intro w2 h2 ho2; have C1 := hid h2; have HO2 := hid (C.Only.trans HO.out ho2); clear h2 ho2)
        go_roundw
        case rel => exact ⟨k + 1, by omega, by go_num, by rw [← pm_succ (snV m 18446744073709551615) L k x HX.out, HB.out]; exact C1.out, HO2.out⟩
        case measure => simp [intOf]; omega
      · have hf' : (f == 18446744073709551615) = false := by simpa using hf
        cases hb : (bits .and .u64 (m / 2 ^ min (IntKind.u64.wrap (k - f)).toNat 64) 1 != 0) with
        | true =>
          have HB : Hid (snV m f k x = { x with h := { x.h with sip := bits .or .u64 x.h.sip 2 } }) := if_pos (by unfold sB; rw [hb, Bool.or_true])
          go_wp2_with ((with_reducible refine wpL_vcell g k 46 (pm (snV m f) L k) x { x with h := { x.h with sip := bits .or .u64 x.h.sip 2 } } (.int .u64 (bits .or .u64 x.h.sip 2)) ?_ ?_ ?_ ?_ ?_ ?_ ?_ ?_ ?_); exact .inl rfl; exact .inl ⟨_, _, rfl⟩; exact HY.out; omega; exact sip_cs x _; rfl; rfl; exact HA.out; intro w2 h2 ho2; have C1 := hid h2; have HO2 := hid (C.Only.trans HO.out ho2); clear h2 ho2)
          go_roundw
          case rel => exact ⟨k + 1, by omega, by go_num, by rw [← pm_succ (snV m f) L k x HX.out, HB.out]; exact C1.out, HO2.out⟩
          case measure => simp [intOf]; omega
        | false =>
          have HB : Hid (snV m f k x = x) := if_neg (by unfold sB; rw [hb, hf']; decide)
          go_wp2_with fail
          go_roundw
          case rel => exact ⟨k + 1, by omega, by go_num, by rw [← pm_succ (snV m f) L k x HX.out, HB.out, set_same HY.out]; exact HA.out, HO.out⟩
          case measure => simp [intOf]; omega
    · obtain rfl : k = L.length := by omega
      go_wp2_with fail
      go_returns
      exact ⟨rfl, by rw [← pm_full]; exact HA.out, HO.out⟩
def stopV (x : VV) : VV := { x with st := 0 }
set_option maxHeartbeats 2000000 in
theorem k_1 (w : World) : Calls Try.prog 44 #[] w fun e w' => e = .returned (aVal 33554432).v ∧ Below w.heap.size w w' := by
  have AN := hid (A1.new (w := w) AV.zero)
  have HB0 := hid ((Below.refl w.heap.size w).alloc (Nat.le_refl _) (.cells AV.zero.ca 56))
  go_enter Try.func44, Try.ntmps44
  go_wp2_with (first
    | ((with_reducible refine wpList_new (z := .agg AV.zero.ca) AV.zero.ca ?_ ?_ ?_); rfl; exact z_ans)
    | ((with_reducible refine wpL_built [(1, .int .u64 33554432)] (aVal 33554432).ca ?_ ?_ ?_); rfl; exact b_val _)
    | ((with_reducible refine wpL_storeA w.heap.size AV.zero (aVal 33554432) ?_ ?_ ?_ ?_ ?_); rfl; rfl; rfl; exact AN.out; intro w2 h2 ho2; have D1 := hid h2; have HB2 := hid (only_below HB0.out (Nat.le_refl _) ho2 HB0.out.size); clear h2 ho2))
  exact bodyPost_ret (ret_a Try.results44 w.heap.size _ rfl D1.out) rfl ⟨rfl, HB2.out⟩
theorem k_4 (w : World) (p8 p7 : Nat) (b a : Int) (h8 : C1 w p8 (.int .u64 b)) (h7 : C1 w p7 (.int .u64 a)) (a0 : 0 ≤ a) (a1 : a < 18446744073709551616) : Calls Try.prog 47 #[.pointer (some ⟨p8, 0, none⟩), .pointer (some ⟨p7, 0, none⟩)] w fun e w' => ∃ o, e = .returned (aOut b (.slice (some ⟨o, 0, none⟩) 1 1)).v ∧ C1 w' o (.int .u8 (a % 256)) ∧ w.heap.size ≤ o ∧ Below w.heap.size w w' := by
  have AN := hid (A1.new (w := w) AV.zero)
  have HB0 := hid ((Below.refl w.heap.size w).alloc (Nat.le_refl _) (.cells AV.zero.ca 56))
  have c8 := (h8.below HB0.out).c
  have c7 := (h7.below HB0.out).c
  clear h8 h7
  go_enter Try.func47, Try.ntmps47
  go_wp2_with (first
    | ((with_reducible refine wpList_new (z := .agg AV.zero.ca) AV.zero.ca ?_ ?_ ?_); rfl; exact z_ans)
    | ((with_reducible refine wpL_built [(1, .int .u64 b), (3, .slice (some ⟨w.heap.size + 1, 0, none⟩) 1 1)] (aOut b (.slice (some ⟨w.heap.size + 1, 0, none⟩) 1 1)).ca ?_ ?_ ?_); rfl; exact b_out _ _ _ _)
    | (refine wpL_storeA w.heap.size AV.zero (aOut b (.slice (some ⟨w.heap.size + 1, 0, none⟩) 1 1)) ?_ ?_ ?_ ?_ ?_
       · rfl
       · rfl
       · rfl
       · exact AN.out.below ((Below.refl _ _).alloc (Nat.le_refl _) _)
       intro w2 h2 ho2
       have D1 := hid h2
       have N1 : Hid (C1 w2 (w.heap.size + 1) (.int .u8 (a % 256))) := hid ⟨_, ho2.old (by first | exact heap2' _ _ _ | exact heap_alloc_new _ _) (fun (q : _ = _) => by omega)⟩
       have HB2 := hid (only_below (HB0.out.alloc (by simp) _) (Nat.le_refl _) ho2 (by simp; omega))
       clear h2 ho2))
  exact bodyPost_ret (ret_a Try.results47 w.heap.size _ rfl D1.out) rfl ⟨_, rfl, N1.out, by omega, HB2.out⟩
theorem k_5 (w : World) (p2 p7 p8 g cap : Nat) (L : List VV) (hL : L.length < 9223372036854775808) (a b : Int) (h2 : C1 w p2 (.slice (some ⟨g, 0, none⟩) L.length cap)) (h7 : C1 w p7 (.int .u64 a)) (h8 : C1 w p8 (.int .u64 b)) (a0 : 0 ≤ a) (a1 : a < 18446744073709551616) (b0 : 0 ≤ b) (b1 : b < 18446744073709551616) (hv : Vb w g L) :
    Calls Try.prog 48 #[.pointer (some ⟨p2, 0, none⟩), .pointer (some ⟨p7, 0, none⟩), .pointer (some ⟨p8, 0, none⟩)] w fun e w' => e = .returned AV.zero.v ∧ Vb w' g (L.mapIdx (snV a b)) ∧ C.Only (· = g) w w' := by
  have AN := hid (A1.new (w := w) AV.zero)
  have HB0 := hid ((Below.refl w.heap.size w).alloc (Nat.le_refl _) (.cells AV.zero.ca 56))
  have c2 := (h2.below HB0.out).c
  have c7 := (h7.below HB0.out).c
  have c8 := (h8.below HB0.out).c
  have HV := hid (hv.below HB0.out)
  have hgl := hv.lt
  have HL := hid hL
  clear h2 h7 h8 hv hL
  go_enter Try.func48, Try.ntmps48
  go_wp2_with (first
    | ((with_reducible refine wpList_new (z := .agg AV.zero.ca) AV.zero.ca ?_ ?_ ?_); rfl; exact z_ans)
    | (go_at_call 49; refine (v_send _ g cap L HL.out HV.out a b a0 a1 b0 b1).mono ?_; rintro e w1 ⟨rfl, hv1, ho1⟩; have B1 := hid hv1; have B2 := hid (AN.out.only ho1 (fun (q : _ = _) => by omega)); have BO := hid (C.Only.trans (C.Only.ofBelow HB0.out) ho1); clear hv1 ho1)
    | ((with_reducible refine wpL_built [] AV.zero.ca ?_ ?_ ?_); rfl; exact b_zero)
    | ((with_reducible refine wpL_storeA w.heap.size AV.zero AV.zero ?_ ?_ ?_ ?_ ?_); rfl; rfl; rfl; exact B2.out; intro w3 h3 ho3; have E1 := hid h3; have E2 := hid (B1.out.only ho3 (fun (q : _ = _) => by omega)); have EO := hid (only2 BO.out ho3 (Nat.le_refl _)); clear h3 ho3))
  exact bodyPost_ret (ret_a Try.results48 w.heap.size _ rfl E1.out) rfl ⟨rfl, E2.out, EO.out⟩
theorem k_6 (w : World) (p2 p7 p8 p9 g cap : Nat) (L : List VV) (hL : L.length < 9223372036854775808) (a b c : Int) (h2 : C1 w p2 (.slice (some ⟨g, 0, none⟩) L.length cap)) (h7 : C1 w p7 (.int .u64 a)) (h8 : C1 w p8 (.int .u64 b)) (h9 : C1 w p9 (.int .u64 c)) (a0 : 0 ≤ a) (a1 : a < 18446744073709551616) (b0 : 0 ≤ b ∧ b < 18446744073709551616) (c0 : 0 ≤ c ∧ c < 18446744073709551616) (hv : Vb w g L) :
    Calls Try.prog 50 #[.pointer (some ⟨p2, 0, none⟩), .pointer (some ⟨p7, 0, none⟩), .pointer (some ⟨p8, 0, none⟩), .pointer (some ⟨p9, 0, none⟩)] w fun e w' => e = .returned (startL L a b c).2.v ∧ Vb w' g (startL L a b c).1 ∧ C.Only (· = g) w w' := by
  have AN := hid (A1.new (w := w) AV.zero)
  have HB0 := hid ((Below.refl w.heap.size w).alloc (Nat.le_refl _) (.cells AV.zero.ca 56))
  have c2 := (h2.below HB0.out).c
  have c7 := (h7.below HB0.out).c
  have c8 := (h8.below HB0.out).c
  have c9 := (h9.below HB0.out).c
  have HV := hid (hv.below HB0.out)
  have hgl := hv.lt
  have HL := hid hL
  have hone : (startL L a b c).2.out.oneCell' = true := by
    unfold startL
    split
    · rfl
    · split <;> rfl
  generalize hst : startL L a b c = S at hone
  clear h2 h7 h8 h9 hv hL
  go_enter Try.func50, Try.ntmps50
  go_wp2_with (first
    | ((with_reducible refine wpList_new (z := .agg AV.zero.ca) AV.zero.ca ?_ ?_ ?_); rfl; exact z_ans)
    | (go_at_call 51; refine (v_start _ g cap L HL.out HV.out a b c a0 a1 b0 c0).mono ?_; rw [hst]; rintro e w1 ⟨rfl, hv1, ho1⟩; have B1 := hid hv1; have B2 := hid (AN.out.only ho1 (fun (q : _ = _) => by omega)); have BO := hid (C.Only.trans (C.Only.ofBelow HB0.out) ho1); clear hv1 ho1)
    | ((with_reducible refine wpL_storeA w.heap.size AV.zero S.2 ?_ ?_ ?_ ?_ ?_); rfl; rfl; exact hone; exact B2.out; intro w3 h3 ho3; have E1 := hid h3; have E2 := hid (B1.out.only ho3 (fun (q : _ = _) => by omega)); have EO := hid (only2 BO.out ho3 (Nat.le_refl _)); clear h3 ho3))
  exact bodyPost_ret (ret_a Try.results50 w.heap.size _ rfl E1.out) rfl ⟨rfl, E2.out, EO.out⟩
theorem k_7 (w : World) (p5 g i : Nat) (L : List VV) (x : VV) (hx : L[i]? = some x) (h5 : C1 w p5 (.pointer (some ⟨g, i * 52, none⟩))) (hv : Vb w g L) :
    Calls Try.prog 52 #[.pointer (some ⟨p5, 0, none⟩)] w fun e w' => e = .returned aStay.v ∧ Vb w' g (L.set i (stopV x)) ∧ C.Only (· = g) w w' := by
  have AN := hid (A1.new (w := w) AV.zero)
  have HB0 := hid ((Below.refl w.heap.size w).alloc (Nat.le_refl _) (.cells AV.zero.ca 56))
  have c5 := (h5.below HB0.out).c
  have HV := hid (hv.below HB0.out)
  have HX := hid hx
  have hgl := hv.lt
  clear h5 hv hx
  go_enter Try.func52, Try.ntmps52
  go_wp2_with (first
    | ((with_reducible refine wpList_new (z := .agg AV.zero.ca) AV.zero.ca ?_ ?_ ?_); rfl; exact z_ans)
    | ((with_reducible refine wpL_vcell g i 49 L x (stopV x) (.int .i64 0) ?_ ?_ ?_ ?_ ?_ ?_ ?_ ?_ ?_); exact .inr (.inl rfl); exact .inl ⟨_, _, rfl⟩; exact HX.out; omega; exact st_cs x 0; rfl; rfl; exact HV.out; intro w1 hv1 ho1; have B1 := hid hv1; have B2 := hid (AN.out.only ho1 (fun (q : _ = _) => by omega)); have BO := hid (C.Only.trans (C.Only.ofBelow HB0.out) ho1); clear hv1 ho1 c5)
    | ((with_reducible refine wpL_built [(2, .bool true)] aStay.ca ?_ ?_ ?_); rfl; exact b_stay)
    | ((with_reducible refine wpL_storeA w.heap.size AV.zero aStay ?_ ?_ ?_ ?_ ?_); rfl; rfl; rfl; exact B2.out; intro w3 h3 ho3; have E1 := hid h3; have E2 := hid (B1.out.only ho3 (fun (q : _ = _) => by omega)); have EO := hid (only2 BO.out ho3 (Nat.le_refl _)); clear h3 ho3))
  exact bodyPost_ret (ret_a Try.results52 w.heap.size _ rfl E1.out) rfl ⟨rfl, E2.out, EO.out⟩
def stpA (L : List VV) (n : Int) : AV := match L[n.toNat]? with | none => aErr 18446744073709551613 | some x => aVal (bif decide (x.st = 0) then 1 else 0)
theorem k_8 (w : World) (p2 p7 g cap : Nat) (L : List VV) (hL : L.length < 9223372036854775808) (a : Int) (h2 : C1 w p2 (.slice (some ⟨g, 0, none⟩) L.length cap)) (h7 : C1 w p7 (.int .u64 a)) (a0 : 0 ≤ a) (a1 : a < 18446744073709551616) (hv : Vb w g L) :
    Calls Try.prog 53 #[.pointer (some ⟨p2, 0, none⟩), .pointer (some ⟨p7, 0, none⟩)] w fun e w' => e = .returned (stpA L a).v ∧ Below w.heap.size w w' := by
  have AN := hid (A1.new (w := w) AV.zero)
  have HB0 := hid ((Below.refl w.heap.size w).alloc (Nat.le_refl _) (.cells AV.zero.ca 56))
  have c2 := (h2.below HB0.out).c
  have c7 := (h7.below HB0.out).c
  have HV := hid (hv.below HB0.out)
  have HL := hid hL
  have hone : (stpA L a).out.oneCell' = true := by
    unfold stpA
    split <;> rfl
  have HS : Hid (∀ u, Vb u g L → Calls Try.prog 54 #[.slice (some ⟨g, 0, none⟩) L.length cap, .int .u64 a] u fun e w' => e = .returned (stpA L a).v ∧ Below u.heap.size u w') := fun u h => v_stopped u g cap L HL.out h a a0 a1
  generalize stpA L a = S at *
  clear h2 h7 hv hL
  go_enter Try.func53, Try.ntmps53
  go_wp2_with (first
    | ((with_reducible refine wpList_new (z := .agg AV.zero.ca) AV.zero.ca ?_ ?_ ?_); rfl; exact z_ans)
    | (go_at_call 54; refine (HS.out _ HV.out).mono ?_; rintro e w1 ⟨rfl, hb⟩; have B2 := hid (AN.out.below hb); have HB1 := hid (HB0.out.trans (hb.mono HB0.out.size)); clear hb)
    | ((with_reducible refine wpL_storeA w.heap.size AV.zero S ?_ ?_ ?_ ?_ ?_); rfl; rfl; exact hone; exact B2.out; intro w3 h3 ho3; have E1 := hid h3; have HB3 := hid (only_below HB1.out (Nat.le_refl _) ho3 HB1.out.size); clear h3 ho3))
  exact bodyPost_ret (ret_a Try.results53 w.heap.size _ rfl E1.out) rfl ⟨rfl, HB3.out⟩
set_option maxHeartbeats 2000000 in
theorem k_9 (w : World) (p2 g cap : Nat) (L : List VV) (hL : L.length < 9223372036854775808) (h2 : C1 w p2 (.slice (some ⟨g, 0, none⟩) L.length cap)) (hne : p2 ≠ g) (hv : Vb w g L) :
    Calls Try.prog 55 #[.pointer (some ⟨p2, 0, none⟩)] w fun e w' => e = .returned aDown.v ∧ Vb w' g (L.mapIdx fun _ => stopV) ∧ C.Only (· = g) w w' := by
  have AN := hid (A1.new (w := w) AV.zero)
  have HB0 := hid ((Below.refl w.heap.size w).alloc (Nat.le_refl _) (.cells AV.zero.ca 56))
  have H2 := hid (h2.below HB0.out)
  have HV := hid (hv.below HB0.out)
  have hgl := hv.lt
  have c2 := H2.out.c
  clear h2 hv
  go_enter Try.func55, Try.ntmps55
  go_wp2_with ((with_reducible refine wpList_new (z := .agg AV.zero.ca) AV.zero.ca ?_ ?_ ?_); rfl; exact z_ans)
  generalize (w.alloc (.cells AV.zero.ca 56)) = wa at *
  go_loopw [5] (fun c wr => ∃ (k : Nat), k ≤ L.length ∧ c = .int .i64 k ∧ Vb wr g (pm (fun _ => stopV) L k) ∧ C.Only (· = g) wa wr) (fun i _ => L.length - (intOf i).toNat)
  case atStart => exact ⟨0, by omega, rfl, by rw [pm_zero]; exact HV.out, C.Only.refl _⟩
  case round =>
    clear HV c2
    obtain ⟨k, hk, rfl, hvb, ho⟩ := hrel
    have HA := hid hvb
    have HO := hid ho
    have c2 := (H2.out.only ho (fun (q : _ = _) => hne q)).c
    clear hvb ho
    by_cases hlt : k < L.length
    · obtain ⟨x, hx⟩ : ∃ x, L[k]? = some x := ⟨_, List.getElem?_eq_getElem hlt⟩
      have HX := hid hx
      have HY := hid (pm_get (fun _ => stopV) L k x hx)
      clear hx
      go_wp2_with ((with_reducible refine wpL_vcell g k 49 (pm (fun _ => stopV) L k) x (stopV x) (.int .i64 0) ?_ ?_ ?_ ?_ ?_ ?_ ?_ ?_ ?_); exact .inr (.inl rfl); exact .inl ⟨_, _, rfl⟩; exact HY.out; omega; exact st_cs x 0; rfl; rfl; exact HA.out; intro w2 h2 ho2; have C1 := hid h2; have HO2 := hid (C.Only.trans HO.out ho2); clear h2 ho2)
      go_roundw
      case rel => exact ⟨k + 1, by omega, by go_num, by rw [← pm_succ (fun _ => stopV) L k x HX.out]; exact C1.out, HO2.out⟩
      case measure => simp [intOf]; omega
    · obtain rfl : k = L.length := by omega
      go_wp2_with (first
        | ((with_reducible refine wpL_built [(2, .bool true), (4, .bool true)] aDown.ca ?_ ?_ ?_); rfl; exact b_down)
        | ((with_reducible refine wpL_storeA w.heap.size AV.zero aDown ?_ ?_ ?_ ?_ ?_); rfl; rfl; rfl; exact AN.out.only HO.out (fun (q : _ = _) => by omega); intro w3 h3 ho3; have E1 := hid h3; have E2 := hid (HA.out.only ho3 (fun (q : _ = _) => by omega)); have EO := hid (only2 (C.Only.trans (C.Only.ofBelow HB0.out) HO.out) ho3 (Nat.le_refl _)); clear h3 ho3))
      exact bodyPost_ret (ret_a Try.results55 w.heap.size _ rfl E1.out) rfl ⟨rfl, by rw [← pm_full]; exact E2.out, EO.out⟩
def tmV (x : VV) (a : Int) : VV := { x with ar := true, dl := a, h := { x.h with sip := bits .andNot .u64 x.h.sip 32 } }
end Go.Proofs.Yteafjobmlfkppaa
namespace Go.Proofs.Yteafjobmlfkppaa
open Go.RowKit Go.MapKept
set_option linter.unusedVariables false
set_option maxRecDepth 100000

abbrev Nm := Int × Int
def kN (a : Nm) : Array Value := #[.int .u64 a.1, .int .u64 a.2]
theorem u_name : Try.prog.underlying 67 = some (.struct (Try.prog.fieldsOf 67)) := by kernel_rfl
theorem u_vmap : Try.prog.underlying 64 = some (.map 67 62) := by kernel_rfl
theorem stood_name : Try.prog.stoodInHeld 67 = false := by kernel_rfl
theorem f_name : (Try.prog.fieldsOf 67).toList.map (fun f => (f.name, f.type, f.offset)) = [("kind", 22, 0), ("function", 22, 1)] := by kernel_rfl
theorem f_two : ∃ f0 f1 : Field, (Try.prog.fieldsOf 67) = #[f0, f1] ∧ (f0.name = "kind" ∧ f0.type = 22 ∧ f0.offset = 0) ∧ (f1.name = "function" ∧ f1.type = 22 ∧ f1.offset = 1) := by
  have h := f_name
  generalize Try.prog.fieldsOf 67 = F at h
  obtain ⟨l⟩ := F
  rcases l with _ | ⟨f0, _ | ⟨f1, _ | ⟨f2, l⟩⟩⟩
  · simp at h
  · simp at h
  · simp only [List.map_cons, List.map_nil, List.cons.injEq, Prod.mk.injEq, and_true] at h
    exact ⟨f0, f1, rfl, h.1, h.2⟩
  · simp at h
theorem run_eqN (a b : Nm) (w : World) : (Op.equalIn 10000 67 (.agg (kN a)) (.agg (kN b))).run Try.prog w = .ok (decide (a = b)) w := by
  rw [run_equalIn_struct w 9999 67 _ _ u_name stood_name]
  obtain ⟨f0, f1, hF, ⟨n0, t0, o0⟩, n1, t1, o1⟩ := f_two
  rw [hF]
  obtain ⟨r, h1, h2⟩ := eqFields_iff (P := Try.prog) w 9999 (kN a) (kN b) (fun f => (f.offset = 0 → a.1 = b.1) ∧ (f.offset = 1 → a.2 = b.2)) [f0, f1] fun f hf => by
    simp only [List.mem_cons, List.not_mem_nil, or_false] at hf
    rcases hf with rfl | rfl
    · refine ⟨by rw [n0]; decide, ?_⟩
      rw [t0, o0]
      obtain ⟨b', e1, e2⟩ := q_int un_u64 a.1 b.1 9998 w
      exact ⟨_, _, run_part_plain w pk_u64 (show (kN a)[0]? = some (.int .u64 a.1) from rfl), run_part_plain w pk_u64 (show (kN b)[0]? = some (.int .u64 b.1) from rfl), b', e1, by rw [e2]; simp⟩
    · refine ⟨by rw [n1]; decide, ?_⟩
      rw [t1, o1]
      obtain ⟨b', e1, e2⟩ := q_int un_u64 a.2 b.2 9998 w
      exact ⟨_, _, run_part_plain w pk_u64 (show (kN a)[1]? = some (.int .u64 a.2) from rfl), run_part_plain w pk_u64 (show (kN b)[1]? = some (.int .u64 b.2) from rfl), b', e1, by rw [e2]; simp⟩
  rw [show (#[f0, f1] : Array Field).toList = [f0, f1] from rfl, h1]
  congr 1
  have h3 : r = true ↔ a = b := h2.trans ⟨fun h => Prod.ext ((h f0 (by simp)).1 o0) ((h f1 (by simp)).2 o1), fun h f _ => by rw [h]; exact ⟨fun _ => rfl, fun _ => rfl⟩⟩
  by_cases q : a = b
  · rw [h3.2 q, decide_eq_true q]
  · rw [decide_eq_false q]
    cases r with
    | false => rfl
    | true => exact absurd (h3.1 rfl) q
theorem run_checkN (w : World) (em : Bool) (a : Nm) : (Instr.checkKey em 10000 67 (.agg (kN a))).run Try.prog w = .ok () w := by
  have hc : ∀ (x : Int) (w : World), (Instr.checkKey em 9999 22 (.int .u64 x)).run Try.prog w = .ok () w := fun x w => run_checkKey (d := .int .u64) (k := .int .u64 x) un_u64 (by simp [IsKey]) em 9998
  obtain ⟨f0, f1, hF, ⟨n0, t0, o0⟩, n1, t1, o1⟩ := f_two
  have p0 : (part 22 (kN a) 0).run Try.prog w = .ok (.int .u64 a.1) w := run_part_plain w pk_u64 rfl
  have p1 : (part 22 (kN a) 1).run Try.prog w = .ok (.int .u64 a.2) w := run_part_plain w pk_u64 rfl
  show (Instr.checkKey em (9999 + 1) 67 (.agg (kN a))).run Try.prog w = _
  rw [Instr.checkKey]
  simp [run_underlying u_name, hF, n0, t0, o0, n1, t1, o1, p0, p1, hc]
def fN (a : Nm) : List (Nm × Value) → Nat → Option (Nat × Value)
  | [], _ => none
  | p :: L, i => if a = p.1 then some (i, p.2) else fN a L (i + 1)
def EsN (es : List MapEntry) (L : List (Nm × Value)) : Prop := es.map (fun x => (x.key, x.val)) = L.map (fun p => (Value.agg (kN p.1), p.2))
theorem run_findN (w : World) (a : Nm) : ∀ (es : List MapEntry) (L : List (Nm × Value)) (i : Nat), EsN es L → (Instr.findAsking 67 (.agg (kN a)) es i).run Try.prog w = .ok (fN a L i) w
  | [], [], i, _ => by simp [Instr.findAsking, fN]
  | x :: es, p :: L, i, h => by
    simp only [EsN, List.map_cons, List.cons.injEq, Prod.mk.injEq] at h
    obtain ⟨⟨h1, h2⟩, h3⟩ := h
    have he : (Op.equal 67 (.agg (kN a)) x.key).run Try.prog w = .ok (decide (a = p.1)) w := by rw [h1]; exact run_eqN a p.1 w
    by_cases z : a = p.1
    · simp only [decide_eq_true z] at he
      simp [Instr.findAsking, he, fN, if_pos z, h2]
    · simp only [decide_eq_false z] at he
      simp [Instr.findAsking, he, fN, if_neg z, run_findN w a es L (i + 1) h3]
  | [], _ :: _, _, h => by simp [EsN] at h
  | _ :: _, [], _, h => by simp [EsN] at h
theorem run_findNk (w : World) (a : Nm) (es : List MapEntry) (L : List (Nm × Value)) (h : EsN es L) : (Instr.findKey 67 (.agg (kN a)) es).run Try.prog w = .ok (fN a L 0) w := by
  rw [run_findKey_eq (P := Try.prog) (w := w) (by rw [u_name]) _ _]
  exact run_findN w a es L 0 h
theorem fN_some (a : Nm) : ∀ (L : List (Nm × Value)) (i : Nat) (r : Nat × Value), fN a L i = some r → (a, r.2) ∈ L
  | [], i, r, h => by simp [fN] at h
  | q :: L, i, r, h => by
    unfold fN at h
    split at h
    · rename_i z
      simp only [Option.some.injEq] at h
      subst h z
      simp
    · exact List.mem_cons_of_mem _ (fN_some a L (i + 1) r h)
theorem fN_none (a : Nm) : ∀ (L : List (Nm × Value)) (i : Nat), fN a L i = none → ∀ v, (a, v) ∉ L
  | [], i, h, v => by simp
  | q :: L, i, h, v => by
    unfold fN at h
    split at h
    · cases h
    · rename_i z
      simp only [List.mem_cons, not_or]
      exact ⟨fun e => z (by rw [← e]), fN_none a L (i + 1) h v⟩
theorem fN_not (a : Nm) (L : List (Nm × Value)) (h : ∀ p ∈ L, a ≠ p.1) (i : Nat) : fN a L i = none := by
  cases q : fN a L i with
  | none => rfl
  | some r => exact absurd rfl (h _ (fN_some a L i r q))
/-- a map that holds just these -/
def Mp (w : World) (M : Nat) (L : List (Nm × Value)) : Prop := ∃ es c, w.heap[M]? = some (.map es c) ∧ EsN es.toList L
theorem Mp.lt {w : World} {M : Nat} {L : List (Nm × Value)} (h : Mp w M L) : M < w.heap.size := by obtain ⟨es, c, m, _⟩ := h; exact (Array.getElem?_eq_some_iff.1 m).1
theorem Mp.only {w w' : World} {M : Nat} {L : List (Nm × Value)} (h : Mp w M L) {T : Nat → Prop} (ho : C.Only T w w') (h2 : ¬ T M) : Mp w' M L := by
  obtain ⟨es, c, m, e⟩ := h
  exact ⟨es, c, ho.old m h2, e⟩
theorem Mp.below {w w' : World} {M : Nat} {L : List (Nm × Value)} (h : Mp w M L) (hb : Below w.heap.size w w') : Mp w' M L := by
  obtain ⟨es, c, m, e⟩ := h
  exact ⟨es, c, (hb.block M (Array.getElem?_eq_some_iff.1 m).1).trans m, e⟩
theorem Mp.look {w : World} {M : Nat} {L : List (Nm × Value)} (h : Mp w M L) (a : Nm) (zv : Value) (hz : (zeroValue 62).run Try.prog w = .ok zv w) : (Instr.lookup 64 (.map (some M)) (.agg (kN a)) true).run Try.prog w = .ok (.tuple #[((fN a L 0).map (·.2)).getD zv, .bool (fN a L 0).isSome]) w := by
  obtain ⟨es, c, hm, he⟩ := h
  have hf := run_findNk w a es.toList L he
  have hc := run_checkN w es.isEmpty a
  cases z : fN a L 0 with
  | none =>
    rw [z] at hf
    simp [Instr.lookup, run_underlying u_vmap, MapKept.run_getObj_map hm, hc, hf, hz, Result.andThen]
  | some q =>
    rw [z] at hf
    simp [Instr.lookup, run_underlying u_vmap, MapKept.run_getObj_map hm, hc, hf, Result.andThen]
theorem Mp.add {w : World} {M : Nat} {L : List (Nm × Value)} (h : Mp w M L) (a : Nm) (x : Value) (hn : ∀ p ∈ L, a ≠ p.1) : ∃ w', (Instr.mapUpdate 64 (.map (some M)) (.agg (kN a)) x).run Try.prog w = .ok () w' ∧ Mp w' M (L ++ [(a, x)]) ∧ C.Only (· = M) w w' := by
  obtain ⟨es, c, hm, he⟩ := h
  have hf := run_findNk w a es.toList L he
  rw [fN_not a L hn] at hf
  have hc := run_checkN w false a
  have hlt : M < w.heap.size := (Array.getElem?_eq_some_iff.1 hm).1
  have old : ∀ o k, k ≠ M → (w.heap.setIfInBounds M o)[k]? = w.heap[k]? := fun o k hk => by rw [Array.getElem?_setIfInBounds, if_neg (fun z => hk z.symm)]
  refine ⟨{ w with heap := w.heap.setIfInBounds M (.map (es.push ⟨.agg (kN a), x, c⟩) (c + 1)) }, ?_, ⟨es.push ⟨.agg (kN a), x, c⟩, c + 1, ?_, ?_⟩, ⟨rfl, rfl, rfl, by simp, fun k hk hs => old _ k hs⟩⟩
  · simp [Instr.mapUpdate, run_underlying u_vmap, MapKept.run_getObj_map hm, hc, hf, MapKept.run_setObj_map _ hm, Result.andThen]
  · show (w.heap.setIfInBounds M _)[M]? = _
    rw [Array.getElem?_setIfInBounds, if_pos rfl, if_pos hlt]
  · simp only [EsN, Array.toList_push, List.map_append, List.map_cons, List.map_nil]
    rw [show es.toList.map (fun x => (x.key, x.val)) = _ from he]
section
variable {P : Program} {md : Region.Mode} {ops : Array Oper} {Q : Exit → Act → World → Prop}
theorem filter_lt {p q : Nat → Bool} : ∀ (I : List Nat), (∀ x ∈ I, q x = true → p x = true) → (∃ x ∈ I, p x = true ∧ q x = false) → (I.filter q).length < (I.filter p).length
  | [], _, ⟨x, hx, _⟩ => by simp at hx
  | y :: I, h, ⟨x, hx, h1, h2⟩ => by
    have hle : ∀ J : List Nat, (∀ x ∈ J, q x = true → p x = true) → (J.filter q).length ≤ (J.filter p).length := by
      intro J
      induction J with
      | nil => simp
      | cons z J ih =>
        intro hJ
        have h0 := ih fun x hx => hJ x (by simp [hx])
        have h1 := hJ z (by simp)
        cases hq : q z with
        | true => simp [hq, h1 hq]; exact h0
        | false =>
          cases hp : p z with
          | true => simp [hq, hp]; omega
          | false => simp [hq, hp]; exact h0
    have h0 := hle I fun x hx => h x (by simp [hx])
    rcases List.mem_cons.1 hx with rfl | hx'
    · simp [h1, h2]; omega
    · have ih := filter_lt I (fun x hx => h x (by simp [hx])) ⟨x, hx', h1, h2⟩
      have hy := h y (by simp)
      cases hq : q y with
      | true => simp [hq, hy hq]; exact ih
      | false =>
        cases hp : p y with
        | true => simp [hq, hp]; omega
        | false => simp [hq, hp]; exact ih
def chkA (md : Region.Mode) (ops : Array Oper) (I : List Nat) (L0 : Array Bool) : Bool := I.all fun i => !(L0.getD i true) && (match ops[i]? with | some o => o.after.toList.all (fun e => !(Region.binds md e) || L0.getD e.on false) | none => false)
def chkB (md : Region.Mode) (ops : Array Oper) (I : List Nat) (L0 : Array Bool) : Bool := (List.range ops.size).all fun i => L0.getD i true || I.contains i || (match ops[i]? with | some o => (I.all fun j => o.after.toList.any fun e => Region.binds md e && e.on == j) || (o.after.toList.any fun e => Region.binds md e && !(L0.getD e.on true) && !(I.contains e.on)) | none => true)
def chkL (ops : Array Oper) (I : List Nat) (L0 L1 : Array Bool) : Bool := (L0.size == ops.size) && (L1.size == ops.size) && (List.range ops.size).all fun j => L1.getD j true == (L0.getD j true || I.contains j)
theorem getD_ff {l : Array Bool} {j : Nat} (h : l.getD j true = false) : l.getD j false = false := by
  rcases Nat.lt_or_ge j l.size with q | q
  · simp [q] at h ⊢; exact h
  · simp [Array.getElem?_eq_none q] at h
/-- some operations that wait for none of the others, in any order -/
theorem wpAny_bag {I : List Nat} {L0 L1 : Array Bool} {a : Act} {Inv : List Nat → World → Prop} {c : Nat}
    (hA : chkA md ops I L0 = true) (hB : chkB md ops I L0 = true) (hL : chkL ops I L0 L1 = true)
    (step : ∀ done i w, Inv done w → (∀ j ∈ done, j ∈ I) → i ∈ I → i ∉ done → ∃ w', Inv (i :: done) w' ∧ ∀ K : Act → World → Prop, K a w' → wpOp P ops Q i K a w)
    (fin : ∀ done w, Inv done w → (∀ j ∈ done, j ∈ I) → (∀ i ∈ I, i ∈ done) → ∀ f, wpAny P md ops Q (f + c) L1 a w) :
    ∀ (n : Nat) (done : List Nat) (l : Array Bool) (w : World), Inv done w → (∀ j ∈ done, j ∈ I) → l.size = ops.size → (∀ j, j < ops.size → l.getD j true = (L0.getD j true || done.contains j)) →
      (I.filter (fun i => !done.contains i)).length ≤ n → wpAny P md ops Q (n + c) l a w := by
  simp only [chkL, Bool.and_eq_true, beq_iff_eq, List.all_eq_true, List.mem_range] at hL
  obtain ⟨⟨s0, s1⟩, hL⟩ := hL
  simp only [chkA, List.all_eq_true] at hA
  simp only [chkB, List.all_eq_true, List.mem_range] at hB
  have lt_of : ∀ i ∈ I, i < ops.size ∧ L0.getD i true = false := fun i hi => by
    have h := hA i hi
    simp only [Bool.and_eq_true, Bool.not_eq_true'] at h
    refine ⟨?_, h.1⟩
    have h2 := h.2
    rcases Nat.lt_or_ge i ops.size with q | q
    · exact q
    · simp [Array.getElem?_eq_none q] at h2
  have up : ∀ (l : Array Bool) (done : List Nat), l.size = ops.size → (∀ j, j < ops.size → l.getD j true = (L0.getD j true || done.contains j)) → ∀ j, L0.getD j false = true → l.getD j false = true := fun l done hs hl j hj => by
    have hlt : j < ops.size := by
      rcases Nat.lt_or_ge j L0.size with q | q
      · omega
      · simp [Array.getElem?_eq_none q] at hj
    have h := hl j hlt
    have hj' : L0.getD j true = true := by
      have : j < L0.size := by omega
      simp [this] at hj ⊢; exact hj
    rw [hj', Bool.true_or] at h
    have : j < l.size := by omega
    simp [this] at h ⊢; exact h
  have full : ∀ (l : Array Bool) (done : List Nat) (w : World), Inv done w → (∀ j ∈ done, j ∈ I) → l.size = ops.size → (∀ j, j < ops.size → l.getD j true = (L0.getD j true || done.contains j)) → (∀ i ∈ I, i ∈ done) → ∀ f, wpAny P md ops Q (f + c) l a w := fun l done w hi hd hs hl hall f => by
    have e : l = L1 := by
      apply Array.ext
      · omega
      · intro j h1 h2
        have a1 := hl j (by omega)
        have a2 := hL j (by omega)
        have ec : done.contains j = I.contains j := by
          rw [Bool.eq_iff_iff, List.contains_iff_mem, List.contains_iff_mem]
          exact ⟨hd j, hall j⟩
        rw [ec, ← a2] at a1
        simpa [h1, h2] using a1
    rw [e]
    exact fin done w hi hd hall f
  intro n
  induction n with
  | zero =>
    intro done l w hi hd hs hl hn
    have hall : ∀ i ∈ I, i ∈ done := fun i hiI => by
      have h0 : I.filter (fun i => !done.contains i) = [] := List.eq_nil_of_length_eq_zero (by omega)
      have := List.filter_eq_nil_iff.1 h0 i hiI
      simpa using this
    exact full l done w hi hd hs hl hall 0
  | succ n ih =>
    intro done l w hi hd hs hl hn
    by_cases hall : ∀ i ∈ I, i ∈ done
    · exact full l done w hi hd hs hl hall (n + 1)
    · obtain ⟨k, hk, hkd⟩ : ∃ k, k ∈ I ∧ k ∉ done := by
        by_cases z : ∃ k, k ∈ I ∧ k ∉ done
        · exact z
        · exact absurd (fun i hi => by by_cases q : i ∈ done; exact q; exact absurd ⟨i, hi, q⟩ z) hall
      have hkl : l.getD k true = false := by
        rw [hl k (lt_of k hk).1, (lt_of k hk).2]; simpa using hkd
      have hkr : k ∈ Region.ready md ops l := by
        have h := hA k hk
        simp only [Bool.and_eq_true, Bool.not_eq_true'] at h
        have h2 := h.2
        cases ho : ops[k]? with
        | none => rw [ho] at h2; simp at h2
        | some o =>
          rw [ho] at h2
          simp only [List.all_eq_true] at h2
          refine mem_ready.2 ⟨hkl, o, ho, fun e he hb => up l done hs hl e.on ?_⟩
          have h3 := h2 e (by simpa using he)
          simpa [hb] using h3
      have hne : Region.ready md ops l ≠ [] := fun h => by rw [h] at hkr; cases hkr
      rw [show n + 1 + c = (n + c) + 1 by omega]
      refine ⟨fun h => absurd h hne, fun i hir => ?_⟩
      obtain ⟨hil, o, ho, haft⟩ := mem_ready.1 hir
      have hilt : i < ops.size := (Array.getElem?_eq_some_iff.1 ho).1
      have h0 := hl i hilt
      rw [hil] at h0
      have h0 := h0.symm
      rw [Bool.or_eq_false_iff] at h0
      have hiI : i ∈ I := by
        by_cases q : i ∈ I
        · exact q
        · exfalso
          have hb := hB i hilt
          rw [h0.1, show I.contains i = false by simpa using q, ho] at hb
          simp only [Bool.false_or, Bool.or_eq_true, List.all_eq_true, List.any_eq_true, Bool.and_eq_true, beq_iff_eq, Bool.not_eq_true'] at hb
          rcases hb with hb | ⟨e, he, ⟨h1, h2⟩, h3⟩
          · obtain ⟨e, he, h1, h2⟩ := hb k hk
            have := haft e (by simpa using he) h1
            rw [h2, getD_ff hkl] at this
            cases this
          · have h4 := haft e (by simpa using he) h1
            have h5 : l.getD e.on true = false := by
              rcases Nat.lt_or_ge e.on ops.size with q5 | q5
              · rw [hl _ q5, h2, Bool.false_or]
                have h6 : e.on ∉ I := by simpa using h3
                have : e.on ∉ done := fun z => h6 (hd _ z)
                simpa using this
              · exfalso
                have : ¬ e.on < L0.size := by omega
                simp [Array.getElem?_eq_none (Nat.le_of_not_lt this)] at h2
            rw [getD_ff h5] at h4
            cases h4
      have hid : i ∉ done := by simpa using h0.2
      obtain ⟨w', hi', hK⟩ := step done i w hi hd hiI hid
      refine hK _ (ih (i :: done) _ w' hi' (fun j hj => ?_) (by simpa using hs) (fun j hj => ?_) ?_)
      · rcases List.mem_cons.1 hj with rfl | hj
        · exact hiI
        · exact hd j hj
      · by_cases e : i = j
        · subst e
          have : i < l.size := by omega
          simp [this]
        · have h1 : (l.setIfInBounds i true).getD j true = l.getD j true := getD_set_ne true e
          rw [h1, hl j hj, List.contains_cons]
          have : (j == i) = false := by simpa using Ne.symm e
          rw [this, Bool.false_or]
      · have hlt := filter_lt (p := fun i => !done.contains i) (q := fun j => !(i :: done).contains j) I (fun x _ hx => by simp at hx ⊢; exact hx.2) ⟨i, hiI, by simpa using hid, by simp⟩
        omega
end
end Go.Proofs.Yteafjobmlfkppaa
namespace Go.Proofs.Yteafjobmlfkppaa
open Go.RowKit
set_option linter.unusedVariables false
set_option maxRecDepth 100000

def xsL (h : HV) : List Value := h.cs.take 32
theorem xsL_len (h : HV) : (xsL h).length = 32 := rfl
theorem xsL_get (h : HV) (r : Nat) (q : r < 32) : (xsL h)[r]? = some (.int .u64 (h.x r)) := by
  unfold xsL
  rw [List.getElem?_take_of_lt q]
  exact hv_x h r q
theorem i_a32 : (Try.prog.info? 28).map (·.size) = some 32 := by kernel_rfl
def X1 (w : World) (g : Nat) (h : HV) : Prop := ∃ t, w.heap[g]? = some (.cells (xsL h).toArray t (0, 0))
theorem X1.below {w w' : World} {g : Nat} {h : HV} (k : X1 w g h) (hb : Below w.heap.size w w') : X1 w' g h := by obtain ⟨t, k⟩ := k; exact ⟨t, (hb.block g (lt_of_block k)).trans k⟩
theorem X1.c {w : World} {g : Nat} {h : HV} (k : X1 w g h) (r : Nat) (q : r < 32) : w.cell? ⟨g, r, none⟩ = some (.int .u64 (h.x r)) := by
  obtain ⟨t, k⟩ := k
  rw [cell_of_row w g r _ _ _ k, List.getElem?_toArray]
  exact xsL_get h r q
theorem twoB (w : World) (v p : Value) (t t' : TypeId) : C1 ((w.alloc (.cells #[v] t)).alloc (.cells #[p] t')) w.heap.size v ∧ C1 ((w.alloc (.cells #[v] t)).alloc (.cells #[p] t')) (w.heap.size + 1) p ∧ Below w.heap.size w ((w.alloc (.cells #[v] t)).alloc (.cells #[p] t')) ∧ ((w.alloc (.cells #[v] t)).alloc (.cells #[p] t')).heap.size = w.heap.size + 2 :=
  ⟨⟨t, heap2 _ _ _⟩, ⟨t', heap2' _ _ _⟩, below2 _ _, by simp⟩
theorem xs_one (h : HV) : (xsL h).toArray.all (·.oneCell') = true := by
  simp only [List.all_toArray, List.all_eq_true]
  intro u hu
  exact List.all_eq_true.1 (hv_one h) u (List.mem_of_mem_take hu)
theorem z_a32 : (Try.prog.info? 28).map (fun i => i.zero) = some (some (.agg (xsL HV.zero).toArray)) := by kernel_rfl
theorem wpL_xload {ops : Array Oper} {rest : List Oper} {d : Option Nat} {tt : TypeId} {x : Operand} {pos : String} {after : Array Edge} {a : Act} {w : World} {Q : Exit → Act → World → Prop}
    (b o : Nat) (h : HV) (hx : a.eval x = .pointer (some ⟨b, o, none⟩)) (hr : w.rangeAt b o (xsL h)) (k : wpList Try.prog ops Q rest (a.put d (.agg (xsL h).toArray)) w) :
    wpList Try.prog ops Q ({ dst := d, op := Op.load 28 x, type := tt, pos := pos, after := after, guard := none } :: rest) a w :=
  wpList_load_mid rfl 28 x rfl b o hx (xsL h) _ hr u_a32 rfl (by rw [i_a32]; rfl) k
theorem wpL_xstore {ops : Array Oper} {rest : List Oper} {d : Option Nat} {tt : TypeId} {x y : Operand} {pos : String} {after : Array Edge} {a : Act} {w : World} {Q : Exit → Act → World → Prop}
    (g : Nat) (o z : HV) (hx : a.eval x = .pointer (some ⟨g, 0, none⟩)) (hy : a.eval y = .agg (xsL z).toArray) (h : X1 w g o)
    (K : ∀ w', X1 w' g z → C.Only (· = g) w w' → wpList Try.prog ops Q rest (a.put d undef) w') :
    wpList Try.prog ops Q ({ dst := d, op := Op.store 28 x y, type := tt, pos := pos, after := after, guard := none } :: rest) a w := by
  obtain ⟨t, h⟩ := h
  exact wpList_store_row rfl 28 x y rfl g _ hx hy t (xsL o).toArray h (by rw [i_a32]; rfl) rfl (xs_one z) (K _ ⟨t, heap_setRow _ _ _ _ _ h⟩ ((C.Only.refl (S := (· = g)) w).setRow (g := g) (.inl rfl) _))
theorem keep3 {w u : World} {g : Nat} {h : HV} (k : X1 w g h) (hb : Below w.heap.size w u) : u.cell? ⟨g, 10, none⟩ = some (.int .u64 (h.x 10)) ∧ u.cell? ⟨g, 11, none⟩ = some (.int .u64 (h.x 11)) ∧ u.cell? ⟨g, 12, none⟩ = some (.int .u64 (h.x 12)) :=
  ⟨(k.below hb).c 10 (by omega), (k.below hb).c 11 (by omega), (k.below hb).c 12 (by omega)⟩
def keyN : Nat → Nm
  | 2 => (16, 0)
  | 5 => (16, 3)
  | 8 => (1414090053, 0)
  | 11 => (1, 0)
  | 14 => (7557193, 0)
  | 17 => (4739917, 0)
  | 20 => (4739917, 1)
  | 23 => (4739917, 2)
  | 26 => (1397904212, 0)
  | _ => (0, 0)
def valN (p2 p5 p7 p8 p9 p10 : Nat) : Nat → Value
  | 2 => .func (.func 44) #[] #[]
  | 5 => .func (.func 45) #[] #[.pointer (some ⟨p10, 0, none⟩), .pointer (some ⟨p7, 0, none⟩)]
  | 8 => .func (.func 46) #[] #[.pointer (some ⟨p7, 0, none⟩), .pointer (some ⟨p5, 0, none⟩)]
  | 11 => .func (.func 47) #[] #[.pointer (some ⟨p8, 0, none⟩), .pointer (some ⟨p7, 0, none⟩)]
  | 14 => .func (.func 48) #[] #[.pointer (some ⟨p2, 0, none⟩), .pointer (some ⟨p7, 0, none⟩), .pointer (some ⟨p8, 0, none⟩)]
  | 17 => .func (.func 50) #[] #[.pointer (some ⟨p2, 0, none⟩), .pointer (some ⟨p7, 0, none⟩), .pointer (some ⟨p8, 0, none⟩), .pointer (some ⟨p9, 0, none⟩)]
  | 20 => .func (.func 52) #[] #[.pointer (some ⟨p5, 0, none⟩)]
  | 23 => .func (.func 53) #[] #[.pointer (some ⟨p2, 0, none⟩), .pointer (some ⟨p7, 0, none⟩)]
  | 26 => .func (.func 55) #[] #[.pointer (some ⟨p2, 0, none⟩)]
  | _ => undef
def entN (p2 p5 p7 p8 p9 p10 i : Nat) : Nm × Value := (keyN i, valN p2 p5 p7 p8 p9 p10 i)
def L0c : Array Bool := ((List.range 29).map fun j => !([2, 5, 8, 11, 14, 17, 20, 23, 26, 27, 28].contains j)).toArray
def L1c : Array Bool := ((List.range 29).map fun j => !([27, 28].contains j)).toArray
def calI : List Nat := [2, 5, 8, 11, 14, 17, 20, 23, 26]
theorem keyN_inj : ∀ i ∈ calI, ∀ j ∈ calI, i ≠ j → keyN i ≠ keyN j := by decide
section
variable {ops : Array Oper} {Q : Exit → Act → World → Prop}
theorem step_ins {i : Nat} {o : Oper} {m k x : Operand} {a : Act} {w : World} {M : Nat} {L : List (Nm × Value)} {nm : Nm} {v : Value} (ho : ops[i]? = some o) (hop : o.op = .insert 64 m k x) (hg : o.guard = none) (hd : o.dst = none)
    (hm : a.eval m = .map (some M)) (hk : a.eval k = .agg (kN nm)) (hx : a.eval x = v) (h : Mp w M L) (hn : ∀ p ∈ L, nm ≠ p.1) : ∃ w', Mp w' M (L ++ [(nm, v)]) ∧ C.Only (· = M) w w' ∧ ∀ K : Act → World → Prop, K a w' → wpOp Try.prog ops Q i K a w := by
  obtain ⟨w', h1, h2, h3⟩ := h.add nm v hn
  refine ⟨w', h2, h3, fun K hK => ?_⟩
  unfold wpOp
  simp only [ho]
  rw [if_pos (by simp [Region.wanted, hg])]
  refine .inl ?_
  unfold Oper.wp execOp
  simp only [hop, hm, hk, hx, Sem.run_bind, h1, Result.andThen_ok, Sem.run_pure]
  show K (a.put o.dst undef) w'
  rw [hd]
  exact hK
theorem take1 {i : Nat} {oi : Oper} {fuel : Nat} {listed : Array Bool} {a : Act} {w : World} (d : Option Tmp) (v : Value) (hi : ops[i]? = some oi) (hs : Region.noSelect ops = true) (hf : Region.free .any ops listed i = true) (hr : (Region.ready .any ops listed).contains i = true)
    (hQ : ∀ c a w, Q (.panic c) (a.put d v) w → Q (.panic c) a w) (hy : Yields Try.prog ops oi v a) (hd : oi.dst = d) (h : wpAny Try.prog .any ops Q fuel (listed.setIfInBounds i true) (a.put d v) w) : wpAny Try.prog .any ops Q (fuel + 1) listed a w := by
  subst hd
  exact wpAny_take hi hs hf hr hQ hy h
theorem step_bag {ent : Nat → Nm × Value} {done : List Nat} {we : World} {i : Nat} {o : Oper} {m k x : Operand} {a : Act} {w : World} {M : Nat} {nm : Nm} {v : Value} (ho : ops[i]? = some o) (hop : o.op = .insert 64 m k x) (hg : o.guard = none) (hd : o.dst = none)
    (hm : a.eval m = .map (some M)) (hk : a.eval k = .agg (kN nm)) (hx : a.eval x = v) (he : ent i = (nm, v)) (h : Mp w M (done.reverse.map ent)) (hoo : C.Only (· = M) we w) (hn : ∀ p ∈ done.reverse.map ent, nm ≠ p.1) :
    ∃ w', (Mp w' M ((i :: done).reverse.map ent) ∧ C.Only (· = M) we w') ∧ ∀ K : Act → World → Prop, K a w' → wpOp Try.prog ops Q i K a w := by
  obtain ⟨u2, k1, k2, k3⟩ := step_ins (Q := Q) ho hop hg hd hm hk hx h hn
  exact ⟨u2, ⟨by rw [List.reverse_cons, List.map_append, List.map_cons, List.map_nil, he]; exact k1, hoo.trans k2⟩, k3⟩
theorem s_vmap : (Try.prog.info? 64).map (·.size) = some 1 := by kernel_rfl
theorem sv_map {w : World} {p : Addr} {M : Nat} {o : Value} (hz : w.frozen? p = false) (hc : w.cell? p = some o) : (storeVar 64 p (.map (some M))).run Try.prog w = .ok () (w.setCell p (.map (some M))) := by
  have hi := s_vmap
  cases hq : Try.prog.info? 64 with
  | none => rw [hq] at hi; cases hi
  | some i =>
    have hs : i.size = 1 := by rw [hq] at hi; simpa using hi
    simp [storeVar, sizeOf, typeInfo, hq, hs, Value.cells, storeCells, hz, hc, go_sem, Addr.add]
theorem step_sto {i : Nat} {o : Oper} {x y : Operand} {a : Act} {w : World} {M : Nat} {p : Addr} {u : Value} (ho : ops[i]? = some o) (hop : o.op = .store 64 x y) (hg : o.guard = none) (hd : o.dst = none)
    (hx : a.eval x = .pointer (some p)) (hy : a.eval y = .map (some M)) (hz : w.frozen? p = false) (hc : w.cell? p = some u) (K : Act → World → Prop) (hK : K a (w.setCell p (.map (some M)))) : wpOp Try.prog ops Q i K a w := by
  unfold wpOp
  simp only [ho]
  rw [if_pos (by simp [Region.wanted, hg])]
  refine .inl ?_
  unfold Oper.wp execOp
  simp only [hop, hx, hy, Instr.storeAt, Instr.sureAddr, Sem.run_bind, Sem.run_pure, Result.andThen_ok, sv_map hz hc]
  show K (a.put o.dst undef) _
  rw [hd]
  exact hK
theorem step_mk {i s : Nat} {o : Oper} {a : Act} {w : World} {d : Option Tmp} (ho : ops[i]? = some o) (hop : o.op = .makeMap 64 none) (hg : o.guard = none) (hd : o.dst = d) (hs : w.heap.size = s) (K : Act → World → Prop) (hK : K (a.put d (.map (some s))) (w.alloc (.map #[] 0))) : wpOp Try.prog ops Q i K a w := by
  subst hd hs
  unfold wpOp
  simp only [ho]
  rw [if_pos (by simp [Region.wanted, hg])]
  refine .inl ?_
  have hr : (Instr.makeMap 64 none).run Try.prog w = .ok (.map (some w.heap.size)) (w.alloc (.map #[] 0)) := rfl
  unfold Oper.wp execOp
  simp only [hop, Option.map_none, Sem.run_bind, hr, Result.andThen_ok, Sem.run_pure]
  exact hK
theorem y_built {o : Oper} {a : Act} {t : TypeId} {l : List (Nat × Operand)} (hop : o.op = .build t l.toArray) (hg : o.guard = none) (vs : List (Nat × Value)) (c : Array Value) (hl : (l.map fun p => (p.1, a.eval p.2)) = vs) (hb : Try.prog.built t vs = some c) : Yields Try.prog ops o (.agg c) a :=
  .inl ⟨by simp [Region.wanted, hg], fun w => by
    have e : (l.toArray.map fun (p : Nat × Operand) => (p.1, a.eval p.2)).toList = vs := by simpa using hl
    have hc := run_build w t (l.toArray.map fun (p : Nat × Operand) => (p.1, a.eval p.2)) c (by rw [e]; exact hb)
    unfold execOp
    simp only [hop, Sem.run_bind, hc, Result.andThen_ok, Sem.run_pure]⟩
theorem y_func {o : Oper} {a : Act} {fn : Fn} {cs : Array Operand} (hop : o.op = .makeFunc fn #[] cs) (hg : o.guard = none) {vs : Array Value} (hv : cs.map a.eval = vs) : Yields Try.prog ops o (.func fn #[] vs) a := by
  subst hv
  exact .inl ⟨by simp [Region.wanted, hg], fun w => by
    unfold execOp
    simp only [hop, Instr.makeFunc, Sem.run_bind, Result.andThen_ok, Sem.run_pure, List.map_toArray, List.map_nil]⟩
theorem y_move {o : Oper} {a : Act} {x : Operand} (hop : o.op = .move x) (hg : o.guard = none) : Yields Try.prog ops o (a.eval x) a :=
  .inl ⟨by simp [Region.wanted, hg], fun w => by
    unfold execOp
    simp only [hop, Sem.run_pure]⟩
theorem step_mv {i : Nat} {o : Oper} {a : Act} {w : World} {x : Operand} {K : Act → World → Prop} (d : Option Tmp) (v : Value) (ho : ops[i]? = some o) (hop : o.op = .move x) (hg : o.guard = none) (hd : o.dst = d) (hv : a.eval x = v) (hK : K (a.put d v) w) : wpOp Try.prog ops Q i K a w := by
  subst hd hv
  exact (y_move hop hg).wpOp ho hK
end
theorem b_name (m n : Int) : Try.prog.built 67 [(0, .int .u64 m), (1, .int .u64 n)] = some (kN (m, n)) := by kernel_rfl
/-- what stands behind callsOf -/
structure Ev (w : World) (B g cap i : Nat) (L : List VV) (x : VV) (p2 p5 p7 p8 p9 p10 M : Nat) : Prop where
  h2 : C1 w p2 (.slice (some ⟨g, 0, none⟩) L.length cap)
  h5 : C1 w p5 (.pointer (some ⟨g, i * 52, none⟩))
  h7 : C1 w p7 (.int .u64 (x.h.x 10))
  h8 : C1 w p8 (.int .u64 (x.h.x 11))
  h9 : C1 w p9 (.int .u64 (x.h.x 12))
  h10 : C1 w p10 (.map (some M))
  b2 : B ≤ p2
  b5 : B ≤ p5
  b7 : B ≤ p7
  b8 : B ≤ p8
  b9 : B ≤ p9
  mp : ∃ E, Mp w M E ∧ (∀ p ∈ E, ∃ k ∈ calI, p = entN p2 p5 p7 p8 p9 p10 k) ∧ ∀ k ∈ calI, entN p2 p5 p7 p8 p9 p10 k ∈ E
theorem heap3a (w : World) (a b c : Obj) : ((((w.alloc a).alloc b).alloc c).drew).heap[w.heap.size]? = some a := by
  show (((w.heap.push a).push b).push c)[w.heap.size]? = some a
  simp [Array.getElem?_push]
  intro h
  omega
theorem heap3b (w : World) (a b c : Obj) : ((((w.alloc a).alloc b).alloc c).drew).heap[w.heap.size + 1]? = some b := by
  show (((w.alloc a).alloc b).alloc c).heap[w.heap.size + 1]? = some b
  rw [Below.heap_alloc _ c _ (by simp)]
  exact heap2' w a b
theorem heap3c (w : World) (a b c : Obj) : ((((w.alloc a).alloc b).alloc c).drew).heap[w.heap.size + 1 + 1]? = some c := by
  show (((w.alloc a).alloc b).alloc c).heap[w.heap.size + 1 + 1]? = some c
  have := heap_alloc_new ((w.alloc a).alloc b) c
  simpa using this
theorem below3 (w : World) (a b c : Obj) : Below w.heap.size w ((((w.alloc a).alloc b).alloc c).drew) :=
  ((((Below.refl _ _).alloc (Nat.le_refl _) _).alloc (by simp) _).alloc (by simp; omega) _).drew
set_option maxHeartbeats 4000000 in
theorem c_callsOf (w : World) (g cap i : Nat) (L : List VV) (hL : L.length < 9223372036854775808) (hi : i < L.length) (x : VV) (hx : L[i]? = some x) (hv : Vb w g L) :
    Calls Try.prog 39 #[.slice (some ⟨g, 0, none⟩) L.length cap, .int .i64 i] w fun e w' => ∃ M p2 p5 p7 p8 p9 p10, e = .returned (.map (some M)) ∧ Ev w' w.heap.size g cap i L x p2 p5 p7 p8 p9 p10 M ∧ Below w.heap.size w w' := by
  obtain ⟨T2, T5, TB, TS⟩ := twoB w (.slice (some ⟨g, 0, none⟩) L.length cap) (.pointer (some ⟨g, i * 52, none⟩)) 24 70
  have H2 := hid T2
  have H5 := hid T5
  have HB := hid TB
  have HS := hid TS
  have HR : Hid (∀ u, Below w.heap.size w u → u.rangeAt g (i * 52) (xsL x.h)) := fun u hb j y hy => by
    have hj : j < 32 := (List.getElem?_eq_some_iff.1 hy).1
    have e := (hv.below hb).cell hx j (by omega)
    rw [e, VV.cs, List.getElem?_append_left (by rw [hv_len]; omega), ← hy]
    unfold xsL
    rw [List.getElem?_take_of_lt hj]
  clear T2 T5 TB TS
  go_enter Try.func39, Try.ntmps39
  go_upto_region 2 with fail
  generalize ((w.alloc (.cells #[.slice (some ⟨g, 0, none⟩) L.length cap] 24)).alloc (.cells #[.pointer (some ⟨g, i * 52, none⟩)] 70)) = wa at *
  have c5 := H5.out.c
  go_upto_region 3 with (first
    | ((with_reducible refine wpL_xload g (i * 52) x.h ?_ ?_ ?_); rfl; exact HR.out _ HB.out)
    | ((with_reducible refine wpList_newG (z := .agg (xsL HV.zero).toArray) (w.heap.size + 2) ?_ (xsL HV.zero).toArray ?_ ?_ ?_); exact HS.out; rfl; exact z_a32)
    | ((with_reducible refine wpL_xstore (w.heap.size + 2) HV.zero x.h ?_ ?_ ?_ ?_); rfl; rfl; exact ⟨_, HS.out ▸ heap_alloc_new wa _⟩; intro wb h6 ho; have G6 := hid h6; have GA := hid ((Below.refl wa.heap.size wa).alloc (Nat.le_refl _) (.cells (xsL HV.zero).toArray 28)); have G2 : Hid (C1 wb w.heap.size _) := hid ((H2.out.below GA.out).only ho (fun (q : _ = _) => by omega)); have G5 : Hid (C1 wb (w.heap.size + 1) _) := hid ((H5.out.below GA.out).only ho (fun (q : _ = _) => by omega)); have GB := hid (only_below (HB.out.alloc HB.out.size _) (by omega) ho (by simp; have := HB.out.size; omega)); have GS : Hid (w.heap.size + 3 ≤ wb.heap.size) := hid (by have h1 := ho.size; have h2 := HS.out; simp at h1; show _ ≤ _; omega); clear h6 ho))
  clear c5
  simp only [Act.put, List.setIfInBounds_toArray, List.set_cons_succ, List.set_cons_zero]
  refine Code.wp_mono (Q := fun e a' w' => match e with | .normal => ∃ p7 p8 p9, a' = ⟨#[.slice (some ⟨g, 0, none⟩) L.length cap, .int .i64 i, .pointer (some ⟨w.heap.size, 0, none⟩), undef, .map none, .pointer (some ⟨w.heap.size + 1, 0, none⟩), .pointer (some ⟨w.heap.size + 2, 0, none⟩), .pointer (some ⟨p7, 0, none⟩), .pointer (some ⟨p8, 0, none⟩), .pointer (some ⟨p9, 0, none⟩), undef, .slice (some ⟨g, 0, none⟩) L.length cap, .int .i64 i, .pointer (some ⟨g, i * 52, none⟩), .pointer (some ⟨g, i * 52, none⟩), .pointer (some ⟨g, i * 52, none⟩), .pointer (some ⟨g, i * 52, none⟩), .pointer (some ⟨g, i * 52, none⟩), .agg (xsL x.h).toArray, .pointer (some ⟨w.heap.size + 2, 10, none⟩), .int .u64 (x.h.x 10), .pointer (some ⟨w.heap.size + 2, 11, none⟩), .int .u64 (x.h.x 11), .pointer (some ⟨w.heap.size + 2, 12, none⟩), .int .u64 (x.h.x 12), undef, undef, undef, undef, undef, undef, undef, undef, undef, undef, undef, undef, undef, undef, undef, undef, undef, undef, undef, undef], []⟩ ∧ (wb.heap.size ≤ p7 ∧ wb.heap.size ≤ p8 ∧ wb.heap.size ≤ p9) ∧ C1 w' p7 (.int .u64 (x.h.x 10)) ∧ C1 w' p8 (.int .u64 (x.h.x 11)) ∧ C1 w' p9 (.int .u64 (x.h.x 12)) ∧ Below wb.heap.size wb w' | _ => False) ?_ ?_
  case refine_2 =>
    have k10 := G6.out.c 10 (by omega)
    have k11 := G6.out.c 11 (by omega)
    have k12 := G6.out.c 12 (by omega)
    go_region_held (fun w' => w'.cell? ⟨w.heap.size + 2, 10, none⟩ = some (.int .u64 (x.h.x 10)) ∧ w'.cell? ⟨w.heap.size + 2, 11, none⟩ = some (.int .u64 (x.h.x 11)) ∧ w'.cell? ⟨w.heap.size + 2, 12, none⟩ = some (.int .u64 (x.h.x 12))) ((refine keep3 G6.out ?_; (repeat (first | exact Below.refl _ _ | refine Below.drew ?_ | refine Below.alloc ?_ (by first | exact Nat.le_refl _ | (simp; done) | (simp; omega) | omega) _ | refine Below.setCell ?_ (by first | exact Nat.le_refl _ | (simp; done) | (simp; omega) | omega) _)))) (fail)
    all_goals
      refine ⟨_, _, _, rfl, ⟨by omega, by omega, by omega⟩, ?_, ?_, ?_, ?_⟩
      · first | exact ⟨_, heap3a _ _ _ _⟩ | exact ⟨_, heap3b _ _ _ _⟩ | exact ⟨_, heap3c _ _ _ _⟩
      · first | exact ⟨_, heap3a _ _ _ _⟩ | exact ⟨_, heap3b _ _ _ _⟩ | exact ⟨_, heap3c _ _ _ _⟩
      · first | exact ⟨_, heap3a _ _ _ _⟩ | exact ⟨_, heap3b _ _ _ _⟩ | exact ⟨_, heap3c _ _ _ _⟩
      · exact below3 _ _ _ _
  case refine_1 =>
  intro e a' wc hq
  cases e <;> try exact False.elim hq
  obtain ⟨p7, p8, p9, rfl, ⟨q7, q8, q9⟩, h7, h8, h9, hbc⟩ := hq
  have G7 := hid h7
  have G8 := hid h8
  have G9 := hid h9
  have HC := hid hbc
  have J2 := hid (G2.out.below hbc)
  have J5 := hid (G5.out.below hbc)
  clear h7 h8 h9 hbc
  go_upto_region 5 with fail
  refine Code.wp_mono (Q := fun e a' w' => match e with | .normal => ∃ M p10, a' = ⟨#[.slice (some ⟨g, 0, none⟩) L.length cap, .int .i64 i, .pointer (some ⟨w.heap.size, 0, none⟩), undef, .map none, .pointer (some ⟨w.heap.size + 1, 0, none⟩), .pointer (some ⟨w.heap.size + 2, 0, none⟩), .pointer (some ⟨p7, 0, none⟩), .pointer (some ⟨p8, 0, none⟩), .pointer (some ⟨p9, 0, none⟩), .pointer (some ⟨p10, 0, none⟩), .slice (some ⟨g, 0, none⟩) L.length cap, .int .i64 i, .pointer (some ⟨g, i * 52, none⟩), .pointer (some ⟨g, i * 52, none⟩), .pointer (some ⟨g, i * 52, none⟩), .pointer (some ⟨g, i * 52, none⟩), .pointer (some ⟨g, i * 52, none⟩), .agg (xsL x.h).toArray, .pointer (some ⟨w.heap.size + 2, 10, none⟩), .int .u64 (x.h.x 10), .pointer (some ⟨w.heap.size + 2, 11, none⟩), .int .u64 (x.h.x 11), .pointer (some ⟨w.heap.size + 2, 12, none⟩), .int .u64 (x.h.x 12), .map (some M), .agg (kN (16, 0)), .agg (kN (16, 3)), .func (.func 45) #[] #[.pointer (some ⟨p10, 0, none⟩), .pointer (some ⟨p7, 0, none⟩)], .agg (kN (1414090053, 0)), .func (.func 46) #[] #[.pointer (some ⟨p7, 0, none⟩), .pointer (some ⟨w.heap.size + 1, 0, none⟩)], .agg (kN (1, 0)), .func (.func 47) #[] #[.pointer (some ⟨p8, 0, none⟩), .pointer (some ⟨p7, 0, none⟩)], .agg (kN (7557193, 0)), .func (.func 48) #[] #[.pointer (some ⟨w.heap.size, 0, none⟩), .pointer (some ⟨p7, 0, none⟩), .pointer (some ⟨p8, 0, none⟩)], .agg (kN (4739917, 0)), .func (.func 50) #[] #[.pointer (some ⟨w.heap.size, 0, none⟩), .pointer (some ⟨p7, 0, none⟩), .pointer (some ⟨p8, 0, none⟩), .pointer (some ⟨p9, 0, none⟩)], .agg (kN (4739917, 1)), .func (.func 52) #[] #[.pointer (some ⟨w.heap.size + 1, 0, none⟩)], .agg (kN (4739917, 2)), .func (.func 53) #[] #[.pointer (some ⟨w.heap.size, 0, none⟩), .pointer (some ⟨p7, 0, none⟩)], .agg (kN (1397904212, 0)), .func (.func 55) #[] #[.pointer (some ⟨w.heap.size, 0, none⟩)], .map (some M), undef], []⟩ ∧ p10 = wc.heap.size ∧ C1 w' p10 (.map (some M)) ∧ (∃ E, Mp w' M E ∧ (∀ p ∈ E, ∃ k ∈ calI, p = entN w.heap.size (w.heap.size + 1) p7 p8 p9 wc.heap.size k) ∧ ∀ k ∈ calI, entN w.heap.size (w.heap.size + 1) p7 p8 p9 wc.heap.size k ∈ E) ∧ Below wc.heap.size wc w' | _ => False) ?_ ?_
  case refine_2 =>
    refine wp_region_any (by kernel_rfl) ?_
    change wpAny _ _ _ _ 29 (Array.replicate 29 false) _ _
    refine take1 (fuel := 28) (i := 1) (some 26) (.agg (kN (16, 0))) rfl (by kernel_rfl) (by kernel_rfl) (by kernel_rfl) (fun _ _ _ h => h) (y_built rfl rfl [(0, .int .u64 16), (1, .int .u64 0)] (kN (16, 0)) rfl (b_name 16 0)) rfl ?_
    simp only [Act.put, List.setIfInBounds_toArray, List.set_cons_succ, List.set_cons_zero]
    refine take1 (fuel := 27) (i := 3) (some 27) (.agg (kN (16, 3))) rfl (by kernel_rfl) (by kernel_rfl) (by kernel_rfl) (fun _ _ _ h => h) (y_built rfl rfl [(0, .int .u64 16), (1, .int .u64 3)] (kN (16, 3)) rfl (b_name 16 3)) rfl ?_
    simp only [Act.put, List.setIfInBounds_toArray, List.set_cons_succ, List.set_cons_zero]
    refine take1 (fuel := 26) (i := 4) (some 28) (.func (.func 45) #[] #[.pointer (some ⟨wc.heap.size, 0, none⟩), .pointer (some ⟨p7, 0, none⟩)]) rfl (by kernel_rfl) (by kernel_rfl) (by kernel_rfl) (fun _ _ _ h => h) (y_func rfl rfl (by simp only [List.map_toArray, List.map_cons, List.map_nil]; rfl)) rfl ?_
    simp only [Act.put, List.setIfInBounds_toArray, List.set_cons_succ, List.set_cons_zero]
    refine take1 (fuel := 25) (i := 6) (some 29) (.agg (kN (1414090053, 0))) rfl (by kernel_rfl) (by kernel_rfl) (by kernel_rfl) (fun _ _ _ h => h) (y_built rfl rfl [(0, .int .u64 1414090053), (1, .int .u64 0)] (kN (1414090053, 0)) rfl (b_name 1414090053 0)) rfl ?_
    simp only [Act.put, List.setIfInBounds_toArray, List.set_cons_succ, List.set_cons_zero]
    refine take1 (fuel := 24) (i := 7) (some 30) (.func (.func 46) #[] #[.pointer (some ⟨p7, 0, none⟩), .pointer (some ⟨w.heap.size + 1, 0, none⟩)]) rfl (by kernel_rfl) (by kernel_rfl) (by kernel_rfl) (fun _ _ _ h => h) (y_func rfl rfl (by simp only [List.map_toArray, List.map_cons, List.map_nil]; rfl)) rfl ?_
    simp only [Act.put, List.setIfInBounds_toArray, List.set_cons_succ, List.set_cons_zero]
    refine take1 (fuel := 23) (i := 9) (some 31) (.agg (kN (1, 0))) rfl (by kernel_rfl) (by kernel_rfl) (by kernel_rfl) (fun _ _ _ h => h) (y_built rfl rfl [(0, .int .u64 1), (1, .int .u64 0)] (kN (1, 0)) rfl (b_name 1 0)) rfl ?_
    simp only [Act.put, List.setIfInBounds_toArray, List.set_cons_succ, List.set_cons_zero]
    refine take1 (fuel := 22) (i := 10) (some 32) (.func (.func 47) #[] #[.pointer (some ⟨p8, 0, none⟩), .pointer (some ⟨p7, 0, none⟩)]) rfl (by kernel_rfl) (by kernel_rfl) (by kernel_rfl) (fun _ _ _ h => h) (y_func rfl rfl (by simp only [List.map_toArray, List.map_cons, List.map_nil]; rfl)) rfl ?_
    simp only [Act.put, List.setIfInBounds_toArray, List.set_cons_succ, List.set_cons_zero]
    refine take1 (fuel := 21) (i := 12) (some 33) (.agg (kN (7557193, 0))) rfl (by kernel_rfl) (by kernel_rfl) (by kernel_rfl) (fun _ _ _ h => h) (y_built rfl rfl [(0, .int .u64 7557193), (1, .int .u64 0)] (kN (7557193, 0)) rfl (b_name 7557193 0)) rfl ?_
    simp only [Act.put, List.setIfInBounds_toArray, List.set_cons_succ, List.set_cons_zero]
    refine take1 (fuel := 20) (i := 13) (some 34) (.func (.func 48) #[] #[.pointer (some ⟨w.heap.size, 0, none⟩), .pointer (some ⟨p7, 0, none⟩), .pointer (some ⟨p8, 0, none⟩)]) rfl (by kernel_rfl) (by kernel_rfl) (by kernel_rfl) (fun _ _ _ h => h) (y_func rfl rfl (by simp only [List.map_toArray, List.map_cons, List.map_nil]; rfl)) rfl ?_
    simp only [Act.put, List.setIfInBounds_toArray, List.set_cons_succ, List.set_cons_zero]
    refine take1 (fuel := 19) (i := 15) (some 35) (.agg (kN (4739917, 0))) rfl (by kernel_rfl) (by kernel_rfl) (by kernel_rfl) (fun _ _ _ h => h) (y_built rfl rfl [(0, .int .u64 4739917), (1, .int .u64 0)] (kN (4739917, 0)) rfl (b_name 4739917 0)) rfl ?_
    simp only [Act.put, List.setIfInBounds_toArray, List.set_cons_succ, List.set_cons_zero]
    refine take1 (fuel := 18) (i := 16) (some 36) (.func (.func 50) #[] #[.pointer (some ⟨w.heap.size, 0, none⟩), .pointer (some ⟨p7, 0, none⟩), .pointer (some ⟨p8, 0, none⟩), .pointer (some ⟨p9, 0, none⟩)]) rfl (by kernel_rfl) (by kernel_rfl) (by kernel_rfl) (fun _ _ _ h => h) (y_func rfl rfl (by simp only [List.map_toArray, List.map_cons, List.map_nil]; rfl)) rfl ?_
    simp only [Act.put, List.setIfInBounds_toArray, List.set_cons_succ, List.set_cons_zero]
    refine take1 (fuel := 17) (i := 18) (some 37) (.agg (kN (4739917, 1))) rfl (by kernel_rfl) (by kernel_rfl) (by kernel_rfl) (fun _ _ _ h => h) (y_built rfl rfl [(0, .int .u64 4739917), (1, .int .u64 1)] (kN (4739917, 1)) rfl (b_name 4739917 1)) rfl ?_
    simp only [Act.put, List.setIfInBounds_toArray, List.set_cons_succ, List.set_cons_zero]
    refine take1 (fuel := 16) (i := 19) (some 38) (.func (.func 52) #[] #[.pointer (some ⟨w.heap.size + 1, 0, none⟩)]) rfl (by kernel_rfl) (by kernel_rfl) (by kernel_rfl) (fun _ _ _ h => h) (y_func rfl rfl (by simp only [List.map_toArray, List.map_cons, List.map_nil]; rfl)) rfl ?_
    simp only [Act.put, List.setIfInBounds_toArray, List.set_cons_succ, List.set_cons_zero]
    refine take1 (fuel := 15) (i := 21) (some 39) (.agg (kN (4739917, 2))) rfl (by kernel_rfl) (by kernel_rfl) (by kernel_rfl) (fun _ _ _ h => h) (y_built rfl rfl [(0, .int .u64 4739917), (1, .int .u64 2)] (kN (4739917, 2)) rfl (b_name 4739917 2)) rfl ?_
    simp only [Act.put, List.setIfInBounds_toArray, List.set_cons_succ, List.set_cons_zero]
    refine take1 (fuel := 14) (i := 22) (some 40) (.func (.func 53) #[] #[.pointer (some ⟨w.heap.size, 0, none⟩), .pointer (some ⟨p7, 0, none⟩)]) rfl (by kernel_rfl) (by kernel_rfl) (by kernel_rfl) (fun _ _ _ h => h) (y_func rfl rfl (by simp only [List.map_toArray, List.map_cons, List.map_nil]; rfl)) rfl ?_
    simp only [Act.put, List.setIfInBounds_toArray, List.set_cons_succ, List.set_cons_zero]
    refine take1 (fuel := 13) (i := 24) (some 41) (.agg (kN (1397904212, 0))) rfl (by kernel_rfl) (by kernel_rfl) (by kernel_rfl) (fun _ _ _ h => h) (y_built rfl rfl [(0, .int .u64 1397904212), (1, .int .u64 0)] (kN (1397904212, 0)) rfl (b_name 1397904212 0)) rfl ?_
    simp only [Act.put, List.setIfInBounds_toArray, List.set_cons_succ, List.set_cons_zero]
    refine take1 (fuel := 12) (i := 25) (some 42) (.func (.func 55) #[] #[.pointer (some ⟨w.heap.size, 0, none⟩)]) rfl (by kernel_rfl) (by kernel_rfl) (by kernel_rfl) (fun _ _ _ h => h) (y_func rfl rfl (by simp only [List.map_toArray, List.map_cons, List.map_nil]; rfl)) rfl ?_
    simp only [Act.put, List.setIfInBounds_toArray, List.set_cons_succ, List.set_cons_zero]
    refine wpAny_all (fuel := 11) (rs := [0]) (by kernel_rfl) (by simp) ?_
    intro i0 hi0
    obtain rfl : i0 = 0 := by simpa using hi0
    refine step_mk (d := some 25) (s := wc.heap.size + 1) rfl rfl rfl rfl (by simp) _ ?_
    simp only [Act.put, List.setIfInBounds_toArray, List.set_cons_succ, List.set_cons_zero]
    refine wpAny_bag (c := 2) (I := calI) (L0 := L0c) (L1 := L1c) (Inv := fun done u => Mp u (wc.heap.size + 1) (done.reverse.map (entN w.heap.size (w.heap.size + 1) p7 p8 p9 wc.heap.size)) ∧ C.Only (· = wc.heap.size + 1) (((wc.alloc (.cells #[.map none] 64)).drew).alloc (.map #[] 0)) u) (by kernel_rfl) (by kernel_rfl) (by kernel_rfl) ?step ?fin 9 [] _ _ ⟨?m0, ?o0⟩ (by simp) (by kernel_rfl) (of_decide_eq_true (by kernel_rfl)) (by decide)
    case m0 =>
      refine ⟨#[], 0, ?_, rfl⟩
      change (((wc.alloc (.cells #[.map none] 64)).drew).alloc (.map #[] 0)).heap[wc.heap.size + 1]? = _
      have := heap_alloc_new ((wc.alloc (.cells #[.map none] 64)).drew) (.map #[] 0)
      simpa using this
    case o0 => exact C.Only.refl _
    case step =>
      intro done i1 u ⟨hm, ho⟩ hsub hi1 hid
      have hn : ∀ p ∈ done.reverse.map (entN w.heap.size (w.heap.size + 1) p7 p8 p9 wc.heap.size), keyN i1 ≠ p.1 := by
        intro p hp
        simp only [List.mem_map, List.mem_reverse] at hp
        obtain ⟨j, hj, rfl⟩ := hp
        exact keyN_inj i1 hi1 j (hsub j hj) (fun e => hid (e ▸ hj))
      simp only [calI, List.mem_cons, List.not_mem_nil, or_false] at hi1
      rcases hi1 with rfl | rfl | rfl | rfl | rfl | rfl | rfl | rfl | rfl
      · exact step_bag (nm := keyN 2) (v := valN w.heap.size (w.heap.size + 1) p7 p8 p9 wc.heap.size 2) rfl rfl rfl rfl rfl rfl rfl rfl hm ho hn
      · exact step_bag (nm := keyN 5) (v := valN w.heap.size (w.heap.size + 1) p7 p8 p9 wc.heap.size 5) rfl rfl rfl rfl rfl rfl rfl rfl hm ho hn
      · exact step_bag (nm := keyN 8) (v := valN w.heap.size (w.heap.size + 1) p7 p8 p9 wc.heap.size 8) rfl rfl rfl rfl rfl rfl rfl rfl hm ho hn
      · exact step_bag (nm := keyN 11) (v := valN w.heap.size (w.heap.size + 1) p7 p8 p9 wc.heap.size 11) rfl rfl rfl rfl rfl rfl rfl rfl hm ho hn
      · exact step_bag (nm := keyN 14) (v := valN w.heap.size (w.heap.size + 1) p7 p8 p9 wc.heap.size 14) rfl rfl rfl rfl rfl rfl rfl rfl hm ho hn
      · exact step_bag (nm := keyN 17) (v := valN w.heap.size (w.heap.size + 1) p7 p8 p9 wc.heap.size 17) rfl rfl rfl rfl rfl rfl rfl rfl hm ho hn
      · exact step_bag (nm := keyN 20) (v := valN w.heap.size (w.heap.size + 1) p7 p8 p9 wc.heap.size 20) rfl rfl rfl rfl rfl rfl rfl rfl hm ho hn
      · exact step_bag (nm := keyN 23) (v := valN w.heap.size (w.heap.size + 1) p7 p8 p9 wc.heap.size 23) rfl rfl rfl rfl rfl rfl rfl rfl hm ho hn
      · exact step_bag (nm := keyN 26) (v := valN w.heap.size (w.heap.size + 1) p7 p8 p9 wc.heap.size 26) rfl rfl rfl rfl rfl rfl rfl rfl hm ho hn
    case fin =>
      intro done u ⟨hm, ho⟩ hsub hall f
      have hw0 : (((wc.alloc (.cells #[.map none] 64)).drew).alloc (.map #[] 0)).heap[wc.heap.size]? = some (.cells #[.map none] 64 (0, 0)) := heap2 _ _ _
      have hw := ho.old hw0 (fun (q : _ = _) => by omega)
      have hb : Below wc.heap.size wc u := ((((Below.refl wc.heap.size wc).alloc (Nat.le_refl _) _).drew).alloc (by simp) _).trans (ho.below wc.heap.size (by simp; omega) fun k (e : k = _) => by omega)
      show wpAny _ _ _ _ ((f + 1) + 1) _ _ _
      refine wpAny_all (rs := [27]) (by kernel_rfl) (by simp) ?_
      intro i2 hi2
      obtain rfl : i2 = 27 := by simpa using hi2
      refine step_mv (some 43) (.map (some (wc.heap.size + 1))) rfl rfl rfl rfl rfl ?_
      simp only [Act.put, List.setIfInBounds_toArray, List.set_cons_succ, List.set_cons_zero]
      refine wpAny_all (rs := [28]) (by kernel_rfl) (by simp) ?_
      intro i3 hi3
      obtain rfl : i3 = 28 := by simpa using hi3
      refine step_sto (p := ⟨wc.heap.size, 0, none⟩) (M := wc.heap.size + 1) rfl rfl rfl rfl rfl rfl (frozen_of_row u _ 0 _ _ hw) (cell_of_row u _ 0 _ _ _ hw) _ ?_
      refine wpAny_done (by kernel_rfl) ?_ _
      refine ⟨wc.heap.size + 1, wc.heap.size, rfl, rfl, ⟨_, setCell_row u _ 0 _ #[.map (some (wc.heap.size + 1))] _ _ hw rfl⟩, ⟨_, hm.only (only_cell _) (fun (q : _ = _) => by omega), fun p hp => ?_, fun k hk => ?_⟩, hb.setCell (Nat.le_refl _) _⟩
      · simp only [List.mem_map, List.mem_reverse] at hp
        obtain ⟨k, hk, rfl⟩ := hp
        exact ⟨k, hsub k hk, rfl⟩
      · simp only [List.mem_map, List.mem_reverse]
        exact ⟨k, hall k hk, rfl⟩
  case refine_1 =>
  intro e a' we hq
  cases e <;> try exact False.elim hq
  obtain ⟨M, p10, rfl, rfl, h10, hmp, hbe⟩ := hq
  have c10 := h10.c
  have HT : Hid (Ev we w.heap.size g cap i L x w.heap.size (w.heap.size + 1) p7 p8 p9 wc.heap.size M) := by
    exact ⟨J2.out.below hbe, J5.out.below hbe, G7.out.below hbe, G8.out.below hbe, G9.out.below hbe, h10, Nat.le_refl _, by omega, by have := GS.out; omega, by have := GS.out; omega, by have := GS.out; omega, hmp⟩
  have HE := hid (GB.out.trans ((HC.out.mono GB.out.size).trans (hbe.mono (Nat.le_trans GB.out.size HC.out.size))))
  clear h10 hmp hbe
  go_wp2_with fail
  go_ret
  exact ⟨M, _, _, p7, p8, p9, _, rfl, HT.out, HE.out⟩
end Go.Proofs.Yteafjobmlfkppaa
namespace Go.Proofs.Yteafjobmlfkppaa
open Go.RowKit
set_option linter.unusedVariables false
set_option maxRecDepth 100000

def nmOf (k f : Int) : Nm := if k = 1 then (k, 0) else (k, f)
theorem s_name : (Try.prog.info? 67).map (·.size) = some 2 := by kernel_rfl
theorem z_name : (Try.prog.info? 67).map (fun i => i.zero) = some (some (.agg (kN (0, 0)))) := by kernel_rfl
theorem kN_one (a : Nm) : (kN a).all (·.oneCell') = true := by simp [kN, Value.oneCell']
def N1 (w : World) (g : Nat) (a : Nm) : Prop := w.heap[g]? = some (.cells (kN a) 67 (0, 0))
theorem ret_n {fn : Func} {p : Tmp} (hf : fn.results = #[.cell p 67]) {tmps : Array Value} {w : World} (g : Nat) (h : Nm) (hp : tmps.getD p undef = .pointer (some ⟨g, 0, none⟩)) (hg : N1 w g h) : (results fn tmps).run Try.prog w = .ok (.agg (kN h)) w :=
  results_cell_row hf tmps w g 67 (kN h) (0, 0) (.struct (Try.prog.fieldsOf 67)) hp hg u_name rfl (by rw [s_name]; rfl)
theorem wpL_storeN {ops : Array Oper} {rest : List Oper} {d : Option Nat} {tt : TypeId} {x y : Operand} {pos : String} {after : Array Edge} {a : Act} {w : World} {Q : Exit → Act → World → Prop}
    (g : Nat) (o z : Nm) (hx : a.eval x = .pointer (some ⟨g, 0, none⟩)) (hy : a.eval y = .agg (kN z)) (h : N1 w g o)
    (K : ∀ w', N1 w' g z → C.Only (· = g) w w' → wpList Try.prog ops Q rest (a.put d undef) w') :
    wpList Try.prog ops Q ({ dst := d, op := Op.store 67 x y, type := tt, pos := pos, after := after, guard := none } :: rest) a w :=
  wpList_store_row rfl 67 x y rfl g _ hx hy 67 (kN o) h (by rw [s_name]; rfl) rfl (kN_one z) (K _ (heap_setRow _ _ _ _ _ h) ((C.Only.refl (S := (· = g)) w).setRow (g := g) (.inl rfl) _))
theorem v_nameOf (k f : Int) (w : World) : Calls Try.prog 40 #[.int .u64 k, .int .u64 f] w fun e w' => e = .returned (.agg (kN (nmOf k f))) ∧ Below w.heap.size w w' := by
  have AN : Hid (N1 (w.alloc (.cells (kN (0, 0)) 67)) w.heap.size (0, 0)) := heap_alloc_new w _
  have HB0 := hid ((Below.refl w.heap.size w).alloc (Nat.le_refl _) (.cells (kN (0, 0)) 67))
  by_cases hk : k = 1
  · subst hk
    have e : nmOf 1 f = (1, 0) := by simp [nmOf]
    rw [e]
    go_enter Try.func40, Try.ntmps40
    go_wp2_with (first
      | ((with_reducible refine wpList_new (z := .agg (kN (0, 0))) (kN (0, 0)) ?_ ?_ ?_); rfl; exact z_name)
      | ((with_reducible refine wpL_built [(0, .int .u64 1), (1, .int .u64 0)] (kN (1, 0)) ?_ ?_ ?_); rfl; exact b_name _ _)
      | ((with_reducible refine wpL_storeN w.heap.size (0, 0) (1, 0) ?_ ?_ ?_ ?_); rfl; rfl; exact AN.out; intro w2 h2 ho2; have D1 := hid h2; have HB2 := hid (only_below HB0.out (Nat.le_refl _) ho2 HB0.out.size); clear h2 ho2))
    exact bodyPost_ret (ret_n Try.results40 w.heap.size _ rfl D1.out) rfl ⟨rfl, HB2.out⟩
  · have hk' : (k == 1) = false := by simpa using hk
    have e : nmOf k f = (k, f) := by simp [nmOf, hk]
    rw [e]
    go_enter Try.func40, Try.ntmps40
    go_wp2_with (first
      | ((with_reducible refine wpList_new (z := .agg (kN (0, 0))) (kN (0, 0)) ?_ ?_ ?_); rfl; exact z_name)
      | ((with_reducible refine wpL_built [(0, .int .u64 k), (1, .int .u64 f)] (kN (k, f)) ?_ ?_ ?_); rfl; exact b_name _ _)
      | ((with_reducible refine wpL_storeN w.heap.size (0, 0) (k, f) ?_ ?_ ?_ ?_); rfl; rfl; exact AN.out; intro w2 h2 ho2; have D1 := hid h2; have HB2 := hid (only_below HB0.out (Nat.le_refl _) ho2 HB0.out.size); clear h2 ho2))
    exact bodyPost_ret (ret_n Try.results40 w.heap.size _ rfl D1.out) rfl ⟨rfl, HB2.out⟩
theorem zero_fans (w : World) : ∃ zv, (zeroValue 62).run Try.prog w = .ok zv w := ⟨_, Try.zeroValue62 w⟩
def knownB (a : Int) : Bool := [16, 1414090053, 1, 7557193, 4739917, 1397904212].contains a
theorem known_some {p2 p5 p7 p8 p9 p10 : Nat} {E : List (Nm × Value)} (h1 : ∀ p ∈ E, ∃ k ∈ calI, p = entN p2 p5 p7 p8 p9 p10 k) (h2 : ∀ k ∈ calI, entN p2 p5 p7 p8 p9 p10 k ∈ E) (a : Int) : (fN (a, 0) E 0).isSome = knownB a := by
  rw [Bool.eq_iff_iff]
  constructor
  · intro h
    obtain ⟨r, hr⟩ := Option.isSome_iff_exists.1 h
    have hm := fN_some _ _ _ _ hr
    obtain ⟨k, hk, e⟩ := h1 _ hm
    have e1 : (a, 0) = keyN k := congrArg Prod.fst e
    have : ∀ k ∈ calI, (keyN k).2 = 0 → knownB (keyN k).1 = true := by decide
    have h3 := this k hk (by rw [← e1])
    rw [← e1] at h3
    exact h3
  · intro h
    have : ∀ a ∈ ([16, 1414090053, 1, 7557193, 4739917, 1397904212] : List Int), ∃ k ∈ calI, keyN k = (a, 0) := by decide
    obtain ⟨k, hk, e⟩ := this a (by simpa [knownB] using h)
    have hm := h2 k hk
    unfold entN at hm
    rw [e] at hm
    cases q : fN (a, 0) E 0 with
    | some r => rfl
    | none => exact absurd hm (fN_none _ _ _ q _)
set_option maxHeartbeats 1000000 in
theorem k_2 (w : World) (p10 p7 M : Nat) (a : Int) (E : List (Nm × Value)) (h10 : C1 w p10 (.map (some M))) (h7 : C1 w p7 (.int .u64 a)) (hm : Mp w M E) (b : Bool) (hb : (fN (a, 0) E 0).isSome = b) :
    Calls Try.prog 45 #[.pointer (some ⟨p10, 0, none⟩), .pointer (some ⟨p7, 0, none⟩)] w fun e w' => e = .returned (aVal (bif b then 1 else 0)).v ∧ Below w.heap.size w w' := by
  have AN := hid (A1.new (w := w) AV.zero)
  have HB0 := hid ((Below.refl w.heap.size w).alloc (Nat.le_refl _) (.cells AV.zero.ca 56))
  have c10 := (h10.below HB0.out).c
  have c7 := (h7.below HB0.out).c
  obtain ⟨zv, hz⟩ := zero_fans (w.alloc (.cells AV.zero.ca 56))
  have hl := (hm.below HB0.out).look (a, 0) zv hz
  rw [hb] at hl
  generalize ((fN (a, 0) E 0).map (·.2)).getD zv = fv at hl
  clear h10 h7 hm hz hb
  go_enter Try.func45, Try.ntmps45
  go_wp2_with (first
    | ((with_reducible refine wpList_new (z := .agg AV.zero.ca) AV.zero.ca ?_ ?_ ?_); rfl; exact z_ans)
    | ((with_reducible refine wpL_built [(0, .int .u64 a), (1, .int .u64 0)] (kN (a, 0)) ?_ ?_ ?_); rfl; exact b_name _ _)
    | (go_at_call 31; refine (v_bit _ _ _).mono ?_; rintro e w1 ⟨rfl, rfl⟩)
    | ((with_reducible refine wpL_built [(1, .int .u64 (bif b then 1 else 0))] (aVal (bif b then 1 else 0)).ca ?_ ?_ ?_); rfl; exact b_val _)
    | ((with_reducible refine wpL_storeA w.heap.size AV.zero (aVal (bif b then 1 else 0)) ?_ ?_ ?_ ?_ ?_); rfl; rfl; rfl; exact AN.out; intro w2 h2 ho2; have D1 := hid h2; have HB2 := hid (only_below HB0.out (Nat.le_refl _) ho2 HB0.out.size); clear h2 ho2))
  exact bodyPost_ret (ret_a Try.results45 w.heap.size _ rfl D1.out) rfl ⟨rfl, HB2.out⟩
end Go.Proofs.Yteafjobmlfkppaa
namespace Go.Proofs.Yteafjobmlfkppaa
open Go.RowKit
set_option linter.unusedVariables false
set_option maxRecDepth 100000

def tm1 (x : VV) (a : Int) : VV := { x with ar := true, dl := a }
theorem only_set {g : Nat} {a w : World} (h : C.Only (· = g) a w) (k : Nat) (u : Value) : C.Only (· = g) a (w.setCell ⟨g, k, none⟩ u) := h.trans (only_cell u)
theorem keep2 {wa u : World} {g p5 p7 : Nat} {v5 v7 : Value} (h5 : C1 wa p5 v5) (h7 : C1 wa p7 v7) (n5 : p5 ≠ g) (n7 : p7 ≠ g) (ho : C.Only (· = g) wa u) : u.cell? ⟨p5, 0, none⟩ = some v5 ∧ u.cell? ⟨p7, 0, none⟩ = some v7 :=
  ⟨(h5.only ho fun q => n5 q).c, (h7.only ho fun q => n7 q).c⟩
set_option maxHeartbeats 2000000 in
theorem k_3 (w : World) (p7 p5 g i : Nat) (L : List VV) (x : VV) (a : Int) (hx : L[i]? = some x) (h7 : C1 w p7 (.int .u64 a)) (h5 : C1 w p5 (.pointer (some ⟨g, i * 52, none⟩))) (n7 : p7 ≠ g) (n5 : p5 ≠ g) (hv : Vb w g L) :
    Calls Try.prog 46 #[.pointer (some ⟨p7, 0, none⟩), .pointer (some ⟨p5, 0, none⟩)] w fun e w' => e = .returned AV.zero.v ∧ Vb w' g (L.set i (tmV x a)) ∧ C.Only (· = g) w w' := by
  have AN := hid (A1.new (w := w) AV.zero)
  have HB0 := hid ((Below.refl w.heap.size w).alloc (Nat.le_refl _) (.cells AV.zero.ca 56))
  have H5 := hid (h5.below HB0.out)
  have H7 := hid (h7.below HB0.out)
  have HV := hid (hv.below HB0.out)
  have HX := hid hx
  have hgl := hv.lt
  clear h5 h7 hv hx
  go_enter Try.func46, Try.ntmps46
  go_upto_region 1 with ((with_reducible refine wpList_new (z := .agg AV.zero.ca) AV.zero.ca ?_ ?_ ?_); rfl; exact z_ans)
  generalize (w.alloc (.cells AV.zero.ca 56)) = wa at *
  have c5 := H5.out.c
  have c7 := H7.out.c
  have c50 : wa.cell? ⟨g, i * 52 + 50, none⟩ = some (.bool x.ar) := HV.out.cell HX.out 50 (by omega)
  have c51 : wa.cell? ⟨g, i * 52 + 51, none⟩ = some (.int .u64 x.dl) := HV.out.cell HX.out 51 (by omega)
  have z50 := HV.out.z (i * 52 + 50)
  have z51 := HV.out.z (i * 52 + 51)
  simp only [Act.put, List.setIfInBounds_toArray, List.set_cons_succ, List.set_cons_zero]
  go_region_held (fun u => u.cell? ⟨p5, 0, none⟩ = some (.pointer (some ⟨g, i * 52, none⟩)) ∧ u.cell? ⟨p7, 0, none⟩ = some (.int .u64 a)) ((refine keep2 H5.out H7.out n5 n7 ?_; (repeat (first | exact C.Only.refl _ | refine C.Only.drew ?_ | refine only_set ?_ _ _)))) (fail)
  have q1 : Vb (wa.setCell ⟨g, i * 52 + 50, none⟩ (.bool true)) g (L.set i { x with ar := true }) := HV.out.set HX.out (by omega) rfl
  have q2 : Vb ((wa.setCell ⟨g, i * 52 + 50, none⟩ (.bool true)).setCell ⟨g, i * 52 + 51, none⟩ (.int .u64 a)) g ((L.set i { x with ar := true }).set i (tm1 x a)) := q1.set (x := { x with ar := true }) (by rw [List.getElem?_set_self (List.getElem?_eq_some_iff.1 HX.out).1]) (by omega) rfl
  rw [List.set_set] at q2
  have Q2 := hid (show Vb ((wa.setCell ⟨g, i * 52 + 50, none⟩ (.bool true)).setCell ⟨g, i * 52 + 51, none⟩ (.int .u64 a)).drew g _ from q2.same rfl)
  have QO := hid (C.Only.drew (only_set (only_set (C.Only.refl (S := (· = g)) wa) (i * 52 + 50) (.bool true)) (i * 52 + 51) (.int .u64 a)))
  clear q1 q2 c5 c7 c50 c51 z50 z51
  generalize ((wa.setCell ⟨g, i * 52 + 50, none⟩ (.bool true)).setCell ⟨g, i * 52 + 51, none⟩ (.int .u64 a)).drew = wr at *
  have HY : Hid ((L.set i (tm1 x a))[i]? = some (tm1 x a)) := List.getElem?_set_self (List.getElem?_eq_some_iff.1 HX.out).1
  have c5 := (H5.out.only QO.out (fun (q : _ = _) => n5 q)).c
  have c46 : wr.cell? ⟨g, i * 52 + 46, none⟩ = some (.int .u64 x.h.sip) := Q2.out.cell HY.out 46 (by omega)
  go_wp2_with (first
    | ((with_reducible refine wpL_vcell g i 46 (L.set i (tm1 x a)) (tm1 x a) (tmV x a) (.int .u64 (bits .andNot .u64 x.h.sip 32)) ?_ ?_ ?_ ?_ ?_ ?_ ?_ ?_ ?_); exact .inl rfl; exact .inl ⟨_, _, rfl⟩; exact HY.out; omega; exact sip_cs (tm1 x a) _; rfl; rfl; exact Q2.out; intro w2 h2 ho2; rw [List.set_set] at h2; have C1 := hid h2; have C2 := hid ((AN.out.only QO.out (fun (q : _ = _) => by omega)).only ho2 (fun (q : _ = _) => by omega)); have CO := hid (C.Only.trans (C.Only.trans (C.Only.ofBelow HB0.out) QO.out) ho2); clear h2 ho2 c46 c5)
    | ((with_reducible refine wpL_built [] AV.zero.ca ?_ ?_ ?_); rfl; exact b_zero)
    | ((with_reducible refine wpL_storeA w.heap.size AV.zero AV.zero ?_ ?_ ?_ ?_ ?_); rfl; rfl; rfl; exact C2.out; intro w3 h3 ho3; have E1 := hid h3; have E2 := hid (C1.out.only ho3 (fun (q : _ = _) => by omega)); have EO := hid (only2 CO.out ho3 (Nat.le_refl _)); clear h3 ho3))
  exact bodyPost_ret (ret_a Try.results46 w.heap.size _ rfl E1.out) rfl ⟨rfl, E2.out, EO.out⟩
end Go.Proofs.Yteafjobmlfkppaa
namespace Go.Proofs.Yteafjobmlfkppaa
open Go.RowKit
set_option linter.unusedVariables false
set_option maxRecDepth 100000

/-- a byte that is told, or none -/
def OutIs (w : World) (B : Nat) (v : Value) : Option Int → Prop
  | none => v = nils
  | some b => ∃ o, v = .slice (some ⟨o, 0, none⟩) 1 1 ∧ C1 w o (.int .u8 b) ∧ B ≤ o
def ansG (nm : Nm) (L : List VV) (i : Nat) (x : VV) : List VV × AV × Option Int :=
  if nm = (16, 0) then (L, aVal 33554432, none)
  else if nm = (16, 3) then (L, aVal (bif knownB (x.h.x 10) then 1 else 0), none)
  else if nm = (1414090053, 0) then (L.set i (tmV x (x.h.x 10)), AV.zero, none)
  else if nm = (1, 0) then (L, aVal (x.h.x 11), some (x.h.x 10 % 256))
  else if nm = (7557193, 0) then (L.mapIdx (snV (x.h.x 10) (x.h.x 11)), AV.zero, none)
  else if nm = (4739917, 0) then ((startL L (x.h.x 10) (x.h.x 11) (x.h.x 12)).1, (startL L (x.h.x 10) (x.h.x 11) (x.h.x 12)).2, none)
  else if nm = (4739917, 1) then (L.set i (stopV x), aStay, none)
  else if nm = (4739917, 2) then (L, stpA L (x.h.x 10), none)
  else if nm = (1397904212, 0) then (L.mapIdx fun _ => stopV, aDown, none)
  else (L, aErr 18446744073709551614, none)
def ansF (L : List VV) (i : Nat) (x : VV) : List VV × AV × Option Int := ansG (nmOf (x.h.x 17) (x.h.x 16)) L i x
theorem ansG_2 (L : List VV) (i : Nat) (x : VV) : ansG (keyN 2) L i x = (L, aVal 33554432, none) := by simp [ansG, keyN]
theorem ansG_5 (L : List VV) (i : Nat) (x : VV) : ansG (keyN 5) L i x = (L, aVal (bif knownB (x.h.x 10) then 1 else 0), none) := by simp [ansG, keyN]
theorem ansG_8 (L : List VV) (i : Nat) (x : VV) : ansG (keyN 8) L i x = (L.set i (tmV x (x.h.x 10)), AV.zero, none) := by simp [ansG, keyN]
theorem ansG_11 (L : List VV) (i : Nat) (x : VV) : ansG (keyN 11) L i x = (L, aVal (x.h.x 11), some (x.h.x 10 % 256)) := by simp [ansG, keyN]
theorem ansG_14 (L : List VV) (i : Nat) (x : VV) : ansG (keyN 14) L i x = (L.mapIdx (snV (x.h.x 10) (x.h.x 11)), AV.zero, none) := by simp [ansG, keyN]
theorem ansG_17 (L : List VV) (i : Nat) (x : VV) : ansG (keyN 17) L i x = ((startL L (x.h.x 10) (x.h.x 11) (x.h.x 12)).1, (startL L (x.h.x 10) (x.h.x 11) (x.h.x 12)).2, none) := by simp [ansG, keyN]
theorem ansG_20 (L : List VV) (i : Nat) (x : VV) : ansG (keyN 20) L i x = (L.set i (stopV x), aStay, none) := by simp [ansG, keyN]
theorem ansG_23 (L : List VV) (i : Nat) (x : VV) : ansG (keyN 23) L i x = (L, stpA L (x.h.x 10), none) := by simp [ansG, keyN]
theorem ansG_26 (L : List VV) (i : Nat) (x : VV) : ansG (keyN 26) L i x = (L.mapIdx fun _ => stopV, aDown, none) := by simp [ansG, keyN]
theorem ansG_no (nm : Nm) (h : ∀ k ∈ calI, keyN k ≠ nm) (L : List VV) (i : Nat) (x : VV) : ansG nm L i x = (L, aErr 18446744073709551614, none) := by
  unfold ansG
  rw [if_neg (fun e => h 2 (by decide) e.symm)]
  rw [if_neg (fun e => h 5 (by decide) e.symm)]
  rw [if_neg (fun e => h 8 (by decide) e.symm)]
  rw [if_neg (fun e => h 11 (by decide) e.symm)]
  rw [if_neg (fun e => h 14 (by decide) e.symm)]
  rw [if_neg (fun e => h 17 (by decide) e.symm)]
  rw [if_neg (fun e => h 20 (by decide) e.symm)]
  rw [if_neg (fun e => h 23 (by decide) e.symm)]
  rw [if_neg (fun e => h 26 (by decide) e.symm)]
theorem startL_nil (L : List VV) (a b c : Int) : (startL L a b c).2.out = nils := by
  unfold startL
  split
  · rfl
  · split <;> rfl
theorem stpA_nil (L : List VV) (a : Int) : (stpA L a).out = nils := by
  unfold stpA
  split <;> rfl
theorem AV.eta {s : AV} (h : s.out = nils) : ({ s with out := nils } : AV) = s := by
  cases s
  simp only at h
  subst h
  rfl
theorem Ev.look {w : World} {B g cap i : Nat} {L : List VV} {x : VV} {p2 p5 p7 p8 p9 p10 M : Nat} (h : Ev w B g cap i L x p2 p5 p7 p8 p9 p10 M) (nm : Nm) :
    ∃ fv b, (Instr.lookup 64 (.map (some M)) (.agg (kN nm)) true).run Try.prog w = .ok (.tuple #[fv, .bool b]) w ∧ ((b = false ∧ ∀ k ∈ calI, keyN k ≠ nm) ∨ ∃ k ∈ calI, keyN k = nm ∧ b = true ∧ fv = valN p2 p5 p7 p8 p9 p10 k) := by
  obtain ⟨E, hm, h1, h2⟩ := h.mp
  obtain ⟨zv, hz⟩ := zero_fans w
  refine ⟨_, _, hm.look nm zv hz, ?_⟩
  cases q : fN nm E 0 with
  | none =>
    refine .inl ⟨rfl, fun k hk e => ?_⟩
    have := h2 k hk
    unfold entN at this
    rw [e] at this
    exact fN_none _ _ _ q _ this
  | some r =>
    obtain ⟨k, hk, e⟩ := h1 _ (fN_some _ _ _ _ q)
    exact .inr ⟨k, hk, (congrArg Prod.fst e).symm, rfl, congrArg Prod.snd e⟩
theorem Ev.below {w w' : World} {B g cap i : Nat} {L : List VV} {x : VV} {p2 p5 p7 p8 p9 p10 M : Nat} (h : Ev w B g cap i L x p2 p5 p7 p8 p9 p10 M) (hb : Below w.heap.size w w') : Ev w' B g cap i L x p2 p5 p7 p8 p9 p10 M :=
  ⟨h.h2.below hb, h.h5.below hb, h.h7.below hb, h.h8.below hb, h.h9.below hb, h.h10.below hb, h.b2, h.b5, h.b7, h.b8, h.b9, by obtain ⟨E, m, r⟩ := h.mp; exact ⟨E, m.below hb, r⟩⟩
theorem keepX {w u : World} {g : Nat} {h : HV} (k : X1 w g h) (hb : Below w.heap.size w u) : u.cell? ⟨g, 17, none⟩ = some (.int .u64 (h.x 17)) ∧ u.cell? ⟨g, 16, none⟩ = some (.int .u64 (h.x 16)) :=
  ⟨(k.below hb).c 17 (by omega), (k.below hb).c 16 (by omega)⟩
set_option maxHeartbeats 8000000 in
theorem c_answerTo (w : World) (g cap i : Nat) (L : List VV) (hL : L.length < 9223372036854775808) (hi : i < L.length) (x : VV) (ok : HOk x.h) (hx : L[i]? = some x) (hv : Vb w g L) :
    Calls Try.prog 34 #[.slice (some ⟨g, 0, none⟩) L.length cap, .int .i64 i] w fun e w' => ∃ ov, e = .returned (AV.v { (ansF L i x).2.1 with out := ov }) ∧ OutIs w' w.heap.size ov (ansF L i x).2.2 ∧ Vb w' g (ansF L i x).1 ∧ C.Only (· = g) w w' := by
  have hgl := hv.lt
  have HL := hid hL
  have OK := hid ok
  have HX := hid hx
  have HVB := hid hv
  have HI := hid hi
  have AN := hid (A1.new (w := w) AV.zero)
  have HB0 := hid ((Below.refl w.heap.size w).alloc (Nat.le_refl _) (.cells AV.zero.ca 56))
  have HS0 : Hid ((w.alloc (.cells AV.zero.ca 56)).heap.size = w.heap.size + 1) := by show _ = _; simp
  have HR : Hid (∀ u, Below w.heap.size w u → u.rangeAt g (i * 52) (xsL x.h)) := fun u hb j y hy => by
    have hj : j < 32 := (List.getElem?_eq_some_iff.1 hy).1
    have e := (hv.below hb).cell hx j (by omega)
    rw [e, VV.cs, List.getElem?_append_left (by rw [hv_len]; omega), ← hy]
    unfold xsL
    rw [List.getElem?_take_of_lt hj]
  clear hv hx ok
  go_enter Try.func34, Try.ntmps34
  go_upto_region 1 with ((with_reducible refine wpList_new (z := .agg AV.zero.ca) AV.zero.ca ?_ ?_ ?_); rfl; exact z_ans)
  generalize (w.alloc (.cells AV.zero.ca 56)) = wa at *
  go_upto_region 2 with (first
    | ((with_reducible refine wpL_xload g (i * 52) x.h ?_ ?_ ?_); rfl; exact HR.out _ HB0.out)
    | ((with_reducible refine wpList_newG (z := .agg (xsL HV.zero).toArray) (w.heap.size + 1) ?_ (xsL HV.zero).toArray ?_ ?_ ?_); exact HS0.out; rfl; exact z_a32)
    | ((with_reducible refine wpL_xstore (w.heap.size + 1) HV.zero x.h ?_ ?_ ?_ ?_); rfl; rfl; exact ⟨_, HS0.out ▸ heap_alloc_new wa _⟩; intro wb h6 ho; have G6 := hid h6; have GA := hid ((Below.refl wa.heap.size wa).alloc (Nat.le_refl _) (.cells (xsL HV.zero).toArray 28)); have GN : Hid (A1 wb w.heap.size AV.zero) := hid ((AN.out.below GA.out).only ho (fun (q : _ = _) => by omega)); have GB := hid (only_below (HB0.out.alloc HB0.out.size _) (by omega) ho (by simp; have := HB0.out.size; omega)); have GS : Hid (w.heap.size + 2 ≤ wb.heap.size) := hid (by have h1 := ho.size; have h2 := HS0.out; simp at h1; show _ ≤ _; omega); clear h6 ho))
  have K0 := keepX G6.out (Below.refl _ _)
  have hi' := HI.out
  go_region_held (fun u => u.cell? ⟨w.heap.size + 1, 17, none⟩ = some (.int .u64 (x.h.x 17)) ∧ u.cell? ⟨w.heap.size + 1, 16, none⟩ = some (.int .u64 (x.h.x 16))) ((first | (refine keepX G6.out ?_; (first | exact KB2.out | exact KB1.out | exact Below.refl _ _ | exact (Below.refl _ _).drew)))) (first
    | (go_at_call 39; refine (c_callsOf wb.drew g cap i L HL.out HI.out x HX.out (Vb.same (w' := wb.drew) (HVB.out.below GB.out) rfl)).mono ?_; rintro e w1 ⟨M, p2, p5, p7, p8, p9, p10, rfl, hev, hb⟩; have EV1 := hid hev; have KB1 : Hid (Below wb.heap.size wb w1) := hid ((Below.refl _ wb).drew.trans hb); clear hev hb)
    | (go_at_call 40; refine (v_nameOf _ _ _).mono ?_; rintro e w2 ⟨rfl, hb⟩; have EV := hid (EV1.out.below hb); have KB2 : Hid (Below wb.heap.size wb w2) := hid (KB1.out.trans (hb.mono KB1.out.size)); obtain ⟨fv, b, hl, hfb⟩ := EV.out.look (nmOf (x.h.x 17) (x.h.x 16)); have HF := hid hfb; clear hfb hb))
  have hB : w.heap.size + 2 ≤ wb.drew.heap.size := GS.out
  have AN2 := hid (GN.out.below KB2.out)
  have HV2 := hid ((HVB.out.below GB.out).below KB2.out)
  have HB2 : Hid (Below w.heap.size w w2) := GB.out.trans (KB2.out.mono (by have := GS.out; omega))
  clear KB1 KB2 GA GN HR K0 EV1 hl
  rcases HF.out with ⟨rfl, hno⟩ | ⟨k, hk, hkn, rfl, hfv⟩
  · have HE : Hid (ansF L i x = (L, aErr 18446744073709551614, none)) := ansG_no _ hno L i x
    clear hno HF
    go_wp2_with (first
      | ((with_reducible refine wpL_built [(0, .int .u64 18446744073709551614)] (aErr 18446744073709551614).ca ?_ ?_ ?_); rfl; exact b_err _)
      | ((with_reducible refine wpL_storeA w.heap.size AV.zero (aErr 18446744073709551614) ?_ ?_ ?_ ?_ ?_); rfl; rfl; rfl; exact AN2.out; intro w3 h3 ho3; have E1 := hid h3; have E2 := hid (HV2.out.only ho3 (fun (q : _ = _) => by omega)); have EO := hid (only2 (C.Only.ofBelow (S := (· = g)) HB2.out) ho3 (Nat.le_refl _)); clear h3 ho3))
    refine bodyPost_ret (ret_a Try.results34 w.heap.size _ rfl E1.out) rfl ?_
    rw [HE.out]
    exact ⟨nils, rfl, rfl, E2.out, EO.out⟩
  · have HE : Hid (ansF L i x = ansG (keyN k) L i x) := by show ansF L i x = _; unfold ansF; rw [hkn]
    have HFV := hid hfv
    clear HF hkn hfv
    simp only [calI, List.mem_cons, List.not_mem_nil, or_false] at hk
    rcases hk with rfl | rfl | rfl | rfl | rfl | rfl | rfl | rfl | rfl
    · have HR : Hid (ansF L i x = (L, aVal 33554432, none)) := HE.out.trans (ansG_2 L i x)
      have hfv : fv = .func (.func 44) #[] #[] := HFV.out
      clear HE HFV
      subst hfv
      go_wp2_with (first
        | (go_at_call 44; refine (k_1 _).mono ?_; rintro e w3 ⟨rfl, hb⟩; have B1 := hid (HV2.out.below hb); have B2 := hid (AN2.out.below hb); have HB3 := hid (HB2.out.trans (hb.mono HB2.out.size)); have BO := hid (C.Only.ofBelow (S := (· = g)) HB3.out); clear hb)
        | ((with_reducible refine wpL_storeA w.heap.size AV.zero (aVal 33554432) ?_ ?_ ?_ ?_ ?_); rfl; rfl; exact rfl; exact B2.out; intro w4 h4 ho4; have E1 := hid h4; have E2 := hid (B1.out.only ho4 (fun (q : _ = _) => by omega)); have EO := hid (only2 BO.out ho4 (Nat.le_refl _)); clear h4 ho4))
      refine bodyPost_ret (ret_a Try.results34 w.heap.size _ rfl E1.out) rfl ?_
      rw [HR.out]
      exact ⟨nils, rfl, rfl, E2.out, EO.out⟩
    · have HR : Hid (ansF L i x = (L, aVal (bif knownB (x.h.x 10) then 1 else 0), none)) := HE.out.trans (ansG_5 L i x)
      have hfv : fv = .func (.func 45) #[] #[.pointer (some ⟨p10, 0, none⟩), .pointer (some ⟨p7, 0, none⟩)] := HFV.out
      clear HE HFV
      subst hfv
      obtain ⟨E, hmE, hE1, hE2⟩ := EV.out.mp
      go_wp2_with (first
        | (go_at_call 45; refine (k_2 _ p10 p7 M (x.h.x 10) E EV.out.h10 EV.out.h7 hmE (knownB (x.h.x 10)) (known_some hE1 hE2 _)).mono ?_; rintro e w3 ⟨rfl, hb⟩; have B1 := hid (HV2.out.below hb); have B2 := hid (AN2.out.below hb); have HB3 := hid (HB2.out.trans (hb.mono HB2.out.size)); have BO := hid (C.Only.ofBelow (S := (· = g)) HB3.out); clear hb)
        | ((with_reducible refine wpL_storeA w.heap.size AV.zero (aVal (bif knownB (x.h.x 10) then 1 else 0)) ?_ ?_ ?_ ?_ ?_); rfl; rfl; exact rfl; exact B2.out; intro w4 h4 ho4; have E1 := hid h4; have E2 := hid (B1.out.only ho4 (fun (q : _ = _) => by omega)); have EO := hid (only2 BO.out ho4 (Nat.le_refl _)); clear h4 ho4))
      refine bodyPost_ret (ret_a Try.results34 w.heap.size _ rfl E1.out) rfl ?_
      rw [HR.out]
      exact ⟨nils, rfl, rfl, E2.out, EO.out⟩
    · have HR : Hid (ansF L i x = (L.set i (tmV x (x.h.x 10)), AV.zero, none)) := HE.out.trans (ansG_8 L i x)
      have hfv : fv = .func (.func 46) #[] #[.pointer (some ⟨p7, 0, none⟩), .pointer (some ⟨p5, 0, none⟩)] := HFV.out
      clear HE HFV
      subst hfv
      go_wp2_with (first
        | (go_at_call 46; refine (k_3 _ p7 p5 g i L x (x.h.x 10) HX.out EV.out.h7 EV.out.h5 (by have := EV.out.b7; omega) (by have := EV.out.b5; omega) HV2.out).mono ?_; rintro e w3 ⟨rfl, hv3, ho3⟩; have B1 := hid hv3; have B2 := hid (AN2.out.only ho3 (fun (q : _ = _) => by omega)); have BO := hid (C.Only.trans (C.Only.ofBelow HB2.out) ho3); clear hv3 ho3)
        | ((with_reducible refine wpL_storeA w.heap.size AV.zero (AV.zero) ?_ ?_ ?_ ?_ ?_); rfl; rfl; exact rfl; exact B2.out; intro w4 h4 ho4; have E1 := hid h4; have E2 := hid (B1.out.only ho4 (fun (q : _ = _) => by omega)); have EO := hid (only2 BO.out ho4 (Nat.le_refl _)); clear h4 ho4))
      refine bodyPost_ret (ret_a Try.results34 w.heap.size _ rfl E1.out) rfl ?_
      rw [HR.out]
      exact ⟨nils, rfl, rfl, E2.out, EO.out⟩
    · have HR : Hid (ansF L i x = (L, aVal (x.h.x 11), some (x.h.x 10 % 256))) := HE.out.trans (ansG_11 L i x)
      have hfv : fv = .func (.func 47) #[] #[.pointer (some ⟨p8, 0, none⟩), .pointer (some ⟨p7, 0, none⟩)] := HFV.out
      clear HE HFV
      subst hfv
      go_wp2_with (first
        | (go_at_call 47; refine (k_4 _ p8 p7 (x.h.x 11) (x.h.x 10) EV.out.h8 EV.out.h7 (OK.out.x 10).1 (OK.out.x 10).2).mono ?_; rintro e w3 ⟨o, rfl, ho, hob, hb⟩; have B1 := hid (HV2.out.below hb); have B2 := hid (AN2.out.below hb); have HB3 := hid (HB2.out.trans (hb.mono HB2.out.size)); have BO := hid (C.Only.ofBelow (S := (· = g)) HB3.out); have CO := hid ho; have hob2 : w.heap.size ≤ o := Nat.le_trans HB2.out.size hob; have hob3 : w.heap.size < o := Nat.lt_of_lt_of_le (lt_of_block AN2.out) hob; have hol : o < w3.heap.size := ho.lt; clear hb ho)
        | ((with_reducible refine wpL_storeA w.heap.size AV.zero (aOut (x.h.x 11) (.slice (some ⟨o, 0, none⟩) 1 1)) ?_ ?_ ?_ ?_ ?_); rfl; rfl; exact rfl; exact B2.out; intro w4 h4 ho4; have E1 := hid h4; have E2 := hid (B1.out.only ho4 (fun (q : _ = _) => by omega)); have EO := hid (only2 BO.out ho4 (Nat.le_refl _)); have EC := hid (CO.out.only ho4 (fun (q : _ = _) => by omega)); clear h4 ho4))
      refine bodyPost_ret (ret_a Try.results34 w.heap.size _ rfl E1.out) rfl ?_
      rw [HR.out]
      exact ⟨_, rfl, ⟨o, rfl, EC.out, hob2⟩, E2.out, EO.out⟩
    · have HR : Hid (ansF L i x = (L.mapIdx (snV (x.h.x 10) (x.h.x 11)), AV.zero, none)) := HE.out.trans (ansG_14 L i x)
      have hfv : fv = .func (.func 48) #[] #[.pointer (some ⟨p2, 0, none⟩), .pointer (some ⟨p7, 0, none⟩), .pointer (some ⟨p8, 0, none⟩)] := HFV.out
      clear HE HFV
      subst hfv
      go_wp2_with (first
        | (go_at_call 48; refine (k_5 _ p2 p7 p8 g cap L HL.out (x.h.x 10) (x.h.x 11) EV.out.h2 EV.out.h7 EV.out.h8 (OK.out.x 10).1 (OK.out.x 10).2 (OK.out.x 11).1 (OK.out.x 11).2 HV2.out).mono ?_; rintro e w3 ⟨rfl, hv3, ho3⟩; have B1 := hid hv3; have B2 := hid (AN2.out.only ho3 (fun (q : _ = _) => by omega)); have BO := hid (C.Only.trans (C.Only.ofBelow HB2.out) ho3); clear hv3 ho3)
        | ((with_reducible refine wpL_storeA w.heap.size AV.zero (AV.zero) ?_ ?_ ?_ ?_ ?_); rfl; rfl; exact rfl; exact B2.out; intro w4 h4 ho4; have E1 := hid h4; have E2 := hid (B1.out.only ho4 (fun (q : _ = _) => by omega)); have EO := hid (only2 BO.out ho4 (Nat.le_refl _)); clear h4 ho4))
      refine bodyPost_ret (ret_a Try.results34 w.heap.size _ rfl E1.out) rfl ?_
      rw [HR.out]
      exact ⟨nils, rfl, rfl, E2.out, EO.out⟩
    · have HR : Hid (ansF L i x = ((startL L (x.h.x 10) (x.h.x 11) (x.h.x 12)).1, (startL L (x.h.x 10) (x.h.x 11) (x.h.x 12)).2, none)) := HE.out.trans (ansG_17 L i x)
      have hfv : fv = .func (.func 50) #[] #[.pointer (some ⟨p2, 0, none⟩), .pointer (some ⟨p7, 0, none⟩), .pointer (some ⟨p8, 0, none⟩), .pointer (some ⟨p9, 0, none⟩)] := HFV.out
      clear HE HFV
      subst hfv
      go_wp2_with (first
        | (go_at_call 50; refine (k_6 _ p2 p7 p8 p9 g cap L HL.out (x.h.x 10) (x.h.x 11) (x.h.x 12) EV.out.h2 EV.out.h7 EV.out.h8 EV.out.h9 (OK.out.x 10).1 (OK.out.x 10).2 (OK.out.x 11) (OK.out.x 12) HV2.out).mono ?_; rintro e w3 ⟨rfl, hv3, ho3⟩; have B1 := hid hv3; have B2 := hid (AN2.out.only ho3 (fun (q : _ = _) => by omega)); have BO := hid (C.Only.trans (C.Only.ofBelow HB2.out) ho3); clear hv3 ho3)
        | ((with_reducible refine wpL_storeA w.heap.size AV.zero ((startL L (x.h.x 10) (x.h.x 11) (x.h.x 12)).2) ?_ ?_ ?_ ?_ ?_); rfl; rfl; exact (by rw [startL_nil]; rfl); exact B2.out; intro w4 h4 ho4; have E1 := hid h4; have E2 := hid (B1.out.only ho4 (fun (q : _ = _) => by omega)); have EO := hid (only2 BO.out ho4 (Nat.le_refl _)); clear h4 ho4))
      refine bodyPost_ret (ret_a Try.results34 w.heap.size _ rfl E1.out) rfl ?_
      rw [HR.out]
      exact ⟨nils, by rw [AV.eta (startL_nil L _ _ _)], rfl, E2.out, EO.out⟩
    · have HR : Hid (ansF L i x = (L.set i (stopV x), aStay, none)) := HE.out.trans (ansG_20 L i x)
      have hfv : fv = .func (.func 52) #[] #[.pointer (some ⟨p5, 0, none⟩)] := HFV.out
      clear HE HFV
      subst hfv
      go_wp2_with (first
        | (go_at_call 52; refine (k_7 _ p5 g i L x HX.out EV.out.h5 HV2.out).mono ?_; rintro e w3 ⟨rfl, hv3, ho3⟩; have B1 := hid hv3; have B2 := hid (AN2.out.only ho3 (fun (q : _ = _) => by omega)); have BO := hid (C.Only.trans (C.Only.ofBelow HB2.out) ho3); clear hv3 ho3)
        | ((with_reducible refine wpL_storeA w.heap.size AV.zero (aStay) ?_ ?_ ?_ ?_ ?_); rfl; rfl; exact rfl; exact B2.out; intro w4 h4 ho4; have E1 := hid h4; have E2 := hid (B1.out.only ho4 (fun (q : _ = _) => by omega)); have EO := hid (only2 BO.out ho4 (Nat.le_refl _)); clear h4 ho4))
      refine bodyPost_ret (ret_a Try.results34 w.heap.size _ rfl E1.out) rfl ?_
      rw [HR.out]
      exact ⟨nils, rfl, rfl, E2.out, EO.out⟩
    · have HR : Hid (ansF L i x = (L, stpA L (x.h.x 10), none)) := HE.out.trans (ansG_23 L i x)
      have hfv : fv = .func (.func 53) #[] #[.pointer (some ⟨p2, 0, none⟩), .pointer (some ⟨p7, 0, none⟩)] := HFV.out
      clear HE HFV
      subst hfv
      go_wp2_with (first
        | (go_at_call 53; refine (k_8 _ p2 p7 g cap L HL.out (x.h.x 10) EV.out.h2 EV.out.h7 (OK.out.x 10).1 (OK.out.x 10).2 HV2.out).mono ?_; rintro e w3 ⟨rfl, hb⟩; have B1 := hid (HV2.out.below hb); have B2 := hid (AN2.out.below hb); have HB3 := hid (HB2.out.trans (hb.mono HB2.out.size)); have BO := hid (C.Only.ofBelow (S := (· = g)) HB3.out); clear hb)
        | ((with_reducible refine wpL_storeA w.heap.size AV.zero (stpA L (x.h.x 10)) ?_ ?_ ?_ ?_ ?_); rfl; rfl; exact (by rw [stpA_nil]; rfl); exact B2.out; intro w4 h4 ho4; have E1 := hid h4; have E2 := hid (B1.out.only ho4 (fun (q : _ = _) => by omega)); have EO := hid (only2 BO.out ho4 (Nat.le_refl _)); clear h4 ho4))
      refine bodyPost_ret (ret_a Try.results34 w.heap.size _ rfl E1.out) rfl ?_
      rw [HR.out]
      exact ⟨nils, by rw [AV.eta (stpA_nil L _)], rfl, E2.out, EO.out⟩
    · have HR : Hid (ansF L i x = (L.mapIdx fun _ => stopV, aDown, none)) := HE.out.trans (ansG_26 L i x)
      have hfv : fv = .func (.func 55) #[] #[.pointer (some ⟨p2, 0, none⟩)] := HFV.out
      clear HE HFV
      subst hfv
      go_wp2_with (first
        | (go_at_call 55; refine (k_9 _ p2 g cap L HL.out EV.out.h2 (by have := EV.out.b2; omega) HV2.out).mono ?_; rintro e w3 ⟨rfl, hv3, ho3⟩; have B1 := hid hv3; have B2 := hid (AN2.out.only ho3 (fun (q : _ = _) => by omega)); have BO := hid (C.Only.trans (C.Only.ofBelow HB2.out) ho3); clear hv3 ho3)
        | ((with_reducible refine wpL_storeA w.heap.size AV.zero (aDown) ?_ ?_ ?_ ?_ ?_); rfl; rfl; exact rfl; exact B2.out; intro w4 h4 ho4; have E1 := hid h4; have E2 := hid (B1.out.only ho4 (fun (q : _ = _) => by omega)); have EO := hid (only2 BO.out ho4 (Nat.le_refl _)); clear h4 ho4))
      refine bodyPost_ret (ret_a Try.results34 w.heap.size _ rfl E1.out) rfl ?_
      rw [HR.out]
      exact ⟨nils, rfl, rfl, E2.out, EO.out⟩
end Go.Proofs.Yteafjobmlfkppaa
namespace Go.Proofs.Yteafjobmlfkppaa
open Go.RowKit
set_option linter.unusedVariables false
set_option maxRecDepth 100000

theorem OutIs.one {w : World} {B : Nat} {v : Value} {o : Option Int} (h : OutIs w B v o) : v.oneCell' = true := by
  cases o with
  | none => rw [show v = nils from h]; rfl
  | some b => obtain ⟨p, rfl, _⟩ := h; rfl
theorem OutIs.sl {w : World} {B : Nat} {v : Value} {o : Option Int} (h : OutIs w B v o) : ∃ a l c, v = .slice a l c := by
  cases o with
  | none => exact ⟨_, _, _, h⟩
  | some b => obtain ⟨p, rfl, _⟩ := h; exact ⟨_, _, _, rfl⟩
theorem OutIs.only {w w' : World} {B : Nat} {v : Value} {o : Option Int} (h : OutIs w B v o) {S : Nat → Prop} (ho : C.Only S w w') (hs : ∀ k, B ≤ k → k < w.heap.size → ¬ S k) : OutIs w' B v o := by
  cases o with
  | none => exact h
  | some b =>
    obtain ⟨p, e, hc, hb⟩ := h
    exact ⟨p, e, hc.only ho (hs p hb hc.lt), hb⟩
theorem OutIs.below {w w' : World} {B : Nat} {v : Value} {o : Option Int} (h : OutIs w B v o) (hb : Below w.heap.size w w') : OutIs w' B v o := by
  cases o with
  | none => exact h
  | some b =>
    obtain ⟨p, e, hc, h2⟩ := h
    exact ⟨p, e, hc.below hb, h2⟩
theorem OutIs.base {w : World} {B B' : Nat} {v : Value} {o : Option Int} (h : OutIs w B v o) (hb : B' ≤ B) : OutIs w B' v o := by
  cases o with
  | none => exact h
  | some b =>
    obtain ⟨p, e, hc, h2⟩ := h
    exact ⟨p, e, hc, by omega⟩
def ordL (L : List VV) : List VV := L.mapIdx fun _ => ordV
theorem ordL_len (L : List VV) : (ordL L).length = L.length := by simp [ordL]
theorem ordL_get (L : List VV) (i : Nat) (x : VV) (h : L[i]? = some x) : (ordL L)[i]? = some (ordV x) := by simp [ordL, List.getElem?_mapIdx, h]
theorem ans_len (L : List VV) (i : Nat) (x : VV) : (ansF L i x).1.length = L.length := by
  have hs : ∀ a b c, (startL L a b c).1.length = L.length := fun a b c => by
    unfold startL
    split
    · rfl
    · split
      · rfl
      · simp
  have key : ∀ nm, (ansG nm L i x).1.length = L.length := fun nm => by
    by_cases z : ∃ k ∈ calI, keyN k = nm
    · obtain ⟨k, hk, rfl⟩ := z
      simp only [calI, List.mem_cons, List.not_mem_nil, or_false] at hk
      rcases hk with rfl | rfl | rfl | rfl | rfl | rfl | rfl | rfl | rfl
      · rw [ansG_2]
      · rw [ansG_5]
      · rw [ansG_8]; simp
      · rw [ansG_11]
      · rw [ansG_14]; simp
      · rw [ansG_17]; exact hs _ _ _
      · rw [ansG_20]; simp
      · rw [ansG_23]
      · rw [ansG_26]; simp
    · rw [ansG_no nm (fun k hk e => z ⟨k, hk, e⟩)]
  exact key _
/-- the caller behind its call -/
def finV (y : VV) (err val : Int) : VV := { y with h := { y.h with pc := IntKind.u64.wrap (y.h.pc + 4), x := upd (upd y.h.x 10 err) 11 val } }
def finL (M : List VV) (i : Nat) (av : AV) : List VV := if av.st = true then M else match M[i]? with | none => M | some y => M.set i (finV y av.err av.val)
def callF (L : List VV) (i : Nat) (x : VV) : List VV × AV × Option Int := (finL (ansF (ordL L) i (ordV x)).1 i (ansF (ordL L) i (ordV x)).2.1, (ansF (ordL L) i (ordV x)).2.1, (ansF (ordL L) i (ordV x)).2.2)
theorem x10_cs (y : VV) (u : Int) : y.cs.set 10 (.int .u64 u) = VV.cs { y with h := { y.h with x := upd y.h.x 10 u } } := rfl
theorem x11_cs (y : VV) (u : Int) : y.cs.set 11 (.int .u64 u) = VV.cs { y with h := { y.h with x := upd y.h.x 11 u } } := rfl
theorem pc_cs (y : VV) (u : Int) : y.cs.set 32 (.int .u64 u) = VV.cs { y with h := { y.h with pc := u } } := rfl
theorem keepA {wa u : World} {g p : Nat} {av : AV} (h : A1 wa p av) {e v : Int} (he : av.err = e) (hv : av.val = v) (hp : p ≠ g) (ho : C.Only (· = g) wa u) : u.cell? ⟨p, 0, none⟩ = some (.int .u64 e) ∧ u.cell? ⟨p, 1, none⟩ = some (.int .u64 v) := by
  subst he hv
  exact ⟨(h.only ho fun q => hp q).c 0, (h.only ho fun q => hp q).c 1⟩
theorem v_Call_no (w : World) (v : Value) (L : List VV) (hv : Vr w v L) (hl : L.length * 368 ≤ 140737488355328) (i : Int) (i0 : -9223372036854775808 ≤ i) (i1 : i ≤ 9223372036854775807) (hno : i < 0 ∨ (L.length : Int) ≤ i) :
    Calls Try.prog 22 #[v, .int .i64 i] w fun e w' => ∃ v', e = .returned (.tuple #[v', .slice none 0 0, .bool false]) ∧ Vs w' w.heap.size v' L ∧ Below w.heap.size w w' := by
  have HVB := hid hv
  have HL := hid hl
  clear hv hl
  by_cases h0 : i < 0
  · go_enter Try.func22, Try.ntmps22
    go_wp2_with (go_at_call 33; refine (v_Clone _ v L HVB.out HL.out).mono ?_; rintro e w1 ⟨v1, rfl, h1, hb⟩; have HS := hid h1; have HB := hid hb; obtain ⟨ad, cap, rfl, _⟩ := h1.rd.len; clear h1 hb)
    go_returns
    exact ⟨_, rfl, HS.out, HB.out⟩
  · have h1 : (L.length : Int) ≤ i := by omega
    have hL : L.length ≤ 9223372036854775807 := by have := HL.out; omega
    go_enter Try.func22, Try.ntmps22
    go_wp2_with (go_at_call 33; refine (v_Clone _ v L HVB.out HL.out).mono ?_; rintro e w1 ⟨v1, rfl, h1, hb⟩; have HS := hid h1; have HB := hid hb; obtain ⟨ad, cap, rfl, _⟩ := h1.rd.len; clear h1 hb)
    go_returns
    exact ⟨_, rfl, HS.out, HB.out⟩
set_option maxHeartbeats 8000000 in
theorem v_Call (w : World) (v : Value) (L : List VV) (hv : Vr w v L) (hl : L.length * 368 ≤ 140737488355328) (hok : ∀ x ∈ L, HOk x.h) (i : Nat) (x : VV) (hx : L[i]? = some x) :
    Calls Try.prog 22 #[v, .int .i64 i] w fun e w' => ∃ g cap ov, e = .returned (.tuple #[.slice (some ⟨g, 0, none⟩) L.length cap, ov, .bool (callF L i x).2.1.dn]) ∧ Vb w' g (callF L i x).1 ∧ w.heap.size ≤ g ∧ OutIs w' w.heap.size ov (callF L i x).2.2 ∧ Below w.heap.size w w' := by
  have HVB := hid hv
  have HL := hid hl
  have HK := hid hok
  have HX := hid hx
  have hi : i < L.length := (List.getElem?_eq_some_iff.1 hx).1
  have hL : L.length < 9223372036854775808 := by omega
  have hne : L ≠ [] := by rintro rfl; simp at hi
  have i0 : decide ((i : Int) < 0) = false := decide_eq_false (by omega)
  have i1 : ¬ L.length ≤ i := by omega
  have OKX : Hid (HOk (ordV x).h) := ordOk (hok x (List.mem_of_getElem? hx))
  clear hv hl hok hx
  go_enter Try.func22, Try.ntmps22
  go_upto_region 2 with (go_at_call 33; refine (v_Clone _ v L HVB.out HL.out).mono ?_; rintro e w1 ⟨v1, rfl, h1, hb⟩; have HS := hid h1; have HB := hid hb; clear h1 hb)
  obtain ⟨g, cap, rfl, hg, hvb⟩ := vs_at HS.out hne
  have A0 := hid hvb
  clear hvb HS
  go_wp2_with fail
  go_loopw [23] (fun c wr => ∃ (k : Nat), k ≤ L.length ∧ c = .int .i64 k ∧ Vb wr g (pm (fun _ => ordV) L k) ∧ Below w.heap.size w wr) (fun i _ => L.length - (intOf i).toNat)
  case atStart => exact ⟨0, by omega, rfl, by rw [pm_zero]; exact A0.out, HB.out⟩
  case round =>
    clear A0 HB
    obtain ⟨k, hk, rfl, hvb, hb⟩ := hrel
    have HA := hid hvb
    have HB := hid hb
    clear hvb hb
    by_cases hlt : k < L.length
    · obtain ⟨y, hy⟩ : ∃ y, L[k]? = some y := ⟨_, List.getElem?_eq_getElem hlt⟩
      have HY := hid (pm_get (fun _ => ordV) L k y hy)
      have HZ := hid hy
      have HYK := hid (HK.out y (List.mem_of_getElem? hy))
      clear hy
      go_wp2_with (first
        | ((with_reducible refine wpL_hload (d := some 32) g (k * 52) y.h ?_ ?_ ?_); rfl; exact HA.out.rangeH HY.out)
        | (go_at_call 30; refine (v_inOrder y.h HYK.out _).mono ?_; rintro e w2 ⟨rfl, hb⟩; have B1 := hid (HA.out.below hb); have HB1 := hid (HB.out.trans (hb.mono HB.out.size)); clear hb)
        | ((with_reducible refine wpL_hstore g k (pm (fun _ => ordV) L k) y (ordH y.h) ?_ ?_ ?_ ?_ ?_); exact HY.out; rfl; rfl; exact B1.out; intro w3 h3 ho3; have C1 := hid h3; have HB3 := hid (only_below HB1.out hg ho3 HB1.out.size); clear h3 ho3))
      go_roundw
      case rel => exact ⟨k + 1, by omega, by go_num, by rw [← pm_succ (fun _ => ordV) L k y HZ.out]; exact C1.out, HB3.out⟩
      case measure => simp [intOf]; omega
    · obtain rfl : k = L.length := by omega
      have HA2 : Hid (Vb wr g (ordL L)) := by show Vb wr g _; have := HA.out; rwa [pm_full] at this
      clear HA
      obtain ⟨P, hP⟩ : ∃ P, P = ordL L := ⟨_, rfl⟩
      have hPl : P.length = L.length := by rw [hP, ordL_len]
      have HPX : Hid (P[i]? = some (ordV x)) := by show _ = _; rw [hP]; exact ordL_get L i x HX.out
      have HP := hid hP
      rw [← hP] at HA2
      clear hP
      obtain ⟨M, av, oo, hR⟩ : ∃ M av oo, ansF P i (ordV x) = (M, av, oo) := ⟨_, _, _, rfl⟩
      have hML : M.length = L.length := by have := ans_len P i (ordV x); rw [hR] at this; rw [← hPl]; exact this
      obtain ⟨y, hy⟩ : ∃ y, M[i]? = some y := ⟨_, List.getElem?_eq_getElem (by omega)⟩
      have HCF : Hid (callF L i x = (if av.st = true then M else M.set i (finV y av.err av.val), av, oo)) := by
        show callF L i x = _
        unfold callF
        rw [← HP.out, hR]
        simp only [finL, hy]
      have HC : Hid (∀ u, Vb u g P → Calls Try.prog 34 #[.slice (some ⟨g, 0, none⟩) L.length cap, .int .i64 i] u fun e w' => ∃ ov, e = .returned (AV.v { av with out := ov }) ∧ OutIs w' u.heap.size ov oo ∧ Vb w' g M ∧ C.Only (· = g) u w') := fun u h => by
        have := c_answerTo u g cap i P (by omega) (by omega) (ordV x) OKX.out HPX.out h
        rw [hR, hPl] at this
        exact this
      have HMY := hid hy
      clear hR hy hPl
      go_upto_region 10 with (first
        | (go_at_call 34; refine (HC.out _ HA2.out).mono ?_; rintro e w4 ⟨ov, rfl, hov, hm, ho⟩; obtain ⟨oa, ol, oc, rfl⟩ := hov.sl; have O1 := hid hov; have B1 := hid hm; have HB4 := hid (only_below HB.out hg ho HB.out.size); have N4 : Hid (wr.heap.size ≤ w4.heap.size) := ho.size; clear hov hm ho)
        | ((with_reducible refine wpList_new (z := .agg AV.zero.ca) AV.zero.ca ?_ ?_ ?_); rfl; exact z_ans)
        | ((with_reducible refine wpL_storeA w4.heap.size AV.zero { av with out := .slice oa ol oc } ?_ ?_ ?_ ?_ ?_); rfl; rfl; rfl; exact A1.new AV.zero; intro w5 h5 ho5; have E1 := hid h5; have G5 := hid (only_below ((Below.refl w4.heap.size w4).alloc (Nat.le_refl _) (.cells AV.zero.ca 56)) (Nat.le_refl _) ho5 (by simp)); have B2 := hid (B1.out.below G5.out); have O2 := hid (O1.out.below G5.out); have HB5 := hid (HB4.out.trans (G5.out.mono HB4.out.size)); clear h5 ho5))
      have c2 : w5.cell? ⟨w4.heap.size, 2, none⟩ = some (.bool av.st) := E1.out.c 2
      have c3 : w5.cell? ⟨w4.heap.size, 3, none⟩ = some (.slice oa ol oc) := E1.out.c 3
      have c4 : w5.cell? ⟨w4.heap.size, 4, none⟩ = some (.bool av.dn) := E1.out.c 4
      cases hst : av.st with
      | true =>
        rw [hst] at c2
        go_wp2_with fail
        go_quiet (fail)
        go_wp2_with fail
        go_returns
        rw [HCF.out, if_pos hst]
        exact ⟨g, cap, _, rfl, B2.out.same rfl, hg, (O2.out.base HB.out.size).below (below_dn (Below.refl _ _) _), below_dn HB5.out _⟩
      | false =>
        rw [hst] at c2
        have c32 : w5.cell? ⟨g, i * 52 + 32, none⟩ = some (.int .u64 y.h.pc) := B2.out.cell HMY.out 32 (by omega)
        go_upto_region 13 with ((with_reducible refine wpL_vcell g i 32 M y { y with h := { y.h with pc := IntKind.u64.wrap (y.h.pc + 4) } } (.int .u64 (IntKind.u64.wrap (y.h.pc + 4))) ?_ ?_ ?_ ?_ ?_ ?_ ?_ ?_ ?_); exact .inl rfl; exact .inl ⟨_, _, rfl⟩; exact HMY.out; omega; exact pc_cs y _; rfl; rfl; exact B2.out; intro w6 h6 ho6; have D1 := hid h6; have DE := hid (E1.out.only ho6 (fun (q : _ = _) => by have := B1.out.lt; omega)); have DO := hid (O2.out.only ho6 (fun k hk hk2 (q : k = _) => by have := HA2.out.lt; omega)); have HB6 := hid (only_below HB5.out hg ho6 HB5.out.size); clear h6 ho6 c2 c3 c4 c32)
        have y10 := D1.out.cell (i := i) (List.getElem?_set_self (List.getElem?_eq_some_iff.1 HMY.out).1) 10 (by omega)
        have y11 := D1.out.cell (i := i) (List.getElem?_set_self (List.getElem?_eq_some_iff.1 HMY.out).1) 11 (by omega)
        have c10 : w6.cell? ⟨g, i * 52 + 10, none⟩ = some (.int .u64 (y.h.x 10)) := y10
        have c11 : w6.cell? ⟨g, i * 52 + 11, none⟩ = some (.int .u64 (y.h.x 11)) := y11
        have z10 := D1.out.z (i * 52 + 10)
        have z11 := D1.out.z (i * 52 + 11)
        clear y10 y11
        simp only [Act.put]
        go_region_held (fun u => u.cell? ⟨w4.heap.size, 0, none⟩ = some (.int .u64 av.err) ∧ u.cell? ⟨w4.heap.size, 1, none⟩ = some (.int .u64 av.val)) ((refine keepA DE.out rfl rfl (show w4.heap.size ≠ g by have := B1.out.lt; omega) ?_; (repeat (first | exact C.Only.refl _ | refine C.Only.drew ?_ | refine only_set ?_ _ _)))) (fail)
        have q1 := D1.out.set (j := 10) (u := .int .u64 av.err) (y := { y with h := { y.h with pc := IntKind.u64.wrap (y.h.pc + 4), x := upd y.h.x 10 av.err } }) (List.getElem?_set_self (List.getElem?_eq_some_iff.1 HMY.out).1) (by omega) rfl
        rw [List.set_set] at q1
        have q2 := q1.set (j := 11) (u := .int .u64 av.val) (y := finV y av.err av.val) (List.getElem?_set_self (List.getElem?_eq_some_iff.1 HMY.out).1) (by omega) rfl
        rw [List.set_set] at q2
        have Q2 := hid (show Vb ((w6.setCell ⟨g, i * 52 + 10, none⟩ (.int .u64 av.err)).setCell ⟨g, i * 52 + 11, none⟩ (.int .u64 av.val)).drew g _ from q2.same rfl)
        have QO := hid (C.Only.drew (only_set (only_set (C.Only.refl (S := (· = g)) w6) (i * 52 + 10) (.int .u64 av.err)) (i * 52 + 11) (.int .u64 av.val)))
        clear q1 q2 c10 c11 z10 z11
        generalize ((w6.setCell ⟨g, i * 52 + 10, none⟩ (.int .u64 av.err)).setCell ⟨g, i * 52 + 11, none⟩ (.int .u64 av.val)).drew = w7 at *
        have F1 := hid (DE.out.only QO.out (fun (q : _ = _) => by have := B1.out.lt; omega))
        have FO := hid (DO.out.only QO.out (fun k hk hk2 (q : k = _) => by have := HA2.out.lt; omega))
        have HB7 := hid (only_below HB6.out hg QO.out HB6.out.size)
        have c3 : w7.cell? ⟨w4.heap.size, 3, none⟩ = some (.slice oa ol oc) := F1.out.c 3
        have c4 : w7.cell? ⟨w4.heap.size, 4, none⟩ = some (.bool av.dn) := F1.out.c 4
        go_wp2_with fail
        go_quiet (fail)
        go_wp2_with fail
        go_returns
        rw [HCF.out, if_neg (by rw [hst]; decide)]
        exact ⟨g, cap, _, rfl, Q2.out.same rfl, hg, (FO.out.base HB.out.size).below (below_dn (Below.refl _ _) _), below_dn HB7.out _⟩
end Go.Proofs.Yteafjobmlfkppaa
namespace Go.Proofs.Yteafjobmlfkppaa
open Go.RowKit
set_option linter.unusedVariables false

/-- a world in which all that was there is as it was -/
structure WB (w0 : World) where
  w : World
  h : Below w0.heap.size w0 w
theorem WB.cell {w0 : World} (x : WB w0) {b o : Nat} {v : Value} (hb : b < w0.heap.size) (h : w0.cell? ⟨b, o, none⟩ = some v) : x.w.cell? ⟨b, o, none⟩ = some v := by
  rw [← h]; exact Below.cell x.h (p := ⟨b, o, none⟩) hb
/-- a callee's contract, met in a world of the class -/
theorem Calls.wb {P : Program} {f : FuncId} {args : Array Value} {w0 : World} {v : Value} (x : WB w0) (h : Calls P f args x.w fun e w' => e = .returned v ∧ Below x.w.heap.size x.w w') : Calls P f args x.w fun e w'' => e = .returned v ∧ ∃ y : WB w0, w'' = y.w :=
  h.mono fun _ w' hh => ⟨hh.1, ⟨w', x.h.trans (hh.2.mono x.h.size)⟩, rfl⟩
theorem wp_region_wb {P : Program} {id : Nat} {Q : Exit → Act → World → Prop} {a : Act} {w : World} {l : List Oper} (hm : P.follows .mixedOrders = true) (hB : Region.lexB .any l.toArray = true)
    (h : wpQuiet P l.toArray (fun w' => ∃ x : WB w, w' = x.w) (fun a' => ∀ w', (∃ x : WB w, w' = x.w) → Q .normal a' w') l a) : (Code.region id l.toArray true).wp P Q a w :=
  wp_region_quiet (C := fun w' => ∃ x : WB w, w' = x.w) hm hB ⟨⟨w.drew, (Below.refl _ _).drew⟩, rfl⟩ (by simpa using h)
end Go.Proofs.Yteafjobmlfkppaa
namespace Go.Proofs.Yteafjobmlfkppaa
open Go.RowKit
set_option linter.unusedVariables false
set_option maxRecDepth 100000

def sW (o : HV) (d e : Bool) : Int := bits .or .u64 (bits .or .u64 (bits .and .u64 o.sip 2) (bif d then 32 else 0)) (bif e then 512 else 0)
def readyW (x : VV) (o : HV) (d e : Bool) : VV := ⟨{ o with sip := sW o d e }, if x.st = 2 ∧ bits .and .u64 (sW o d e) o.sie ≠ 0 then 1 else x.st, x.ar, x.dl⟩
def readyV (x : VV) (now : Int) (e : Bool) : VV := readyW x (ordH x.h) (x.ar && decide (x.dl ≤ now)) e
theorem or0 (n : Int) (h0 : 0 ≤ n) (h1 : n < 18446744073709551616) : bits .or .u64 n 0 = n := by
  rw [u64_or n 0 h0 h1 (by omega) (by omega)]
  simp
  omega
theorem and_r (n m : Int) (h0 : 0 ≤ n) (h1 : n < 18446744073709551616) (m0 : 0 ≤ m) (m1 : m < 18446744073709551616) : 0 ≤ bits .and .u64 n m ∧ bits .and .u64 n m < 18446744073709551616 := by
  rw [u64_and n m h0 h1 m0 m1]
  have : n.toNat &&& m.toNat ≤ n.toNat := Nat.and_le_left
  omega
theorem or_r (n m : Int) (h0 : 0 ≤ n) (h1 : n < 18446744073709551616) (m0 : 0 ≤ m) (m1 : m < 18446744073709551616) : 0 ≤ bits .or .u64 n m ∧ bits .or .u64 n m < 18446744073709551616 := by
  rw [u64_or n m h0 h1 m0 m1]
  have : n.toNat ||| m.toNat < 2 ^ 64 := Nat.or_lt_two_pow (by omega) (by omega)
  omega
set_option maxHeartbeats 4000000 in
theorem v_ReadyW (x : VV) (o : HV) (now : Int) (ext : Bool) (w : World) (hI : ∀ u, Calls Try.prog 30 #[x.h.v] u fun e w' => e = .returned o.v ∧ Below u.heap.size u w') : Calls Try.prog 15 #[x.v, .int .u64 now, .bool ext] w fun e w' => e = .returned (readyW x o (x.ar && decide (x.dl ≤ now)) ext).v ∧ Below w.heap.size w w' := by
  have HI := hid hI
  clear hI
  have A1 : Hid (V1 ((w.alloc (.cells x.ca 32)).alloc (.cells VV.zero.ca 32)) w.heap.size x) := V1.new1 x _
  have A2 : Hid (V1 ((w.alloc (.cells x.ca 32)).alloc (.cells VV.zero.ca 32)) (w.heap.size + 1) VV.zero) := V1.new2 VV.zero _
  have HB0 := hid (below2 (w := w) (.cells x.ca 32) (.cells VV.zero.ca 32))
  have hc : (x.ar = true ∧ x.dl ≤ now) ∨ (x.ar = true ∧ ¬ x.dl ≤ now) ∨ x.ar = false := by
    cases x.ar <;> by_cases q : x.dl ≤ now <;> simp [q]
  obtain ⟨d, hd⟩ : ∃ d, (x.ar && decide (x.dl ≤ now)) = d := ⟨_, rfl⟩
  rw [hd]
  obtain ⟨s, hs⟩ : ∃ s, s = sW o d ext := ⟨_, rfl⟩
  have HW : Hid (readyW x o d ext = ⟨{ o with sip := s }, if x.st = 2 ∧ bits .and .u64 s o.sie ≠ 0 then 1 else x.st, x.ar, x.dl⟩) := by rw [hs]; rfl
  rw [HW.out]
  clear HW
  obtain ⟨t, ht⟩ : ∃ t : Int, t = if x.st = 2 ∧ bits .and .u64 s o.sie ≠ 0 then 1 else x.st := ⟨_, rfl⟩
  rw [← ht]
  have HT := hid ht
  clear ht
  go_enter Try.func15, Try.ntmps15
  go_upto_region 2 with (first
    | ((with_reducible refine wpList_new (z := .agg VV.zero.ca) VV.zero.ca ?_ ?_ ?_); rfl; exact z_vcpu)
    | ((with_reducible refine wpL_hload (d := some 9) w.heap.size 0 x.h ?_ ?_ ?_); rfl; exact A1.out.rangeH)
    | (go_at_call 30; refine (HI.out _).mono ?_; rintro e w1 ⟨rfl, hb⟩; have B1 := hid (A1.out.below hb); have B2 := hid (A2.out.below hb); have HB1 := hid (HB0.out.trans (hb.mono HB0.out.size)); have HS : Hid (w.heap.size + 2 ≤ w1.heap.size) := by { have := hb.size; simp at this; exact this }; clear hb)
    | ((with_reducible refine wpList_new (z := .agg HV.zero.ca) HV.zero.ca ?_ ?_ ?_); rfl; exact z_hart)
    | ((with_reducible refine wpL_storeH1 (x := .tmp 7) (y := .tmp 10) w1.heap.size HV.zero o ?_ ?_ ?_ ?_); rfl; rfl; exact H1.new HV.zero; intro w2 h2 ho2; have K1 := hid h2; have C1 : Hid (V1 w2 w.heap.size x) := hid ((B1.out.below ((Below.refl _ _).alloc (Nat.le_refl _) _)).only ho2 (by have := HS.out; omega)); have C2 : Hid (V1 w2 (w.heap.size + 1) VV.zero) := hid ((B2.out.below ((Below.refl _ _).alloc (Nat.le_refl _) _)).only ho2 (by have := HS.out; omega)); have HB2 : Hid (Below w.heap.size w w2) := hid (only_below (HB1.out.alloc (by have := HS.out; omega) _) (by have := HS.out; omega) ho2 (by simp; have := HS.out; omega)); clear h2 ho2))
  have c46 : w2.cell? ⟨w1.heap.size, 46, none⟩ = some (.int .u64 o.sip) := K1.out.c 46
  have c51 : w2.cell? ⟨w.heap.size, 51, none⟩ = some (.int .u64 x.dl) := C1.out.c 51
  rcases hc with ⟨ha, hn⟩ | ⟨ha, hn⟩ | ha <;> cases ext
  all_goals
    have c50 : w2.cell? ⟨w.heap.size, 50, none⟩ = some (.bool x.ar) := C1.out.c 50
    rw [ha] at c50 hd
    first | rw [Bool.false_and] at hd | rw [show decide (x.dl ≤ now) = true from decide_eq_true (by omega), Bool.and_true] at hd | rw [Bool.true_and] at hd
    rw [← hd] at hs
    clear hd
    have HW := hid hs
    clear hs
    simp only [Act.put, List.setIfInBounds_toArray, List.set_cons_succ, List.set_cons_zero]
    refine wp_region_last_lit (by simp) (by kernel_rfl) (by kernel_rfl) (by kernel_rfl) ?_
    simp only [List.dropLast, List.getLast]
    repeat (go_big_quiet_step ((go_at_call 31; exact Calls.quiet_of_same (v_bit _ _ _))))
    refine wpQuiet_nil ?_
    intro _ hwq
    obtain ⟨nq, hwq⟩ := hwq
    subst hwq
    refine wpL_Hcell w1.heap.size 46 o { o with sip := s } (.int .u64 s) (.inl rfl) (.inl ⟨_, _, rfl⟩) (by omega) rfl rfl (by rw [HW.out]; rfl) K1.out ?_
    intro w3 h3 ho3
    have L1 := hid h3
    have D1 : Hid (V1 w3 w.heap.size x) := hid ((show V1 (w2.drewN nq) w.heap.size x from C1.out).only ho3 (fun (q : _ = _) => by have := HS.out; omega))
    have D2 : Hid (V1 w3 (w.heap.size + 1) VV.zero) := hid ((show V1 (w2.drewN nq) (w.heap.size + 1) VV.zero from C2.out).only ho3 (fun (q : _ = _) => by have := HS.out; omega))
    have HB3 : Hid (Below w.heap.size w w3) := hid (only_below (below_dn HB2.out nq) (by have := HS.out; omega) ho3 HB2.out.size)
    clear h3 ho3
    clear HW c46 c50 c51
    have c46 : w3.cell? ⟨w1.heap.size, 46, none⟩ = some (.int .u64 s) := L1.out.c 46
    have c45 : w3.cell? ⟨w1.heap.size, 45, none⟩ = some (.int .u64 o.sie) := L1.out.c 45
    have c49 : w3.cell? ⟨w.heap.size, 49, none⟩ = some (.int .i64 x.st) := D1.out.c 49
    by_cases h2 : x.st = 2
    · by_cases hq : bits .and .u64 s o.sie = 0
      · have HX : Hid ((if x.st = 2 ∧ bits .and .u64 s o.sie ≠ 0 then 1 else x.st) = x.st) := if_neg (fun q => q.2 hq)
        go_wp2_with (first
          | ((with_reducible refine wpL_hload (d := some 40) w1.heap.size 0 { o with sip := s } ?_ ?_ ?_); rfl; exact L1.out.range)
          | ((with_reducible refine wpL_storeh1 (x := .tmp 41) (y := .tmp 40) w.heap.size x { o with sip := s } ?_ ?_ ?_ ?_); rfl; rfl; exact D1.out; intro w5 h5 ho5; have E1 := hid h5; have E2 := hid (D2.out.only ho5 (by omega)); have HB5 := hid (only_below HB3.out (Nat.le_refl _) ho5 HB3.out.size); clear h5 ho5)
          | ((with_reducible refine wpL_vload (d := some 42) w.heap.size 0 { x with h := { o with sip := s } } ?_ ?_ ?_); rfl; exact E1.out.range)
          | ((with_reducible refine wpL_store1 (x := .tmp 6) (y := .tmp 42) (w.heap.size + 1) VV.zero { x with h := { o with sip := s } } ?_ ?_ ?_ ?_); rfl; rfl; exact E2.out; intro w6 h6 ho6; have F1 := hid h6; have HB6 := hid (only_below HB5.out (by omega) ho6 HB5.out.size); clear h6 ho6))
        exact bodyPost_ret (ret_v Try.results15 (w.heap.size + 1) _ rfl F1.out) rfl ⟨by first | (rw [HT.out.trans HX.out]; done) | (rw [HT.out.trans HX.out, ha]; done), HB6.out⟩
      · have HX : Hid ((if x.st = 2 ∧ bits .and .u64 s o.sie ≠ 0 then 1 else x.st) = 1) := if_pos ⟨h2, hq⟩
        go_wp2_with (first
          | ((with_reducible refine wpL_1cell w.heap.size 49 x { x with st := 1 } (.int .i64 1) ?_ ?_ ?_ ?_ ?_ ?_ ?_ ?_); exact .inr (.inl rfl); exact .inl ⟨_, _, rfl⟩; omega; rfl; rfl; rfl; exact D1.out; intro w4 h4 ho4; have G1 := hid h4; have G2 := hid (D2.out.only ho4 (by omega)); have M1 := hid (L1.out.only ho4 (by have := HS.out; omega)); have HB4 := hid (only_below HB3.out (Nat.le_refl _) ho4 HB3.out.size); clear h4 ho4)
          | ((with_reducible refine wpL_hload (d := some 40) w1.heap.size 0 { o with sip := s } ?_ ?_ ?_); rfl; exact M1.out.range)
          | ((with_reducible refine wpL_storeh1 (x := .tmp 41) (y := .tmp 40) w.heap.size { x with st := 1 } { o with sip := s } ?_ ?_ ?_ ?_); rfl; rfl; exact G1.out; intro w5 h5 ho5; have E1 := hid h5; have E2 := hid (G2.out.only ho5 (by omega)); have HB5 := hid (only_below HB4.out (Nat.le_refl _) ho5 HB4.out.size); clear h5 ho5)
          | ((with_reducible refine wpL_vload (d := some 42) w.heap.size 0 { x with st := 1, h := { o with sip := s } } ?_ ?_ ?_); rfl; exact E1.out.range)
          | ((with_reducible refine wpL_store1 (x := .tmp 6) (y := .tmp 42) (w.heap.size + 1) VV.zero { x with st := 1, h := { o with sip := s } } ?_ ?_ ?_ ?_); rfl; rfl; exact E2.out; intro w6 h6 ho6; have F1 := hid h6; have HB6 := hid (only_below HB5.out (by omega) ho6 HB5.out.size); clear h6 ho6))
        exact bodyPost_ret (ret_v Try.results15 (w.heap.size + 1) _ rfl F1.out) rfl ⟨by first | (rw [HT.out.trans HX.out]; done) | (rw [HT.out.trans HX.out, ha]; done), HB6.out⟩
    · have HX : Hid ((if x.st = 2 ∧ bits .and .u64 s o.sie ≠ 0 then 1 else x.st) = x.st) := if_neg (fun q => h2 q.1)
      go_wp2_with (first
        | ((with_reducible refine wpL_hload (d := some 40) w1.heap.size 0 { o with sip := s } ?_ ?_ ?_); rfl; exact L1.out.range)
        | ((with_reducible refine wpL_storeh1 (x := .tmp 41) (y := .tmp 40) w.heap.size x { o with sip := s } ?_ ?_ ?_ ?_); rfl; rfl; exact D1.out; intro w5 h5 ho5; have E1 := hid h5; have E2 := hid (D2.out.only ho5 (by omega)); have HB5 := hid (only_below HB3.out (Nat.le_refl _) ho5 HB3.out.size); clear h5 ho5)
        | ((with_reducible refine wpL_vload (d := some 42) w.heap.size 0 { x with h := { o with sip := s } } ?_ ?_ ?_); rfl; exact E1.out.range)
        | ((with_reducible refine wpL_store1 (x := .tmp 6) (y := .tmp 42) (w.heap.size + 1) VV.zero { x with h := { o with sip := s } } ?_ ?_ ?_ ?_); rfl; rfl; exact E2.out; intro w6 h6 ho6; have F1 := hid h6; have HB6 := hid (only_below HB5.out (by omega) ho6 HB5.out.size); clear h6 ho6))
      exact bodyPost_ret (ret_v Try.results15 (w.heap.size + 1) _ rfl F1.out) rfl ⟨by first | (rw [HT.out.trans HX.out]; done) | (rw [HT.out.trans HX.out, ha]; done), HB6.out⟩
theorem v_Ready (x : VV) (ok : HOk x.h) (now : Int) (ext : Bool) (w : World) : Calls Try.prog 15 #[x.v, .int .u64 now, .bool ext] w fun e w' => e = .returned (readyV x now ext).v ∧ Below w.heap.size w w' :=
  v_ReadyW x (ordH x.h) now ext w fun u => v_inOrder x.h ok u
end Go.Proofs.Yteafjobmlfkppaa
