/- The walk of VcpuCalls. -/
import Derived.Test.YteafjobmlfkppaaMH4
import Derived.Test.YteafjobmlfkppaaMH2
namespace Go.Proofs.Yteafjobmlfkppaa
open Go.RowKit
set_option linter.unusedVariables false
set_option maxRecDepth 100000

theorem rg12z (v : VV) (u : Int) : v.cs.set 12 (.int .u64 u) = (reg v 12 u).cs := rfl
def oLen : Option Int → Nat
  | none => 0
  | some _ => 1
theorem OutIs.sl2 {w : World} {B : Nat} {v : Value} {o : Option Int} (h : OutIs w B v o) : C.Sl w v (oLen o) (fun _ => o.getD 0) := by
  cases o with
  | none =>
    obtain rfl : v = nils := h
    exact ⟨none, 0, rfl, Nat.le_refl _, ⟨0, 0, none⟩, fun q => absurd q (Nat.lt_irrefl 0)⟩
  | some b =>
    obtain ⟨p, rfl, hc, hb⟩ := h
    refine ⟨_, 1, rfl, Nat.le_refl _, ⟨p, 0, none⟩, fun _ => ⟨rfl, hc.lt, fun j hj => ?_⟩⟩
    have hj1 : j < 1 := hj
    obtain rfl : j = 0 := by omega
    exact hc.c
theorem c_SameO (w : World) (u v : Value) (B B' : Nat) (o : Option Int) (hu : OutIs w B u o) (hv : OutIs w B' v o) :
    Calls Try.prog 24 #[u, v] w fun e w' => e = .returned (.bool true) ∧ Below w.heap.size w w' := by
  refine (C.c_SameBytes w _ (by cases o <;> simp [oLen]) u v _ _ hu.sl2 hv.sl2 (fun _ _ => rfl)).mono ?_
  rintro e w' ⟨rfl, hs⟩
  exact ⟨rfl, hs.below _⟩
theorem r_Call_no (w : World) (v : Value) (L : List VV) (hv : Vr w v L) (hl : L.length * 368 ≤ 140737488355328) (i : Int) (i0 : -9223372036854775808 ≤ i) (i1 : i ≤ 9223372036854775807) (hno : i < 0 ∨ (L.length : Int) ≤ i) :
    Calls Try.prog 23 #[v, .int .i64 i] w fun e w' => ∃ v', e = .returned (.tuple #[v', .slice none 0 0, .bool false]) ∧ Vs w' w.heap.size v' L ∧ Below w.heap.size w w' := by
  have HVB := hid hv
  have HL := hid hl
  clear hv hl
  by_cases h0 : i < 0
  · go_enter Try.func23, Try.ntmps23
    go_wp2_with ((with_reducible refine wpL_appendV w.heap.size (.slice none 0 0) v L ?_ ?_ ?_ ?_ ?_ ?_ ?_); rfl; exact World.ownsRow_nil _ _ _ _; rfl; exact HVB.out; exact HL.out; exact Nat.le_refl _; intro v1 w1 hv1 hb1; have HS := hid hv1; have HB := hid hb1; obtain ⟨ad, cap, rfl, _⟩ := hv1.rd.len; clear hv1 hb1)
    go_returns
    exact ⟨_, rfl, HS.out, HB.out⟩
  · have h1 : (L.length : Int) ≤ i := by omega
    have hL : L.length ≤ 9223372036854775807 := by have := HL.out; omega
    go_enter Try.func23, Try.ntmps23
    go_wp2_with ((with_reducible refine wpL_appendV w.heap.size (.slice none 0 0) v L ?_ ?_ ?_ ?_ ?_ ?_ ?_); rfl; exact World.ownsRow_nil _ _ _ _; rfl; exact HVB.out; exact HL.out; exact Nat.le_refl _; intro v1 w1 hv1 hb1; have HS := hid hv1; have HB := hid hb1; obtain ⟨ad, cap, rfl, _⟩ := hv1.rd.len; clear hv1 hb1)
    go_returns
    exact ⟨_, rfl, HS.out, HB.out⟩
set_option maxHeartbeats 64000000 in
theorem w_VcpuCalls (w : World) (ad : Option Addr) (la cap : Nat) (L : List VV) (hL : Vr w (.slice ad la cap) L ∧ (∀ x ∈ L, VOk x) ∧ L.length = la)
    (i : Int) (i0 : -9223372036854775808 ≤ i) (i1 : i ≤ 9223372036854775807) (kd : Int) (k0 : 0 ≤ kd) (k1 : kd < 18446744073709551616) (fn : Int) (n0 : 0 ≤ fn) (n1 : fn < 18446744073709551616) (a : Int) (a0 : 0 ≤ a) (a1 : a < 18446744073709551616) (b : Int) (b0 : 0 ≤ b) (b1 : b < 18446744073709551616) (c : Int) (c0 : 0 ≤ c) (c1 : c < 18446744073709551616) (hl : la * 368 ≤ 140737488355328) :
    Calls Try.prog 5 #[.slice ad la cap, .int .i64 i, .int .u64 kd, .int .u64 fn, .int .u64 a, .int .u64 b, .int .u64 c] w fun e w' => e = .returned (.bool true) ∧ Below w.heap.size w w' := by
  obtain ⟨hv, hok, hla⟩ := hL
  subst hla
  have HVB := hid hv
  have HK := hid hok
  have HL := hid hl
  have hlb : L.length ≤ 9223372036854775807 := by omega
  by_cases hno : i < 0 ∨ (L.length : Int) ≤ i
  · clear hv hok hl
    have HNO := hid hno
    rcases hno with hn | hn
    · have hn2 : ¬ 0 ≤ i := by omega
      go_enter Try.func5, Try.ntmps5
      go_upto_region 2 with (go_at_call 19; refine (c_copied _ _ L HVB.out HL.out).mono ?_; rintro e w1 ⟨v1, rfl, h1, hb⟩; have S1 := hid h1; have HB1 := hid hb; obtain ⟨ad1, cap1, rfl, _⟩ := h1.rd.len; clear h1 hb)
      go_wp2_with (first
        | (go_at_call 19; refine (c_copied _ _ L S1.out.rd HL.out).mono ?_; rintro e w2 ⟨v2, rfl, h2, hb⟩; have S2 := hid h2; have S1a := hid (S1.out.below (hb.mono (Nat.le_refl _))); have HB2 := hid (HB1.out.trans (hb.mono HB1.out.size)); clear h2 hb)
        | (go_at_call 22; refine (v_Call_no _ _ L S1a.out.rd HL.out i i0 i1 HNO.out).mono ?_; rintro e w3 ⟨v3, rfl, h3, hb⟩; have S3 := hid h3; have S2b := hid (S2.out.below (hb.mono (Nat.le_refl _))); have S1b := hid (S1a.out.below (hb.mono (Nat.le_refl _))); have HB3 := hid (HB2.out.trans (hb.mono HB2.out.size)); clear h3 hb)
        | (go_at_call 23; refine (r_Call_no _ _ L S1b.out.rd HL.out i i0 i1 HNO.out).mono ?_; rintro e w4 ⟨v4, rfl, h4, hb⟩; have S4 := hid h4; have S3c := hid (S3.out.below (hb.mono (Nat.le_refl _))); have S2c := hid (S2b.out.below (hb.mono (Nat.le_refl _))); have S1c := hid (S1b.out.below (hb.mono (Nat.le_refl _))); have HB4 := hid (HB3.out.trans (hb.mono HB3.out.size)); clear h4 hb)
        | ((with_reducible go_at_call 11); refine (v_Same _ v3 v4 L L S3c.out.rd S4.out.rd rfl same_refl hlb).mono ?_; rintro e w5 ⟨rfl, hs⟩; have S2d := hid (S2c.out.rd.same hs.heap); have S1d := hid (S1c.out.rd.same hs.heap); have HB5 := hid (HB4.out.trans (hs.below _)); clear hs S3c)
        | (go_at_call 24; refine (c_SameO _ nils nils 0 0 none rfl rfl).mono ?_; rintro e w6 ⟨rfl, hb⟩; have S2e := hid (S2d.out.below hb); have S1e := hid (S1d.out.below hb); have HB6 := hid (HB5.out.trans (hb.mono HB5.out.size)); clear hb)
        | (go_at_call 11; refine (v_Same _ _ v2 L L S1e.out S2e.out rfl same_refl hlb).mono ?_; rintro e w7 ⟨rfl, hs⟩; have HB7 := hid (HB6.out.trans (hs.below _)); clear hs)
        | (go_at_call 14; refine (v_awake _).mono ?_; rintro e w8 ⟨rfl, hb⟩; have HB8 := hid (HB7.out.trans (hb.mono HB7.out.size)); clear hb))
      go_ret
      exact ⟨rfl, HB8.out⟩
    · have hn2 : ¬ i < L.length := by omega
      go_enter Try.func5, Try.ntmps5
      go_upto_region 2 with (go_at_call 19; refine (c_copied _ _ L HVB.out HL.out).mono ?_; rintro e w1 ⟨v1, rfl, h1, hb⟩; have S1 := hid h1; have HB1 := hid hb; obtain ⟨ad1, cap1, rfl, _⟩ := h1.rd.len; clear h1 hb)
      go_wp2_with (first
        | (go_at_call 19; refine (c_copied _ _ L S1.out.rd HL.out).mono ?_; rintro e w2 ⟨v2, rfl, h2, hb⟩; have S2 := hid h2; have S1a := hid (S1.out.below (hb.mono (Nat.le_refl _))); have HB2 := hid (HB1.out.trans (hb.mono HB1.out.size)); clear h2 hb)
        | (go_at_call 22; refine (v_Call_no _ _ L S1a.out.rd HL.out i i0 i1 HNO.out).mono ?_; rintro e w3 ⟨v3, rfl, h3, hb⟩; have S3 := hid h3; have S2b := hid (S2.out.below (hb.mono (Nat.le_refl _))); have S1b := hid (S1a.out.below (hb.mono (Nat.le_refl _))); have HB3 := hid (HB2.out.trans (hb.mono HB2.out.size)); clear h3 hb)
        | (go_at_call 23; refine (r_Call_no _ _ L S1b.out.rd HL.out i i0 i1 HNO.out).mono ?_; rintro e w4 ⟨v4, rfl, h4, hb⟩; have S4 := hid h4; have S3c := hid (S3.out.below (hb.mono (Nat.le_refl _))); have S2c := hid (S2b.out.below (hb.mono (Nat.le_refl _))); have S1c := hid (S1b.out.below (hb.mono (Nat.le_refl _))); have HB4 := hid (HB3.out.trans (hb.mono HB3.out.size)); clear h4 hb)
        | ((with_reducible go_at_call 11); refine (v_Same _ v3 v4 L L S3c.out.rd S4.out.rd rfl same_refl hlb).mono ?_; rintro e w5 ⟨rfl, hs⟩; have S2d := hid (S2c.out.rd.same hs.heap); have S1d := hid (S1c.out.rd.same hs.heap); have HB5 := hid (HB4.out.trans (hs.below _)); clear hs S3c)
        | (go_at_call 24; refine (c_SameO _ nils nils 0 0 none rfl rfl).mono ?_; rintro e w6 ⟨rfl, hb⟩; have S2e := hid (S2d.out.below hb); have S1e := hid (S1d.out.below hb); have HB6 := hid (HB5.out.trans (hb.mono HB5.out.size)); clear hb)
        | (go_at_call 11; refine (v_Same _ _ v2 L L S1e.out S2e.out rfl same_refl hlb).mono ?_; rintro e w7 ⟨rfl, hs⟩; have HB7 := hid (HB6.out.trans (hs.below _)); clear hs)
        | (go_at_call 14; refine (v_awake _).mono ?_; rintro e w8 ⟨rfl, hb⟩; have HB8 := hid (HB7.out.trans (hb.mono HB7.out.size)); clear hb))
      go_ret
      exact ⟨rfl, HB8.out⟩
  · obtain ⟨m, rfl⟩ : ∃ m : Nat, i = m := ⟨i.toNat, by omega⟩
    have hm : m < L.length := by omega
    have hne : L ≠ [] := by rintro rfl; simp at hm
    obtain ⟨x, hx⟩ : ∃ x, L[m]? = some x := ⟨_, List.getElem?_eq_getElem hm⟩
    have aG := hid hx
    have HL0 : Hid (m < L.length) := hid hm
    obtain ⟨x5, hx5⟩ : ∃ x5, x5 = reg (reg (reg (reg (reg x 17 kd) 16 fn) 10 a) 11 b) 12 c := ⟨_, rfl⟩
    have HX5 : Hid (reg (reg (reg (reg (reg x 17 kd) 16 fn) 10 a) 11 b) 12 c = x5) := hx5.symm
    have ok5 : HOk x5.h := by
      rw [hx5]
      exact reg_ok _ (reg_ok _ (reg_ok _ (reg_ok _ (reg_ok _ (hok x (List.mem_of_getElem? hx)).h 17 kd ⟨k0, k1⟩) 16 fn ⟨n0, n1⟩) 10 a ⟨a0, a1⟩) 11 b ⟨b0, b1⟩) 12 c ⟨c0, c1⟩
    have HLL : Hid ((L.set m x5).length = L.length) := List.length_set
    have HOKL : Hid (∀ y ∈ L.set m x5, HOk y.h) := fun y hy => by
      rcases List.mem_or_eq_of_mem_set hy with q | q
      · exact (hok y q).h
      · rw [q]; exact ok5
    have HAT : Hid ((L.set m x5)[m]? = some x5) := List.getElem?_set_self hm
    have HC1 : Hid (∀ u v, Vr u v (L.set m x5) → Calls Try.prog 22 #[v, .int .i64 m] u fun e w' => ∃ g cap ov, e = .returned (.tuple #[.slice (some ⟨g, 0, none⟩) L.length cap, ov, .bool (callF (L.set m x5) m x5).2.1.dn]) ∧ Vb w' g (callF (L.set m x5) m x5).1 ∧ u.heap.size ≤ g ∧ OutIs w' u.heap.size ov (callF (L.set m x5) m x5).2.2 ∧ Below u.heap.size u w') := fun u v hv => by
      have := v_Call u v _ hv (by rw [HLL.out]; exact HL.out) HOKL.out m x5 HAT.out
      rwa [HLL.out] at this
    have HC2 : Hid (∀ u v, Vr u v (L.set m x5) → Calls Try.prog 23 #[v, .int .i64 m] u fun e w' => ∃ g cap ov, e = .returned (.tuple #[.slice (some ⟨g, 0, none⟩) L.length cap, ov, .bool (callF (L.set m x5) m x5).2.1.dn]) ∧ Vb w' g (callF (L.set m x5) m x5).1 ∧ u.heap.size ≤ g ∧ OutIs w' u.heap.size ov (callF (L.set m x5) m x5).2.2 ∧ Below u.heap.size u w') := fun u v hv => by
      have := r_Call u v _ hv (by rw [HLL.out]; exact HL.out) HOKL.out m x5 HAT.out
      rwa [HLL.out] at this
    have HLEN := hid (callF_len (L.set m x5) m x5)
    generalize hR : callF (L.set m x5) m x5 = RR at HC1 HC2 HLEN
    obtain ⟨R, av, oo⟩ := RR
    simp only at HC1 HC2 HLEN
    obtain ⟨dn, hdn⟩ : ∃ dn, dn = av.dn := ⟨_, rfl⟩
    rw [← hdn] at HC1 HC2
    have HRL : Hid (R.length = L.length) := by show R.length = L.length; have := HLEN.out; rw [HLL.out] at this; exact this
    clear hv hok hl hx hx5 ok5 hR hdn k0 k1 n0 n1 a0 a1 b0 b1 c0 c1 HLEN
    go_enter Try.func5, Try.ntmps5
    go_upto_region 2 with (go_at_call 19; refine (c_copied _ _ L HVB.out HL.out).mono ?_; rintro e w1 ⟨v1, rfl, h1, hb⟩; obtain ⟨g1, cap1, rfl, hg1, hvb⟩ := vs_at h1 hne; have A1 := hid hvb; have HG1 := hid hg1; have HB1 := hid hb; clear h1 hb hvb hg1)
    go_upto_region 8 with (first
        | ((with_reducible refine wpL_vcell g1 m 17 L x (reg x 17 kd) (.int .u64 kd) ?_ ?_ ?_ ?_ ?_ ?_ ?_ ?_ ?_); exact .inl rfl; exact .inl ⟨_, _, rfl⟩; exact aG.out; omega; exact reg_cs x _ 17 (by decide); rfl; rfl; exact A1.out; intro wa1 h_ ho_; have aA1 := hid h_; have aB1 := hid (only_below HB1.out HG1.out ho_ HB1.out.size); clear h_ ho_)
        | ((with_reducible refine wpL_vcell g1 m 16 (L.set m (reg x 17 kd)) (reg x 17 kd) (reg (reg x 17 kd) 16 fn) (.int .u64 fn) ?_ ?_ ?_ ?_ ?_ ?_ ?_ ?_ ?_); exact .inl rfl; exact .inl ⟨_, _, rfl⟩; exact List.getElem?_set_self HL0.out; omega; exact reg_cs (reg x 17 kd) _ 16 (by decide); rfl; rfl; exact aA1.out; intro wa2 h_ ho_; rw [List.set_set] at h_; have aA2 := hid h_; have aB2 := hid (only_below aB1.out HG1.out ho_ aB1.out.size); clear h_ ho_)
        | ((with_reducible refine wpL_vcell g1 m 10 (L.set m (reg (reg x 17 kd) 16 fn)) (reg (reg x 17 kd) 16 fn) (reg (reg (reg x 17 kd) 16 fn) 10 a) (.int .u64 a) ?_ ?_ ?_ ?_ ?_ ?_ ?_ ?_ ?_); exact .inl rfl; exact .inl ⟨_, _, rfl⟩; exact List.getElem?_set_self HL0.out; omega; exact reg_cs (reg (reg x 17 kd) 16 fn) _ 10 (by decide); rfl; rfl; exact aA2.out; intro wa3 h_ ho_; rw [List.set_set] at h_; have aA3 := hid h_; have aB3 := hid (only_below aB2.out HG1.out ho_ aB2.out.size); clear h_ ho_)
        | ((with_reducible refine wpL_vcell g1 m 11 (L.set m (reg (reg (reg x 17 kd) 16 fn) 10 a)) (reg (reg (reg x 17 kd) 16 fn) 10 a) (reg (reg (reg (reg x 17 kd) 16 fn) 10 a) 11 b) (.int .u64 b) ?_ ?_ ?_ ?_ ?_ ?_ ?_ ?_ ?_); exact .inl rfl; exact .inl ⟨_, _, rfl⟩; exact List.getElem?_set_self HL0.out; omega; exact reg_cs (reg (reg (reg x 17 kd) 16 fn) 10 a) _ 11 (by decide); rfl; rfl; exact aA3.out; intro wa4 h_ ho_; rw [List.set_set] at h_; have aA4 := hid h_; have aB4 := hid (only_below aB3.out HG1.out ho_ aB3.out.size); clear h_ ho_)
        | ((with_reducible refine wpL_vcell g1 m 12 (L.set m (reg (reg (reg (reg x 17 kd) 16 fn) 10 a) 11 b)) (reg (reg (reg (reg x 17 kd) 16 fn) 10 a) 11 b) x5 (.int .u64 c) ?_ ?_ ?_ ?_ ?_ ?_ ?_ ?_ ?_); exact .inl rfl; exact .inl ⟨_, _, rfl⟩; exact List.getElem?_set_self HL0.out; omega; exact (rg12z (reg (reg (reg (reg x 17 kd) 16 fn) 10 a) 11 b) _).trans (congrArg VV.cs HX5.out); rfl; rfl; exact aA4.out; intro wa5 h_ ho_; rw [List.set_set] at h_; have aA5 := hid h_; have aB5 := hid (only_below aB4.out HG1.out ho_ aB4.out.size); clear h_ ho_))
    have HPA : Hid (Vr wa5 (.slice (some ⟨g1, 0, none⟩) L.length cap1) (L.set m x5)) := by show Vr _ _ _; have := aA5.out.rd (cap := cap1); rw [HLL.out] at this; exact this
    go_wp2_with (first
      | (go_at_call 19; refine (c_copied _ _ (L.set m x5) HPA.out (by rw [HLL.out]; exact HL.out)).mono ?_; rintro e w2 ⟨v2, rfl, h2, hb⟩; have S2 := hid h2.rd; have HP2 := hid (HPA.out.below hb); have HB2 := hid (aB5.out.trans (hb.mono aB5.out.size)); clear h2 hb)
      | (go_at_call 22; refine (HC1.out _ _ HP2.out).mono ?_; rintro e w3 ⟨g3, c3, ov3, rfl, hvb, hg, hov, hb⟩; obtain ⟨oa, ol, oc, rfl⟩ := hov.sl; have R3 : Hid (Vr w3 (.slice (some ⟨g3, 0, none⟩) L.length c3) R) := (by show Vr _ _ _; have := hvb.rd (cap := c3); rw [HRL.out] at this; exact this); have O3 := hid hov; have S3 := hid (S2.out.below hb); have HP3 := hid (HP2.out.below hb); have HB3 := hid (HB2.out.trans (hb.mono HB2.out.size)); clear hvb hg hov hb)
      | (go_at_call 23; refine (HC2.out _ _ HP3.out).mono ?_; rintro e w4 ⟨g4, c4, ov4, rfl, hvb, hg, hov, hb⟩; obtain ⟨oa4, ol4, oc4, rfl⟩ := hov.sl; have R4 : Hid (Vr w4 (.slice (some ⟨g4, 0, none⟩) L.length c4) R) := (by show Vr _ _ _; have := hvb.rd (cap := c4); rw [HRL.out] at this; exact this); have O4 := hid hov; have O34 := hid (O3.out.below hb); have R34 := hid (R3.out.below hb); have S4 := hid (S3.out.below hb); have HP4 := hid (HP3.out.below hb); have HB4 := hid (HB3.out.trans (hb.mono HB3.out.size)); clear hvb hg hov hb)
      | ((with_reducible go_at_call 11); refine (v_Same _ _ _ R R R34.out R4.out rfl same_refl (by rw [HRL.out]; exact hlb)).mono ?_; rintro e w5 ⟨rfl, hs⟩; have hb := hs.below w4.heap.size; have O5 := hid (O4.out.below hb); have O35 := hid (O34.out.below hb); have S5 := hid (S4.out.below hb); have HP5 := hid (HP4.out.below hb); have HB5 := hid (HB4.out.trans (hs.below _)); clear hs hb R34)
      | (go_at_call 24; refine (c_SameO _ _ _ _ _ oo O35.out O5.out).mono ?_; rintro e w6 ⟨rfl, hb⟩; have S6 := hid (S5.out.below hb); have HP6 := hid (HP5.out.below hb); have HB6 := hid (HB5.out.trans (hb.mono HB5.out.size)); clear hb)
      | (go_at_call 11; refine (v_Same _ _ v2 (L.set m x5) (L.set m x5) HP6.out S6.out rfl same_refl (by rw [HLL.out]; exact hlb)).mono ?_; rintro e w7 ⟨rfl, hs⟩; have HB7 := hid (HB6.out.trans (hs.below _)); clear hs)
      | (go_at_call 14; refine (v_awake _).mono ?_; rintro e w8 ⟨rfl, hb⟩; have HB8 := hid (HB7.out.trans (hb.mono HB7.out.size)); clear hb))
    go_ret
    exact ⟨rfl, HB8.out⟩
end Go.Proofs.Yteafjobmlfkppaa
