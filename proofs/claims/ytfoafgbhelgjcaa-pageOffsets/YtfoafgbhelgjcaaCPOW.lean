/- PageOffsets answers true: the walk. -/
import Derived.Test.YtfoafgbhelgjcaaCPEQ
import Derived.Test.YtfoafgbhelgjcaaMC4
import Derived.Test.YtfoafgbhelgjcaaCPOF
namespace Go.Proofs.Ytfoafgbhelgjcaa.C
open Go.RowKit
set_option linter.unusedVariables false
set_option maxRecDepth 100000

set_option maxHeartbeats 2000000 in
set_option maxRecDepth 100000 in
theorem w_PageOffsets_a (w : World) (ad : Option Addr) (la cap ab ao : Nat) (X : Nat → Int × Int) (hX : Cl w ad la cap ab ao X) (a b : Int) (c d e : Bool) (sa0 : 0 ≤ a) (sa1 : a < 18446744073709551616) (b0 : 0 ≤ b) (b1 : b < 18446744073709551616) (va : Int) (g0 : 0 ≤ va) (g1 : va < 18446744073709551616) (off : Int) (f0 : 0 ≤ off) (f1 : off < 18446744073709551616) (acc : Int) (x o : Int) (hx : va / 4096 * 4096 = x) (ho : off % 4096 = o) (o0 : 0 ≤ o) (o1 : o < 4096)
    (Aa Ag Af : Int) (Aw : Bool) (p0 : 0 ≤ Aa) (p1 : Aa ≤ 18446744073709547520) (q0 : 0 ≤ Ag) (q1 : Ag ≤ 18446744073709547520) 
    (hA : tr (rdm 8 (fcl 8 X la)) ⟨a, b, c, d, e⟩ x acc = ⟨Aa, Ag, 0, Aw⟩) (hB : tr (rdm 8 (fcl 8 X la)) ⟨a, b, c, d, e⟩ (x + o) acc = ⟨(Aa + o), (Ag + o), 0, Aw⟩) :
    Calls Try.prog 12 #[.agg #[.slice ad la cap, .int .u64 a, .int .u64 b, .bool c, .bool d, .bool e], .int .u64 va, .int .u64 off, .int .i64 acc] w fun r w' => r = .returned (.bool true) ∧ Below w.heap.size w w' := by
  obtain ⟨wc, hwc⟩ : ∃ wc, wc = w.alloc (.cells #[.slice ad la cap, .int .u64 a, .int .u64 b, .bool c, .bool d, .bool e] 85) := ⟨_, rfl⟩
  have HA : Hid (Below w.heap.size w wc) := by rw [hwc]; exact (Below.refl _ _).alloc (Nat.le_refl _) _
  have HX : Hid (Cl wc ad la cap ab ao X) := Cl.below hX HA.out
  have HC : Hid (CB wc w.heap.size ad la cap a b c d e) := by rw [hwc]; exact heap_alloc_new w _
  have HWC := hid hwc
  have HPA := hid hA
  have HPB := hid hB
  have x0 : 0 ≤ x := by omega
  have x1 : x ≤ 18446744073709547520 := by omega
  clear hX hwc hA hB
  go_enter Try.func12, Try.ntmps12
  go_wp2_with (first
    | (go_at_call 36; rw [← HWC.out]; refine (c_memory wc ad la cap ab ao X HX.out a b c d e).mono ?_; rintro r w1 ⟨p, q, U, rfl, ht, hb1, hu⟩; obtain ⟨S, T, h1, h2, h3, h4⟩ := ht; have HB := hid (HA.out.trans (hb1.mono HA.out.size)); obtain ⟨we, hwe⟩ : ∃ we, we = w1.alloc (.cells #[.pointer (some ⟨p, 0, none⟩), .pointer (some ⟨q, 0, none⟩)] 29) := ⟨_, rfl⟩; have HBe : Hid (Below w1.heap.size w1 we) := (by rw [hwe]; exact (Below.refl _ _).alloc (Nat.le_refl _) _); have HC1 : Hid (CB we w.heap.size ad la cap a b c d e) := (HC.out.below hb1).below HBe.out; have HTe : Hid (TB we w1.heap.size p q) := (by rw [hwe]; exact TB.new w1 p q); have k := HC1.out.cs; rw [hwe] at k; obtain ⟨k1, k2, k3, k4, k5⟩ := k; have HWE := hid hwe; have HM := hid (h1.below HBe.out); clear h1 h2 h3 h4 hb1 hu hwe)
    | (go_at_call 41; rw [← HWE.out]; refine (c_Translate we S p 8 _ HM.out ⟨a, b, c, d, e⟩ x acc x0 (by omega) sa0 sa1 b0 b1 ⟨Aa, Ag, 0, Aw⟩ HPA.out).mono ?_; rintro r w2 ⟨rfl, hb2⟩; obtain ⟨wf, hwf⟩ : ∃ wf, wf = w2.alloc (.cells #[.int .u64 Aa, .int .u64 Ag, .int .i64 0, .bool Aw] 93) := ⟨_, rfl⟩; have HB2 : Hid (Below we.heap.size we wf) := (by rw [hwf]; exact hb2.alloc hb2.size _); have HC2 : Hid (CB wf w.heap.size ad la cap a b c d e) := HC1.out.below HB2.out; have HT2 : Hid (TB wf w1.heap.size p q) := HTe.out.below HB2.out; have HR2 : Hid (B4 wf w2.heap.size (.int .u64 Aa) (.int .u64 Ag) (.int .i64 0) (.bool Aw)) := (by rw [hwf]; exact heap_alloc_new w2 _); have HM2 := hid (HM.out.below HB2.out); have k := HC2.out.cs; rw [hwf] at k; obtain ⟨k1, k2, k3, k4, k5⟩ := k; have t0 := HT2.out.c0; rw [hwf] at t0; have HWF := hid hwf; clear hb2 hwf)
    | (go_at_call 41; rw [← HWF.out]; refine (c_Translate wf S p 8 _ HM2.out ⟨a, b, c, d, e⟩ (x + o) acc (by omega) (by omega) sa0 sa1 b0 b1 ⟨(Aa + o), (Ag + o), 0, Aw⟩ HPB.out).mono ?_; rintro r w3 ⟨rfl, hb3⟩; have HB3 : Hid (Below wf.heap.size wf (w3.alloc (.cells #[.int .u64 (Aa + o), .int .u64 (Ag + o), .int .i64 0, .bool Aw] 93))) := hb3.alloc hb3.size _; have HR3 := hid (HR2.out.below HB3.out); obtain ⟨m0, m1, m2, m3⟩ := HR3.out.c; clear hb3)
    | (go_at_call 40; refine (c_awake4 _).mono ?_; rintro r w6 ⟨rfl, hb6⟩; have HB6 := hid hb6; clear hb6))
  go_ret
  have e1 := HB.out.trans (HBe.out.mono HB.out.size)
  have e2 := e1.trans (HB2.out.mono e1.size)
  have e3 := e2.trans (HB3.out.mono e2.size)
  exact ⟨rfl, e3.trans (HB6.out.mono e3.size)⟩
set_option maxHeartbeats 2000000 in
set_option maxRecDepth 100000 in
theorem w_PageOffsets_b (w : World) (ad : Option Addr) (la cap ab ao : Nat) (X : Nat → Int × Int) (hX : Cl w ad la cap ab ao X) (a b : Int) (c d e : Bool) (sa0 : 0 ≤ a) (sa1 : a < 18446744073709551616) (b0 : 0 ≤ b) (b1 : b < 18446744073709551616) (va : Int) (g0 : 0 ≤ va) (g1 : va < 18446744073709551616) (off : Int) (f0 : 0 ≤ off) (f1 : off < 18446744073709551616) (acc : Int) (x o : Int) (hx : va / 4096 * 4096 = x) (ho : off % 4096 = o) (o0 : 0 ≤ o) (o1 : o < 4096)
    (Aa Ag Af : Int) (Aw : Bool) (p0 : 0 ≤ Aa) (p1 : Aa ≤ 18446744073709547520) (q0 : 0 ≤ Ag) (q1 : Ag ≤ 18446744073709547520) (hf : Af ≠ 0)
    (hA : tr (rdm 8 (fcl 8 X la)) ⟨a, b, c, d, e⟩ x acc = ⟨0, Ag, Af, true⟩) (hB : tr (rdm 8 (fcl 8 X la)) ⟨a, b, c, d, e⟩ (x + o) acc = ⟨0, Ag, Af, true⟩) :
    Calls Try.prog 12 #[.agg #[.slice ad la cap, .int .u64 a, .int .u64 b, .bool c, .bool d, .bool e], .int .u64 va, .int .u64 off, .int .i64 acc] w fun r w' => r = .returned (.bool true) ∧ Below w.heap.size w w' := by
  obtain ⟨wc, hwc⟩ : ∃ wc, wc = w.alloc (.cells #[.slice ad la cap, .int .u64 a, .int .u64 b, .bool c, .bool d, .bool e] 85) := ⟨_, rfl⟩
  have HA : Hid (Below w.heap.size w wc) := by rw [hwc]; exact (Below.refl _ _).alloc (Nat.le_refl _) _
  have HX : Hid (Cl wc ad la cap ab ao X) := Cl.below hX HA.out
  have HC : Hid (CB wc w.heap.size ad la cap a b c d e) := by rw [hwc]; exact heap_alloc_new w _
  have HWC := hid hwc
  have HPA := hid hA
  have HPB := hid hB
  have x0 : 0 ≤ x := by omega
  have x1 : x ≤ 18446744073709547520 := by omega
  have hf1 : (Af != 0) = true := by simpa using hf
  clear hX hwc hA hB
  go_enter Try.func12, Try.ntmps12
  go_wp2_with (first
    | (go_at_call 36; rw [← HWC.out]; refine (c_memory wc ad la cap ab ao X HX.out a b c d e).mono ?_; rintro r w1 ⟨p, q, U, rfl, ht, hb1, hu⟩; obtain ⟨S, T, h1, h2, h3, h4⟩ := ht; have HB := hid (HA.out.trans (hb1.mono HA.out.size)); obtain ⟨we, hwe⟩ : ∃ we, we = w1.alloc (.cells #[.pointer (some ⟨p, 0, none⟩), .pointer (some ⟨q, 0, none⟩)] 29) := ⟨_, rfl⟩; have HBe : Hid (Below w1.heap.size w1 we) := (by rw [hwe]; exact (Below.refl _ _).alloc (Nat.le_refl _) _); have HC1 : Hid (CB we w.heap.size ad la cap a b c d e) := (HC.out.below hb1).below HBe.out; have HTe : Hid (TB we w1.heap.size p q) := (by rw [hwe]; exact TB.new w1 p q); have k := HC1.out.cs; rw [hwe] at k; obtain ⟨k1, k2, k3, k4, k5⟩ := k; have HWE := hid hwe; have HM := hid (h1.below HBe.out); clear h1 h2 h3 h4 hb1 hu hwe)
    | (go_at_call 41; rw [← HWE.out]; refine (c_Translate we S p 8 _ HM.out ⟨a, b, c, d, e⟩ x acc x0 (by omega) sa0 sa1 b0 b1 ⟨0, Ag, Af, true⟩ HPA.out).mono ?_; rintro r w2 ⟨rfl, hb2⟩; obtain ⟨wf, hwf⟩ : ∃ wf, wf = w2.alloc (.cells #[.int .u64 0, .int .u64 Ag, .int .i64 Af, .bool true] 93) := ⟨_, rfl⟩; have HB2 : Hid (Below we.heap.size we wf) := (by rw [hwf]; exact hb2.alloc hb2.size _); have HC2 : Hid (CB wf w.heap.size ad la cap a b c d e) := HC1.out.below HB2.out; have HT2 : Hid (TB wf w1.heap.size p q) := HTe.out.below HB2.out; have HR2 : Hid (B4 wf w2.heap.size (.int .u64 0) (.int .u64 Ag) (.int .i64 Af) (.bool true)) := (by rw [hwf]; exact heap_alloc_new w2 _); have HM2 := hid (HM.out.below HB2.out); have k := HC2.out.cs; rw [hwf] at k; obtain ⟨k1, k2, k3, k4, k5⟩ := k; have t0 := HT2.out.c0; rw [hwf] at t0; have HWF := hid hwf; clear hb2 hwf)
    | (go_at_call 41; rw [← HWF.out]; refine (c_Translate wf S p 8 _ HM2.out ⟨a, b, c, d, e⟩ (x + o) acc (by omega) (by omega) sa0 sa1 b0 b1 ⟨0, Ag, Af, true⟩ HPB.out).mono ?_; rintro r w3 ⟨rfl, hb3⟩; have HB3 : Hid (Below wf.heap.size wf (w3.alloc (.cells #[.int .u64 0, .int .u64 Ag, .int .i64 Af, .bool true] 93))) := hb3.alloc hb3.size _; have HR3 := hid (HR2.out.below HB3.out); obtain ⟨m0, m1, m2, m3⟩ := HR3.out.c; clear hb3)
    | (go_at_call 40; refine (c_awake4 _).mono ?_; rintro r w6 ⟨rfl, hb6⟩; have HB6 := hid hb6; clear hb6))
  go_ret
  have e1 := HB.out.trans (HBe.out.mono HB.out.size)
  have e2 := e1.trans (HB2.out.mono e1.size)
  have e3 := e2.trans (HB3.out.mono e2.size)
  exact ⟨rfl, e3.trans (HB6.out.mono e3.size)⟩
set_option maxHeartbeats 2000000 in
set_option maxRecDepth 100000 in
theorem w_PageOffsets_c (w : World) (ad : Option Addr) (la cap ab ao : Nat) (X : Nat → Int × Int) (hX : Cl w ad la cap ab ao X) (a b : Int) (c d e : Bool) (sa0 : 0 ≤ a) (sa1 : a < 18446744073709551616) (b0 : 0 ≤ b) (b1 : b < 18446744073709551616) (va : Int) (g0 : 0 ≤ va) (g1 : va < 18446744073709551616) (off : Int) (f0 : 0 ≤ off) (f1 : off < 18446744073709551616) (acc : Int) (x o : Int) (hx : va / 4096 * 4096 = x) (ho : off % 4096 = o) (o0 : 0 ≤ o) (o1 : o < 4096)
    (Aa Ag Af : Int) (Aw : Bool) (p0 : 0 ≤ Aa) (p1 : Aa ≤ 18446744073709547520) (q0 : 0 ≤ Ag) (q1 : Ag ≤ 18446744073709547520) 
    (hA : tr (rdm 8 (fcl 8 X la)) ⟨a, b, c, d, e⟩ x acc = ⟨0, 0, 1, false⟩) (hB : tr (rdm 8 (fcl 8 X la)) ⟨a, b, c, d, e⟩ (x + o) acc = ⟨0, 0, 1, false⟩) :
    Calls Try.prog 12 #[.agg #[.slice ad la cap, .int .u64 a, .int .u64 b, .bool c, .bool d, .bool e], .int .u64 va, .int .u64 off, .int .i64 acc] w fun r w' => r = .returned (.bool true) ∧ Below w.heap.size w w' := by
  obtain ⟨wc, hwc⟩ : ∃ wc, wc = w.alloc (.cells #[.slice ad la cap, .int .u64 a, .int .u64 b, .bool c, .bool d, .bool e] 85) := ⟨_, rfl⟩
  have HA : Hid (Below w.heap.size w wc) := by rw [hwc]; exact (Below.refl _ _).alloc (Nat.le_refl _) _
  have HX : Hid (Cl wc ad la cap ab ao X) := Cl.below hX HA.out
  have HC : Hid (CB wc w.heap.size ad la cap a b c d e) := by rw [hwc]; exact heap_alloc_new w _
  have HWC := hid hwc
  have HPA := hid hA
  have HPB := hid hB
  have x0 : 0 ≤ x := by omega
  have x1 : x ≤ 18446744073709547520 := by omega
  clear hX hwc hA hB
  go_enter Try.func12, Try.ntmps12
  go_wp2_with (first
    | (go_at_call 36; rw [← HWC.out]; refine (c_memory wc ad la cap ab ao X HX.out a b c d e).mono ?_; rintro r w1 ⟨p, q, U, rfl, ht, hb1, hu⟩; obtain ⟨S, T, h1, h2, h3, h4⟩ := ht; have HB := hid (HA.out.trans (hb1.mono HA.out.size)); obtain ⟨we, hwe⟩ : ∃ we, we = w1.alloc (.cells #[.pointer (some ⟨p, 0, none⟩), .pointer (some ⟨q, 0, none⟩)] 29) := ⟨_, rfl⟩; have HBe : Hid (Below w1.heap.size w1 we) := (by rw [hwe]; exact (Below.refl _ _).alloc (Nat.le_refl _) _); have HC1 : Hid (CB we w.heap.size ad la cap a b c d e) := (HC.out.below hb1).below HBe.out; have HTe : Hid (TB we w1.heap.size p q) := (by rw [hwe]; exact TB.new w1 p q); have k := HC1.out.cs; rw [hwe] at k; obtain ⟨k1, k2, k3, k4, k5⟩ := k; have HWE := hid hwe; have HM := hid (h1.below HBe.out); clear h1 h2 h3 h4 hb1 hu hwe)
    | (go_at_call 41; rw [← HWE.out]; refine (c_Translate we S p 8 _ HM.out ⟨a, b, c, d, e⟩ x acc x0 (by omega) sa0 sa1 b0 b1 ⟨0, 0, 1, false⟩ HPA.out).mono ?_; rintro r w2 ⟨rfl, hb2⟩; obtain ⟨wf, hwf⟩ : ∃ wf, wf = w2.alloc (.cells #[.int .u64 0, .int .u64 0, .int .i64 1, .bool false] 93) := ⟨_, rfl⟩; have HB2 : Hid (Below we.heap.size we wf) := (by rw [hwf]; exact hb2.alloc hb2.size _); have HC2 : Hid (CB wf w.heap.size ad la cap a b c d e) := HC1.out.below HB2.out; have HT2 : Hid (TB wf w1.heap.size p q) := HTe.out.below HB2.out; have HR2 : Hid (B4 wf w2.heap.size (.int .u64 0) (.int .u64 0) (.int .i64 1) (.bool false)) := (by rw [hwf]; exact heap_alloc_new w2 _); have HM2 := hid (HM.out.below HB2.out); have k := HC2.out.cs; rw [hwf] at k; obtain ⟨k1, k2, k3, k4, k5⟩ := k; have t0 := HT2.out.c0; rw [hwf] at t0; have HWF := hid hwf; clear hb2 hwf)
    | (go_at_call 41; rw [← HWF.out]; refine (c_Translate wf S p 8 _ HM2.out ⟨a, b, c, d, e⟩ (x + o) acc (by omega) (by omega) sa0 sa1 b0 b1 ⟨0, 0, 1, false⟩ HPB.out).mono ?_; rintro r w3 ⟨rfl, hb3⟩; have HB3 : Hid (Below wf.heap.size wf (w3.alloc (.cells #[.int .u64 0, .int .u64 0, .int .i64 1, .bool false] 93))) := hb3.alloc hb3.size _; have HR3 := hid (HR2.out.below HB3.out); obtain ⟨m0, m1, m2, m3⟩ := HR3.out.c; clear hb3)
    | (go_at_call 40; refine (c_awake4 _).mono ?_; rintro r w6 ⟨rfl, hb6⟩; have HB6 := hid hb6; clear hb6))
  go_ret
  have e1 := HB.out.trans (HBe.out.mono HB.out.size)
  have e2 := e1.trans (HB2.out.mono e1.size)
  have e3 := e2.trans (HB3.out.mono e2.size)
  exact ⟨rfl, e3.trans (HB6.out.mono e3.size)⟩
set_option maxHeartbeats 2000000 in
set_option maxRecDepth 100000 in
theorem w_PageOffsets_d (w : World) (ad : Option Addr) (la cap ab ao : Nat) (X : Nat → Int × Int) (hX : Cl w ad la cap ab ao X) (a b : Int) (c d e : Bool) (sa0 : 0 ≤ a) (sa1 : a < 18446744073709551616) (b0 : 0 ≤ b) (b1 : b < 18446744073709551616) (va : Int) (g0 : 0 ≤ va) (g1 : va < 18446744073709551616) (off : Int) (f0 : 0 ≤ off) (f1 : off < 18446744073709551616) (acc : Int) (x o : Int) (hx : va / 4096 * 4096 = x) (ho : off % 4096 = o) (o0 : 0 ≤ o) (o1 : o < 4096)
    (Aa Ag Af : Int) (Aw : Bool) (p0 : 0 ≤ Aa) (p1 : Aa ≤ 18446744073709547520) (q0 : 0 ≤ Ag) (q1 : Ag ≤ 18446744073709547520) (hf : Af ≠ 0) (hf1 : Af ≠ 1)
    (hA : tr (rdm 8 (fcl 8 X la)) ⟨a, b, c, d, e⟩ x acc = ⟨0, Ag, Af, false⟩) (hB : tr (rdm 8 (fcl 8 X la)) ⟨a, b, c, d, e⟩ (x + o) acc = ⟨0, (Ag + o), Af, false⟩) :
    Calls Try.prog 12 #[.agg #[.slice ad la cap, .int .u64 a, .int .u64 b, .bool c, .bool d, .bool e], .int .u64 va, .int .u64 off, .int .i64 acc] w fun r w' => r = .returned (.bool true) ∧ Below w.heap.size w w' := by
  obtain ⟨wc, hwc⟩ : ∃ wc, wc = w.alloc (.cells #[.slice ad la cap, .int .u64 a, .int .u64 b, .bool c, .bool d, .bool e] 85) := ⟨_, rfl⟩
  have HA : Hid (Below w.heap.size w wc) := by rw [hwc]; exact (Below.refl _ _).alloc (Nat.le_refl _) _
  have HX : Hid (Cl wc ad la cap ab ao X) := Cl.below hX HA.out
  have HC : Hid (CB wc w.heap.size ad la cap a b c d e) := by rw [hwc]; exact heap_alloc_new w _
  have HWC := hid hwc
  have HPA := hid hA
  have HPB := hid hB
  have x0 : 0 ≤ x := by omega
  have x1 : x ≤ 18446744073709547520 := by omega
  have hf2 : (Af != 0) = true := by simpa using hf
  have hf3 : (Af == 1) = false := by simpa using hf1
  have hf4 : (Af != 1) = true := by simpa using hf1
  clear hX hwc hA hB
  go_enter Try.func12, Try.ntmps12
  go_wp2_with (first
    | (go_at_call 36; rw [← HWC.out]; refine (c_memory wc ad la cap ab ao X HX.out a b c d e).mono ?_; rintro r w1 ⟨p, q, U, rfl, ht, hb1, hu⟩; obtain ⟨S, T, h1, h2, h3, h4⟩ := ht; have HB := hid (HA.out.trans (hb1.mono HA.out.size)); obtain ⟨we, hwe⟩ : ∃ we, we = w1.alloc (.cells #[.pointer (some ⟨p, 0, none⟩), .pointer (some ⟨q, 0, none⟩)] 29) := ⟨_, rfl⟩; have HBe : Hid (Below w1.heap.size w1 we) := (by rw [hwe]; exact (Below.refl _ _).alloc (Nat.le_refl _) _); have HC1 : Hid (CB we w.heap.size ad la cap a b c d e) := (HC.out.below hb1).below HBe.out; have HTe : Hid (TB we w1.heap.size p q) := (by rw [hwe]; exact TB.new w1 p q); have k := HC1.out.cs; rw [hwe] at k; obtain ⟨k1, k2, k3, k4, k5⟩ := k; have HWE := hid hwe; have HM := hid (h1.below HBe.out); clear h1 h2 h3 h4 hb1 hu hwe)
    | (go_at_call 41; rw [← HWE.out]; refine (c_Translate we S p 8 _ HM.out ⟨a, b, c, d, e⟩ x acc x0 (by omega) sa0 sa1 b0 b1 ⟨0, Ag, Af, false⟩ HPA.out).mono ?_; rintro r w2 ⟨rfl, hb2⟩; obtain ⟨wf, hwf⟩ : ∃ wf, wf = w2.alloc (.cells #[.int .u64 0, .int .u64 Ag, .int .i64 Af, .bool false] 93) := ⟨_, rfl⟩; have HB2 : Hid (Below we.heap.size we wf) := (by rw [hwf]; exact hb2.alloc hb2.size _); have HC2 : Hid (CB wf w.heap.size ad la cap a b c d e) := HC1.out.below HB2.out; have HT2 : Hid (TB wf w1.heap.size p q) := HTe.out.below HB2.out; have HR2 : Hid (B4 wf w2.heap.size (.int .u64 0) (.int .u64 Ag) (.int .i64 Af) (.bool false)) := (by rw [hwf]; exact heap_alloc_new w2 _); have HM2 := hid (HM.out.below HB2.out); have k := HC2.out.cs; rw [hwf] at k; obtain ⟨k1, k2, k3, k4, k5⟩ := k; have t0 := HT2.out.c0; rw [hwf] at t0; have HWF := hid hwf; clear hb2 hwf)
    | (go_at_call 41; rw [← HWF.out]; refine (c_Translate wf S p 8 _ HM2.out ⟨a, b, c, d, e⟩ (x + o) acc (by omega) (by omega) sa0 sa1 b0 b1 ⟨0, (Ag + o), Af, false⟩ HPB.out).mono ?_; rintro r w3 ⟨rfl, hb3⟩; have HB3 : Hid (Below wf.heap.size wf (w3.alloc (.cells #[.int .u64 0, .int .u64 (Ag + o), .int .i64 Af, .bool false] 93))) := hb3.alloc hb3.size _; have HR3 := hid (HR2.out.below HB3.out); obtain ⟨m0, m1, m2, m3⟩ := HR3.out.c; clear hb3)
    | (go_at_call 40; refine (c_awake4 _).mono ?_; rintro r w6 ⟨rfl, hb6⟩; have HB6 := hid hb6; clear hb6))
  go_ret
  have e1 := HB.out.trans (HBe.out.mono HB.out.size)
  have e2 := e1.trans (HB2.out.mono e1.size)
  have e3 := e2.trans (HB3.out.mono e2.size)
  exact ⟨rfl, e3.trans (HB6.out.mono e3.size)⟩
theorem w_PageOffsets (w : World) (ad : Option Addr) (la cap ab ao : Nat) (X : Nat → Int × Int) (hX : Cl w ad la cap ab ao X) (a b : Int) (c d e : Bool) (sa0 : 0 ≤ a) (sa1 : a < 18446744073709551616) (b0 : 0 ≤ b) (b1 : b < 18446744073709551616) (va : Int) (g0 : 0 ≤ va) (g1 : va < 18446744073709551616) (off : Int) (f0 : 0 ≤ off) (f1 : off < 18446744073709551616) (acc : Int) (c0 : -9223372036854775808 ≤ acc) (c1 : acc ≤ 9223372036854775807) :
    Calls Try.prog 12 #[.agg #[.slice ad la cap, .int .u64 a, .int .u64 b, .bool c, .bool d, .bool e], .int .u64 va, .int .u64 off, .int .i64 acc] w fun r w' => r = .returned (.bool true) ∧ Below w.heap.size w w' := by
  obtain ⟨x, hx⟩ : ∃ x, va / 4096 * 4096 = x := ⟨_, rfl⟩
  obtain ⟨o, ho⟩ : ∃ o, off % 4096 = o := ⟨_, rfl⟩
  have o0 : 0 ≤ o := by omega
  have o1 : o < 4096 := by omega
  have hRd : RdOk (rdm 8 (fcl 8 X la)) := rdm_ok 8 _ (fcl_byt 8 X la)
  have hk := tr_offs (x := x) (o := o) (by omega) (by omega) (by omega) o0 o1 hRd ⟨a, b, c, d, e⟩ acc sa0 b0 b1
  obtain ⟨⟨p0, p1⟩, q0, q1⟩ := tr_b hRd ⟨a, b, c, d, e⟩ x acc (by omega) (by omega) sa0 b0 b1
  obtain ⟨A, hA⟩ : ∃ A, tr (rdm 8 (fcl 8 X la)) ⟨a, b, c, d, e⟩ x acc = A := ⟨_, rfl⟩
  obtain ⟨B, hB⟩ : ∃ B, tr (rdm 8 (fcl 8 X la)) ⟨a, b, c, d, e⟩ (x + o) acc = B := ⟨_, rfl⟩
  rw [hA] at p0 p1 q0 q1
  rw [hA, hB] at hk
  obtain ⟨Aa, Ag, Af, Aw⟩ := A
  rcases hk with ⟨h1, rfl⟩ | ⟨h1, h2, h3, rfl⟩ | ⟨h1, rfl⟩ | ⟨h1, h2, h3, h4, rfl⟩
  · obtain rfl : Af = 0 := h1
    exact w_PageOffsets_a w ad la cap ab ao X hX a b c d e sa0 sa1 b0 b1 va g0 g1 off f0 f1 acc x o hx ho o0 o1 Aa Ag 0 Aw p0 p1 q0 q1 hA hB
  · obtain rfl : Aw = true := h2
    obtain rfl : Aa = 0 := h3
    exact w_PageOffsets_b w ad la cap ab ao X hX a b c d e sa0 sa1 b0 b1 va g0 g1 off f0 f1 acc x o hx ho o0 o1 0 Ag Af true p0 p1 q0 q1 h1 hA hB
  · cases h1
    exact w_PageOffsets_c w ad la cap ab ao X hX a b c d e sa0 sa1 b0 b1 va g0 g1 off f0 f1 acc x o hx ho o0 o1 0 0 1 false p0 p1 q0 q1 hA hB
  · obtain rfl : Aw = false := h3
    obtain rfl : Aa = 0 := h4
    exact w_PageOffsets_d w ad la cap ab ao X hX a b c d e sa0 sa1 b0 b1 va g0 g1 off f0 f1 acc x o hx ho o0 o1 0 Ag Af false p0 p1 q0 q1 h1 h2 hA hB
end Go.Proofs.Ytfoafgbhelgjcaa.C
