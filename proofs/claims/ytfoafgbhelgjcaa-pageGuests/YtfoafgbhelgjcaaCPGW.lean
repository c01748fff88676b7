/- PageGuests answers true: the walk. -/
import Derived.Test.YtfoafgbhelgjcaaCPR
import Derived.Test.YtfoafgbhelgjcaaCPEQ
import Derived.Test.YtfoafgbhelgjcaaMC4
import Derived.Test.YtfoafgbhelgjcaaCQF
namespace Go.Proofs.Ytfoafgbhelgjcaa.C
open Go.RowKit
set_option linter.unusedVariables false
set_option maxRecDepth 100000

set_option maxHeartbeats 1000000 in
set_option maxRecDepth 100000 in
theorem w_PageGuests (w : World) (ad : Option Addr) (la cap ab ao : Nat) (X : Nat → Int × Int) (hX : Cl w ad la cap ab ao X) (a b : Int) (c d e : Bool) (sa0 : 0 ≤ a) (sa1 : a < 18446744073709551616) (b0 : 0 ≤ b) (b1 : b < 18446744073709551616) (gpa : Int) (g0 : 0 ≤ gpa) (g1 : gpa < 18446744073709551616) (acc : Int) (c0 : -9223372036854775808 ≤ acc) (c1 : acc ≤ 9223372036854775807) :
    Calls Try.prog 10 #[.agg #[.slice ad la cap, .int .u64 a, .int .u64 b, .bool c, .bool d, .bool e], .int .u64 gpa, .int .i64 acc] w fun r w' => r = .returned (.bool true) ∧ Below w.heap.size w w' := by
  obtain ⟨wc, hwc⟩ : ∃ wc, wc = w.alloc (.cells #[.slice ad la cap, .int .u64 a, .int .u64 b, .bool c, .bool d, .bool e] 85) := ⟨_, rfl⟩
  have HA : Hid (Below w.heap.size w wc) := by rw [hwc]; exact (Below.refl _ _).alloc (Nat.le_refl _) _
  have HX : Hid (Cl wc ad la cap ab ao X) := Cl.below hX HA.out
  have HC : Hid (CB wc w.heap.size ad la cap a b c d e) := by rw [hwc]; exact heap_alloc_new w _
  have HWC := hid hwc
  obtain ⟨x, y, z, hg⟩ : ∃ x y z, gst (rdm 8 (fcl 8 X la)) b gpa acc = (x, y, z) := ⟨_, _, _, rfl⟩
  have HG := hid hg
  clear hX hwc hg
  go_enter Try.func10, Try.ntmps10
  go_wp2_with (first
    | (go_at_call 36; rw [← HWC.out]; refine (c_memory wc ad la cap ab ao X HX.out a b c d e).mono ?_; rintro r w1 ⟨p, q, U, rfl, ht, hb1, hu⟩; obtain ⟨S, T, h1, h2, h3, h4⟩ := ht; have HB := hid (HA.out.trans (hb1.mono HA.out.size)); obtain ⟨we, hwe⟩ : ∃ we, we = w1.alloc (.cells #[.pointer (some ⟨p, 0, none⟩), .pointer (some ⟨q, 0, none⟩)] 29) := ⟨_, rfl⟩; have HBe : Hid (Below w1.heap.size w1 we) := (by rw [hwe]; exact (Below.refl _ _).alloc (Nat.le_refl _) _); have HC1 : Hid (CB we w.heap.size ad la cap a b c d e) := (HC.out.below hb1).below HBe.out; have HTe : Hid (TB we w1.heap.size p q) := (by rw [hwe]; exact TB.new w1 p q); have k := HC1.out.cs; rw [hwe] at k; obtain ⟨k1, k2, k3, k4, k5⟩ := k; have HWE := hid hwe; have HM := hid (h1.below HBe.out); have HQ := hid (h2.below HBe.out); clear h1 h2 h3 h4 hb1 hu hwe)
    | (go_at_call 37; rw [← HWE.out]; refine (c_Guest we S p 8 _ HM.out b gpa acc b0 b1 g0 g1 x y z HG.out).mono ?_; rintro r w2 ⟨rfl, hb2⟩; have HB2 := hid hb2; have HC2 := hid (HC1.out.below hb2); have HT2 := hid (HTe.out.below hb2); obtain ⟨k1, k2, k3, k4, k5⟩ := HC2.out.cs; have t0 := HT2.out.c0; have t1 := HT2.out.c1; have HM2 := hid (HM.out.below hb2); have HQ2 := hid (HQ.out.below hb2); clear hb2)
    | (go_at_call 38; refine (q_Guest w2 T q 8 _ HQ2.out b gpa acc b0 b1 g0 g1 x y z HG.out).mono ?_; rintro r w3 ⟨rfl, hb3⟩; have HB3 := hid hb3; have HT3 := hid (HT2.out.below hb3); have t0 := HT3.out.c0; have t1 := HT3.out.c1; have HM3 := hid (HM2.out.below hb3); have HQ3 := hid (HQ2.out.below hb3); clear hb3)
    | (go_at_call 39; refine (c_Same w3 S T p q 0 8 _ HM3.out HQ3.out).mono ?_; rintro r w4 ⟨rfl, hb4⟩; have HB4 := hid hb4; clear hb4)
    | (go_at_call 40; refine (c_awake4 w4).mono ?_; rintro r w6 ⟨rfl, hb6⟩; have HB6 := hid hb6; clear hb6))
  go_ret
  have e1 := HB.out.trans (HBe.out.mono HB.out.size)
  have e2 := e1.trans (HB2.out.mono e1.size)
  have e3 := e2.trans (HB3.out.mono e2.size)
  have e4 := e3.trans (HB4.out.mono e3.size)
  exact ⟨rfl, e4.trans (HB6.out.mono e4.size)⟩
end Go.Proofs.Ytfoafgbhelgjcaa.C
