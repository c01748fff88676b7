/- PageTranslates answers true: the walk. -/
import Derived.Test.YtfoafgbhelgjcaaCPV
import Derived.Test.YtfoafgbhelgjcaaMC4
import Derived.Test.YtfoafgbhelgjcaaCQF
namespace Go.Proofs.Ytfoafgbhelgjcaa.C
open Go.RowKit
set_option linter.unusedVariables false
set_option maxRecDepth 100000

set_option maxHeartbeats 1000000 in
set_option maxRecDepth 100000 in
theorem w_PageTranslates (w : World) (ad : Option Addr) (la cap ab ao : Nat) (X : Nat → Int × Int) (hX : Cl w ad la cap ab ao X) (a b : Int) (c d e : Bool) (sa0 : 0 ≤ a) (sa1 : a < 18446744073709551616) (b0 : 0 ≤ b) (b1 : b < 18446744073709551616) (va : Int) (g0 : 0 ≤ va) (g1 : va < 18446744073709551616) (acc : Int) (c0 : -9223372036854775808 ≤ acc) (c1 : acc ≤ 9223372036854775807) :
    Calls Try.prog 11 #[.agg #[.slice ad la cap, .int .u64 a, .int .u64 b, .bool c, .bool d, .bool e], .int .u64 va, .int .i64 acc] w fun r w' => r = .returned (.bool true) ∧ Below w.heap.size w w' := by
  obtain ⟨wc, hwc⟩ : ∃ wc, wc = w.alloc (.cells #[.slice ad la cap, .int .u64 a, .int .u64 b, .bool c, .bool d, .bool e] 85) := ⟨_, rfl⟩
  have HA : Hid (Below w.heap.size w wc) := by rw [hwc]; exact (Below.refl _ _).alloc (Nat.le_refl _) _
  have HX : Hid (Cl wc ad la cap ab ao X) := Cl.below hX HA.out
  have HC : Hid (CB wc w.heap.size ad la cap a b c d e) := by rw [hwc]; exact heap_alloc_new w _
  have HWC := hid hwc
  obtain ⟨P, hP⟩ : ∃ P, tr (rdm 8 (fcl 8 X la)) ⟨a, b, c, d, e⟩ va acc = P := ⟨_, rfl⟩
  obtain ⟨Pa, Pg, Pf, Pw⟩ := P
  have HG := hid hP
  have heq := run_eqP
  clear hX hwc hP
  go_enter Try.func11, Try.ntmps11
  go_wp2_with (first
    | (go_at_call 36; rw [← HWC.out]; refine (c_memory wc ad la cap ab ao X HX.out a b c d e).mono ?_; rintro r w1 ⟨p, q, U, rfl, ht, hb1, hu⟩; obtain ⟨S, T, h1, h2, h3, h4⟩ := ht; have HB := hid (HA.out.trans (hb1.mono HA.out.size)); obtain ⟨we, hwe⟩ : ∃ we, we = w1.alloc (.cells #[.pointer (some ⟨p, 0, none⟩), .pointer (some ⟨q, 0, none⟩)] 29) := ⟨_, rfl⟩; have HBe : Hid (Below w1.heap.size w1 we) := (by rw [hwe]; exact (Below.refl _ _).alloc (Nat.le_refl _) _); have HC1 : Hid (CB we w.heap.size ad la cap a b c d e) := (HC.out.below hb1).below HBe.out; have HTe : Hid (TB we w1.heap.size p q) := (by rw [hwe]; exact TB.new w1 p q); have k := HC1.out.cs; rw [hwe] at k; obtain ⟨k1, k2, k3, k4, k5⟩ := k; have HWE := hid hwe; have HM := hid (h1.below HBe.out); have HQ := hid (h2.below HBe.out); clear h1 h2 h3 h4 hb1 hu hwe))
  rw [← HWE.out]
  have hl1 : w1.heap.size < we.heap.size := lt_of_block HTe.out
  have hl0 : w.heap.size < we.heap.size := lt_of_block HC1.out
  have f0 : ∀ x : WB we, x.w.cell? ⟨w1.heap.size, 0, none⟩ = some (.pointer (some ⟨p, 0, none⟩)) := fun x => x.cell hl1 HTe.out.c0
  have f1 : ∀ x : WB we, x.w.cell? ⟨w1.heap.size, 1, none⟩ = some (.pointer (some ⟨q, 0, none⟩)) := fun x => x.cell hl1 HTe.out.c1
  have c1 : ∀ x : WB we, x.w.cell? ⟨w.heap.size, 1, none⟩ = some (.int .u64 a) := fun x => x.cell hl0 HC1.out.cs.1
  have c2 : ∀ x : WB we, x.w.cell? ⟨w.heap.size, 2, none⟩ = some (.int .u64 b) := fun x => x.cell hl0 HC1.out.cs.2.1
  have c3 : ∀ x : WB we, x.w.cell? ⟨w.heap.size, 3, none⟩ = some (.bool c) := fun x => x.cell hl0 HC1.out.cs.2.2.1
  have c4 : ∀ x : WB we, x.w.cell? ⟨w.heap.size, 4, none⟩ = some (.bool d) := fun x => x.cell hl0 HC1.out.cs.2.2.2.1
  have c5 : ∀ x : WB we, x.w.cell? ⟨w.heap.size, 5, none⟩ = some (.bool e) := fun x => x.cell hl0 HC1.out.cs.2.2.2.2
  clear k1 k2 k3 k4 k5
  refine wp_region_wb (by kernel_rfl) (by kernel_rfl) ?_
  repeat
    refine wpQuiet_step (fun K hK => ?_)
    go_simp
    first
      | (refine hK _ ?_; clear hK K)
      | (refine ⟨_, fun _ => rfl, hK _ ?_⟩; clear hK K)
      | (refine ⟨.agg #[.int .u64 Pa, .int .u64 Pg, .int .i64 Pf, .bool Pw], fun x => ?_, hK _ ?_⟩
         · first
             | (go_at_call 41; exact Calls.wb x (c_Translate x.w S p 8 _ (HM.out.below x.h) ⟨a, b, c, d, e⟩ va acc g0 g1 sa0 sa1 b0 b1 ⟨Pa, Pg, Pf, Pw⟩ HG.out))
             | (go_at_call 42; exact Calls.wb x (q_Translate x.w T q 8 _ (HQ.out.below x.h) ⟨a, b, c, d, e⟩ va acc g0 g1 sa0 sa1 b0 b1 ⟨Pa, Pg, Pf, Pw⟩ HG.out))
         clear hK K)
      | (refine ⟨.bool true, fun x => ?_, hK _ ?_⟩
         · first
             | (go_at_call 39; exact Calls.wb x (c_Same x.w S T p q 0 8 _ (HM.out.below x.h) (HQ.out.below x.h)))
             | (go_at_call 40; exact Calls.wb x (c_awake4 x.w))
         clear hK K)
  refine wpQuiet_nil ?_
  intro w9 hw9
  obtain ⟨x, rfl⟩ := hw9
  go_wp2_with fail
  go_ret
  have e1 := HB.out.trans (HBe.out.mono HB.out.size)
  exact ⟨rfl, e1.trans (x.h.mono e1.size)⟩
end Go.Proofs.Ytfoafgbhelgjcaa.C
