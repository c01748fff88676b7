/- RamEnds answers true: the walk. -/
import Derived.Test.YthjlhiigaccapaaRE
namespace Go.Proofs.Ythjlhiigaccapaa
open Go.RowKit
set_option linter.unusedVariables false

set_option maxHeartbeats 4000000 in
set_option maxRecDepth 100000 in
theorem w_RamEnds (w : World) (base frames size : Int) (z0 : 0 ≤ base) (z1 : base ≤ 18446744073709551615) (f0 : -9223372036854775808 ≤ frames) (f1 : frames ≤ 9223372036854775807) (s0 : -9223372036854775808 ≤ size) (s1 : size ≤ 9223372036854775807) :
    Calls Try.prog 6 #[.int .u64 base, .int .i64 frames, .int .i64 size] w fun e w' => e = .returned (.bool true) ∧ Below w.heap.size w w' := by
  obtain ⟨bb, hbb⟩ : ∃ bb, base % 1099511627776 / 4096 * 4096 = bb := ⟨_, rfl⟩
  have hb0 : 0 ≤ bb ∧ bb ≤ 1099511627776 ∧ bb % 4096 = 0 := by omega
  obtain ⟨hb0, hb1, hb2⟩ := hb0
  obtain ⟨q, hq⟩ : ∃ q : Nat, frames % 20 = (q : Int) := ⟨(frames % 20).toNat, by omega⟩
  have hq1 : q < 20 := by omega
  obtain ⟨ff, hff⟩ : ∃ ff : Nat, (1 : Int) + (q : Int) = (ff : Int) := ⟨1 + q, by omega⟩
  have hf0 : 0 < ff ∧ ff ≤ 20 := by omega
  obtain ⟨hf0, hf1⟩ := hf0
  obtain ⟨r, hr⟩ : ∃ r : Nat, size % 4 = (r : Int) := ⟨(size % 4).toNat, by omega⟩
  have hr4 : r < 4 := by omega
  obtain ⟨n, hix, hn⟩ : ∃ n : Nat, ([.int .i64 1, .int .i64 2, .int .i64 4, .int .i64 8] : List Value)[r]'(by simpa using hr4) = .int .i64 (n : Int) ∧ (n = 1 ∨ n = 2 ∨ n = 4 ∨ n = 8) := by
    rcases (show r = 0 ∨ r = 1 ∨ r = 2 ∨ r = 3 by omega) with rfl | rfl | rfl | rfl
    · exact ⟨1, rfl, by omega⟩
    · exact ⟨2, rfl, by omega⟩
    · exact ⟨4, rfl, by omega⟩
    · exact ⟨8, rfl, by omega⟩
  have hn8 : 0 < n ∧ n ≤ 8 := by omega
  obtain ⟨hn0, hn8⟩ := hn8
  obtain ⟨c1, hc1, hc1'⟩ : ∃ c1, IntKind.u64.wrap (bb - 1) = c1 ∧ (bb = 0 ∧ c1 = 18446744073709551615 ∨ 0 < bb ∧ c1 = bb - 1) := ⟨_, rfl, by rw [IntKind.wrap_u64]; omega⟩
  obtain ⟨c2, hc2, hc2'⟩ : ∃ c2, IntKind.u64.wrap (bb - (n : Int)) = c2 ∧ (bb < n ∧ c2 = bb - n + 18446744073709551616 ∨ n ≤ bb ∧ c2 = bb - n) := ⟨_, rfl, by rw [IntKind.wrap_u64]; omega⟩
  have HC1 := hid hc1'
  have HC2 := hid hc2'
  clear hc1' hc2'
  have HN := hid hn
  clear hn
  have HBw := hid (Below.refl w.heap.size w)
  go_enter Try.func6, Try.ntmps6
  go_wp2_with (first
    | (go_at_call 16; with_reducible refine (c_Place frames 20 (by decide) (by decide) f0 f1 _).mono ?_; rintro e w3 ⟨rfl, hw3⟩; obtain rfl := hw3.symm; rw [hq])
    | (go_at_call 16; with_reducible refine (c_Place size 4 (by decide) (by decide) s0 s1 _).mono ?_; rintro e w3 ⟨rfl, hw3⟩; obtain rfl := hw3.symm; rw [hr])
    | (go_at_call 9; refine (c_New _ bb ff hb0 (by omega) hb2 hf0 (by omega)).mono ?_; rintro e w1 ⟨p, S, rfl, hm, hb, hS⟩; have HM := hid hm; have HB := hid ((((Below.refl w.heap.size w).alloc (Nat.le_refl _) _).trans (hb.mono (by simp)))); have HS := hid hS; clear hm hb hS)
    | (go_at_call 19; refine (c_Read _ S p bb ff _ HM.out (ff * 4096 - n) n (by omega) HN.out _ (by omega)).mono ?_; rintro e w2 ⟨rfl, hb⟩; have HM := hid (Mem.below HM.out hb); have HB := hid (HB.out.trans (hb.mono HB.out.size)); clear hb; try clear q1)
    | (go_at_call 19; have q1 := HC1.out; refine (c_Read_bad _ S p bb ff _ HM.out _ _ (by omega) (by omega) (by omega) (by omega) (decide_eq_false (by omega))).mono ?_; rintro e w2 ⟨rfl, hb⟩; have HM := hid (Mem.below HM.out (hb.below _)); have HB := hid (HB.out.trans (hb.below _)); clear hb; try clear q1)
    | (go_at_call 17; refine (c_Write _ S p bb ff _ HM.out 0 n (by omega) HN.out _ (by omega) 1 (by decide) (by decide)).mono ?_; rintro e w2 ⟨S2, rfl, hm, ho, hS2⟩; have HM2 := hid hm; have HB2 := hid (HB.out.trans (ho.below _ HB.out.size fun k q => Nat.le_trans (by simp) (HS.out k q))); clear hm ho hS2)
    | (go_at_call 17; have q1 := HC2.out; refine (c_Write_bad _ S2 p bb ff _ HM2.out _ _ _ (by omega) (by omega) (by omega) (by omega) (decide_eq_false (by omega))).mono ?_; rintro e w2 ⟨rfl, hb⟩; have HM2 := hid (Mem.below HM2.out (hb.below _)); have HB2 := hid (HB2.out.trans (hb.below _)); clear hb; try clear q1)
    | (go_at_call 14; refine (c_HasM _ S2 p bb ff _ HM2.out _ _ (by omega) (by omega) (by omega) (by omega) true (decide_eq_true (by omega))).mono ?_; rintro e w2 ⟨rfl, hb⟩; have HM2 := hid (Mem.below HM2.out (hb.below _)); have HB2 := hid (HB2.out.trans (hb.below _)); clear hb; try clear q1)
    | (go_at_call 14; refine (c_HasM _ S2 p bb ff _ HM2.out _ _ (by omega) (by omega) (by omega) (by omega) false (decide_eq_false (by omega))).mono ?_; rintro e w2 ⟨rfl, hb⟩; have HM2 := hid (Mem.below HM2.out (hb.below _)); have HB2 := hid (HB2.out.trans (hb.below _)); clear hb; try clear q1)
    | (go_at_call 11; refine (c_awake _).mono ?_; rintro e w8 ⟨rfl, hb⟩; have HB8 := hid (HB2.out.trans (hb.mono HB2.out.size)); clear hb; try clear q1))
  go_ret
  exact ⟨rfl, HB8.out⟩
end Go.Proofs.Ythjlhiigaccapaa
