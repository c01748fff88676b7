/- PageBig answers true: the walk. -/
import Derived.Test.YtfoafgbhelgjcaaCPBG
import Derived.Test.YtfoafgbhelgjcaaMC4
namespace Go.Proofs.Ytfoafgbhelgjcaa.C
open Go.RowKit
set_option linter.unusedVariables false
set_option maxRecDepth 100000

set_option maxHeartbeats 1000000 in
set_option maxRecDepth 100000 in
theorem w_PageBig (w : World) (level : Int) (l0 : -9223372036854775808 ≤ level) (l1 : level ≤ 9223372036854775807) (number : Int) (m0 : 0 ≤ number) (m1 : number < 18446744073709551616) (off : Int) (f0 : 0 ≤ off) (f1 : off < 18446744073709551616) (slot : Int) (s0 : 0 ≤ slot) (s1 : slot < 18446744073709551616) :
    Calls Try.prog 16 #[.int .i64 level, .int .u64 number, .int .u64 off, .int .u64 slot] w fun r w' => r = .returned (.bool true) ∧ Below w.heap.size w w' := by
  obtain ⟨N, hN⟩ : ∃ N, number % 1048576 = N := ⟨_, rfl⟩
  obtain ⟨I, hI⟩ : ∃ I, slot % 512 = I := ⟨_, rfl⟩
  have n0 : 0 ≤ N := by omega
  have n1 : N < 1048576 := by omega
  have i0 : 0 ≤ I := by omega
  have i1 : I < 512 := by omega
  have hor := or_leaf N n0 n1
  go_enter Try.func16, Try.ntmps16
  rcases (show level % 2 = 0 ∨ level % 2 = 1 by omega) with hl | hl
  · obtain ⟨O, hO⟩ : ∃ O, off % 2097152 = O := ⟨_, rfl⟩
    have o0 : 0 ≤ O := by omega
    have o1 : O < 2097152 := by omega
    by_cases hm : N % 512 = 0
    · have HG : Hid (gst (rdm 4 (fcl 4 (bgX1 I N) 2)) 1 (I * 2097152 + O) 2 = (N * 4096 + O, 14, 0)) := by
        show _ = _
        rw [big1 i0 i1 n0 n1 O o0 o1]; rw [if_neg (by rw [hm]; decide)]
      obtain ⟨wa, hwa⟩ : ∃ wa, wa = w.alloc (.cells #[.int .i64 512, .int .u64 2049, .int .i64 (1024 + I), .int .u64 (N * 1024 + 223)] 71) := ⟨_, rfl⟩
      have HA : Hid (Below w.heap.size w wa) := by rw [hwa]; exact (Below.refl _ _).alloc (Nat.le_refl _) _
      have HC : Hid (Cl wa (some ⟨w.heap.size, 0, none⟩) 2 2 w.heap.size 0 (bgX1 I N)) := by
        rw [hwa]; exact cl_two _ _ _ _ _ _ _ (heap_alloc_new w _) (bgX1 I N) rfl rfl (by omega) (by omega) (by omega) (by omega) (by omega) (by omega) (by omega) (by omega)
      have HWA := hid hwa
      clear hwa
      go_wp2_with (first
        | (go_at_call 19; (with_reducible refine (c_Place level 2 (by decide) (by decide) l0 l1 _).mono ?_); rintro e w3 ⟨rfl, hw3⟩; obtain rfl := hw3.symm; rw [hl])
        | (go_at_call 43; rw [← HWA.out]; refine (c_Memory wa 4 (by decide) (by decide) _ 2 2 w.heap.size 0 (bgX1 I N) HC.out).mono ?_; rintro r w1 ⟨p, q, U, rfl, ht, hb, hu⟩; obtain ⟨S, T, h1, h2, h3, h4⟩ := ht; have HM := hid h1; have HB := hid hb; clear h1 h2 h3 h4 hb hu)
        | (go_at_call 37; refine (c_Guest _ S p 4 _ (Mem.below HM.out ((Below.refl _ _).alloc (Nat.le_refl _) _)) 1 (I * 2097152 + O) 2 (by decide) (by decide) (by omega) (by omega) _ _ _ HG.out).mono ?_; rintro r w2 ⟨rfl, hb2⟩; have HB2 := hid hb2; clear hb2)
        | (go_at_call 40; refine (c_awake4 w2).mono ?_; rintro r w6 ⟨rfl, hb6⟩; have HB6 := hid hb6; clear hb6))
      go_ret
      have a1 := HA.out.trans (HB.out.mono HA.out.size)
      have a2 := (a1.alloc a1.size _).trans (HB2.out.mono (by have := a1.size; simp; omega))
      exact ⟨rfl, a2.trans (HB6.out.mono a2.size)⟩
    · have HG : Hid (gst (rdm 4 (fcl 4 (bgX1 I N) 2)) 1 (I * 2097152 + O) 2 = (0, 0, 2)) := by
        show _ = _
        rw [big1 i0 i1 n0 n1 O o0 o1]; rw [if_pos hm]
      obtain ⟨wa, hwa⟩ : ∃ wa, wa = w.alloc (.cells #[.int .i64 512, .int .u64 2049, .int .i64 (1024 + I), .int .u64 (N * 1024 + 223)] 71) := ⟨_, rfl⟩
      have HA : Hid (Below w.heap.size w wa) := by rw [hwa]; exact (Below.refl _ _).alloc (Nat.le_refl _) _
      have HC : Hid (Cl wa (some ⟨w.heap.size, 0, none⟩) 2 2 w.heap.size 0 (bgX1 I N)) := by
        rw [hwa]; exact cl_two _ _ _ _ _ _ _ (heap_alloc_new w _) (bgX1 I N) rfl rfl (by omega) (by omega) (by omega) (by omega) (by omega) (by omega) (by omega) (by omega)
      have HWA := hid hwa
      clear hwa
      go_wp2_with (first
        | (go_at_call 19; (with_reducible refine (c_Place level 2 (by decide) (by decide) l0 l1 _).mono ?_); rintro e w3 ⟨rfl, hw3⟩; obtain rfl := hw3.symm; rw [hl])
        | (go_at_call 43; rw [← HWA.out]; refine (c_Memory wa 4 (by decide) (by decide) _ 2 2 w.heap.size 0 (bgX1 I N) HC.out).mono ?_; rintro r w1 ⟨p, q, U, rfl, ht, hb, hu⟩; obtain ⟨S, T, h1, h2, h3, h4⟩ := ht; have HM := hid h1; have HB := hid hb; clear h1 h2 h3 h4 hb hu)
        | (go_at_call 37; refine (c_Guest _ S p 4 _ (Mem.below HM.out ((Below.refl _ _).alloc (Nat.le_refl _) _)) 1 (I * 2097152 + O) 2 (by decide) (by decide) (by omega) (by omega) _ _ _ HG.out).mono ?_; rintro r w2 ⟨rfl, hb2⟩; have HB2 := hid hb2; clear hb2)
        | (go_at_call 40; refine (c_awake4 w2).mono ?_; rintro r w6 ⟨rfl, hb6⟩; have HB6 := hid hb6; clear hb6))
      go_ret
      have a1 := HA.out.trans (HB.out.mono HA.out.size)
      have a2 := (a1.alloc a1.size _).trans (HB2.out.mono (by have := a1.size; simp; omega))
      exact ⟨rfl, a2.trans (HB6.out.mono a2.size)⟩
  · obtain ⟨O, hO⟩ : ∃ O, off % 1073741824 = O := ⟨_, rfl⟩
    have o0 : 0 ≤ O := by omega
    have o1 : O < 1073741824 := by omega
    by_cases hm : N % 262144 = 0
    · have HG : Hid (gst (rdm 4 (fcl 4 (bgX2 I N) 1)) 1 (I * 1073741824 + O) 2 = (N * 4096 + O, 14, 0)) := by
        show _ = _
        rw [big2 i0 i1 n0 n1 O o0 o1]; rw [if_neg (by rw [hm]; decide)]
      obtain ⟨wa, hwa⟩ : ∃ wa, wa = w.alloc (.cells #[.int .i64 (512 + I), .int .u64 (N * 1024 + 223)] 71) := ⟨_, rfl⟩
      have HA : Hid (Below w.heap.size w wa) := by rw [hwa]; exact (Below.refl _ _).alloc (Nat.le_refl _) _
      have HC : Hid (Cl wa (some ⟨w.heap.size, 0, none⟩) 1 1 w.heap.size 0 (bgX2 I N)) := by
        rw [hwa]; exact cl_one _ _ _ _ _ (heap_alloc_new w _) (by omega) (by omega) (by omega) (by omega)
      have HWA := hid hwa
      clear hwa
      go_wp2_with (first
        | (go_at_call 19; (with_reducible refine (c_Place level 2 (by decide) (by decide) l0 l1 _).mono ?_); rintro e w3 ⟨rfl, hw3⟩; obtain rfl := hw3.symm; rw [hl])
        | (go_at_call 43; rw [← HWA.out]; refine (c_Memory wa 4 (by decide) (by decide) _ 1 1 w.heap.size 0 (bgX2 I N) HC.out).mono ?_; rintro r w1 ⟨p, q, U, rfl, ht, hb, hu⟩; obtain ⟨S, T, h1, h2, h3, h4⟩ := ht; have HM := hid h1; have HB := hid hb; clear h1 h2 h3 h4 hb hu)
        | (go_at_call 37; refine (c_Guest _ S p 4 _ (Mem.below HM.out ((Below.refl _ _).alloc (Nat.le_refl _) _)) 1 (I * 1073741824 + O) 2 (by decide) (by decide) (by omega) (by omega) _ _ _ HG.out).mono ?_; rintro r w2 ⟨rfl, hb2⟩; have HB2 := hid hb2; clear hb2)
        | (go_at_call 40; refine (c_awake4 w2).mono ?_; rintro r w6 ⟨rfl, hb6⟩; have HB6 := hid hb6; clear hb6))
      go_ret
      have a1 := HA.out.trans (HB.out.mono HA.out.size)
      have a2 := (a1.alloc a1.size _).trans (HB2.out.mono (by have := a1.size; simp; omega))
      exact ⟨rfl, a2.trans (HB6.out.mono a2.size)⟩
    · have HG : Hid (gst (rdm 4 (fcl 4 (bgX2 I N) 1)) 1 (I * 1073741824 + O) 2 = (0, 0, 2)) := by
        show _ = _
        rw [big2 i0 i1 n0 n1 O o0 o1]; rw [if_pos hm]
      obtain ⟨wa, hwa⟩ : ∃ wa, wa = w.alloc (.cells #[.int .i64 (512 + I), .int .u64 (N * 1024 + 223)] 71) := ⟨_, rfl⟩
      have HA : Hid (Below w.heap.size w wa) := by rw [hwa]; exact (Below.refl _ _).alloc (Nat.le_refl _) _
      have HC : Hid (Cl wa (some ⟨w.heap.size, 0, none⟩) 1 1 w.heap.size 0 (bgX2 I N)) := by
        rw [hwa]; exact cl_one _ _ _ _ _ (heap_alloc_new w _) (by omega) (by omega) (by omega) (by omega)
      have HWA := hid hwa
      clear hwa
      go_wp2_with (first
        | (go_at_call 19; (with_reducible refine (c_Place level 2 (by decide) (by decide) l0 l1 _).mono ?_); rintro e w3 ⟨rfl, hw3⟩; obtain rfl := hw3.symm; rw [hl])
        | (go_at_call 43; rw [← HWA.out]; refine (c_Memory wa 4 (by decide) (by decide) _ 1 1 w.heap.size 0 (bgX2 I N) HC.out).mono ?_; rintro r w1 ⟨p, q, U, rfl, ht, hb, hu⟩; obtain ⟨S, T, h1, h2, h3, h4⟩ := ht; have HM := hid h1; have HB := hid hb; clear h1 h2 h3 h4 hb hu)
        | (go_at_call 37; refine (c_Guest _ S p 4 _ (Mem.below HM.out ((Below.refl _ _).alloc (Nat.le_refl _) _)) 1 (I * 1073741824 + O) 2 (by decide) (by decide) (by omega) (by omega) _ _ _ HG.out).mono ?_; rintro r w2 ⟨rfl, hb2⟩; have HB2 := hid hb2; clear hb2)
        | (go_at_call 40; refine (c_awake4 w2).mono ?_; rintro r w6 ⟨rfl, hb6⟩; have HB6 := hid hb6; clear hb6))
      go_ret
      have a1 := HA.out.trans (HB.out.mono HA.out.size)
      have a2 := (a1.alloc a1.size _).trans (HB2.out.mono (by have := a1.size; simp; omega))
      exact ⟨rfl, a2.trans (HB6.out.mono a2.size)⟩
end Go.Proofs.Ytfoafgbhelgjcaa.C
