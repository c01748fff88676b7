/- PageStores answers true: the walk. -/
import Derived.Test.YtfoafgbhelgjcaaMC4
namespace Go.Proofs.Ytfoafgbhelgjcaa.C
open Go.RowKit
set_option linter.unusedVariables false
set_option maxRecDepth 100000

set_option maxHeartbeats 1000000 in
set_option maxRecDepth 100000 in
theorem w_PageStores_f (w : World) (ad : Option Addr) (la cap ab ao : Nat) (X : Nat → Int × Int) (hX : Cl w ad la cap ab ao X) (a b rt : Int) (c d e : Bool) (hrt : (b = 0 ∧ rt = 1) ∨ (b ≠ 0 ∧ rt = b)) (b0 : 0 ≤ rt) (b1 : rt < 18446744073709551616) (gpa : Int) (g0 : 0 ≤ gpa) (g1 : gpa < 18446744073709551616) (P f : Int) (hf : f ≠ 0)
    (q3 : gst (rdm 8 (fcl 8 X la)) rt gpa 3 = (0, 0, f)) (q2 : gst (rdm 8 (fcl 8 X la)) rt gpa 2 = (0, 0, f)) (q1 : gst (rdm 8 (fcl 8 X la)) rt gpa 1 = (0, 0, f)) :
    Calls Try.prog 14 #[.agg #[.slice ad la cap, .int .u64 a, .int .u64 b, .bool c, .bool d, .bool e], .int .u64 gpa] w fun r w' => r = .returned (.bool true) ∧ Below w.heap.size w w' := by
  obtain ⟨wc, hwc⟩ : ∃ wc, wc = w.alloc (.cells #[.slice ad la cap, .int .u64 a, .int .u64 b, .bool c, .bool d, .bool e] 85) := ⟨_, rfl⟩
  have HA : Hid (Below w.heap.size w wc) := by rw [hwc]; exact (Below.refl _ _).alloc (Nat.le_refl _) _
  have HX : Hid (Cl wc ad la cap ab ao X) := Cl.below hX HA.out
  have HC : Hid (wc.heap[w.heap.size]? = some (.cells #[.slice ad la cap, .int .u64 a, .int .u64 b, .bool c, .bool d, .bool e] 85 (0, 0))) := by rw [hwc]; exact heap_alloc_new w _
  have HWC := hid hwc
  have Q3 := hid q3
  have Q2 := hid q2
  have Q1 := hid q1
  clear hX hwc q3 q2 q1
  go_enter Try.func14, Try.ntmps14
  rcases hrt with ⟨hb, hrt⟩ | ⟨hb, hrt⟩
  · subst hb hrt
    go_wp2_with (first
      | (go_at_call 36; rw [← HWC.out]; refine (c_memory wc ad la cap ab ao X HX.out a _ c d e).mono ?_; rintro r w1 ⟨p, q, U, rfl, ht, hb1, hu⟩; have HCC := hid ((hb1.block _ (lt_of_block HC.out)).trans HC.out); have HCD := hid ((Below.heap_alloc w1 (.cells #[.pointer (some ⟨p, 0, none⟩), .pointer (some ⟨q, 0, none⟩)] 29) _ (lt_of_block HCC.out)).trans HCC.out); have k2 : (w1.alloc (.cells #[.pointer (some ⟨p, 0, none⟩), .pointer (some ⟨q, 0, none⟩)] 29)).cell? ⟨w.heap.size, 2, none⟩ = some (.int .u64 0) := (by rw [cell_of_row _ _ 2 _ _ _ HCD.out]; rfl); obtain ⟨S, T, h1, h2, h3, h4⟩ := ht; have HM : Hid (Mem (w1.alloc (.cells #[.pointer (some ⟨p, 0, none⟩), .pointer (some ⟨q, 0, none⟩)] 29)) S p 0 8 _) := Mem.below h1 ((Below.refl _ _).alloc (Nat.le_refl _) _); have HB : Hid (Below w.heap.size w (w1.alloc (.cells #[.pointer (some ⟨p, 0, none⟩), .pointer (some ⟨q, 0, none⟩)] 29))) := (HA.out.trans (hb1.mono HA.out.size)).alloc (HA.out.trans (hb1.mono HA.out.size)).size _; have HT := hid (TB.new w1 p q); have t0 := HT.out.c0; clear h1 h2 h3 h4 hb1 hu)
      | (go_at_call 37; (with_reducible refine (c_Guest (w1.alloc (.cells #[.pointer (some ⟨p, 0, none⟩), .pointer (some ⟨q, 0, none⟩)] 29)) S p 8 _ HM.out _ gpa 3 b0 b1 g0 g1 _ _ _ Q3.out).mono ?_); rintro r w3 ⟨rfl, hb3⟩; have HB3 := hid (HB.out.trans (hb3.mono HB.out.size)); have HM3 := hid (Mem.below HM.out hb3); have HT3 := hid (TB.below HT.out hb3); have t3 := HT3.out.c0; clear hb3)
      | (go_at_call 37; (with_reducible refine (c_Guest w3 S p 8 _ HM3.out _ gpa 2 b0 b1 g0 g1 _ _ _ Q2.out).mono ?_); rintro r w4 ⟨rfl, hb4⟩; have HB4 := hid (HB3.out.trans (hb4.mono HB3.out.size)); have HM4 := hid (Mem.below HM3.out hb4); have HT4 := hid (TB.below HT3.out hb4); have t4 := HT4.out.c0; clear hb4)
      | (go_at_call 37; (with_reducible refine (c_Guest w4 S p 8 _ HM4.out _ gpa 1 b0 b1 g0 g1 _ _ _ Q1.out).mono ?_); rintro r w5 ⟨rfl, hb5⟩; have HB5 := hid (HB4.out.trans (hb5.mono HB4.out.size)); clear hb5)
      | (go_at_call 40; refine (c_awake4 w5).mono ?_; rintro r w6 ⟨rfl, hb6⟩; have HB6 := hid (HB5.out.trans (hb6.mono HB5.out.size)); clear hb6))
    go_ret
    exact ⟨rfl, HB6.out⟩
  · subst hrt
    go_wp2_with (first
      | (go_at_call 36; rw [← HWC.out]; refine (c_memory wc ad la cap ab ao X HX.out a _ c d e).mono ?_; rintro r w1 ⟨p, q, U, rfl, ht, hb1, hu⟩; have HCC := hid ((hb1.block _ (lt_of_block HC.out)).trans HC.out); have HCD := hid ((Below.heap_alloc w1 (.cells #[.pointer (some ⟨p, 0, none⟩), .pointer (some ⟨q, 0, none⟩)] 29) _ (lt_of_block HCC.out)).trans HCC.out); have k2 : (w1.alloc (.cells #[.pointer (some ⟨p, 0, none⟩), .pointer (some ⟨q, 0, none⟩)] 29)).cell? ⟨w.heap.size, 2, none⟩ = some (.int .u64 rt) := (by rw [cell_of_row _ _ 2 _ _ _ HCD.out]; rfl); obtain ⟨S, T, h1, h2, h3, h4⟩ := ht; have HM : Hid (Mem (w1.alloc (.cells #[.pointer (some ⟨p, 0, none⟩), .pointer (some ⟨q, 0, none⟩)] 29)) S p 0 8 _) := Mem.below h1 ((Below.refl _ _).alloc (Nat.le_refl _) _); have HB : Hid (Below w.heap.size w (w1.alloc (.cells #[.pointer (some ⟨p, 0, none⟩), .pointer (some ⟨q, 0, none⟩)] 29))) := (HA.out.trans (hb1.mono HA.out.size)).alloc (HA.out.trans (hb1.mono HA.out.size)).size _; have HT := hid (TB.new w1 p q); have t0 := HT.out.c0; clear h1 h2 h3 h4 hb1 hu)
      | (go_at_call 37; (with_reducible refine (c_Guest (w1.alloc (.cells #[.pointer (some ⟨p, 0, none⟩), .pointer (some ⟨q, 0, none⟩)] 29)) S p 8 _ HM.out _ gpa 3 b0 b1 g0 g1 _ _ _ Q3.out).mono ?_); rintro r w3 ⟨rfl, hb3⟩; have HB3 := hid (HB.out.trans (hb3.mono HB.out.size)); have HM3 := hid (Mem.below HM.out hb3); have HT3 := hid (TB.below HT.out hb3); have t3 := HT3.out.c0; clear hb3)
      | (go_at_call 37; (with_reducible refine (c_Guest w3 S p 8 _ HM3.out _ gpa 2 b0 b1 g0 g1 _ _ _ Q2.out).mono ?_); rintro r w4 ⟨rfl, hb4⟩; have HB4 := hid (HB3.out.trans (hb4.mono HB3.out.size)); have HM4 := hid (Mem.below HM3.out hb4); have HT4 := hid (TB.below HT3.out hb4); have t4 := HT4.out.c0; clear hb4)
      | (go_at_call 37; (with_reducible refine (c_Guest w4 S p 8 _ HM4.out _ gpa 1 b0 b1 g0 g1 _ _ _ Q1.out).mono ?_); rintro r w5 ⟨rfl, hb5⟩; have HB5 := hid (HB4.out.trans (hb5.mono HB4.out.size)); clear hb5)
      | (go_at_call 40; refine (c_awake4 w5).mono ?_; rintro r w6 ⟨rfl, hb6⟩; have HB6 := hid (HB5.out.trans (hb6.mono HB5.out.size)); clear hb6))
    go_ret
    exact ⟨rfl, HB6.out⟩
set_option maxHeartbeats 1000000 in
set_option maxRecDepth 100000 in
theorem w_PageStores_a (w : World) (ad : Option Addr) (la cap ab ao : Nat) (X : Nat → Int × Int) (hX : Cl w ad la cap ab ao X) (a b rt : Int) (c d e : Bool) (hrt : (b = 0 ∧ rt = 1) ∨ (b ≠ 0 ∧ rt = b)) (b0 : 0 ≤ rt) (b1 : rt < 18446744073709551616) (gpa : Int) (g0 : 0 ≤ gpa) (g1 : gpa < 18446744073709551616) (P f : Int)
    (q3 : gst (rdm 8 (fcl 8 X la)) rt gpa 3 = (P, 14, 0)) (q2 : gst (rdm 8 (fcl 8 X la)) rt gpa 2 = (P, 14, 0)) (q1 : gst (rdm 8 (fcl 8 X la)) rt gpa 1 = (P, 14, 0)) :
    Calls Try.prog 14 #[.agg #[.slice ad la cap, .int .u64 a, .int .u64 b, .bool c, .bool d, .bool e], .int .u64 gpa] w fun r w' => r = .returned (.bool true) ∧ Below w.heap.size w w' := by
  obtain ⟨wc, hwc⟩ : ∃ wc, wc = w.alloc (.cells #[.slice ad la cap, .int .u64 a, .int .u64 b, .bool c, .bool d, .bool e] 85) := ⟨_, rfl⟩
  have HA : Hid (Below w.heap.size w wc) := by rw [hwc]; exact (Below.refl _ _).alloc (Nat.le_refl _) _
  have HX : Hid (Cl wc ad la cap ab ao X) := Cl.below hX HA.out
  have HC : Hid (wc.heap[w.heap.size]? = some (.cells #[.slice ad la cap, .int .u64 a, .int .u64 b, .bool c, .bool d, .bool e] 85 (0, 0))) := by rw [hwc]; exact heap_alloc_new w _
  have HWC := hid hwc
  have Q3 := hid q3
  have Q2 := hid q2
  have Q1 := hid q1
  clear hX hwc q3 q2 q1
  go_enter Try.func14, Try.ntmps14
  rcases hrt with ⟨hb, hrt⟩ | ⟨hb, hrt⟩
  · subst hb hrt
    go_wp2_with (first
      | (go_at_call 36; rw [← HWC.out]; refine (c_memory wc ad la cap ab ao X HX.out a _ c d e).mono ?_; rintro r w1 ⟨p, q, U, rfl, ht, hb1, hu⟩; have HCC := hid ((hb1.block _ (lt_of_block HC.out)).trans HC.out); have HCD := hid ((Below.heap_alloc w1 (.cells #[.pointer (some ⟨p, 0, none⟩), .pointer (some ⟨q, 0, none⟩)] 29) _ (lt_of_block HCC.out)).trans HCC.out); have k2 : (w1.alloc (.cells #[.pointer (some ⟨p, 0, none⟩), .pointer (some ⟨q, 0, none⟩)] 29)).cell? ⟨w.heap.size, 2, none⟩ = some (.int .u64 0) := (by rw [cell_of_row _ _ 2 _ _ _ HCD.out]; rfl); obtain ⟨S, T, h1, h2, h3, h4⟩ := ht; have HM : Hid (Mem (w1.alloc (.cells #[.pointer (some ⟨p, 0, none⟩), .pointer (some ⟨q, 0, none⟩)] 29)) S p 0 8 _) := Mem.below h1 ((Below.refl _ _).alloc (Nat.le_refl _) _); have HB : Hid (Below w.heap.size w (w1.alloc (.cells #[.pointer (some ⟨p, 0, none⟩), .pointer (some ⟨q, 0, none⟩)] 29))) := (HA.out.trans (hb1.mono HA.out.size)).alloc (HA.out.trans (hb1.mono HA.out.size)).size _; have HT := hid (TB.new w1 p q); have t0 := HT.out.c0; clear h1 h2 h3 h4 hb1 hu)
      | (go_at_call 37; (with_reducible refine (c_Guest (w1.alloc (.cells #[.pointer (some ⟨p, 0, none⟩), .pointer (some ⟨q, 0, none⟩)] 29)) S p 8 _ HM.out _ gpa 3 b0 b1 g0 g1 _ _ _ Q3.out).mono ?_); rintro r w3 ⟨rfl, hb3⟩; have HB3 := hid (HB.out.trans (hb3.mono HB.out.size)); have HM3 := hid (Mem.below HM.out hb3); have HT3 := hid (TB.below HT.out hb3); have t3 := HT3.out.c0; clear hb3)
      | (go_at_call 37; (with_reducible refine (c_Guest w3 S p 8 _ HM3.out _ gpa 2 b0 b1 g0 g1 _ _ _ Q2.out).mono ?_); rintro r w4 ⟨rfl, hb4⟩; have HB4 := hid (HB3.out.trans (hb4.mono HB3.out.size)); have HM4 := hid (Mem.below HM3.out hb4); have HT4 := hid (TB.below HT3.out hb4); have t4 := HT4.out.c0; clear hb4)
      | (go_at_call 37; (with_reducible refine (c_Guest w4 S p 8 _ HM4.out _ gpa 1 b0 b1 g0 g1 _ _ _ Q1.out).mono ?_); rintro r w5 ⟨rfl, hb5⟩; have HB5 := hid (HB4.out.trans (hb5.mono HB4.out.size)); clear hb5)
      | (go_at_call 40; refine (c_awake4 w5).mono ?_; rintro r w6 ⟨rfl, hb6⟩; have HB6 := hid (HB5.out.trans (hb6.mono HB5.out.size)); clear hb6))
    go_ret
    exact ⟨rfl, HB6.out⟩
  · subst hrt
    go_wp2_with (first
      | (go_at_call 36; rw [← HWC.out]; refine (c_memory wc ad la cap ab ao X HX.out a _ c d e).mono ?_; rintro r w1 ⟨p, q, U, rfl, ht, hb1, hu⟩; have HCC := hid ((hb1.block _ (lt_of_block HC.out)).trans HC.out); have HCD := hid ((Below.heap_alloc w1 (.cells #[.pointer (some ⟨p, 0, none⟩), .pointer (some ⟨q, 0, none⟩)] 29) _ (lt_of_block HCC.out)).trans HCC.out); have k2 : (w1.alloc (.cells #[.pointer (some ⟨p, 0, none⟩), .pointer (some ⟨q, 0, none⟩)] 29)).cell? ⟨w.heap.size, 2, none⟩ = some (.int .u64 rt) := (by rw [cell_of_row _ _ 2 _ _ _ HCD.out]; rfl); obtain ⟨S, T, h1, h2, h3, h4⟩ := ht; have HM : Hid (Mem (w1.alloc (.cells #[.pointer (some ⟨p, 0, none⟩), .pointer (some ⟨q, 0, none⟩)] 29)) S p 0 8 _) := Mem.below h1 ((Below.refl _ _).alloc (Nat.le_refl _) _); have HB : Hid (Below w.heap.size w (w1.alloc (.cells #[.pointer (some ⟨p, 0, none⟩), .pointer (some ⟨q, 0, none⟩)] 29))) := (HA.out.trans (hb1.mono HA.out.size)).alloc (HA.out.trans (hb1.mono HA.out.size)).size _; have HT := hid (TB.new w1 p q); have t0 := HT.out.c0; clear h1 h2 h3 h4 hb1 hu)
      | (go_at_call 37; (with_reducible refine (c_Guest (w1.alloc (.cells #[.pointer (some ⟨p, 0, none⟩), .pointer (some ⟨q, 0, none⟩)] 29)) S p 8 _ HM.out _ gpa 3 b0 b1 g0 g1 _ _ _ Q3.out).mono ?_); rintro r w3 ⟨rfl, hb3⟩; have HB3 := hid (HB.out.trans (hb3.mono HB.out.size)); have HM3 := hid (Mem.below HM.out hb3); have HT3 := hid (TB.below HT.out hb3); have t3 := HT3.out.c0; clear hb3)
      | (go_at_call 37; (with_reducible refine (c_Guest w3 S p 8 _ HM3.out _ gpa 2 b0 b1 g0 g1 _ _ _ Q2.out).mono ?_); rintro r w4 ⟨rfl, hb4⟩; have HB4 := hid (HB3.out.trans (hb4.mono HB3.out.size)); have HM4 := hid (Mem.below HM3.out hb4); have HT4 := hid (TB.below HT3.out hb4); have t4 := HT4.out.c0; clear hb4)
      | (go_at_call 37; (with_reducible refine (c_Guest w4 S p 8 _ HM4.out _ gpa 1 b0 b1 g0 g1 _ _ _ Q1.out).mono ?_); rintro r w5 ⟨rfl, hb5⟩; have HB5 := hid (HB4.out.trans (hb5.mono HB4.out.size)); clear hb5)
      | (go_at_call 40; refine (c_awake4 w5).mono ?_; rintro r w6 ⟨rfl, hb6⟩; have HB6 := hid (HB5.out.trans (hb6.mono HB5.out.size)); clear hb6))
    go_ret
    exact ⟨rfl, HB6.out⟩
set_option maxHeartbeats 1000000 in
set_option maxRecDepth 100000 in
theorem w_PageStores_b (w : World) (ad : Option Addr) (la cap ab ao : Nat) (X : Nat → Int × Int) (hX : Cl w ad la cap ab ao X) (a b rt : Int) (c d e : Bool) (hrt : (b = 0 ∧ rt = 1) ∨ (b ≠ 0 ∧ rt = b)) (b0 : 0 ≤ rt) (b1 : rt < 18446744073709551616) (gpa : Int) (g0 : 0 ≤ gpa) (g1 : gpa < 18446744073709551616) (P f : Int)
    (q3 : gst (rdm 8 (fcl 8 X la)) rt gpa 3 = (P, 6, 0)) (q2 : gst (rdm 8 (fcl 8 X la)) rt gpa 2 = (P, 6, 0)) (q1 : gst (rdm 8 (fcl 8 X la)) rt gpa 1 = (0, 0, 2)) :
    Calls Try.prog 14 #[.agg #[.slice ad la cap, .int .u64 a, .int .u64 b, .bool c, .bool d, .bool e], .int .u64 gpa] w fun r w' => r = .returned (.bool true) ∧ Below w.heap.size w w' := by
  obtain ⟨wc, hwc⟩ : ∃ wc, wc = w.alloc (.cells #[.slice ad la cap, .int .u64 a, .int .u64 b, .bool c, .bool d, .bool e] 85) := ⟨_, rfl⟩
  have HA : Hid (Below w.heap.size w wc) := by rw [hwc]; exact (Below.refl _ _).alloc (Nat.le_refl _) _
  have HX : Hid (Cl wc ad la cap ab ao X) := Cl.below hX HA.out
  have HC : Hid (wc.heap[w.heap.size]? = some (.cells #[.slice ad la cap, .int .u64 a, .int .u64 b, .bool c, .bool d, .bool e] 85 (0, 0))) := by rw [hwc]; exact heap_alloc_new w _
  have HWC := hid hwc
  have Q3 := hid q3
  have Q2 := hid q2
  have Q1 := hid q1
  clear hX hwc q3 q2 q1
  go_enter Try.func14, Try.ntmps14
  rcases hrt with ⟨hb, hrt⟩ | ⟨hb, hrt⟩
  · subst hb hrt
    go_wp2_with (first
      | (go_at_call 36; rw [← HWC.out]; refine (c_memory wc ad la cap ab ao X HX.out a _ c d e).mono ?_; rintro r w1 ⟨p, q, U, rfl, ht, hb1, hu⟩; have HCC := hid ((hb1.block _ (lt_of_block HC.out)).trans HC.out); have HCD := hid ((Below.heap_alloc w1 (.cells #[.pointer (some ⟨p, 0, none⟩), .pointer (some ⟨q, 0, none⟩)] 29) _ (lt_of_block HCC.out)).trans HCC.out); have k2 : (w1.alloc (.cells #[.pointer (some ⟨p, 0, none⟩), .pointer (some ⟨q, 0, none⟩)] 29)).cell? ⟨w.heap.size, 2, none⟩ = some (.int .u64 0) := (by rw [cell_of_row _ _ 2 _ _ _ HCD.out]; rfl); obtain ⟨S, T, h1, h2, h3, h4⟩ := ht; have HM : Hid (Mem (w1.alloc (.cells #[.pointer (some ⟨p, 0, none⟩), .pointer (some ⟨q, 0, none⟩)] 29)) S p 0 8 _) := Mem.below h1 ((Below.refl _ _).alloc (Nat.le_refl _) _); have HB : Hid (Below w.heap.size w (w1.alloc (.cells #[.pointer (some ⟨p, 0, none⟩), .pointer (some ⟨q, 0, none⟩)] 29))) := (HA.out.trans (hb1.mono HA.out.size)).alloc (HA.out.trans (hb1.mono HA.out.size)).size _; have HT := hid (TB.new w1 p q); have t0 := HT.out.c0; clear h1 h2 h3 h4 hb1 hu)
      | (go_at_call 37; (with_reducible refine (c_Guest (w1.alloc (.cells #[.pointer (some ⟨p, 0, none⟩), .pointer (some ⟨q, 0, none⟩)] 29)) S p 8 _ HM.out _ gpa 3 b0 b1 g0 g1 _ _ _ Q3.out).mono ?_); rintro r w3 ⟨rfl, hb3⟩; have HB3 := hid (HB.out.trans (hb3.mono HB.out.size)); have HM3 := hid (Mem.below HM.out hb3); have HT3 := hid (TB.below HT.out hb3); have t3 := HT3.out.c0; clear hb3)
      | (go_at_call 37; (with_reducible refine (c_Guest w3 S p 8 _ HM3.out _ gpa 2 b0 b1 g0 g1 _ _ _ Q2.out).mono ?_); rintro r w4 ⟨rfl, hb4⟩; have HB4 := hid (HB3.out.trans (hb4.mono HB3.out.size)); have HM4 := hid (Mem.below HM3.out hb4); have HT4 := hid (TB.below HT3.out hb4); have t4 := HT4.out.c0; clear hb4)
      | (go_at_call 37; (with_reducible refine (c_Guest w4 S p 8 _ HM4.out _ gpa 1 b0 b1 g0 g1 _ _ _ Q1.out).mono ?_); rintro r w5 ⟨rfl, hb5⟩; have HB5 := hid (HB4.out.trans (hb5.mono HB4.out.size)); clear hb5)
      | (go_at_call 40; refine (c_awake4 w5).mono ?_; rintro r w6 ⟨rfl, hb6⟩; have HB6 := hid (HB5.out.trans (hb6.mono HB5.out.size)); clear hb6))
    go_ret
    exact ⟨rfl, HB6.out⟩
  · subst hrt
    go_wp2_with (first
      | (go_at_call 36; rw [← HWC.out]; refine (c_memory wc ad la cap ab ao X HX.out a _ c d e).mono ?_; rintro r w1 ⟨p, q, U, rfl, ht, hb1, hu⟩; have HCC := hid ((hb1.block _ (lt_of_block HC.out)).trans HC.out); have HCD := hid ((Below.heap_alloc w1 (.cells #[.pointer (some ⟨p, 0, none⟩), .pointer (some ⟨q, 0, none⟩)] 29) _ (lt_of_block HCC.out)).trans HCC.out); have k2 : (w1.alloc (.cells #[.pointer (some ⟨p, 0, none⟩), .pointer (some ⟨q, 0, none⟩)] 29)).cell? ⟨w.heap.size, 2, none⟩ = some (.int .u64 rt) := (by rw [cell_of_row _ _ 2 _ _ _ HCD.out]; rfl); obtain ⟨S, T, h1, h2, h3, h4⟩ := ht; have HM : Hid (Mem (w1.alloc (.cells #[.pointer (some ⟨p, 0, none⟩), .pointer (some ⟨q, 0, none⟩)] 29)) S p 0 8 _) := Mem.below h1 ((Below.refl _ _).alloc (Nat.le_refl _) _); have HB : Hid (Below w.heap.size w (w1.alloc (.cells #[.pointer (some ⟨p, 0, none⟩), .pointer (some ⟨q, 0, none⟩)] 29))) := (HA.out.trans (hb1.mono HA.out.size)).alloc (HA.out.trans (hb1.mono HA.out.size)).size _; have HT := hid (TB.new w1 p q); have t0 := HT.out.c0; clear h1 h2 h3 h4 hb1 hu)
      | (go_at_call 37; (with_reducible refine (c_Guest (w1.alloc (.cells #[.pointer (some ⟨p, 0, none⟩), .pointer (some ⟨q, 0, none⟩)] 29)) S p 8 _ HM.out _ gpa 3 b0 b1 g0 g1 _ _ _ Q3.out).mono ?_); rintro r w3 ⟨rfl, hb3⟩; have HB3 := hid (HB.out.trans (hb3.mono HB.out.size)); have HM3 := hid (Mem.below HM.out hb3); have HT3 := hid (TB.below HT.out hb3); have t3 := HT3.out.c0; clear hb3)
      | (go_at_call 37; (with_reducible refine (c_Guest w3 S p 8 _ HM3.out _ gpa 2 b0 b1 g0 g1 _ _ _ Q2.out).mono ?_); rintro r w4 ⟨rfl, hb4⟩; have HB4 := hid (HB3.out.trans (hb4.mono HB3.out.size)); have HM4 := hid (Mem.below HM3.out hb4); have HT4 := hid (TB.below HT3.out hb4); have t4 := HT4.out.c0; clear hb4)
      | (go_at_call 37; (with_reducible refine (c_Guest w4 S p 8 _ HM4.out _ gpa 1 b0 b1 g0 g1 _ _ _ Q1.out).mono ?_); rintro r w5 ⟨rfl, hb5⟩; have HB5 := hid (HB4.out.trans (hb5.mono HB4.out.size)); clear hb5)
      | (go_at_call 40; refine (c_awake4 w5).mono ?_; rintro r w6 ⟨rfl, hb6⟩; have HB6 := hid (HB5.out.trans (hb6.mono HB5.out.size)); clear hb6))
    go_ret
    exact ⟨rfl, HB6.out⟩
set_option maxHeartbeats 1000000 in
set_option maxRecDepth 100000 in
theorem w_PageStores_c (w : World) (ad : Option Addr) (la cap ab ao : Nat) (X : Nat → Int × Int) (hX : Cl w ad la cap ab ao X) (a b rt : Int) (c d e : Bool) (hrt : (b = 0 ∧ rt = 1) ∨ (b ≠ 0 ∧ rt = b)) (b0 : 0 ≤ rt) (b1 : rt < 18446744073709551616) (gpa : Int) (g0 : 0 ≤ gpa) (g1 : gpa < 18446744073709551616) (P f : Int)
    (q3 : gst (rdm 8 (fcl 8 X la)) rt gpa 3 = (0, 0, 2)) (q2 : gst (rdm 8 (fcl 8 X la)) rt gpa 2 = (P, 10, 0)) (q1 : gst (rdm 8 (fcl 8 X la)) rt gpa 1 = (P, 10, 0)) :
    Calls Try.prog 14 #[.agg #[.slice ad la cap, .int .u64 a, .int .u64 b, .bool c, .bool d, .bool e], .int .u64 gpa] w fun r w' => r = .returned (.bool true) ∧ Below w.heap.size w w' := by
  obtain ⟨wc, hwc⟩ : ∃ wc, wc = w.alloc (.cells #[.slice ad la cap, .int .u64 a, .int .u64 b, .bool c, .bool d, .bool e] 85) := ⟨_, rfl⟩
  have HA : Hid (Below w.heap.size w wc) := by rw [hwc]; exact (Below.refl _ _).alloc (Nat.le_refl _) _
  have HX : Hid (Cl wc ad la cap ab ao X) := Cl.below hX HA.out
  have HC : Hid (wc.heap[w.heap.size]? = some (.cells #[.slice ad la cap, .int .u64 a, .int .u64 b, .bool c, .bool d, .bool e] 85 (0, 0))) := by rw [hwc]; exact heap_alloc_new w _
  have HWC := hid hwc
  have Q3 := hid q3
  have Q2 := hid q2
  have Q1 := hid q1
  clear hX hwc q3 q2 q1
  go_enter Try.func14, Try.ntmps14
  rcases hrt with ⟨hb, hrt⟩ | ⟨hb, hrt⟩
  · subst hb hrt
    go_wp2_with (first
      | (go_at_call 36; rw [← HWC.out]; refine (c_memory wc ad la cap ab ao X HX.out a _ c d e).mono ?_; rintro r w1 ⟨p, q, U, rfl, ht, hb1, hu⟩; have HCC := hid ((hb1.block _ (lt_of_block HC.out)).trans HC.out); have HCD := hid ((Below.heap_alloc w1 (.cells #[.pointer (some ⟨p, 0, none⟩), .pointer (some ⟨q, 0, none⟩)] 29) _ (lt_of_block HCC.out)).trans HCC.out); have k2 : (w1.alloc (.cells #[.pointer (some ⟨p, 0, none⟩), .pointer (some ⟨q, 0, none⟩)] 29)).cell? ⟨w.heap.size, 2, none⟩ = some (.int .u64 0) := (by rw [cell_of_row _ _ 2 _ _ _ HCD.out]; rfl); obtain ⟨S, T, h1, h2, h3, h4⟩ := ht; have HM : Hid (Mem (w1.alloc (.cells #[.pointer (some ⟨p, 0, none⟩), .pointer (some ⟨q, 0, none⟩)] 29)) S p 0 8 _) := Mem.below h1 ((Below.refl _ _).alloc (Nat.le_refl _) _); have HB : Hid (Below w.heap.size w (w1.alloc (.cells #[.pointer (some ⟨p, 0, none⟩), .pointer (some ⟨q, 0, none⟩)] 29))) := (HA.out.trans (hb1.mono HA.out.size)).alloc (HA.out.trans (hb1.mono HA.out.size)).size _; have HT := hid (TB.new w1 p q); have t0 := HT.out.c0; clear h1 h2 h3 h4 hb1 hu)
      | (go_at_call 37; (with_reducible refine (c_Guest (w1.alloc (.cells #[.pointer (some ⟨p, 0, none⟩), .pointer (some ⟨q, 0, none⟩)] 29)) S p 8 _ HM.out _ gpa 3 b0 b1 g0 g1 _ _ _ Q3.out).mono ?_); rintro r w3 ⟨rfl, hb3⟩; have HB3 := hid (HB.out.trans (hb3.mono HB.out.size)); have HM3 := hid (Mem.below HM.out hb3); have HT3 := hid (TB.below HT.out hb3); have t3 := HT3.out.c0; clear hb3)
      | (go_at_call 37; (with_reducible refine (c_Guest w3 S p 8 _ HM3.out _ gpa 2 b0 b1 g0 g1 _ _ _ Q2.out).mono ?_); rintro r w4 ⟨rfl, hb4⟩; have HB4 := hid (HB3.out.trans (hb4.mono HB3.out.size)); have HM4 := hid (Mem.below HM3.out hb4); have HT4 := hid (TB.below HT3.out hb4); have t4 := HT4.out.c0; clear hb4)
      | (go_at_call 37; (with_reducible refine (c_Guest w4 S p 8 _ HM4.out _ gpa 1 b0 b1 g0 g1 _ _ _ Q1.out).mono ?_); rintro r w5 ⟨rfl, hb5⟩; have HB5 := hid (HB4.out.trans (hb5.mono HB4.out.size)); clear hb5)
      | (go_at_call 40; refine (c_awake4 w5).mono ?_; rintro r w6 ⟨rfl, hb6⟩; have HB6 := hid (HB5.out.trans (hb6.mono HB5.out.size)); clear hb6))
    go_ret
    exact ⟨rfl, HB6.out⟩
  · subst hrt
    go_wp2_with (first
      | (go_at_call 36; rw [← HWC.out]; refine (c_memory wc ad la cap ab ao X HX.out a _ c d e).mono ?_; rintro r w1 ⟨p, q, U, rfl, ht, hb1, hu⟩; have HCC := hid ((hb1.block _ (lt_of_block HC.out)).trans HC.out); have HCD := hid ((Below.heap_alloc w1 (.cells #[.pointer (some ⟨p, 0, none⟩), .pointer (some ⟨q, 0, none⟩)] 29) _ (lt_of_block HCC.out)).trans HCC.out); have k2 : (w1.alloc (.cells #[.pointer (some ⟨p, 0, none⟩), .pointer (some ⟨q, 0, none⟩)] 29)).cell? ⟨w.heap.size, 2, none⟩ = some (.int .u64 rt) := (by rw [cell_of_row _ _ 2 _ _ _ HCD.out]; rfl); obtain ⟨S, T, h1, h2, h3, h4⟩ := ht; have HM : Hid (Mem (w1.alloc (.cells #[.pointer (some ⟨p, 0, none⟩), .pointer (some ⟨q, 0, none⟩)] 29)) S p 0 8 _) := Mem.below h1 ((Below.refl _ _).alloc (Nat.le_refl _) _); have HB : Hid (Below w.heap.size w (w1.alloc (.cells #[.pointer (some ⟨p, 0, none⟩), .pointer (some ⟨q, 0, none⟩)] 29))) := (HA.out.trans (hb1.mono HA.out.size)).alloc (HA.out.trans (hb1.mono HA.out.size)).size _; have HT := hid (TB.new w1 p q); have t0 := HT.out.c0; clear h1 h2 h3 h4 hb1 hu)
      | (go_at_call 37; (with_reducible refine (c_Guest (w1.alloc (.cells #[.pointer (some ⟨p, 0, none⟩), .pointer (some ⟨q, 0, none⟩)] 29)) S p 8 _ HM.out _ gpa 3 b0 b1 g0 g1 _ _ _ Q3.out).mono ?_); rintro r w3 ⟨rfl, hb3⟩; have HB3 := hid (HB.out.trans (hb3.mono HB.out.size)); have HM3 := hid (Mem.below HM.out hb3); have HT3 := hid (TB.below HT.out hb3); have t3 := HT3.out.c0; clear hb3)
      | (go_at_call 37; (with_reducible refine (c_Guest w3 S p 8 _ HM3.out _ gpa 2 b0 b1 g0 g1 _ _ _ Q2.out).mono ?_); rintro r w4 ⟨rfl, hb4⟩; have HB4 := hid (HB3.out.trans (hb4.mono HB3.out.size)); have HM4 := hid (Mem.below HM3.out hb4); have HT4 := hid (TB.below HT3.out hb4); have t4 := HT4.out.c0; clear hb4)
      | (go_at_call 37; (with_reducible refine (c_Guest w4 S p 8 _ HM4.out _ gpa 1 b0 b1 g0 g1 _ _ _ Q1.out).mono ?_); rintro r w5 ⟨rfl, hb5⟩; have HB5 := hid (HB4.out.trans (hb5.mono HB4.out.size)); clear hb5)
      | (go_at_call 40; refine (c_awake4 w5).mono ?_; rintro r w6 ⟨rfl, hb6⟩; have HB6 := hid (HB5.out.trans (hb6.mono HB5.out.size)); clear hb6))
    go_ret
    exact ⟨rfl, HB6.out⟩
set_option maxHeartbeats 1000000 in
set_option maxRecDepth 100000 in
theorem w_PageStores_d (w : World) (ad : Option Addr) (la cap ab ao : Nat) (X : Nat → Int × Int) (hX : Cl w ad la cap ab ao X) (a b rt : Int) (c d e : Bool) (hrt : (b = 0 ∧ rt = 1) ∨ (b ≠ 0 ∧ rt = b)) (b0 : 0 ≤ rt) (b1 : rt < 18446744073709551616) (gpa : Int) (g0 : 0 ≤ gpa) (g1 : gpa < 18446744073709551616) (P f : Int)
    (q3 : gst (rdm 8 (fcl 8 X la)) rt gpa 3 = (0, 0, 2)) (q2 : gst (rdm 8 (fcl 8 X la)) rt gpa 2 = (P, 2, 0)) (q1 : gst (rdm 8 (fcl 8 X la)) rt gpa 1 = (0, 0, 2)) :
    Calls Try.prog 14 #[.agg #[.slice ad la cap, .int .u64 a, .int .u64 b, .bool c, .bool d, .bool e], .int .u64 gpa] w fun r w' => r = .returned (.bool true) ∧ Below w.heap.size w w' := by
  obtain ⟨wc, hwc⟩ : ∃ wc, wc = w.alloc (.cells #[.slice ad la cap, .int .u64 a, .int .u64 b, .bool c, .bool d, .bool e] 85) := ⟨_, rfl⟩
  have HA : Hid (Below w.heap.size w wc) := by rw [hwc]; exact (Below.refl _ _).alloc (Nat.le_refl _) _
  have HX : Hid (Cl wc ad la cap ab ao X) := Cl.below hX HA.out
  have HC : Hid (wc.heap[w.heap.size]? = some (.cells #[.slice ad la cap, .int .u64 a, .int .u64 b, .bool c, .bool d, .bool e] 85 (0, 0))) := by rw [hwc]; exact heap_alloc_new w _
  have HWC := hid hwc
  have Q3 := hid q3
  have Q2 := hid q2
  have Q1 := hid q1
  clear hX hwc q3 q2 q1
  go_enter Try.func14, Try.ntmps14
  rcases hrt with ⟨hb, hrt⟩ | ⟨hb, hrt⟩
  · subst hb hrt
    go_wp2_with (first
      | (go_at_call 36; rw [← HWC.out]; refine (c_memory wc ad la cap ab ao X HX.out a _ c d e).mono ?_; rintro r w1 ⟨p, q, U, rfl, ht, hb1, hu⟩; have HCC := hid ((hb1.block _ (lt_of_block HC.out)).trans HC.out); have HCD := hid ((Below.heap_alloc w1 (.cells #[.pointer (some ⟨p, 0, none⟩), .pointer (some ⟨q, 0, none⟩)] 29) _ (lt_of_block HCC.out)).trans HCC.out); have k2 : (w1.alloc (.cells #[.pointer (some ⟨p, 0, none⟩), .pointer (some ⟨q, 0, none⟩)] 29)).cell? ⟨w.heap.size, 2, none⟩ = some (.int .u64 0) := (by rw [cell_of_row _ _ 2 _ _ _ HCD.out]; rfl); obtain ⟨S, T, h1, h2, h3, h4⟩ := ht; have HM : Hid (Mem (w1.alloc (.cells #[.pointer (some ⟨p, 0, none⟩), .pointer (some ⟨q, 0, none⟩)] 29)) S p 0 8 _) := Mem.below h1 ((Below.refl _ _).alloc (Nat.le_refl _) _); have HB : Hid (Below w.heap.size w (w1.alloc (.cells #[.pointer (some ⟨p, 0, none⟩), .pointer (some ⟨q, 0, none⟩)] 29))) := (HA.out.trans (hb1.mono HA.out.size)).alloc (HA.out.trans (hb1.mono HA.out.size)).size _; have HT := hid (TB.new w1 p q); have t0 := HT.out.c0; clear h1 h2 h3 h4 hb1 hu)
      | (go_at_call 37; (with_reducible refine (c_Guest (w1.alloc (.cells #[.pointer (some ⟨p, 0, none⟩), .pointer (some ⟨q, 0, none⟩)] 29)) S p 8 _ HM.out _ gpa 3 b0 b1 g0 g1 _ _ _ Q3.out).mono ?_); rintro r w3 ⟨rfl, hb3⟩; have HB3 := hid (HB.out.trans (hb3.mono HB.out.size)); have HM3 := hid (Mem.below HM.out hb3); have HT3 := hid (TB.below HT.out hb3); have t3 := HT3.out.c0; clear hb3)
      | (go_at_call 37; (with_reducible refine (c_Guest w3 S p 8 _ HM3.out _ gpa 2 b0 b1 g0 g1 _ _ _ Q2.out).mono ?_); rintro r w4 ⟨rfl, hb4⟩; have HB4 := hid (HB3.out.trans (hb4.mono HB3.out.size)); have HM4 := hid (Mem.below HM3.out hb4); have HT4 := hid (TB.below HT3.out hb4); have t4 := HT4.out.c0; clear hb4)
      | (go_at_call 37; (with_reducible refine (c_Guest w4 S p 8 _ HM4.out _ gpa 1 b0 b1 g0 g1 _ _ _ Q1.out).mono ?_); rintro r w5 ⟨rfl, hb5⟩; have HB5 := hid (HB4.out.trans (hb5.mono HB4.out.size)); clear hb5)
      | (go_at_call 40; refine (c_awake4 w5).mono ?_; rintro r w6 ⟨rfl, hb6⟩; have HB6 := hid (HB5.out.trans (hb6.mono HB5.out.size)); clear hb6))
    go_ret
    exact ⟨rfl, HB6.out⟩
  · subst hrt
    go_wp2_with (first
      | (go_at_call 36; rw [← HWC.out]; refine (c_memory wc ad la cap ab ao X HX.out a _ c d e).mono ?_; rintro r w1 ⟨p, q, U, rfl, ht, hb1, hu⟩; have HCC := hid ((hb1.block _ (lt_of_block HC.out)).trans HC.out); have HCD := hid ((Below.heap_alloc w1 (.cells #[.pointer (some ⟨p, 0, none⟩), .pointer (some ⟨q, 0, none⟩)] 29) _ (lt_of_block HCC.out)).trans HCC.out); have k2 : (w1.alloc (.cells #[.pointer (some ⟨p, 0, none⟩), .pointer (some ⟨q, 0, none⟩)] 29)).cell? ⟨w.heap.size, 2, none⟩ = some (.int .u64 rt) := (by rw [cell_of_row _ _ 2 _ _ _ HCD.out]; rfl); obtain ⟨S, T, h1, h2, h3, h4⟩ := ht; have HM : Hid (Mem (w1.alloc (.cells #[.pointer (some ⟨p, 0, none⟩), .pointer (some ⟨q, 0, none⟩)] 29)) S p 0 8 _) := Mem.below h1 ((Below.refl _ _).alloc (Nat.le_refl _) _); have HB : Hid (Below w.heap.size w (w1.alloc (.cells #[.pointer (some ⟨p, 0, none⟩), .pointer (some ⟨q, 0, none⟩)] 29))) := (HA.out.trans (hb1.mono HA.out.size)).alloc (HA.out.trans (hb1.mono HA.out.size)).size _; have HT := hid (TB.new w1 p q); have t0 := HT.out.c0; clear h1 h2 h3 h4 hb1 hu)
      | (go_at_call 37; (with_reducible refine (c_Guest (w1.alloc (.cells #[.pointer (some ⟨p, 0, none⟩), .pointer (some ⟨q, 0, none⟩)] 29)) S p 8 _ HM.out _ gpa 3 b0 b1 g0 g1 _ _ _ Q3.out).mono ?_); rintro r w3 ⟨rfl, hb3⟩; have HB3 := hid (HB.out.trans (hb3.mono HB.out.size)); have HM3 := hid (Mem.below HM.out hb3); have HT3 := hid (TB.below HT.out hb3); have t3 := HT3.out.c0; clear hb3)
      | (go_at_call 37; (with_reducible refine (c_Guest w3 S p 8 _ HM3.out _ gpa 2 b0 b1 g0 g1 _ _ _ Q2.out).mono ?_); rintro r w4 ⟨rfl, hb4⟩; have HB4 := hid (HB3.out.trans (hb4.mono HB3.out.size)); have HM4 := hid (Mem.below HM3.out hb4); have HT4 := hid (TB.below HT3.out hb4); have t4 := HT4.out.c0; clear hb4)
      | (go_at_call 37; (with_reducible refine (c_Guest w4 S p 8 _ HM4.out _ gpa 1 b0 b1 g0 g1 _ _ _ Q1.out).mono ?_); rintro r w5 ⟨rfl, hb5⟩; have HB5 := hid (HB4.out.trans (hb5.mono HB4.out.size)); clear hb5)
      | (go_at_call 40; refine (c_awake4 w5).mono ?_; rintro r w6 ⟨rfl, hb6⟩; have HB6 := hid (HB5.out.trans (hb6.mono HB5.out.size)); clear hb6))
    go_ret
    exact ⟨rfl, HB6.out⟩
set_option maxHeartbeats 1000000 in
set_option maxRecDepth 100000 in
theorem w_PageStores_e (w : World) (ad : Option Addr) (la cap ab ao : Nat) (X : Nat → Int × Int) (hX : Cl w ad la cap ab ao X) (a b rt : Int) (c d e : Bool) (hrt : (b = 0 ∧ rt = 1) ∨ (b ≠ 0 ∧ rt = b)) (b0 : 0 ≤ rt) (b1 : rt < 18446744073709551616) (gpa : Int) (g0 : 0 ≤ gpa) (g1 : gpa < 18446744073709551616) (P f : Int)
    (q3 : gst (rdm 8 (fcl 8 X la)) rt gpa 3 = (0, 0, 2)) (q2 : gst (rdm 8 (fcl 8 X la)) rt gpa 2 = (0, 0, 2)) (q1 : gst (rdm 8 (fcl 8 X la)) rt gpa 1 = (P, 8, 0)) :
    Calls Try.prog 14 #[.agg #[.slice ad la cap, .int .u64 a, .int .u64 b, .bool c, .bool d, .bool e], .int .u64 gpa] w fun r w' => r = .returned (.bool true) ∧ Below w.heap.size w w' := by
  obtain ⟨wc, hwc⟩ : ∃ wc, wc = w.alloc (.cells #[.slice ad la cap, .int .u64 a, .int .u64 b, .bool c, .bool d, .bool e] 85) := ⟨_, rfl⟩
  have HA : Hid (Below w.heap.size w wc) := by rw [hwc]; exact (Below.refl _ _).alloc (Nat.le_refl _) _
  have HX : Hid (Cl wc ad la cap ab ao X) := Cl.below hX HA.out
  have HC : Hid (wc.heap[w.heap.size]? = some (.cells #[.slice ad la cap, .int .u64 a, .int .u64 b, .bool c, .bool d, .bool e] 85 (0, 0))) := by rw [hwc]; exact heap_alloc_new w _
  have HWC := hid hwc
  have Q3 := hid q3
  have Q2 := hid q2
  have Q1 := hid q1
  clear hX hwc q3 q2 q1
  go_enter Try.func14, Try.ntmps14
  rcases hrt with ⟨hb, hrt⟩ | ⟨hb, hrt⟩
  · subst hb hrt
    go_wp2_with (first
      | (go_at_call 36; rw [← HWC.out]; refine (c_memory wc ad la cap ab ao X HX.out a _ c d e).mono ?_; rintro r w1 ⟨p, q, U, rfl, ht, hb1, hu⟩; have HCC := hid ((hb1.block _ (lt_of_block HC.out)).trans HC.out); have HCD := hid ((Below.heap_alloc w1 (.cells #[.pointer (some ⟨p, 0, none⟩), .pointer (some ⟨q, 0, none⟩)] 29) _ (lt_of_block HCC.out)).trans HCC.out); have k2 : (w1.alloc (.cells #[.pointer (some ⟨p, 0, none⟩), .pointer (some ⟨q, 0, none⟩)] 29)).cell? ⟨w.heap.size, 2, none⟩ = some (.int .u64 0) := (by rw [cell_of_row _ _ 2 _ _ _ HCD.out]; rfl); obtain ⟨S, T, h1, h2, h3, h4⟩ := ht; have HM : Hid (Mem (w1.alloc (.cells #[.pointer (some ⟨p, 0, none⟩), .pointer (some ⟨q, 0, none⟩)] 29)) S p 0 8 _) := Mem.below h1 ((Below.refl _ _).alloc (Nat.le_refl _) _); have HB : Hid (Below w.heap.size w (w1.alloc (.cells #[.pointer (some ⟨p, 0, none⟩), .pointer (some ⟨q, 0, none⟩)] 29))) := (HA.out.trans (hb1.mono HA.out.size)).alloc (HA.out.trans (hb1.mono HA.out.size)).size _; have HT := hid (TB.new w1 p q); have t0 := HT.out.c0; clear h1 h2 h3 h4 hb1 hu)
      | (go_at_call 37; (with_reducible refine (c_Guest (w1.alloc (.cells #[.pointer (some ⟨p, 0, none⟩), .pointer (some ⟨q, 0, none⟩)] 29)) S p 8 _ HM.out _ gpa 3 b0 b1 g0 g1 _ _ _ Q3.out).mono ?_); rintro r w3 ⟨rfl, hb3⟩; have HB3 := hid (HB.out.trans (hb3.mono HB.out.size)); have HM3 := hid (Mem.below HM.out hb3); have HT3 := hid (TB.below HT.out hb3); have t3 := HT3.out.c0; clear hb3)
      | (go_at_call 37; (with_reducible refine (c_Guest w3 S p 8 _ HM3.out _ gpa 2 b0 b1 g0 g1 _ _ _ Q2.out).mono ?_); rintro r w4 ⟨rfl, hb4⟩; have HB4 := hid (HB3.out.trans (hb4.mono HB3.out.size)); have HM4 := hid (Mem.below HM3.out hb4); have HT4 := hid (TB.below HT3.out hb4); have t4 := HT4.out.c0; clear hb4)
      | (go_at_call 37; (with_reducible refine (c_Guest w4 S p 8 _ HM4.out _ gpa 1 b0 b1 g0 g1 _ _ _ Q1.out).mono ?_); rintro r w5 ⟨rfl, hb5⟩; have HB5 := hid (HB4.out.trans (hb5.mono HB4.out.size)); clear hb5)
      | (go_at_call 40; refine (c_awake4 w5).mono ?_; rintro r w6 ⟨rfl, hb6⟩; have HB6 := hid (HB5.out.trans (hb6.mono HB5.out.size)); clear hb6))
    go_ret
    exact ⟨rfl, HB6.out⟩
  · subst hrt
    go_wp2_with (first
      | (go_at_call 36; rw [← HWC.out]; refine (c_memory wc ad la cap ab ao X HX.out a _ c d e).mono ?_; rintro r w1 ⟨p, q, U, rfl, ht, hb1, hu⟩; have HCC := hid ((hb1.block _ (lt_of_block HC.out)).trans HC.out); have HCD := hid ((Below.heap_alloc w1 (.cells #[.pointer (some ⟨p, 0, none⟩), .pointer (some ⟨q, 0, none⟩)] 29) _ (lt_of_block HCC.out)).trans HCC.out); have k2 : (w1.alloc (.cells #[.pointer (some ⟨p, 0, none⟩), .pointer (some ⟨q, 0, none⟩)] 29)).cell? ⟨w.heap.size, 2, none⟩ = some (.int .u64 rt) := (by rw [cell_of_row _ _ 2 _ _ _ HCD.out]; rfl); obtain ⟨S, T, h1, h2, h3, h4⟩ := ht; have HM : Hid (Mem (w1.alloc (.cells #[.pointer (some ⟨p, 0, none⟩), .pointer (some ⟨q, 0, none⟩)] 29)) S p 0 8 _) := Mem.below h1 ((Below.refl _ _).alloc (Nat.le_refl _) _); have HB : Hid (Below w.heap.size w (w1.alloc (.cells #[.pointer (some ⟨p, 0, none⟩), .pointer (some ⟨q, 0, none⟩)] 29))) := (HA.out.trans (hb1.mono HA.out.size)).alloc (HA.out.trans (hb1.mono HA.out.size)).size _; have HT := hid (TB.new w1 p q); have t0 := HT.out.c0; clear h1 h2 h3 h4 hb1 hu)
      | (go_at_call 37; (with_reducible refine (c_Guest (w1.alloc (.cells #[.pointer (some ⟨p, 0, none⟩), .pointer (some ⟨q, 0, none⟩)] 29)) S p 8 _ HM.out _ gpa 3 b0 b1 g0 g1 _ _ _ Q3.out).mono ?_); rintro r w3 ⟨rfl, hb3⟩; have HB3 := hid (HB.out.trans (hb3.mono HB.out.size)); have HM3 := hid (Mem.below HM.out hb3); have HT3 := hid (TB.below HT.out hb3); have t3 := HT3.out.c0; clear hb3)
      | (go_at_call 37; (with_reducible refine (c_Guest w3 S p 8 _ HM3.out _ gpa 2 b0 b1 g0 g1 _ _ _ Q2.out).mono ?_); rintro r w4 ⟨rfl, hb4⟩; have HB4 := hid (HB3.out.trans (hb4.mono HB3.out.size)); have HM4 := hid (Mem.below HM3.out hb4); have HT4 := hid (TB.below HT3.out hb4); have t4 := HT4.out.c0; clear hb4)
      | (go_at_call 37; (with_reducible refine (c_Guest w4 S p 8 _ HM4.out _ gpa 1 b0 b1 g0 g1 _ _ _ Q1.out).mono ?_); rintro r w5 ⟨rfl, hb5⟩; have HB5 := hid (HB4.out.trans (hb5.mono HB4.out.size)); clear hb5)
      | (go_at_call 40; refine (c_awake4 w5).mono ?_; rintro r w6 ⟨rfl, hb6⟩; have HB6 := hid (HB5.out.trans (hb6.mono HB5.out.size)); clear hb6))
    go_ret
    exact ⟨rfl, HB6.out⟩
end Go.Proofs.Ytfoafgbhelgjcaa.C
