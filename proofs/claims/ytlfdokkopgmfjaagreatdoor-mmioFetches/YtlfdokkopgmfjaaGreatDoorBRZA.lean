/- The reference's Expand, row by row. New blocks alone. -/
import Derived.Test.YtlfdokkopgmfjaaGreatDoorMB4
namespace Go.Proofs.YtlfdokkopgmfjaaGreatDoor.B
open Go.RowKit
set_option linter.unusedVariables false
set_option maxRecDepth 100000
set_option maxHeartbeats 1000000 in
theorem y_0 (c : Int) (h0 : 0 ≤ c) (h1 : c ≤ 65535) (w : World) (hq : c % 4 = 0) (hf : c / 8192 % 8 = 0) (hn : cStack c ≠ 0) :
    Calls Tryz.prog 18 #[.int .u16 c] w fun e w' => e = .returned (.tuple #[.int .u32 (encF ⟨9, 1, cS2 c, 2, 0, cStack c, 0, false⟩).1, .bool (encF ⟨9, 1, cS2 c, 2, 0, cStack c, 0, false⟩).2]) ∧ Below w.heap.size w w' := by
  have hR := r_R ⟨9, 1, cS2 c, 2, 0, cStack c, 0, false⟩
  obtain ⟨x, hx⟩ : ∃ x, x = encF ⟨9, 1, cS2 c, 2, 0, cStack c, 0, false⟩ := ⟨_, rfl⟩
  rw [← hx] at hR ⊢
  clear hx
  obtain ⟨x, b⟩ := x
  have T0 : Hid True := trivial
  have T1 : Hid True := trivial
  have hn1 : c / 128 % 16 * 64 + c / 2048 % 4 * 16 + c / 32 % 2 * 8 + c / 64 % 2 * 4 ≠ 0 := hn
  go_enter Tryz.func18, Tryz.ntmps18
  go_wp2_with (first | (go_at_call 35; (with_reducible first | refine (f_11_7_0 c h0 h1 _).mono ?_ | refine (f_6_2_0 c h0 h1 _).mono ?_ | refine (f_9_7_0 c h0 h1 _).mono ?_ | refine (f_4_2_0 c h0 h1 _).mono ?_ | refine (f_12_12_5 c h0 h1 _).mono ?_ | refine (f_5_5_6 c h0 h1 _).mono ?_ | refine (f_12_10_3 c h0 h1 _).mono ?_ | refine (f_6_6_2 c h0 h1 _).mono ?_ | refine (f_6_5_6 c h0 h1 _).mono ?_ | refine (f_12_12_8 c h0 h1 _).mono ?_ | refine (f_2_2_5 c h0 h1 _).mono ?_ | refine (f_11_10_3 c h0 h1 _).mono ?_ | refine (f_4_3_1 c h0 h1 _).mono ?_ | refine (f_1_0_0 c h0 h1 _).mono ?_ | refine (f_15_13_0 c h0 h1 _).mono ?_ | refine (f_10_7_6 c h0 h1 _).mono ?_ | refine (f_12_11_4 c h0 h1 _).mono ?_ | refine (f_5_5_3 c h0 h1 _).mono ?_); rintro e w0 ⟨rfl, rfl⟩) | (go_at_call 36; have t := T0; clear t T0; (refine (sg_6 (c / 4096 % 2 * 32 + c / 4 % 32) (by omega) (by omega) _).mono ?_); rintro e w0 ⟨rfl, rfl⟩) | (go_at_call 36; have t := T1; clear t T1; (refine (sg_9 (c / 4096 % 2 * 256 + c / 32 % 4 * 64 + c / 4 % 2 * 32 + c / 1024 % 4 * 8 + c / 8 % 4 * 2) (by omega) (by omega) _).mono ?_); rintro e w0 ⟨rfl, rfl⟩) | (go_at_call 37; refine (hR _).mono ?_; rintro e w1 ⟨rfl, hb⟩))
  go_ret2
  exact ⟨rfl, hb⟩
set_option maxHeartbeats 1000000 in
theorem y_0n (c : Int) (h0 : 0 ≤ c) (h1 : c ≤ 65535) (w : World) (hq : c % 4 = 0) (hf : c / 8192 % 8 = 0) (hn : cStack c = 0) :
    Calls Tryz.prog 18 #[.int .u16 c] w fun e w' => e = .returned (.tuple #[.int .u32 0, .bool false]) ∧ Below w.heap.size w w' := by
  have T0 : Hid True := trivial
  have T1 : Hid True := trivial
  have hn1 : c / 128 % 16 * 64 + c / 2048 % 4 * 16 + c / 32 % 2 * 8 + c / 64 % 2 * 4 = 0 := hn
  go_enter Tryz.func18, Tryz.ntmps18
  go_wp2_with (first | (go_at_call 35; (with_reducible first | refine (f_11_7_0 c h0 h1 _).mono ?_ | refine (f_6_2_0 c h0 h1 _).mono ?_ | refine (f_9_7_0 c h0 h1 _).mono ?_ | refine (f_4_2_0 c h0 h1 _).mono ?_ | refine (f_12_12_5 c h0 h1 _).mono ?_ | refine (f_5_5_6 c h0 h1 _).mono ?_ | refine (f_12_10_3 c h0 h1 _).mono ?_ | refine (f_6_6_2 c h0 h1 _).mono ?_ | refine (f_6_5_6 c h0 h1 _).mono ?_ | refine (f_12_12_8 c h0 h1 _).mono ?_ | refine (f_2_2_5 c h0 h1 _).mono ?_ | refine (f_11_10_3 c h0 h1 _).mono ?_ | refine (f_4_3_1 c h0 h1 _).mono ?_ | refine (f_1_0_0 c h0 h1 _).mono ?_ | refine (f_15_13_0 c h0 h1 _).mono ?_ | refine (f_10_7_6 c h0 h1 _).mono ?_ | refine (f_12_11_4 c h0 h1 _).mono ?_ | refine (f_5_5_3 c h0 h1 _).mono ?_); rintro e w0 ⟨rfl, rfl⟩) | (go_at_call 36; have t := T0; clear t T0; (refine (sg_6 (c / 4096 % 2 * 32 + c / 4 % 32) (by omega) (by omega) _).mono ?_); rintro e w0 ⟨rfl, rfl⟩) | (go_at_call 36; have t := T1; clear t T1; (refine (sg_9 (c / 4096 % 2 * 256 + c / 32 % 4 * 64 + c / 4 % 2 * 32 + c / 1024 % 4 * 8 + c / 8 % 4 * 2) (by omega) (by omega) _).mono ?_); rintro e w0 ⟨rfl, rfl⟩))
  go_ret2
  exact ⟨rfl, Below.refl _ _⟩
set_option maxHeartbeats 1000000 in
theorem y_2 (c : Int) (h0 : 0 ≤ c) (h1 : c ≤ 65535) (w : World) (hq : c % 4 = 0) (hf : c / 8192 % 8 = 2)  :
    Calls Tryz.prog 18 #[.int .u16 c] w fun e w' => e = .returned (.tuple #[.int .u32 (encF ⟨6, 0, cS2 c, cS1 c, 0, cWord c, 4, true⟩).1, .bool (encF ⟨6, 0, cS2 c, cS1 c, 0, cWord c, 4, true⟩).2]) ∧ Below w.heap.size w w' := by
  have hR := r_R ⟨6, 0, cS2 c, cS1 c, 0, cWord c, 4, true⟩
  obtain ⟨x, hx⟩ : ∃ x, x = encF ⟨6, 0, cS2 c, cS1 c, 0, cWord c, 4, true⟩ := ⟨_, rfl⟩
  rw [← hx] at hR ⊢
  clear hx
  obtain ⟨x, b⟩ := x
  have T0 : Hid True := trivial
  have T1 : Hid True := trivial
  go_enter Tryz.func18, Tryz.ntmps18
  go_wp2_with (first | (go_at_call 35; (with_reducible first | refine (f_11_7_0 c h0 h1 _).mono ?_ | refine (f_6_2_0 c h0 h1 _).mono ?_ | refine (f_9_7_0 c h0 h1 _).mono ?_ | refine (f_4_2_0 c h0 h1 _).mono ?_ | refine (f_12_12_5 c h0 h1 _).mono ?_ | refine (f_5_5_6 c h0 h1 _).mono ?_ | refine (f_12_10_3 c h0 h1 _).mono ?_ | refine (f_6_6_2 c h0 h1 _).mono ?_ | refine (f_6_5_6 c h0 h1 _).mono ?_ | refine (f_12_12_8 c h0 h1 _).mono ?_ | refine (f_2_2_5 c h0 h1 _).mono ?_ | refine (f_11_10_3 c h0 h1 _).mono ?_ | refine (f_4_3_1 c h0 h1 _).mono ?_ | refine (f_1_0_0 c h0 h1 _).mono ?_ | refine (f_15_13_0 c h0 h1 _).mono ?_); rintro e w0 ⟨rfl, rfl⟩) | (go_at_call 36; have t := T0; clear t T0; (refine (sg_6 (c / 4096 % 2 * 32 + c / 4 % 32) (by omega) (by omega) _).mono ?_); rintro e w0 ⟨rfl, rfl⟩) | (go_at_call 36; have t := T1; clear t T1; (refine (sg_9 (c / 4096 % 2 * 256 + c / 32 % 4 * 64 + c / 4 % 2 * 32 + c / 1024 % 4 * 8 + c / 8 % 4 * 2) (by omega) (by omega) _).mono ?_); rintro e w0 ⟨rfl, rfl⟩) | (go_at_call 37; refine (hR _).mono ?_; rintro e w1 ⟨rfl, hb⟩))
  go_ret2
  exact ⟨rfl, hb⟩
set_option maxHeartbeats 1000000 in
theorem y_3 (c : Int) (h0 : 0 ≤ c) (h1 : c ≤ 65535) (w : World) (hq : c % 4 = 0) (hf : c / 8192 % 8 = 3)  :
    Calls Tryz.prog 18 #[.int .u16 c] w fun e w' => e = .returned (.tuple #[.int .u32 (encF ⟨6, 0, cS2 c, cS1 c, 0, cDouble c, 8, true⟩).1, .bool (encF ⟨6, 0, cS2 c, cS1 c, 0, cDouble c, 8, true⟩).2]) ∧ Below w.heap.size w w' := by
  have hR := r_R ⟨6, 0, cS2 c, cS1 c, 0, cDouble c, 8, true⟩
  obtain ⟨x, hx⟩ : ∃ x, x = encF ⟨6, 0, cS2 c, cS1 c, 0, cDouble c, 8, true⟩ := ⟨_, rfl⟩
  rw [← hx] at hR ⊢
  clear hx
  obtain ⟨x, b⟩ := x
  have T0 : Hid True := trivial
  have T1 : Hid True := trivial
  go_enter Tryz.func18, Tryz.ntmps18
  go_wp2_with (first | (go_at_call 35; (with_reducible first | refine (f_11_7_0 c h0 h1 _).mono ?_ | refine (f_6_2_0 c h0 h1 _).mono ?_ | refine (f_9_7_0 c h0 h1 _).mono ?_ | refine (f_4_2_0 c h0 h1 _).mono ?_ | refine (f_12_12_5 c h0 h1 _).mono ?_ | refine (f_5_5_6 c h0 h1 _).mono ?_ | refine (f_12_10_3 c h0 h1 _).mono ?_ | refine (f_6_6_2 c h0 h1 _).mono ?_ | refine (f_6_5_6 c h0 h1 _).mono ?_ | refine (f_12_12_8 c h0 h1 _).mono ?_ | refine (f_2_2_5 c h0 h1 _).mono ?_ | refine (f_11_10_3 c h0 h1 _).mono ?_ | refine (f_4_3_1 c h0 h1 _).mono ?_ | refine (f_1_0_0 c h0 h1 _).mono ?_ | refine (f_15_13_0 c h0 h1 _).mono ?_); rintro e w0 ⟨rfl, rfl⟩) | (go_at_call 36; have t := T0; clear t T0; (refine (sg_6 (c / 4096 % 2 * 32 + c / 4 % 32) (by omega) (by omega) _).mono ?_); rintro e w0 ⟨rfl, rfl⟩) | (go_at_call 36; have t := T1; clear t T1; (refine (sg_9 (c / 4096 % 2 * 256 + c / 32 % 4 * 64 + c / 4 % 2 * 32 + c / 1024 % 4 * 8 + c / 8 % 4 * 2) (by omega) (by omega) _).mono ?_); rintro e w0 ⟨rfl, rfl⟩) | (go_at_call 37; refine (hR _).mono ?_; rintro e w1 ⟨rfl, hb⟩))
  go_ret2
  exact ⟨rfl, hb⟩
set_option maxHeartbeats 1000000 in
theorem y_6 (c : Int) (h0 : 0 ≤ c) (h1 : c ≤ 65535) (w : World) (hq : c % 4 = 0) (hf : c / 8192 % 8 = 6)  :
    Calls Tryz.prog 18 #[.int .u16 c] w fun e w' => e = .returned (.tuple #[.int .u32 (encF ⟨7, 0, 0, cS1 c, cS2 c, cWord c, 4, false⟩).1, .bool (encF ⟨7, 0, 0, cS1 c, cS2 c, cWord c, 4, false⟩).2]) ∧ Below w.heap.size w w' := by
  have hR := r_R ⟨7, 0, 0, cS1 c, cS2 c, cWord c, 4, false⟩
  obtain ⟨x, hx⟩ : ∃ x, x = encF ⟨7, 0, 0, cS1 c, cS2 c, cWord c, 4, false⟩ := ⟨_, rfl⟩
  rw [← hx] at hR ⊢
  clear hx
  obtain ⟨x, b⟩ := x
  have T0 : Hid True := trivial
  have T1 : Hid True := trivial
  go_enter Tryz.func18, Tryz.ntmps18
  go_wp2_with (first | (go_at_call 35; (with_reducible first | refine (f_11_7_0 c h0 h1 _).mono ?_ | refine (f_6_2_0 c h0 h1 _).mono ?_ | refine (f_9_7_0 c h0 h1 _).mono ?_ | refine (f_4_2_0 c h0 h1 _).mono ?_ | refine (f_12_12_5 c h0 h1 _).mono ?_ | refine (f_5_5_6 c h0 h1 _).mono ?_ | refine (f_12_10_3 c h0 h1 _).mono ?_ | refine (f_6_6_2 c h0 h1 _).mono ?_ | refine (f_6_5_6 c h0 h1 _).mono ?_ | refine (f_12_12_8 c h0 h1 _).mono ?_ | refine (f_2_2_5 c h0 h1 _).mono ?_ | refine (f_11_10_3 c h0 h1 _).mono ?_ | refine (f_4_3_1 c h0 h1 _).mono ?_ | refine (f_1_0_0 c h0 h1 _).mono ?_ | refine (f_15_13_0 c h0 h1 _).mono ?_); rintro e w0 ⟨rfl, rfl⟩) | (go_at_call 36; have t := T0; clear t T0; (refine (sg_6 (c / 4096 % 2 * 32 + c / 4 % 32) (by omega) (by omega) _).mono ?_); rintro e w0 ⟨rfl, rfl⟩) | (go_at_call 36; have t := T1; clear t T1; (refine (sg_9 (c / 4096 % 2 * 256 + c / 32 % 4 * 64 + c / 4 % 2 * 32 + c / 1024 % 4 * 8 + c / 8 % 4 * 2) (by omega) (by omega) _).mono ?_); rintro e w0 ⟨rfl, rfl⟩) | (go_at_call 37; refine (hR _).mono ?_; rintro e w1 ⟨rfl, hb⟩))
  go_ret2
  exact ⟨rfl, hb⟩
set_option maxHeartbeats 1000000 in
theorem y_7 (c : Int) (h0 : 0 ≤ c) (h1 : c ≤ 65535) (w : World) (hq : c % 4 = 0) (hf : c / 8192 % 8 = 7)  :
    Calls Tryz.prog 18 #[.int .u16 c] w fun e w' => e = .returned (.tuple #[.int .u32 (encF ⟨7, 0, 0, cS1 c, cS2 c, cDouble c, 8, false⟩).1, .bool (encF ⟨7, 0, 0, cS1 c, cS2 c, cDouble c, 8, false⟩).2]) ∧ Below w.heap.size w w' := by
  have hR := r_R ⟨7, 0, 0, cS1 c, cS2 c, cDouble c, 8, false⟩
  obtain ⟨x, hx⟩ : ∃ x, x = encF ⟨7, 0, 0, cS1 c, cS2 c, cDouble c, 8, false⟩ := ⟨_, rfl⟩
  rw [← hx] at hR ⊢
  clear hx
  obtain ⟨x, b⟩ := x
  have T0 : Hid True := trivial
  have T1 : Hid True := trivial
  go_enter Tryz.func18, Tryz.ntmps18
  go_wp2_with (first | (go_at_call 35; (with_reducible first | refine (f_11_7_0 c h0 h1 _).mono ?_ | refine (f_6_2_0 c h0 h1 _).mono ?_ | refine (f_9_7_0 c h0 h1 _).mono ?_ | refine (f_4_2_0 c h0 h1 _).mono ?_ | refine (f_12_12_5 c h0 h1 _).mono ?_ | refine (f_5_5_6 c h0 h1 _).mono ?_ | refine (f_12_10_3 c h0 h1 _).mono ?_ | refine (f_6_6_2 c h0 h1 _).mono ?_ | refine (f_6_5_6 c h0 h1 _).mono ?_ | refine (f_12_12_8 c h0 h1 _).mono ?_ | refine (f_2_2_5 c h0 h1 _).mono ?_ | refine (f_11_10_3 c h0 h1 _).mono ?_ | refine (f_4_3_1 c h0 h1 _).mono ?_ | refine (f_1_0_0 c h0 h1 _).mono ?_ | refine (f_15_13_0 c h0 h1 _).mono ?_); rintro e w0 ⟨rfl, rfl⟩) | (go_at_call 36; have t := T0; clear t T0; (refine (sg_6 (c / 4096 % 2 * 32 + c / 4 % 32) (by omega) (by omega) _).mono ?_); rintro e w0 ⟨rfl, rfl⟩) | (go_at_call 36; have t := T1; clear t T1; (refine (sg_9 (c / 4096 % 2 * 256 + c / 32 % 4 * 64 + c / 4 % 2 * 32 + c / 1024 % 4 * 8 + c / 8 % 4 * 2) (by omega) (by omega) _).mono ?_); rintro e w0 ⟨rfl, rfl⟩) | (go_at_call 37; refine (hR _).mono ?_; rintro e w1 ⟨rfl, hb⟩))
  go_ret2
  exact ⟨rfl, hb⟩
set_option maxHeartbeats 1000000 in
theorem y_1 (c : Int) (h0 : 0 ≤ c) (h1 : c ≤ 65535) (w : World) (hq : c % 4 = 0) (hf : c / 8192 % 8 = 1)  :
    Calls Tryz.prog 18 #[.int .u16 c] w fun e w' => e = .returned (.tuple #[.int .u32 0, .bool false]) ∧ Below w.heap.size w w' := by
  have T0 : Hid True := trivial
  have T1 : Hid True := trivial
  go_enter Tryz.func18, Tryz.ntmps18
  go_wp2_with (first | (go_at_call 35; (with_reducible first | refine (f_11_7_0 c h0 h1 _).mono ?_ | refine (f_6_2_0 c h0 h1 _).mono ?_ | refine (f_9_7_0 c h0 h1 _).mono ?_ | refine (f_4_2_0 c h0 h1 _).mono ?_ | refine (f_12_12_5 c h0 h1 _).mono ?_ | refine (f_5_5_6 c h0 h1 _).mono ?_ | refine (f_12_10_3 c h0 h1 _).mono ?_ | refine (f_6_6_2 c h0 h1 _).mono ?_ | refine (f_6_5_6 c h0 h1 _).mono ?_ | refine (f_12_12_8 c h0 h1 _).mono ?_ | refine (f_2_2_5 c h0 h1 _).mono ?_ | refine (f_11_10_3 c h0 h1 _).mono ?_ | refine (f_4_3_1 c h0 h1 _).mono ?_ | refine (f_1_0_0 c h0 h1 _).mono ?_ | refine (f_15_13_0 c h0 h1 _).mono ?_); rintro e w0 ⟨rfl, rfl⟩) | (go_at_call 36; have t := T0; clear t T0; (refine (sg_6 (c / 4096 % 2 * 32 + c / 4 % 32) (by omega) (by omega) _).mono ?_); rintro e w0 ⟨rfl, rfl⟩) | (go_at_call 36; have t := T1; clear t T1; (refine (sg_9 (c / 4096 % 2 * 256 + c / 32 % 4 * 64 + c / 4 % 2 * 32 + c / 1024 % 4 * 8 + c / 8 % 4 * 2) (by omega) (by omega) _).mono ?_); rintro e w0 ⟨rfl, rfl⟩))
  go_ret2
  exact ⟨rfl, Below.refl _ _⟩
set_option maxHeartbeats 1000000 in
theorem y_4 (c : Int) (h0 : 0 ≤ c) (h1 : c ≤ 65535) (w : World) (hq : c % 4 = 0) (hf : c / 8192 % 8 = 4)  :
    Calls Tryz.prog 18 #[.int .u16 c] w fun e w' => e = .returned (.tuple #[.int .u32 0, .bool false]) ∧ Below w.heap.size w w' := by
  have T0 : Hid True := trivial
  have T1 : Hid True := trivial
  go_enter Tryz.func18, Tryz.ntmps18
  go_wp2_with (first | (go_at_call 35; (with_reducible first | refine (f_11_7_0 c h0 h1 _).mono ?_ | refine (f_6_2_0 c h0 h1 _).mono ?_ | refine (f_9_7_0 c h0 h1 _).mono ?_ | refine (f_4_2_0 c h0 h1 _).mono ?_ | refine (f_12_12_5 c h0 h1 _).mono ?_ | refine (f_5_5_6 c h0 h1 _).mono ?_ | refine (f_12_10_3 c h0 h1 _).mono ?_ | refine (f_6_6_2 c h0 h1 _).mono ?_ | refine (f_6_5_6 c h0 h1 _).mono ?_ | refine (f_12_12_8 c h0 h1 _).mono ?_ | refine (f_2_2_5 c h0 h1 _).mono ?_ | refine (f_11_10_3 c h0 h1 _).mono ?_ | refine (f_4_3_1 c h0 h1 _).mono ?_ | refine (f_1_0_0 c h0 h1 _).mono ?_ | refine (f_15_13_0 c h0 h1 _).mono ?_); rintro e w0 ⟨rfl, rfl⟩) | (go_at_call 36; have t := T0; clear t T0; (refine (sg_6 (c / 4096 % 2 * 32 + c / 4 % 32) (by omega) (by omega) _).mono ?_); rintro e w0 ⟨rfl, rfl⟩) | (go_at_call 36; have t := T1; clear t T1; (refine (sg_9 (c / 4096 % 2 * 256 + c / 32 % 4 * 64 + c / 4 % 2 * 32 + c / 1024 % 4 * 8 + c / 8 % 4 * 2) (by omega) (by omega) _).mono ?_); rintro e w0 ⟨rfl, rfl⟩))
  go_ret2
  exact ⟨rfl, Below.refl _ _⟩
set_option maxHeartbeats 1000000 in
theorem y_5 (c : Int) (h0 : 0 ≤ c) (h1 : c ≤ 65535) (w : World) (hq : c % 4 = 0) (hf : c / 8192 % 8 = 5)  :
    Calls Tryz.prog 18 #[.int .u16 c] w fun e w' => e = .returned (.tuple #[.int .u32 0, .bool false]) ∧ Below w.heap.size w w' := by
  have T0 : Hid True := trivial
  have T1 : Hid True := trivial
  go_enter Tryz.func18, Tryz.ntmps18
  go_wp2_with (first | (go_at_call 35; (with_reducible first | refine (f_11_7_0 c h0 h1 _).mono ?_ | refine (f_6_2_0 c h0 h1 _).mono ?_ | refine (f_9_7_0 c h0 h1 _).mono ?_ | refine (f_4_2_0 c h0 h1 _).mono ?_ | refine (f_12_12_5 c h0 h1 _).mono ?_ | refine (f_5_5_6 c h0 h1 _).mono ?_ | refine (f_12_10_3 c h0 h1 _).mono ?_ | refine (f_6_6_2 c h0 h1 _).mono ?_ | refine (f_6_5_6 c h0 h1 _).mono ?_ | refine (f_12_12_8 c h0 h1 _).mono ?_ | refine (f_2_2_5 c h0 h1 _).mono ?_ | refine (f_11_10_3 c h0 h1 _).mono ?_ | refine (f_4_3_1 c h0 h1 _).mono ?_ | refine (f_1_0_0 c h0 h1 _).mono ?_ | refine (f_15_13_0 c h0 h1 _).mono ?_); rintro e w0 ⟨rfl, rfl⟩) | (go_at_call 36; have t := T0; clear t T0; (refine (sg_6 (c / 4096 % 2 * 32 + c / 4 % 32) (by omega) (by omega) _).mono ?_); rintro e w0 ⟨rfl, rfl⟩) | (go_at_call 36; have t := T1; clear t T1; (refine (sg_9 (c / 4096 % 2 * 256 + c / 32 % 4 * 64 + c / 4 % 2 * 32 + c / 1024 % 4 * 8 + c / 8 % 4 * 2) (by omega) (by omega) _).mono ?_); rintro e w0 ⟨rfl, rfl⟩))
  go_ret2
  exact ⟨rfl, Below.refl _ _⟩
set_option maxHeartbeats 1000000 in
theorem y_24 (c : Int) (h0 : 0 ≤ c) (h1 : c ≤ 65535) (w : World) (hq : c % 4 = 3) (hf : c / 8192 % 8 = 0)  :
    Calls Tryz.prog 18 #[.int .u16 c] w fun e w' => e = .returned (.tuple #[.int .u32 0, .bool false]) ∧ Below w.heap.size w w' := by
  have T0 : Hid True := trivial
  have T1 : Hid True := trivial
  go_enter Tryz.func18, Tryz.ntmps18
  go_wp2_with (first | (go_at_call 35; (with_reducible first | refine (f_11_7_0 c h0 h1 _).mono ?_ | refine (f_6_2_0 c h0 h1 _).mono ?_ | refine (f_9_7_0 c h0 h1 _).mono ?_ | refine (f_4_2_0 c h0 h1 _).mono ?_ | refine (f_12_12_5 c h0 h1 _).mono ?_ | refine (f_5_5_6 c h0 h1 _).mono ?_ | refine (f_12_10_3 c h0 h1 _).mono ?_ | refine (f_6_6_2 c h0 h1 _).mono ?_ | refine (f_6_5_6 c h0 h1 _).mono ?_ | refine (f_12_12_8 c h0 h1 _).mono ?_ | refine (f_2_2_5 c h0 h1 _).mono ?_ | refine (f_11_10_3 c h0 h1 _).mono ?_ | refine (f_4_3_1 c h0 h1 _).mono ?_ | refine (f_1_0_0 c h0 h1 _).mono ?_ | refine (f_15_13_0 c h0 h1 _).mono ?_); rintro e w0 ⟨rfl, rfl⟩) | (go_at_call 36; have t := T0; clear t T0; (refine (sg_6 (c / 4096 % 2 * 32 + c / 4 % 32) (by omega) (by omega) _).mono ?_); rintro e w0 ⟨rfl, rfl⟩) | (go_at_call 36; have t := T1; clear t T1; (refine (sg_9 (c / 4096 % 2 * 256 + c / 32 % 4 * 64 + c / 4 % 2 * 32 + c / 1024 % 4 * 8 + c / 8 % 4 * 2) (by omega) (by omega) _).mono ?_); rintro e w0 ⟨rfl, rfl⟩))
  go_ret2
  exact ⟨rfl, Below.refl _ _⟩
set_option maxHeartbeats 1000000 in
theorem y_25 (c : Int) (h0 : 0 ≤ c) (h1 : c ≤ 65535) (w : World) (hq : c % 4 = 3) (hf : c / 8192 % 8 = 1)  :
    Calls Tryz.prog 18 #[.int .u16 c] w fun e w' => e = .returned (.tuple #[.int .u32 0, .bool false]) ∧ Below w.heap.size w w' := by
  have T0 : Hid True := trivial
  have T1 : Hid True := trivial
  go_enter Tryz.func18, Tryz.ntmps18
  go_wp2_with (first | (go_at_call 35; (with_reducible first | refine (f_11_7_0 c h0 h1 _).mono ?_ | refine (f_6_2_0 c h0 h1 _).mono ?_ | refine (f_9_7_0 c h0 h1 _).mono ?_ | refine (f_4_2_0 c h0 h1 _).mono ?_ | refine (f_12_12_5 c h0 h1 _).mono ?_ | refine (f_5_5_6 c h0 h1 _).mono ?_ | refine (f_12_10_3 c h0 h1 _).mono ?_ | refine (f_6_6_2 c h0 h1 _).mono ?_ | refine (f_6_5_6 c h0 h1 _).mono ?_ | refine (f_12_12_8 c h0 h1 _).mono ?_ | refine (f_2_2_5 c h0 h1 _).mono ?_ | refine (f_11_10_3 c h0 h1 _).mono ?_ | refine (f_4_3_1 c h0 h1 _).mono ?_ | refine (f_1_0_0 c h0 h1 _).mono ?_ | refine (f_15_13_0 c h0 h1 _).mono ?_); rintro e w0 ⟨rfl, rfl⟩) | (go_at_call 36; have t := T0; clear t T0; (refine (sg_6 (c / 4096 % 2 * 32 + c / 4 % 32) (by omega) (by omega) _).mono ?_); rintro e w0 ⟨rfl, rfl⟩) | (go_at_call 36; have t := T1; clear t T1; (refine (sg_9 (c / 4096 % 2 * 256 + c / 32 % 4 * 64 + c / 4 % 2 * 32 + c / 1024 % 4 * 8 + c / 8 % 4 * 2) (by omega) (by omega) _).mono ?_); rintro e w0 ⟨rfl, rfl⟩))
  go_ret2
  exact ⟨rfl, Below.refl _ _⟩
set_option maxHeartbeats 1000000 in
theorem y_26 (c : Int) (h0 : 0 ≤ c) (h1 : c ≤ 65535) (w : World) (hq : c % 4 = 3) (hf : c / 8192 % 8 = 2)  :
    Calls Tryz.prog 18 #[.int .u16 c] w fun e w' => e = .returned (.tuple #[.int .u32 0, .bool false]) ∧ Below w.heap.size w w' := by
  have T0 : Hid True := trivial
  have T1 : Hid True := trivial
  go_enter Tryz.func18, Tryz.ntmps18
  go_wp2_with (first | (go_at_call 35; (with_reducible first | refine (f_11_7_0 c h0 h1 _).mono ?_ | refine (f_6_2_0 c h0 h1 _).mono ?_ | refine (f_9_7_0 c h0 h1 _).mono ?_ | refine (f_4_2_0 c h0 h1 _).mono ?_ | refine (f_12_12_5 c h0 h1 _).mono ?_ | refine (f_5_5_6 c h0 h1 _).mono ?_ | refine (f_12_10_3 c h0 h1 _).mono ?_ | refine (f_6_6_2 c h0 h1 _).mono ?_ | refine (f_6_5_6 c h0 h1 _).mono ?_ | refine (f_12_12_8 c h0 h1 _).mono ?_ | refine (f_2_2_5 c h0 h1 _).mono ?_ | refine (f_11_10_3 c h0 h1 _).mono ?_ | refine (f_4_3_1 c h0 h1 _).mono ?_ | refine (f_1_0_0 c h0 h1 _).mono ?_ | refine (f_15_13_0 c h0 h1 _).mono ?_); rintro e w0 ⟨rfl, rfl⟩) | (go_at_call 36; have t := T0; clear t T0; (refine (sg_6 (c / 4096 % 2 * 32 + c / 4 % 32) (by omega) (by omega) _).mono ?_); rintro e w0 ⟨rfl, rfl⟩) | (go_at_call 36; have t := T1; clear t T1; (refine (sg_9 (c / 4096 % 2 * 256 + c / 32 % 4 * 64 + c / 4 % 2 * 32 + c / 1024 % 4 * 8 + c / 8 % 4 * 2) (by omega) (by omega) _).mono ?_); rintro e w0 ⟨rfl, rfl⟩))
  go_ret2
  exact ⟨rfl, Below.refl _ _⟩
end Go.Proofs.YtlfdokkopgmfjaaGreatDoor.B
