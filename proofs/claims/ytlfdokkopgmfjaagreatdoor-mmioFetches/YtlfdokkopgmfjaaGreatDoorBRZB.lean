/- The reference's Expand, row by row. New blocks alone. -/
import Derived.Test.YtlfdokkopgmfjaaGreatDoorMB4
namespace Go.Proofs.YtlfdokkopgmfjaaGreatDoor.B
open Go.RowKit
set_option linter.unusedVariables false
set_option maxRecDepth 100000
set_option maxHeartbeats 1000000 in
theorem y_8 (c : Int) (h0 : 0 ≤ c) (h1 : c ≤ 65535) (w : World) (hq : c % 4 = 1) (hf : c / 8192 % 8 = 0)  :
    Calls Tryz.prog 18 #[.int .u16 c] w fun e w' => e = .returned (.tuple #[.int .u32 (encF ⟨9, 1, cRd c, cRd c, 0, cSmall c, 0, false⟩).1, .bool (encF ⟨9, 1, cRd c, cRd c, 0, cSmall c, 0, false⟩).2]) ∧ Below w.heap.size w w' := by
  have hR := r_R ⟨9, 1, cRd c, cRd c, 0, cSmall c, 0, false⟩
  obtain ⟨x, hx⟩ : ∃ x, x = encF ⟨9, 1, cRd c, cRd c, 0, cSmall c, 0, false⟩ := ⟨_, rfl⟩
  rw [← hx] at hR ⊢
  clear hx
  obtain ⟨x, b⟩ := x
  have T0 : Hid True := trivial
  have T1 : Hid True := trivial
  go_enter Tryz.func18, Tryz.ntmps18
  go_wp2_with (first | (go_at_call 35; (with_reducible first | refine (f_11_7_0 c h0 h1 _).mono ?_ | refine (f_6_2_0 c h0 h1 _).mono ?_ | refine (f_9_7_0 c h0 h1 _).mono ?_ | refine (f_4_2_0 c h0 h1 _).mono ?_ | refine (f_12_12_5 c h0 h1 _).mono ?_ | refine (f_5_5_6 c h0 h1 _).mono ?_ | refine (f_12_10_3 c h0 h1 _).mono ?_ | refine (f_6_6_2 c h0 h1 _).mono ?_ | refine (f_6_5_6 c h0 h1 _).mono ?_ | refine (f_12_12_8 c h0 h1 _).mono ?_ | refine (f_2_2_5 c h0 h1 _).mono ?_ | refine (f_11_10_3 c h0 h1 _).mono ?_ | refine (f_4_3_1 c h0 h1 _).mono ?_ | refine (f_1_0_0 c h0 h1 _).mono ?_ | refine (f_15_13_0 c h0 h1 _).mono ?_); rintro e w0 ⟨rfl, rfl⟩) | (go_at_call 36; have t := T0; clear t T0; (refine (sg_6 (c / 4096 % 2 * 32 + c / 4 % 32) (by omega) (by omega) _).mono ?_); rintro e w0 ⟨rfl, rfl⟩) | (go_at_call 36; have t := T1; clear t T1; (refine (sg_9 (c / 4096 % 2 * 256 + c / 32 % 4 * 64 + c / 4 % 2 * 32 + c / 1024 % 4 * 8 + c / 8 % 4 * 2) (by omega) (by omega) _).mono ?_); rintro e w0 ⟨rfl, rfl⟩) | (go_at_call 37; refine (hR _).mono ?_; rintro e w1 ⟨rfl, hb⟩))
  go_ret2
  exact ⟨rfl, hb⟩
set_option maxHeartbeats 1000000 in
theorem y_9 (c : Int) (h0 : 0 ≤ c) (h1 : c ≤ 65535) (w : World) (hq : c % 4 = 1) (hf : c / 8192 % 8 = 1) (hd : c / 128 % 32 ≠ 0) :
    Calls Tryz.prog 18 #[.int .u16 c] w fun e w' => e = .returned (.tuple #[.int .u32 (encF ⟨9, 19, cRd c, cRd c, 0, cSmall c, 0, false⟩).1, .bool (encF ⟨9, 19, cRd c, cRd c, 0, cSmall c, 0, false⟩).2]) ∧ Below w.heap.size w w' := by
  have hR := r_R ⟨9, 19, cRd c, cRd c, 0, cSmall c, 0, false⟩
  obtain ⟨x, hx⟩ : ∃ x, x = encF ⟨9, 19, cRd c, cRd c, 0, cSmall c, 0, false⟩ := ⟨_, rfl⟩
  rw [← hx] at hR ⊢
  clear hx
  obtain ⟨x, b⟩ := x
  have T0 : Hid True := trivial
  have T1 : Hid True := trivial
  go_enter Tryz.func18, Tryz.ntmps18
  go_wp2_with (first | (go_at_call 35; (with_reducible first | refine (f_11_7_0 c h0 h1 _).mono ?_ | refine (f_6_2_0 c h0 h1 _).mono ?_ | refine (f_9_7_0 c h0 h1 _).mono ?_ | refine (f_4_2_0 c h0 h1 _).mono ?_ | refine (f_12_12_5 c h0 h1 _).mono ?_ | refine (f_5_5_6 c h0 h1 _).mono ?_ | refine (f_12_10_3 c h0 h1 _).mono ?_ | refine (f_6_6_2 c h0 h1 _).mono ?_ | refine (f_6_5_6 c h0 h1 _).mono ?_ | refine (f_12_12_8 c h0 h1 _).mono ?_ | refine (f_2_2_5 c h0 h1 _).mono ?_ | refine (f_11_10_3 c h0 h1 _).mono ?_ | refine (f_4_3_1 c h0 h1 _).mono ?_ | refine (f_1_0_0 c h0 h1 _).mono ?_ | refine (f_15_13_0 c h0 h1 _).mono ?_); rintro e w0 ⟨rfl, rfl⟩) | (go_at_call 36; have t := T0; clear t T0; (refine (sg_6 (c / 4096 % 2 * 32 + c / 4 % 32) (by omega) (by omega) _).mono ?_); rintro e w0 ⟨rfl, rfl⟩) | (go_at_call 36; have t := T1; clear t T1; (refine (sg_9 (c / 4096 % 2 * 256 + c / 32 % 4 * 64 + c / 4 % 2 * 32 + c / 1024 % 4 * 8 + c / 8 % 4 * 2) (by omega) (by omega) _).mono ?_); rintro e w0 ⟨rfl, rfl⟩) | (go_at_call 37; refine (hR _).mono ?_; rintro e w1 ⟨rfl, hb⟩))
  go_ret2
  exact ⟨rfl, hb⟩
set_option maxHeartbeats 1000000 in
theorem y_9n (c : Int) (h0 : 0 ≤ c) (h1 : c ≤ 65535) (w : World) (hq : c % 4 = 1) (hf : c / 8192 % 8 = 1) (hd : c / 128 % 32 = 0) :
    Calls Tryz.prog 18 #[.int .u16 c] w fun e w' => e = .returned (.tuple #[.int .u32 0, .bool false]) ∧ Below w.heap.size w w' := by
  have T0 : Hid True := trivial
  have T1 : Hid True := trivial
  go_enter Tryz.func18, Tryz.ntmps18
  go_wp2_with (first | (go_at_call 35; (with_reducible first | refine (f_11_7_0 c h0 h1 _).mono ?_ | refine (f_6_2_0 c h0 h1 _).mono ?_ | refine (f_9_7_0 c h0 h1 _).mono ?_ | refine (f_4_2_0 c h0 h1 _).mono ?_ | refine (f_12_12_5 c h0 h1 _).mono ?_ | refine (f_5_5_6 c h0 h1 _).mono ?_ | refine (f_12_10_3 c h0 h1 _).mono ?_ | refine (f_6_6_2 c h0 h1 _).mono ?_ | refine (f_6_5_6 c h0 h1 _).mono ?_ | refine (f_12_12_8 c h0 h1 _).mono ?_ | refine (f_2_2_5 c h0 h1 _).mono ?_ | refine (f_11_10_3 c h0 h1 _).mono ?_ | refine (f_4_3_1 c h0 h1 _).mono ?_ | refine (f_1_0_0 c h0 h1 _).mono ?_ | refine (f_15_13_0 c h0 h1 _).mono ?_); rintro e w0 ⟨rfl, rfl⟩) | (go_at_call 36; have t := T0; clear t T0; (refine (sg_6 (c / 4096 % 2 * 32 + c / 4 % 32) (by omega) (by omega) _).mono ?_); rintro e w0 ⟨rfl, rfl⟩) | (go_at_call 36; have t := T1; clear t T1; (refine (sg_9 (c / 4096 % 2 * 256 + c / 32 % 4 * 64 + c / 4 % 2 * 32 + c / 1024 % 4 * 8 + c / 8 % 4 * 2) (by omega) (by omega) _).mono ?_); rintro e w0 ⟨rfl, rfl⟩))
  go_ret2
  exact ⟨rfl, Below.refl _ _⟩
set_option maxHeartbeats 1000000 in
theorem y_10 (c : Int) (h0 : 0 ≤ c) (h1 : c ≤ 65535) (w : World) (hq : c % 4 = 1) (hf : c / 8192 % 8 = 2)  :
    Calls Tryz.prog 18 #[.int .u16 c] w fun e w' => e = .returned (.tuple #[.int .u32 (encF ⟨9, 1, cRd c, 0, 0, cSmall c, 0, false⟩).1, .bool (encF ⟨9, 1, cRd c, 0, 0, cSmall c, 0, false⟩).2]) ∧ Below w.heap.size w w' := by
  have hR := r_R ⟨9, 1, cRd c, 0, 0, cSmall c, 0, false⟩
  obtain ⟨x, hx⟩ : ∃ x, x = encF ⟨9, 1, cRd c, 0, 0, cSmall c, 0, false⟩ := ⟨_, rfl⟩
  rw [← hx] at hR ⊢
  clear hx
  obtain ⟨x, b⟩ := x
  have T0 : Hid True := trivial
  have T1 : Hid True := trivial
  go_enter Tryz.func18, Tryz.ntmps18
  go_wp2_with (first | (go_at_call 35; (with_reducible first | refine (f_11_7_0 c h0 h1 _).mono ?_ | refine (f_6_2_0 c h0 h1 _).mono ?_ | refine (f_9_7_0 c h0 h1 _).mono ?_ | refine (f_4_2_0 c h0 h1 _).mono ?_ | refine (f_12_12_5 c h0 h1 _).mono ?_ | refine (f_5_5_6 c h0 h1 _).mono ?_ | refine (f_12_10_3 c h0 h1 _).mono ?_ | refine (f_6_6_2 c h0 h1 _).mono ?_ | refine (f_6_5_6 c h0 h1 _).mono ?_ | refine (f_12_12_8 c h0 h1 _).mono ?_ | refine (f_2_2_5 c h0 h1 _).mono ?_ | refine (f_11_10_3 c h0 h1 _).mono ?_ | refine (f_4_3_1 c h0 h1 _).mono ?_ | refine (f_1_0_0 c h0 h1 _).mono ?_ | refine (f_15_13_0 c h0 h1 _).mono ?_); rintro e w0 ⟨rfl, rfl⟩) | (go_at_call 36; have t := T0; clear t T0; (refine (sg_6 (c / 4096 % 2 * 32 + c / 4 % 32) (by omega) (by omega) _).mono ?_); rintro e w0 ⟨rfl, rfl⟩) | (go_at_call 36; have t := T1; clear t T1; (refine (sg_9 (c / 4096 % 2 * 256 + c / 32 % 4 * 64 + c / 4 % 2 * 32 + c / 1024 % 4 * 8 + c / 8 % 4 * 2) (by omega) (by omega) _).mono ?_); rintro e w0 ⟨rfl, rfl⟩) | (go_at_call 37; refine (hR _).mono ?_; rintro e w1 ⟨rfl, hb⟩))
  go_ret2
  exact ⟨rfl, hb⟩
set_option maxHeartbeats 1000000 in
theorem y_11a (c : Int) (h0 : 0 ≤ c) (h1 : c ≤ 65535) (w : World) (hq : c % 4 = 1) (hf : c / 8192 % 8 = 3) (hd : c / 128 % 32 = 2) (hn : sx 512 (c / 4096 % 2 * 512 + c / 8 % 4 * 128 + c / 32 % 2 * 64 + c / 4 % 2 * 32 + c / 64 % 2 * 16) ≠ 0) :
    Calls Tryz.prog 18 #[.int .u16 c] w fun e w' => e = .returned (.tuple #[.int .u32 (encF ⟨9, 1, 2, 2, 0, cMove c, 0, false⟩).1, .bool (encF ⟨9, 1, 2, 2, 0, cMove c, 0, false⟩).2]) ∧ Below w.heap.size w w' := by
  have hR := r_R ⟨9, 1, 2, 2, 0, cMove c, 0, false⟩
  obtain ⟨x, hx⟩ : ∃ x, x = encF ⟨9, 1, 2, 2, 0, cMove c, 0, false⟩ := ⟨_, rfl⟩
  rw [← hx] at hR ⊢
  clear hx
  obtain ⟨x, b⟩ := x
  have T0 : Hid True := trivial
  have T1 : Hid True := trivial
  have T2 : Hid True := trivial
  go_enter Tryz.func18, Tryz.ntmps18
  go_wp2_with (first | (go_at_call 35; (with_reducible first | refine (f_11_7_0 c h0 h1 _).mono ?_ | refine (f_6_2_0 c h0 h1 _).mono ?_ | refine (f_9_7_0 c h0 h1 _).mono ?_ | refine (f_4_2_0 c h0 h1 _).mono ?_ | refine (f_12_12_5 c h0 h1 _).mono ?_ | refine (f_5_5_6 c h0 h1 _).mono ?_ | refine (f_12_10_3 c h0 h1 _).mono ?_ | refine (f_6_6_2 c h0 h1 _).mono ?_ | refine (f_6_5_6 c h0 h1 _).mono ?_ | refine (f_12_12_8 c h0 h1 _).mono ?_ | refine (f_2_2_5 c h0 h1 _).mono ?_ | refine (f_11_10_3 c h0 h1 _).mono ?_ | refine (f_4_3_1 c h0 h1 _).mono ?_ | refine (f_1_0_0 c h0 h1 _).mono ?_ | refine (f_15_13_0 c h0 h1 _).mono ?_ | refine (f_12_12_9 c h0 h1 _).mono ?_ | refine (f_4_3_7 c h0 h1 _).mono ?_ | refine (f_6_6_4 c h0 h1 _).mono ?_); rintro e w0 ⟨rfl, rfl⟩) | (go_at_call 36; have t := T0; clear t T0; (refine (sg_6 (c / 4096 % 2 * 32 + c / 4 % 32) (by omega) (by omega) _).mono ?_); rintro e w0 ⟨rfl, rfl⟩) | (go_at_call 36; have t := T1; clear t T1; (refine (sg_9 (c / 4096 % 2 * 256 + c / 32 % 4 * 64 + c / 4 % 2 * 32 + c / 1024 % 4 * 8 + c / 8 % 4 * 2) (by omega) (by omega) _).mono ?_); rintro e w0 ⟨rfl, rfl⟩) | (go_at_call 36; have t := T2; clear t T2; (refine (sg_10 (c / 4096 % 2 * 512 + c / 8 % 4 * 128 + c / 32 % 2 * 64 + c / 4 % 2 * 32 + c / 64 % 2 * 16) (by omega) (by omega) _).mono ?_); rintro e w0 ⟨rfl, rfl⟩) | (go_at_call 37; refine (hR _).mono ?_; rintro e w1 ⟨rfl, hb⟩))
  go_ret2
  exact ⟨rfl, hb⟩
set_option maxHeartbeats 1000000 in
theorem y_11b (c : Int) (h0 : 0 ≤ c) (h1 : c ≤ 65535) (w : World) (hq : c % 4 = 1) (hf : c / 8192 % 8 = 3) (hd : c / 128 % 32 = 2) (hn : sx 512 (c / 4096 % 2 * 512 + c / 8 % 4 * 128 + c / 32 % 2 * 64 + c / 4 % 2 * 32 + c / 64 % 2 * 16) = 0) :
    Calls Tryz.prog 18 #[.int .u16 c] w fun e w' => e = .returned (.tuple #[.int .u32 0, .bool false]) ∧ Below w.heap.size w w' := by
  have T0 : Hid True := trivial
  have T1 : Hid True := trivial
  have T2 : Hid True := trivial
  go_enter Tryz.func18, Tryz.ntmps18
  go_wp2_with (first | (go_at_call 35; (with_reducible first | refine (f_11_7_0 c h0 h1 _).mono ?_ | refine (f_6_2_0 c h0 h1 _).mono ?_ | refine (f_9_7_0 c h0 h1 _).mono ?_ | refine (f_4_2_0 c h0 h1 _).mono ?_ | refine (f_12_12_5 c h0 h1 _).mono ?_ | refine (f_5_5_6 c h0 h1 _).mono ?_ | refine (f_12_10_3 c h0 h1 _).mono ?_ | refine (f_6_6_2 c h0 h1 _).mono ?_ | refine (f_6_5_6 c h0 h1 _).mono ?_ | refine (f_12_12_8 c h0 h1 _).mono ?_ | refine (f_2_2_5 c h0 h1 _).mono ?_ | refine (f_11_10_3 c h0 h1 _).mono ?_ | refine (f_4_3_1 c h0 h1 _).mono ?_ | refine (f_1_0_0 c h0 h1 _).mono ?_ | refine (f_15_13_0 c h0 h1 _).mono ?_ | refine (f_12_12_9 c h0 h1 _).mono ?_ | refine (f_4_3_7 c h0 h1 _).mono ?_ | refine (f_6_6_4 c h0 h1 _).mono ?_); rintro e w0 ⟨rfl, rfl⟩) | (go_at_call 36; have t := T0; clear t T0; (refine (sg_6 (c / 4096 % 2 * 32 + c / 4 % 32) (by omega) (by omega) _).mono ?_); rintro e w0 ⟨rfl, rfl⟩) | (go_at_call 36; have t := T1; clear t T1; (refine (sg_9 (c / 4096 % 2 * 256 + c / 32 % 4 * 64 + c / 4 % 2 * 32 + c / 1024 % 4 * 8 + c / 8 % 4 * 2) (by omega) (by omega) _).mono ?_); rintro e w0 ⟨rfl, rfl⟩) | (go_at_call 36; have t := T2; clear t T2; (refine (sg_10 (c / 4096 % 2 * 512 + c / 8 % 4 * 128 + c / 32 % 2 * 64 + c / 4 % 2 * 32 + c / 64 % 2 * 16) (by omega) (by omega) _).mono ?_); rintro e w0 ⟨rfl, rfl⟩))
  go_ret2
  exact ⟨rfl, Below.refl _ _⟩
set_option maxHeartbeats 1000000 in
theorem y_11c (c : Int) (h0 : 0 ≤ c) (h1 : c ≤ 65535) (w : World) (hq : c % 4 = 1) (hf : c / 8192 % 8 = 3) (hd : c / 128 % 32 ≠ 2) (hn : sx 32 (c / 4096 % 2 * 32 + c / 4 % 32) ≠ 0) :
    Calls Tryz.prog 18 #[.int .u16 c] w fun e w' => e = .returned (.tuple #[.int .u32 (encF ⟨1, 0, cRd c, 0, 0, cSmall c * 4096, 0, false⟩).1, .bool (encF ⟨1, 0, cRd c, 0, 0, cSmall c * 4096, 0, false⟩).2]) ∧ Below w.heap.size w w' := by
  have hR := r_R ⟨1, 0, cRd c, 0, 0, cSmall c * 4096, 0, false⟩
  obtain ⟨x, hx⟩ : ∃ x, x = encF ⟨1, 0, cRd c, 0, 0, cSmall c * 4096, 0, false⟩ := ⟨_, rfl⟩
  rw [← hx] at hR ⊢
  clear hx
  obtain ⟨x, b⟩ := x
  have T0 : Hid True := trivial
  have T1 : Hid True := trivial
  have T2 : Hid True := trivial
  have sb : -32 ≤ sx 32 (c / 4096 % 2 * 32 + c / 4 % 32) ∧ sx 32 (c / 4096 % 2 * 32 + c / 4 % 32) ≤ 31 := by unfold sx; split <;> omega
  have hb1 : (c / 128 % 32 != 2) = true := by simp [hd]
  have hb2 : (sx 32 (c / 4096 % 2 * 32 + c / 4 % 32) != 0) = true := by simp [hn]
  go_enter Tryz.func18, Tryz.ntmps18
  go_wp2_with (first | (go_at_call 35; (with_reducible first | refine (f_11_7_0 c h0 h1 _).mono ?_ | refine (f_6_2_0 c h0 h1 _).mono ?_ | refine (f_9_7_0 c h0 h1 _).mono ?_ | refine (f_4_2_0 c h0 h1 _).mono ?_ | refine (f_12_12_5 c h0 h1 _).mono ?_ | refine (f_5_5_6 c h0 h1 _).mono ?_ | refine (f_12_10_3 c h0 h1 _).mono ?_ | refine (f_6_6_2 c h0 h1 _).mono ?_ | refine (f_6_5_6 c h0 h1 _).mono ?_ | refine (f_12_12_8 c h0 h1 _).mono ?_ | refine (f_2_2_5 c h0 h1 _).mono ?_ | refine (f_11_10_3 c h0 h1 _).mono ?_ | refine (f_4_3_1 c h0 h1 _).mono ?_ | refine (f_1_0_0 c h0 h1 _).mono ?_ | refine (f_15_13_0 c h0 h1 _).mono ?_ | refine (f_12_12_9 c h0 h1 _).mono ?_ | refine (f_4_3_7 c h0 h1 _).mono ?_ | refine (f_6_6_4 c h0 h1 _).mono ?_); rintro e w0 ⟨rfl, rfl⟩) | (go_at_call 36; have t := T0; clear t T0; (refine (sg_6 (c / 4096 % 2 * 32 + c / 4 % 32) (by omega) (by omega) _).mono ?_); rintro e w0 ⟨rfl, rfl⟩) | (go_at_call 36; have t := T1; clear t T1; (refine (sg_9 (c / 4096 % 2 * 256 + c / 32 % 4 * 64 + c / 4 % 2 * 32 + c / 1024 % 4 * 8 + c / 8 % 4 * 2) (by omega) (by omega) _).mono ?_); rintro e w0 ⟨rfl, rfl⟩) | (go_at_call 36; have t := T2; clear t T2; (refine (sg_10 (c / 4096 % 2 * 512 + c / 8 % 4 * 128 + c / 32 % 2 * 64 + c / 4 % 2 * 32 + c / 64 % 2 * 16) (by omega) (by omega) _).mono ?_); rintro e w0 ⟨rfl, rfl⟩) | (go_at_call 37; refine (hR _).mono ?_; rintro e w1 ⟨rfl, hb⟩))
  go_ret2
  exact ⟨rfl, hb⟩
set_option maxHeartbeats 1000000 in
theorem y_11d (c : Int) (h0 : 0 ≤ c) (h1 : c ≤ 65535) (w : World) (hq : c % 4 = 1) (hf : c / 8192 % 8 = 3) (hd : c / 128 % 32 ≠ 2) (hn : sx 32 (c / 4096 % 2 * 32 + c / 4 % 32) = 0) :
    Calls Tryz.prog 18 #[.int .u16 c] w fun e w' => e = .returned (.tuple #[.int .u32 0, .bool false]) ∧ Below w.heap.size w w' := by
  have T0 : Hid True := trivial
  have T1 : Hid True := trivial
  have T2 : Hid True := trivial
  have sb : -32 ≤ sx 32 (c / 4096 % 2 * 32 + c / 4 % 32) ∧ sx 32 (c / 4096 % 2 * 32 + c / 4 % 32) ≤ 31 := by unfold sx; split <;> omega
  go_enter Tryz.func18, Tryz.ntmps18
  go_wp2_with (first | (go_at_call 35; (with_reducible first | refine (f_11_7_0 c h0 h1 _).mono ?_ | refine (f_6_2_0 c h0 h1 _).mono ?_ | refine (f_9_7_0 c h0 h1 _).mono ?_ | refine (f_4_2_0 c h0 h1 _).mono ?_ | refine (f_12_12_5 c h0 h1 _).mono ?_ | refine (f_5_5_6 c h0 h1 _).mono ?_ | refine (f_12_10_3 c h0 h1 _).mono ?_ | refine (f_6_6_2 c h0 h1 _).mono ?_ | refine (f_6_5_6 c h0 h1 _).mono ?_ | refine (f_12_12_8 c h0 h1 _).mono ?_ | refine (f_2_2_5 c h0 h1 _).mono ?_ | refine (f_11_10_3 c h0 h1 _).mono ?_ | refine (f_4_3_1 c h0 h1 _).mono ?_ | refine (f_1_0_0 c h0 h1 _).mono ?_ | refine (f_15_13_0 c h0 h1 _).mono ?_ | refine (f_12_12_9 c h0 h1 _).mono ?_ | refine (f_4_3_7 c h0 h1 _).mono ?_ | refine (f_6_6_4 c h0 h1 _).mono ?_); rintro e w0 ⟨rfl, rfl⟩) | (go_at_call 36; have t := T0; clear t T0; (refine (sg_6 (c / 4096 % 2 * 32 + c / 4 % 32) (by omega) (by omega) _).mono ?_); rintro e w0 ⟨rfl, rfl⟩) | (go_at_call 36; have t := T1; clear t T1; (refine (sg_9 (c / 4096 % 2 * 256 + c / 32 % 4 * 64 + c / 4 % 2 * 32 + c / 1024 % 4 * 8 + c / 8 % 4 * 2) (by omega) (by omega) _).mono ?_); rintro e w0 ⟨rfl, rfl⟩) | (go_at_call 36; have t := T2; clear t T2; (refine (sg_10 (c / 4096 % 2 * 512 + c / 8 % 4 * 128 + c / 32 % 2 * 64 + c / 4 % 2 * 32 + c / 64 % 2 * 16) (by omega) (by omega) _).mono ?_); rintro e w0 ⟨rfl, rfl⟩))
  go_ret2
  exact ⟨rfl, Below.refl _ _⟩
set_option maxHeartbeats 1000000 in
theorem y_13 (c : Int) (h0 : 0 ≤ c) (h1 : c ≤ 65535) (w : World) (hq : c % 4 = 1) (hf : c / 8192 % 8 = 5)  :
    Calls Tryz.prog 18 #[.int .u16 c] w fun e w' => e = .returned (.tuple #[.int .u32 (encF ⟨3, 0, 0, 0, 0, cJump c, 0, false⟩).1, .bool (encF ⟨3, 0, 0, 0, 0, cJump c, 0, false⟩).2]) ∧ Below w.heap.size w w' := by
  have hR := r_R ⟨3, 0, 0, 0, 0, cJump c, 0, false⟩
  obtain ⟨x, hx⟩ : ∃ x, x = encF ⟨3, 0, 0, 0, 0, cJump c, 0, false⟩ := ⟨_, rfl⟩
  rw [← hx] at hR ⊢
  clear hx
  obtain ⟨x, b⟩ := x
  have T0 : Hid True := trivial
  have T1 : Hid True := trivial
  have T2 : Hid True := trivial
  go_enter Tryz.func18, Tryz.ntmps18
  go_wp2_with (first | (go_at_call 35; (with_reducible first | refine (f_11_7_0 c h0 h1 _).mono ?_ | refine (f_6_2_0 c h0 h1 _).mono ?_ | refine (f_9_7_0 c h0 h1 _).mono ?_ | refine (f_4_2_0 c h0 h1 _).mono ?_ | refine (f_12_12_5 c h0 h1 _).mono ?_ | refine (f_5_5_6 c h0 h1 _).mono ?_ | refine (f_12_10_3 c h0 h1 _).mono ?_ | refine (f_6_6_2 c h0 h1 _).mono ?_ | refine (f_6_5_6 c h0 h1 _).mono ?_ | refine (f_12_12_8 c h0 h1 _).mono ?_ | refine (f_2_2_5 c h0 h1 _).mono ?_ | refine (f_11_10_3 c h0 h1 _).mono ?_ | refine (f_4_3_1 c h0 h1 _).mono ?_ | refine (f_1_0_0 c h0 h1 _).mono ?_ | refine (f_15_13_0 c h0 h1 _).mono ?_ | refine (f_12_12_11 c h0 h1 _).mono ?_ | refine (f_8_8_10 c h0 h1 _).mono ?_ | refine (f_10_9_8 c h0 h1 _).mono ?_ | refine (f_6_6_7 c h0 h1 _).mono ?_ | refine (f_7_7_6 c h0 h1 _).mono ?_ | refine (f_11_11_4 c h0 h1 _).mono ?_ | refine (f_5_3_1 c h0 h1 _).mono ?_); rintro e w0 ⟨rfl, rfl⟩) | (go_at_call 36; have t := T0; clear t T0; (refine (sg_6 (c / 4096 % 2 * 32 + c / 4 % 32) (by omega) (by omega) _).mono ?_); rintro e w0 ⟨rfl, rfl⟩) | (go_at_call 36; have t := T1; clear t T1; (refine (sg_9 (c / 4096 % 2 * 256 + c / 32 % 4 * 64 + c / 4 % 2 * 32 + c / 1024 % 4 * 8 + c / 8 % 4 * 2) (by omega) (by omega) _).mono ?_); rintro e w0 ⟨rfl, rfl⟩) | (go_at_call 36; have t := T2; clear t T2; (refine (sg_12 (c / 4096 % 2 * 2048 + c / 256 % 2 * 1024 + c / 512 % 4 * 256 + c / 64 % 2 * 128 + c / 128 % 2 * 64 + c / 4 % 2 * 32 + c / 2048 % 2 * 16 + c / 8 % 8 * 2) (by omega) (by omega) _).mono ?_); rintro e w0 ⟨rfl, rfl⟩) | (go_at_call 37; refine (hR _).mono ?_; rintro e w1 ⟨rfl, hb⟩))
  go_ret2
  exact ⟨rfl, hb⟩
set_option maxHeartbeats 1000000 in
theorem y_14 (c : Int) (h0 : 0 ≤ c) (h1 : c ≤ 65535) (w : World) (hq : c % 4 = 1) (hf : c / 8192 % 8 = 6)  :
    Calls Tryz.prog 18 #[.int .u16 c] w fun e w' => e = .returned (.tuple #[.int .u32 (encF ⟨5, 1, 0, cS1 c, 0, cBranch c, 0, false⟩).1, .bool (encF ⟨5, 1, 0, cS1 c, 0, cBranch c, 0, false⟩).2]) ∧ Below w.heap.size w w' := by
  have hR := r_R ⟨5, 1, 0, cS1 c, 0, cBranch c, 0, false⟩
  obtain ⟨x, hx⟩ : ∃ x, x = encF ⟨5, 1, 0, cS1 c, 0, cBranch c, 0, false⟩ := ⟨_, rfl⟩
  rw [← hx] at hR ⊢
  clear hx
  obtain ⟨x, b⟩ := x
  have T0 : Hid True := trivial
  have T1 : Hid True := trivial
  go_enter Tryz.func18, Tryz.ntmps18
  go_wp2_with (first | (go_at_call 35; (with_reducible first | refine (f_11_7_0 c h0 h1 _).mono ?_ | refine (f_6_2_0 c h0 h1 _).mono ?_ | refine (f_9_7_0 c h0 h1 _).mono ?_ | refine (f_4_2_0 c h0 h1 _).mono ?_ | refine (f_12_12_5 c h0 h1 _).mono ?_ | refine (f_5_5_6 c h0 h1 _).mono ?_ | refine (f_12_10_3 c h0 h1 _).mono ?_ | refine (f_6_6_2 c h0 h1 _).mono ?_ | refine (f_6_5_6 c h0 h1 _).mono ?_ | refine (f_12_12_8 c h0 h1 _).mono ?_ | refine (f_2_2_5 c h0 h1 _).mono ?_ | refine (f_11_10_3 c h0 h1 _).mono ?_ | refine (f_4_3_1 c h0 h1 _).mono ?_ | refine (f_1_0_0 c h0 h1 _).mono ?_ | refine (f_15_13_0 c h0 h1 _).mono ?_); rintro e w0 ⟨rfl, rfl⟩) | (go_at_call 36; have t := T0; clear t T0; (refine (sg_6 (c / 4096 % 2 * 32 + c / 4 % 32) (by omega) (by omega) _).mono ?_); rintro e w0 ⟨rfl, rfl⟩) | (go_at_call 36; have t := T1; clear t T1; (refine (sg_9 (c / 4096 % 2 * 256 + c / 32 % 4 * 64 + c / 4 % 2 * 32 + c / 1024 % 4 * 8 + c / 8 % 4 * 2) (by omega) (by omega) _).mono ?_); rintro e w0 ⟨rfl, rfl⟩) | (go_at_call 37; refine (hR _).mono ?_; rintro e w1 ⟨rfl, hb⟩))
  go_ret2
  exact ⟨rfl, hb⟩
set_option maxHeartbeats 1000000 in
theorem y_15 (c : Int) (h0 : 0 ≤ c) (h1 : c ≤ 65535) (w : World) (hq : c % 4 = 1) (hf : c / 8192 % 8 = 7)  :
    Calls Tryz.prog 18 #[.int .u16 c] w fun e w' => e = .returned (.tuple #[.int .u32 (encF ⟨5, 2, 0, cS1 c, 0, cBranch c, 0, false⟩).1, .bool (encF ⟨5, 2, 0, cS1 c, 0, cBranch c, 0, false⟩).2]) ∧ Below w.heap.size w w' := by
  have hR := r_R ⟨5, 2, 0, cS1 c, 0, cBranch c, 0, false⟩
  obtain ⟨x, hx⟩ : ∃ x, x = encF ⟨5, 2, 0, cS1 c, 0, cBranch c, 0, false⟩ := ⟨_, rfl⟩
  rw [← hx] at hR ⊢
  clear hx
  obtain ⟨x, b⟩ := x
  have T0 : Hid True := trivial
  have T1 : Hid True := trivial
  go_enter Tryz.func18, Tryz.ntmps18
  go_wp2_with (first | (go_at_call 35; (with_reducible first | refine (f_11_7_0 c h0 h1 _).mono ?_ | refine (f_6_2_0 c h0 h1 _).mono ?_ | refine (f_9_7_0 c h0 h1 _).mono ?_ | refine (f_4_2_0 c h0 h1 _).mono ?_ | refine (f_12_12_5 c h0 h1 _).mono ?_ | refine (f_5_5_6 c h0 h1 _).mono ?_ | refine (f_12_10_3 c h0 h1 _).mono ?_ | refine (f_6_6_2 c h0 h1 _).mono ?_ | refine (f_6_5_6 c h0 h1 _).mono ?_ | refine (f_12_12_8 c h0 h1 _).mono ?_ | refine (f_2_2_5 c h0 h1 _).mono ?_ | refine (f_11_10_3 c h0 h1 _).mono ?_ | refine (f_4_3_1 c h0 h1 _).mono ?_ | refine (f_1_0_0 c h0 h1 _).mono ?_ | refine (f_15_13_0 c h0 h1 _).mono ?_); rintro e w0 ⟨rfl, rfl⟩) | (go_at_call 36; have t := T0; clear t T0; (refine (sg_6 (c / 4096 % 2 * 32 + c / 4 % 32) (by omega) (by omega) _).mono ?_); rintro e w0 ⟨rfl, rfl⟩) | (go_at_call 36; have t := T1; clear t T1; (refine (sg_9 (c / 4096 % 2 * 256 + c / 32 % 4 * 64 + c / 4 % 2 * 32 + c / 1024 % 4 * 8 + c / 8 % 4 * 2) (by omega) (by omega) _).mono ?_); rintro e w0 ⟨rfl, rfl⟩) | (go_at_call 37; refine (hR _).mono ?_; rintro e w1 ⟨rfl, hb⟩))
  go_ret2
  exact ⟨rfl, hb⟩
set_option maxHeartbeats 1000000 in
theorem y_27 (c : Int) (h0 : 0 ≤ c) (h1 : c ≤ 65535) (w : World) (hq : c % 4 = 3) (hf : c / 8192 % 8 = 3)  :
    Calls Tryz.prog 18 #[.int .u16 c] w fun e w' => e = .returned (.tuple #[.int .u32 0, .bool false]) ∧ Below w.heap.size w w' := by
  have T0 : Hid True := trivial
  have T1 : Hid True := trivial
  go_enter Tryz.func18, Tryz.ntmps18
  go_wp2_with (first | (go_at_call 35; (with_reducible first | refine (f_11_7_0 c h0 h1 _).mono ?_ | refine (f_6_2_0 c h0 h1 _).mono ?_ | refine (f_9_7_0 c h0 h1 _).mono ?_ | refine (f_4_2_0 c h0 h1 _).mono ?_ | refine (f_12_12_5 c h0 h1 _).mono ?_ | refine (f_5_5_6 c h0 h1 _).mono ?_ | refine (f_12_10_3 c h0 h1 _).mono ?_ | refine (f_6_6_2 c h0 h1 _).mono ?_ | refine (f_6_5_6 c h0 h1 _).mono ?_ | refine (f_12_12_8 c h0 h1 _).mono ?_ | refine (f_2_2_5 c h0 h1 _).mono ?_ | refine (f_11_10_3 c h0 h1 _).mono ?_ | refine (f_4_3_1 c h0 h1 _).mono ?_ | refine (f_1_0_0 c h0 h1 _).mono ?_ | refine (f_15_13_0 c h0 h1 _).mono ?_); rintro e w0 ⟨rfl, rfl⟩) | (go_at_call 36; have t := T0; clear t T0; (refine (sg_6 (c / 4096 % 2 * 32 + c / 4 % 32) (by omega) (by omega) _).mono ?_); rintro e w0 ⟨rfl, rfl⟩) | (go_at_call 36; have t := T1; clear t T1; (refine (sg_9 (c / 4096 % 2 * 256 + c / 32 % 4 * 64 + c / 4 % 2 * 32 + c / 1024 % 4 * 8 + c / 8 % 4 * 2) (by omega) (by omega) _).mono ?_); rintro e w0 ⟨rfl, rfl⟩))
  go_ret2
  exact ⟨rfl, Below.refl _ _⟩
set_option maxHeartbeats 1000000 in
theorem y_28 (c : Int) (h0 : 0 ≤ c) (h1 : c ≤ 65535) (w : World) (hq : c % 4 = 3) (hf : c / 8192 % 8 = 4)  :
    Calls Tryz.prog 18 #[.int .u16 c] w fun e w' => e = .returned (.tuple #[.int .u32 0, .bool false]) ∧ Below w.heap.size w w' := by
  have T0 : Hid True := trivial
  have T1 : Hid True := trivial
  go_enter Tryz.func18, Tryz.ntmps18
  go_wp2_with (first | (go_at_call 35; (with_reducible first | refine (f_11_7_0 c h0 h1 _).mono ?_ | refine (f_6_2_0 c h0 h1 _).mono ?_ | refine (f_9_7_0 c h0 h1 _).mono ?_ | refine (f_4_2_0 c h0 h1 _).mono ?_ | refine (f_12_12_5 c h0 h1 _).mono ?_ | refine (f_5_5_6 c h0 h1 _).mono ?_ | refine (f_12_10_3 c h0 h1 _).mono ?_ | refine (f_6_6_2 c h0 h1 _).mono ?_ | refine (f_6_5_6 c h0 h1 _).mono ?_ | refine (f_12_12_8 c h0 h1 _).mono ?_ | refine (f_2_2_5 c h0 h1 _).mono ?_ | refine (f_11_10_3 c h0 h1 _).mono ?_ | refine (f_4_3_1 c h0 h1 _).mono ?_ | refine (f_1_0_0 c h0 h1 _).mono ?_ | refine (f_15_13_0 c h0 h1 _).mono ?_); rintro e w0 ⟨rfl, rfl⟩) | (go_at_call 36; have t := T0; clear t T0; (refine (sg_6 (c / 4096 % 2 * 32 + c / 4 % 32) (by omega) (by omega) _).mono ?_); rintro e w0 ⟨rfl, rfl⟩) | (go_at_call 36; have t := T1; clear t T1; (refine (sg_9 (c / 4096 % 2 * 256 + c / 32 % 4 * 64 + c / 4 % 2 * 32 + c / 1024 % 4 * 8 + c / 8 % 4 * 2) (by omega) (by omega) _).mono ?_); rintro e w0 ⟨rfl, rfl⟩))
  go_ret2
  exact ⟨rfl, Below.refl _ _⟩
set_option maxHeartbeats 1000000 in
theorem y_29 (c : Int) (h0 : 0 ≤ c) (h1 : c ≤ 65535) (w : World) (hq : c % 4 = 3) (hf : c / 8192 % 8 = 5)  :
    Calls Tryz.prog 18 #[.int .u16 c] w fun e w' => e = .returned (.tuple #[.int .u32 0, .bool false]) ∧ Below w.heap.size w w' := by
  have T0 : Hid True := trivial
  have T1 : Hid True := trivial
  go_enter Tryz.func18, Tryz.ntmps18
  go_wp2_with (first | (go_at_call 35; (with_reducible first | refine (f_11_7_0 c h0 h1 _).mono ?_ | refine (f_6_2_0 c h0 h1 _).mono ?_ | refine (f_9_7_0 c h0 h1 _).mono ?_ | refine (f_4_2_0 c h0 h1 _).mono ?_ | refine (f_12_12_5 c h0 h1 _).mono ?_ | refine (f_5_5_6 c h0 h1 _).mono ?_ | refine (f_12_10_3 c h0 h1 _).mono ?_ | refine (f_6_6_2 c h0 h1 _).mono ?_ | refine (f_6_5_6 c h0 h1 _).mono ?_ | refine (f_12_12_8 c h0 h1 _).mono ?_ | refine (f_2_2_5 c h0 h1 _).mono ?_ | refine (f_11_10_3 c h0 h1 _).mono ?_ | refine (f_4_3_1 c h0 h1 _).mono ?_ | refine (f_1_0_0 c h0 h1 _).mono ?_ | refine (f_15_13_0 c h0 h1 _).mono ?_); rintro e w0 ⟨rfl, rfl⟩) | (go_at_call 36; have t := T0; clear t T0; (refine (sg_6 (c / 4096 % 2 * 32 + c / 4 % 32) (by omega) (by omega) _).mono ?_); rintro e w0 ⟨rfl, rfl⟩) | (go_at_call 36; have t := T1; clear t T1; (refine (sg_9 (c / 4096 % 2 * 256 + c / 32 % 4 * 64 + c / 4 % 2 * 32 + c / 1024 % 4 * 8 + c / 8 % 4 * 2) (by omega) (by omega) _).mono ?_); rintro e w0 ⟨rfl, rfl⟩))
  go_ret2
  exact ⟨rfl, Below.refl _ _⟩
end Go.Proofs.YtlfdokkopgmfjaaGreatDoor.B
