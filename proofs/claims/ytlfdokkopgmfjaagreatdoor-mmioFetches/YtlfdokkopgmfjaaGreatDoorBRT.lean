/- The word that the reference puts together, by kind. New blocks alone. -/
import Derived.Test.YtlfdokkopgmfjaaGreatDoorBRQ
namespace Go.Proofs.YtlfdokkopgmfjaaGreatDoor.B
open Go.RowKit
set_option linter.unusedVariables false
set_option maxRecDepth 100000
set_option maxHeartbeats 2000000 in
theorem w_18 (fn rd r1 r2 im sz : Int) (sg : Bool) (m0 : -2147483648 ≤ im) (m1 : im < 2147483648) (d0 : 0 ≤ rd) (d1 : rd ≤ 31) (a0 : 0 ≤ r1) (a1 : r1 ≤ 31) (b0 : 0 ≤ r2) (b1 : r2 ≤ 31) (f0 : 0 ≤ fn) (f1 : fn ≤ 28) (z0 : 0 ≤ sz) (z1 : sz ≤ 8) (w : World)  :
    Calls Tryz.prog 85 #[I.v ⟨18, fn, rd, r1, r2, im, sz, sg⟩] w fun e w' => e = .returned (.int .u32 (270532723)) ∧ Below w.heap.size w w' := by
  obtain ⟨s0, s1⟩ := szS_b sz z0 z1
  have TA : Hid True := trivial
  have TB : Hid True := trivial
  go_enter Tryz.func85, Tryz.ntmps85
  go_wp2_with (first | (go_at_call 99; (with_reducible refine (p_5_7 rd (by omega) (by omega) _).mono ?_); rintro e w1 ⟨rfl, rfl⟩) | (go_at_call 99; (with_reducible refine (p_5_15 r1 (by omega) (by omega) _).mono ?_); rintro e w1 ⟨rfl, rfl⟩) | (go_at_call 99; (with_reducible refine (p_5_20 r2 (by omega) (by omega) _).mono ?_); rintro e w1 ⟨rfl, rfl⟩))
  go_quiet (first | (go_at_call 99; with_reducible exact Calls.quiet_of_same (u_1_31_4096 im m0 m1 _)) | (go_at_call 99; with_reducible exact Calls.quiet_of_same (u_1_7_2048 im m0 m1 _)) | (go_at_call 99; with_reducible exact Calls.quiet_of_same (u_6_25_32 im m0 m1 _)) | (go_at_call 99; with_reducible exact Calls.quiet_of_same (u_4_8_2 im m0 m1 _)))
  go_wp2_with (fail)
  go_quiet (first | (go_at_call 99; with_reducible exact Calls.quiet2 (u_1_31_1048576 im m0 m1 _)) | (go_at_call 99; with_reducible exact Calls.quiet2 (u_8_12_4096 im m0 m1 _)) | (go_at_call 99; with_reducible exact Calls.quiet2 (u_1_20_2048 im m0 m1 _)) | (go_at_call 99; with_reducible exact Calls.quiet2 (u_10_21_2 im m0 m1 _)))
  go_wp2_with (first | (have t := TA; clear t TA; refine wpList_buildFlat rfl 117 3 _ _ rfl .i64 [0, 0, 1, 0, 2, 0, 0, 0, 3] (by kernel_rfl) (by kernel_rfl) (by kernel_rfl) rfl (by decide) (by decide) rfl ?_) | (go_at_call 63; have t := TB; clear t TB; refine (r_pickT _ 9 [0, 0, 1, 0, 2, 0, 0, 0, 3] rfl sz _ (tab_cell _ _ (by simp) _ _ _ _ rfl rfl) (by omega) (by omega) (by decide) (szS sz) rfl).mono ?_; rintro e w1 ⟨rfl, rfl⟩))
  go_ret
  exact ⟨ret_int (by first | rfl | skip), by first | exact bl1 _ _ _ _ | exact bl2 _ _ _ _ _⟩
set_option maxHeartbeats 2000000 in
theorem w_19 (fn rd r1 r2 im sz : Int) (sg : Bool) (m0 : -2147483648 ≤ im) (m1 : im < 2147483648) (d0 : 0 ≤ rd) (d1 : rd ≤ 31) (a0 : 0 ≤ r1) (a1 : r1 ≤ 31) (b0 : 0 ≤ r2) (b1 : r2 ≤ 31) (f0 : 0 ≤ fn) (f1 : fn ≤ 28) (z0 : 0 ≤ sz) (z1 : sz ≤ 8) (w : World)  :
    Calls Tryz.prog 85 #[I.v ⟨19, fn, rd, r1, r2, im, sz, sg⟩] w fun e w' => e = .returned (.int .u32 (273678451)) ∧ Below w.heap.size w w' := by
  obtain ⟨s0, s1⟩ := szS_b sz z0 z1
  have TA : Hid True := trivial
  have TB : Hid True := trivial
  go_enter Tryz.func85, Tryz.ntmps85
  go_wp2_with (first | (go_at_call 99; (with_reducible refine (p_5_7 rd (by omega) (by omega) _).mono ?_); rintro e w1 ⟨rfl, rfl⟩) | (go_at_call 99; (with_reducible refine (p_5_15 r1 (by omega) (by omega) _).mono ?_); rintro e w1 ⟨rfl, rfl⟩) | (go_at_call 99; (with_reducible refine (p_5_20 r2 (by omega) (by omega) _).mono ?_); rintro e w1 ⟨rfl, rfl⟩))
  go_quiet (first | (go_at_call 99; with_reducible exact Calls.quiet_of_same (u_1_31_4096 im m0 m1 _)) | (go_at_call 99; with_reducible exact Calls.quiet_of_same (u_1_7_2048 im m0 m1 _)) | (go_at_call 99; with_reducible exact Calls.quiet_of_same (u_6_25_32 im m0 m1 _)) | (go_at_call 99; with_reducible exact Calls.quiet_of_same (u_4_8_2 im m0 m1 _)))
  go_wp2_with (fail)
  go_quiet (first | (go_at_call 99; with_reducible exact Calls.quiet2 (u_1_31_1048576 im m0 m1 _)) | (go_at_call 99; with_reducible exact Calls.quiet2 (u_8_12_4096 im m0 m1 _)) | (go_at_call 99; with_reducible exact Calls.quiet2 (u_1_20_2048 im m0 m1 _)) | (go_at_call 99; with_reducible exact Calls.quiet2 (u_10_21_2 im m0 m1 _)))
  go_wp2_with (first | (have t := TA; clear t TA; refine wpList_buildFlat rfl 117 3 _ _ rfl .i64 [0, 0, 1, 0, 2, 0, 0, 0, 3] (by kernel_rfl) (by kernel_rfl) (by kernel_rfl) rfl (by decide) (by decide) rfl ?_) | (go_at_call 63; have t := TB; clear t TB; refine (r_pickT _ 9 [0, 0, 1, 0, 2, 0, 0, 0, 3] rfl sz _ (tab_cell _ _ (by simp) _ _ _ _ rfl rfl) (by omega) (by omega) (by decide) (szS sz) rfl).mono ?_; rintro e w1 ⟨rfl, rfl⟩))
  go_ret
  exact ⟨ret_int (by first | rfl | skip), by first | exact bl1 _ _ _ _ | exact bl2 _ _ _ _ _⟩
set_option maxHeartbeats 2000000 in
theorem w_20 (fn rd r1 r2 im sz : Int) (sg : Bool) (m0 : -2147483648 ≤ im) (m1 : im < 2147483648) (d0 : 0 ≤ rd) (d1 : rd ≤ 31) (a0 : 0 ≤ r1) (a1 : r1 ≤ 31) (b0 : 0 ≤ r2) (b1 : r2 ≤ 31) (f0 : 0 ≤ fn) (f1 : fn ≤ 28) (z0 : 0 ≤ sz) (z1 : sz ≤ 8) (w : World)  :
    Calls Tryz.prog 85 #[I.v ⟨20, fn, rd, r1, r2, im, sz, sg⟩] w fun e w' => e = .returned (.int .u32 (bits .or .u32 (bits .or .u32 (301990003) (at2 r1 32 32768)) (at2 r2 32 1048576))) ∧ Below w.heap.size w w' := by
  obtain ⟨s0, s1⟩ := szS_b sz z0 z1
  have TA : Hid True := trivial
  have TB : Hid True := trivial
  go_enter Tryz.func85, Tryz.ntmps85
  go_wp2_with (first | (go_at_call 99; (with_reducible refine (p_5_7 rd (by omega) (by omega) _).mono ?_); rintro e w1 ⟨rfl, rfl⟩) | (go_at_call 99; (with_reducible refine (p_5_15 r1 (by omega) (by omega) _).mono ?_); rintro e w1 ⟨rfl, rfl⟩) | (go_at_call 99; (with_reducible refine (p_5_20 r2 (by omega) (by omega) _).mono ?_); rintro e w1 ⟨rfl, rfl⟩))
  go_quiet (first | (go_at_call 99; with_reducible exact Calls.quiet_of_same (u_1_31_4096 im m0 m1 _)) | (go_at_call 99; with_reducible exact Calls.quiet_of_same (u_1_7_2048 im m0 m1 _)) | (go_at_call 99; with_reducible exact Calls.quiet_of_same (u_6_25_32 im m0 m1 _)) | (go_at_call 99; with_reducible exact Calls.quiet_of_same (u_4_8_2 im m0 m1 _)))
  go_wp2_with (fail)
  go_quiet (first | (go_at_call 99; with_reducible exact Calls.quiet2 (u_1_31_1048576 im m0 m1 _)) | (go_at_call 99; with_reducible exact Calls.quiet2 (u_8_12_4096 im m0 m1 _)) | (go_at_call 99; with_reducible exact Calls.quiet2 (u_1_20_2048 im m0 m1 _)) | (go_at_call 99; with_reducible exact Calls.quiet2 (u_10_21_2 im m0 m1 _)))
  go_wp2_with (first | (have t := TA; clear t TA; refine wpList_buildFlat rfl 117 3 _ _ rfl .i64 [0, 0, 1, 0, 2, 0, 0, 0, 3] (by kernel_rfl) (by kernel_rfl) (by kernel_rfl) rfl (by decide) (by decide) rfl ?_) | (go_at_call 63; have t := TB; clear t TB; refine (r_pickT _ 9 [0, 0, 1, 0, 2, 0, 0, 0, 3] rfl sz _ (tab_cell _ _ (by simp) _ _ _ _ rfl rfl) (by omega) (by omega) (by decide) (szS sz) rfl).mono ?_; rintro e w1 ⟨rfl, rfl⟩))
  go_ret
  exact ⟨ret_int (by first | rfl | skip), by first | exact bl1 _ _ _ _ | exact bl2 _ _ _ _ _⟩
set_option maxHeartbeats 2000000 in
theorem w_13 (fn rd r1 r2 im sz : Int) (sg : Bool) (m0 : -2147483648 ≤ im) (m1 : im < 2147483648) (d0 : 0 ≤ rd) (d1 : rd ≤ 31) (a0 : 0 ≤ r1) (a1 : r1 ≤ 31) (b0 : 0 ≤ r2) (b1 : r2 ≤ 31) (f0 : 0 ≤ fn) (f1 : fn ≤ 28) (z0 : 0 ≤ sz) (z1 : sz ≤ 8) (w : World)  :
    Calls Tryz.prog 85 #[I.v ⟨13, fn, rd, r1, r2, im, sz, sg⟩] w fun e w' => e = .returned (.int .u32 (bits .or .u32 (bits .or .u32 (bits .or .u32 (bits .or .u32 (115) (at2 fn 4 4096)) (at2 rd 32 128)) (at2 r1 32 32768)) (at2 im 4096 1048576))) ∧ Below w.heap.size w w' := by
  obtain ⟨s0, s1⟩ := szS_b sz z0 z1
  have TA : Hid True := trivial
  have TB : Hid True := trivial
  have fa : -9223372036854775808 ≤ fn := by omega
  have fz : fn < 9223372036854775808 := by omega
  go_enter Tryz.func85, Tryz.ntmps85
  go_wp2_with (first | (go_at_call 99; (with_reducible refine (p_5_7 rd (by omega) (by omega) _).mono ?_); rintro e w1 ⟨rfl, rfl⟩) | (go_at_call 99; (with_reducible refine (p_5_15 r1 (by omega) (by omega) _).mono ?_); rintro e w1 ⟨rfl, rfl⟩) | (go_at_call 99; (with_reducible refine (p_5_20 r2 (by omega) (by omega) _).mono ?_); rintro e w1 ⟨rfl, rfl⟩))
  go_quiet (first | (go_at_call 99; with_reducible exact Calls.quiet_of_same (u_1_31_4096 im m0 m1 _)) | (go_at_call 99; with_reducible exact Calls.quiet_of_same (u_1_7_2048 im m0 m1 _)) | (go_at_call 99; with_reducible exact Calls.quiet_of_same (u_6_25_32 im m0 m1 _)) | (go_at_call 99; with_reducible exact Calls.quiet_of_same (u_4_8_2 im m0 m1 _)))
  go_wp2_with (fail)
  go_quiet (first | (go_at_call 99; with_reducible exact Calls.quiet2 (u_1_31_1048576 im m0 m1 _)) | (go_at_call 99; with_reducible exact Calls.quiet2 (u_8_12_4096 im m0 m1 _)) | (go_at_call 99; with_reducible exact Calls.quiet2 (u_1_20_2048 im m0 m1 _)) | (go_at_call 99; with_reducible exact Calls.quiet2 (u_10_21_2 im m0 m1 _)))
  go_wp2_with (first | (have t := TA; clear t TA; refine wpList_buildFlat rfl 117 3 _ _ rfl .i64 [0, 0, 1, 0, 2, 0, 0, 0, 3] (by kernel_rfl) (by kernel_rfl) (by kernel_rfl) rfl (by decide) (by decide) rfl ?_) | (go_at_call 63; have t := TB; clear t TB; refine (r_pickT _ 9 [0, 0, 1, 0, 2, 0, 0, 0, 3] rfl sz _ (tab_cell _ _ (by simp) _ _ _ _ rfl rfl) (by omega) (by omega) (by decide) (szS sz) rfl).mono ?_; rintro e w1 ⟨rfl, rfl⟩))
  go_quiet (first | (go_at_call 99; with_reducible exact Calls.quiet_of_same (p_2_12 fn fa fz _)) | (go_at_call 99; with_reducible exact Calls.quiet_of_same (u_12_20_1 im m0 m1 _)))
  go_wp2_with (fail)
  go_ret
  exact ⟨ret_int (by first | rfl | skip), by first | exact below_dn (bl1 _ _ _ _) _ | exact bl1 _ _ _ _⟩
set_option maxHeartbeats 2000000 in
theorem w_14 (fn rd r1 r2 im sz : Int) (sg : Bool) (m0 : -2147483648 ≤ im) (m1 : im < 2147483648) (d0 : 0 ≤ rd) (d1 : rd ≤ 31) (a0 : 0 ≤ r1) (a1 : r1 ≤ 31) (b0 : 0 ≤ r2) (b1 : r2 ≤ 31) (f0 : 0 ≤ fn) (f1 : fn ≤ 28) (z0 : 0 ≤ sz) (z1 : sz ≤ 8) (w : World)  :
    Calls Tryz.prog 85 #[I.v ⟨14, fn, rd, r1, r2, im, sz, sg⟩] w fun e w' => e = .returned (.int .u32 (bits .or .u32 (bits .or .u32 (bits .or .u32 (bits .or .u32 (16499) (at2 fn 4 4096)) (at2 rd 32 128)) (at2 r1 32 32768)) (at2 im 4096 1048576))) ∧ Below w.heap.size w w' := by
  obtain ⟨s0, s1⟩ := szS_b sz z0 z1
  have TA : Hid True := trivial
  have TB : Hid True := trivial
  have fa : -9223372036854775808 ≤ fn := by omega
  have fz : fn < 9223372036854775808 := by omega
  go_enter Tryz.func85, Tryz.ntmps85
  go_wp2_with (first | (go_at_call 99; (with_reducible refine (p_5_7 rd (by omega) (by omega) _).mono ?_); rintro e w1 ⟨rfl, rfl⟩) | (go_at_call 99; (with_reducible refine (p_5_15 r1 (by omega) (by omega) _).mono ?_); rintro e w1 ⟨rfl, rfl⟩) | (go_at_call 99; (with_reducible refine (p_5_20 r2 (by omega) (by omega) _).mono ?_); rintro e w1 ⟨rfl, rfl⟩))
  go_quiet (first | (go_at_call 99; with_reducible exact Calls.quiet_of_same (u_1_31_4096 im m0 m1 _)) | (go_at_call 99; with_reducible exact Calls.quiet_of_same (u_1_7_2048 im m0 m1 _)) | (go_at_call 99; with_reducible exact Calls.quiet_of_same (u_6_25_32 im m0 m1 _)) | (go_at_call 99; with_reducible exact Calls.quiet_of_same (u_4_8_2 im m0 m1 _)))
  go_wp2_with (fail)
  go_quiet (first | (go_at_call 99; with_reducible exact Calls.quiet2 (u_1_31_1048576 im m0 m1 _)) | (go_at_call 99; with_reducible exact Calls.quiet2 (u_8_12_4096 im m0 m1 _)) | (go_at_call 99; with_reducible exact Calls.quiet2 (u_1_20_2048 im m0 m1 _)) | (go_at_call 99; with_reducible exact Calls.quiet2 (u_10_21_2 im m0 m1 _)))
  go_wp2_with (first | (have t := TA; clear t TA; refine wpList_buildFlat rfl 117 3 _ _ rfl .i64 [0, 0, 1, 0, 2, 0, 0, 0, 3] (by kernel_rfl) (by kernel_rfl) (by kernel_rfl) rfl (by decide) (by decide) rfl ?_) | (go_at_call 63; have t := TB; clear t TB; refine (r_pickT _ 9 [0, 0, 1, 0, 2, 0, 0, 0, 3] rfl sz _ (tab_cell _ _ (by simp) _ _ _ _ rfl rfl) (by omega) (by omega) (by decide) (szS sz) rfl).mono ?_; rintro e w1 ⟨rfl, rfl⟩))
  go_quiet (first | (go_at_call 99; with_reducible exact Calls.quiet_of_same (p_2_12 fn fa fz _)) | (go_at_call 99; with_reducible exact Calls.quiet_of_same (u_12_20_1 im m0 m1 _)))
  go_wp2_with (fail)
  go_ret
  exact ⟨ret_int (by first | rfl | skip), by first | exact below_dn (bl1 _ _ _ _) _ | exact bl1 _ _ _ _⟩
set_option maxHeartbeats 2000000 in
theorem w_15 (fn rd r1 r2 im sz : Int) (sg : Bool) (m0 : -2147483648 ≤ im) (m1 : im < 2147483648) (d0 : 0 ≤ rd) (d1 : rd ≤ 31) (a0 : 0 ≤ r1) (a1 : r1 ≤ 31) (b0 : 0 ≤ r2) (b1 : r2 ≤ 31) (f0 : 0 ≤ fn) (f1 : fn ≤ 28) (z0 : 0 ≤ sz) (z1 : sz ≤ 8) (w : World)  :
    Calls Tryz.prog 85 #[I.v ⟨15, fn, rd, r1, r2, im, sz, sg⟩] w fun e w' => e = .returned (.int .u32 (bits .or .u32 (bits .or .u32 (bits .or .u32 (268435503) (szS sz * 4096)) (at2 rd 32 128)) (at2 r1 32 32768))) ∧ Below w.heap.size w w' := by
  obtain ⟨s0, s1⟩ := szS_b sz z0 z1
  have TA : Hid True := trivial
  have TB : Hid True := trivial
  go_enter Tryz.func85, Tryz.ntmps85
  go_wp2_with (first | (go_at_call 99; (with_reducible refine (p_5_7 rd (by omega) (by omega) _).mono ?_); rintro e w1 ⟨rfl, rfl⟩) | (go_at_call 99; (with_reducible refine (p_5_15 r1 (by omega) (by omega) _).mono ?_); rintro e w1 ⟨rfl, rfl⟩) | (go_at_call 99; (with_reducible refine (p_5_20 r2 (by omega) (by omega) _).mono ?_); rintro e w1 ⟨rfl, rfl⟩))
  go_quiet (first | (go_at_call 99; with_reducible exact Calls.quiet_of_same (u_1_31_4096 im m0 m1 _)) | (go_at_call 99; with_reducible exact Calls.quiet_of_same (u_1_7_2048 im m0 m1 _)) | (go_at_call 99; with_reducible exact Calls.quiet_of_same (u_6_25_32 im m0 m1 _)) | (go_at_call 99; with_reducible exact Calls.quiet_of_same (u_4_8_2 im m0 m1 _)))
  go_wp2_with (fail)
  go_quiet (first | (go_at_call 99; with_reducible exact Calls.quiet2 (u_1_31_1048576 im m0 m1 _)) | (go_at_call 99; with_reducible exact Calls.quiet2 (u_8_12_4096 im m0 m1 _)) | (go_at_call 99; with_reducible exact Calls.quiet2 (u_1_20_2048 im m0 m1 _)) | (go_at_call 99; with_reducible exact Calls.quiet2 (u_10_21_2 im m0 m1 _)))
  go_wp2_with (first | (have t := TA; clear t TA; refine wpList_buildFlat rfl 117 3 _ _ rfl .i64 [0, 0, 1, 0, 2, 0, 0, 0, 3] (by kernel_rfl) (by kernel_rfl) (by kernel_rfl) rfl (by decide) (by decide) rfl ?_) | (go_at_call 63; have t := TB; clear t TB; refine (r_pickT _ 9 [0, 0, 1, 0, 2, 0, 0, 0, 3] rfl sz _ (tab_cell _ _ (by simp) _ _ _ _ rfl rfl) (by omega) (by omega) (by decide) (szS sz) rfl).mono ?_; rintro e w1 ⟨rfl, rfl⟩))
  go_ret
  exact ⟨ret_int (by first | rfl | skip), by first | exact bl1 _ _ _ _ | exact bl2 _ _ _ _ _⟩
set_option maxHeartbeats 2000000 in
theorem w_16 (fn rd r1 r2 im sz : Int) (sg : Bool) (m0 : -2147483648 ≤ im) (m1 : im < 2147483648) (d0 : 0 ≤ rd) (d1 : rd ≤ 31) (a0 : 0 ≤ r1) (a1 : r1 ≤ 31) (b0 : 0 ≤ r2) (b1 : r2 ≤ 31) (f0 : 0 ≤ fn) (f1 : fn ≤ 28) (z0 : 0 ≤ sz) (z1 : sz ≤ 8) (w : World)  :
    Calls Tryz.prog 85 #[I.v ⟨16, fn, rd, r1, r2, im, sz, sg⟩] w fun e w' => e = .returned (.int .u32 (bits .or .u32 (bits .or .u32 (402653231) (szS sz * 4096)) (bits .or .u32 (bits .or .u32 (at2 rd 32 128) (at2 r1 32 32768)) (at2 r2 32 1048576)))) ∧ Below w.heap.size w w' := by
  obtain ⟨s0, s1⟩ := szS_b sz z0 z1
  have TA : Hid True := trivial
  have TB : Hid True := trivial
  go_enter Tryz.func85, Tryz.ntmps85
  go_wp2_with (first | (go_at_call 99; (with_reducible refine (p_5_7 rd (by omega) (by omega) _).mono ?_); rintro e w1 ⟨rfl, rfl⟩) | (go_at_call 99; (with_reducible refine (p_5_15 r1 (by omega) (by omega) _).mono ?_); rintro e w1 ⟨rfl, rfl⟩) | (go_at_call 99; (with_reducible refine (p_5_20 r2 (by omega) (by omega) _).mono ?_); rintro e w1 ⟨rfl, rfl⟩))
  go_quiet (first | (go_at_call 99; with_reducible exact Calls.quiet_of_same (u_1_31_4096 im m0 m1 _)) | (go_at_call 99; with_reducible exact Calls.quiet_of_same (u_1_7_2048 im m0 m1 _)) | (go_at_call 99; with_reducible exact Calls.quiet_of_same (u_6_25_32 im m0 m1 _)) | (go_at_call 99; with_reducible exact Calls.quiet_of_same (u_4_8_2 im m0 m1 _)))
  go_wp2_with (fail)
  go_quiet (first | (go_at_call 99; with_reducible exact Calls.quiet2 (u_1_31_1048576 im m0 m1 _)) | (go_at_call 99; with_reducible exact Calls.quiet2 (u_8_12_4096 im m0 m1 _)) | (go_at_call 99; with_reducible exact Calls.quiet2 (u_1_20_2048 im m0 m1 _)) | (go_at_call 99; with_reducible exact Calls.quiet2 (u_10_21_2 im m0 m1 _)))
  go_wp2_with (first | (have t := TA; clear t TA; refine wpList_buildFlat rfl 117 3 _ _ rfl .i64 [0, 0, 1, 0, 2, 0, 0, 0, 3] (by kernel_rfl) (by kernel_rfl) (by kernel_rfl) rfl (by decide) (by decide) rfl ?_) | (go_at_call 63; have t := TB; clear t TB; refine (r_pickT _ 9 [0, 0, 1, 0, 2, 0, 0, 0, 3] rfl sz _ (tab_cell _ _ (by simp) _ _ _ _ rfl rfl) (by omega) (by omega) (by decide) (szS sz) rfl).mono ?_; rintro e w1 ⟨rfl, rfl⟩))
  go_ret
  exact ⟨ret_int (by first | rfl | skip), by first | exact bl1 _ _ _ _ | exact bl2 _ _ _ _ _⟩
set_option maxHeartbeats 2000000 in
theorem w_17 (fn rd r1 r2 im sz : Int) (sg : Bool) (m0 : -2147483648 ≤ im) (m1 : im < 2147483648) (d0 : 0 ≤ rd) (d1 : rd ≤ 31) (a0 : 0 ≤ r1) (a1 : r1 ≤ 31) (b0 : 0 ≤ r2) (b1 : r2 ≤ 31) (f0 : 0 ≤ fn) (f1 : fn ≤ 28) (z0 : 0 ≤ sz) (z1 : sz ≤ 8) (w : World)  :
    Calls Tryz.prog 85 #[I.v ⟨17, fn, rd, r1, r2, im, sz, sg⟩] w fun e w' => e = .returned (.int .u32 (bits .or .u32 (bits .or .u32 (bits .or .u32 (47) (at2 (fiS fn) 32 134217728)) (szS sz * 4096)) (bits .or .u32 (bits .or .u32 (at2 rd 32 128) (at2 r1 32 32768)) (at2 r2 32 1048576)))) ∧ Below w.heap.size w w' := by
  obtain ⟨s0, s1⟩ := szS_b sz z0 z1
  have TA : Hid True := trivial
  have TB : Hid True := trivial
  go_enter Tryz.func85, Tryz.ntmps85
  go_wp2_with (first | (go_at_call 99; (with_reducible refine (p_5_7 rd (by omega) (by omega) _).mono ?_); rintro e w1 ⟨rfl, rfl⟩) | (go_at_call 99; (with_reducible refine (p_5_15 r1 (by omega) (by omega) _).mono ?_); rintro e w1 ⟨rfl, rfl⟩) | (go_at_call 99; (with_reducible refine (p_5_20 r2 (by omega) (by omega) _).mono ?_); rintro e w1 ⟨rfl, rfl⟩))
  go_quiet (first | (go_at_call 99; with_reducible exact Calls.quiet_of_same (u_1_31_4096 im m0 m1 _)) | (go_at_call 99; with_reducible exact Calls.quiet_of_same (u_1_7_2048 im m0 m1 _)) | (go_at_call 99; with_reducible exact Calls.quiet_of_same (u_6_25_32 im m0 m1 _)) | (go_at_call 99; with_reducible exact Calls.quiet_of_same (u_4_8_2 im m0 m1 _)))
  go_wp2_with (fail)
  go_quiet (first | (go_at_call 99; with_reducible exact Calls.quiet2 (u_1_31_1048576 im m0 m1 _)) | (go_at_call 99; with_reducible exact Calls.quiet2 (u_8_12_4096 im m0 m1 _)) | (go_at_call 99; with_reducible exact Calls.quiet2 (u_1_20_2048 im m0 m1 _)) | (go_at_call 99; with_reducible exact Calls.quiet2 (u_10_21_2 im m0 m1 _)))
  go_wp2_with (first | (have t := TA; clear t TA; refine wpList_buildFlat rfl 117 3 _ _ rfl .i64 [0, 0, 1, 0, 2, 0, 0, 0, 3] (by kernel_rfl) (by kernel_rfl) (by kernel_rfl) rfl (by decide) (by decide) rfl ?_) | (go_at_call 63; have t := TB; clear t TB; refine (r_pickT _ 9 [0, 0, 1, 0, 2, 0, 0, 0, 3] rfl sz _ (tab_cell _ _ (by simp) _ _ _ _ rfl rfl) (by omega) (by omega) (by decide) (szS sz) rfl).mono ?_; rintro e w1 ⟨rfl, rfl⟩) | (refine wpList_buildFlat rfl 117 3 _ _ rfl .i64 [0, 1, 0, 4, 12, 8, 16, 20, 24, 28] (by kernel_rfl) (by kernel_rfl) (by kernel_rfl) rfl (by decide) (by decide) rfl ?_) | (go_at_call 63; refine (r_pickT _ 10 [0, 1, 0, 4, 12, 8, 16, 20, 24, 28] rfl fn _ (tab_cell _ _ (by simp) _ _ _ _ rfl rfl) (by omega) (by omega) (by decide) (fiS fn) rfl).mono ?_; rintro e w1 ⟨rfl, rfl⟩) | (go_at_call 99; (with_reducible refine (p_5_27 (fiS fn) (by have := fiS_b fn f0 f1; omega) (by have := fiS_b fn f0 f1; omega) _).mono ?_); rintro e w1 ⟨rfl, rfl⟩))
  go_ret
  exact ⟨ret_int (by first | rfl | skip), by first | exact bl1 _ _ _ _ | exact bl2 _ _ _ _ _⟩
set_option maxHeartbeats 2000000 in
theorem w_e (k fn rd r1 r2 im sz : Int) (sg : Bool) (m0 : -2147483648 ≤ im) (m1 : im < 2147483648) (d0 : 0 ≤ rd) (d1 : rd ≤ 31) (a0 : 0 ≤ r1) (a1 : r1 ≤ 31) (b0 : 0 ≤ r2) (b1 : r2 ≤ 31) (f0 : 0 ≤ fn) (f1 : fn ≤ 28) (z0 : 0 ≤ sz) (z1 : sz ≤ 8) (w : World) (n1 : k ≠ 1) (n2 : k ≠ 2) (n3 : k ≠ 3) (n4 : k ≠ 4) (n5 : k ≠ 5) (n6 : k ≠ 6) (n7 : k ≠ 7) (n8 : k ≠ 8) (n9 : k ≠ 9) (n10 : k ≠ 10) (n11 : k ≠ 11) (n12 : k ≠ 12) (n13 : k ≠ 13) (n14 : k ≠ 14) (n15 : k ≠ 15) (n16 : k ≠ 16) (n17 : k ≠ 17) (n18 : k ≠ 18) (n19 : k ≠ 19) (n20 : k ≠ 20) :
    Calls Tryz.prog 85 #[I.v ⟨k, fn, rd, r1, r2, im, sz, sg⟩] w fun e w' => e = .returned (.int .u32 (0)) ∧ Below w.heap.size w w' := by
  obtain ⟨s0, s1⟩ := szS_b sz z0 z1
  have TA : Hid True := trivial
  have TB : Hid True := trivial
  go_enter Tryz.func85, Tryz.ntmps85
  go_wp2_with (first | (go_at_call 99; (with_reducible refine (p_5_7 rd (by omega) (by omega) _).mono ?_); rintro e w1 ⟨rfl, rfl⟩) | (go_at_call 99; (with_reducible refine (p_5_15 r1 (by omega) (by omega) _).mono ?_); rintro e w1 ⟨rfl, rfl⟩) | (go_at_call 99; (with_reducible refine (p_5_20 r2 (by omega) (by omega) _).mono ?_); rintro e w1 ⟨rfl, rfl⟩))
  go_quiet (first | (go_at_call 99; with_reducible exact Calls.quiet_of_same (u_1_31_4096 im m0 m1 _)) | (go_at_call 99; with_reducible exact Calls.quiet_of_same (u_1_7_2048 im m0 m1 _)) | (go_at_call 99; with_reducible exact Calls.quiet_of_same (u_6_25_32 im m0 m1 _)) | (go_at_call 99; with_reducible exact Calls.quiet_of_same (u_4_8_2 im m0 m1 _)))
  go_wp2_with (fail)
  go_quiet (first | (go_at_call 99; with_reducible exact Calls.quiet2 (u_1_31_1048576 im m0 m1 _)) | (go_at_call 99; with_reducible exact Calls.quiet2 (u_8_12_4096 im m0 m1 _)) | (go_at_call 99; with_reducible exact Calls.quiet2 (u_1_20_2048 im m0 m1 _)) | (go_at_call 99; with_reducible exact Calls.quiet2 (u_10_21_2 im m0 m1 _)))
  go_wp2_with (first | (have t := TA; clear t TA; refine wpList_buildFlat rfl 117 3 _ _ rfl .i64 [0, 0, 1, 0, 2, 0, 0, 0, 3] (by kernel_rfl) (by kernel_rfl) (by kernel_rfl) rfl (by decide) (by decide) rfl ?_) | (go_at_call 63; have t := TB; clear t TB; refine (r_pickT _ 9 [0, 0, 1, 0, 2, 0, 0, 0, 3] rfl sz _ (tab_cell _ _ (by simp) _ _ _ _ rfl rfl) (by omega) (by omega) (by decide) (szS sz) rfl).mono ?_; rintro e w1 ⟨rfl, rfl⟩))
  go_ret
  exact ⟨ret_int (by first | rfl | skip), by first | exact bl1 _ _ _ _ | exact bl2 _ _ _ _ _⟩
end Go.Proofs.YtlfdokkopgmfjaaGreatDoor.B
