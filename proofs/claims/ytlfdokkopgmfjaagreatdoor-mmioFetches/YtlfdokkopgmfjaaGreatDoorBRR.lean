/- The word that the reference puts together, by kind. New blocks alone. -/
import Derived.Test.YtlfdokkopgmfjaaGreatDoorBRQ
namespace Go.Proofs.YtlfdokkopgmfjaaGreatDoor.B
open Go.RowKit
set_option linter.unusedVariables false
set_option maxRecDepth 100000
set_option maxHeartbeats 2000000 in
theorem w_1 (fn rd r1 r2 im sz : Int) (sg : Bool) (m0 : -2147483648 ≤ im) (m1 : im < 2147483648) (d0 : 0 ≤ rd) (d1 : rd ≤ 31) (a0 : 0 ≤ r1) (a1 : r1 ≤ 31) (b0 : 0 ≤ r2) (b1 : r2 ≤ 31) (f0 : 0 ≤ fn) (f1 : fn ≤ 28) (z0 : 0 ≤ sz) (z1 : sz ≤ 8) (w : World)  :
    Calls Tryz.prog 85 #[I.v ⟨1, fn, rd, r1, r2, im, sz, sg⟩] w fun e w' => e = .returned (.int .u32 (bits .or .u32 (bits .or .u32 (55) (at2 rd 32 128)) (at2 (im / 4096) 1048576 4096))) ∧ Below w.heap.size w w' := by
  obtain ⟨s0, s1⟩ := szS_b sz z0 z1
  have TA : Hid True := trivial
  have TB : Hid True := trivial
  go_enter Tryz.func85, Tryz.ntmps85
  go_wp2_with (first | (go_at_call 99; (with_reducible refine (p_5_7 rd (by omega) (by omega) _).mono ?_); rintro e w1 ⟨rfl, rfl⟩) | (go_at_call 99; (with_reducible refine (p_5_15 r1 (by omega) (by omega) _).mono ?_); rintro e w1 ⟨rfl, rfl⟩) | (go_at_call 99; (with_reducible refine (p_5_20 r2 (by omega) (by omega) _).mono ?_); rintro e w1 ⟨rfl, rfl⟩))
  go_quiet (first | (go_at_call 99; with_reducible exact Calls.quiet_of_same (u_1_31_4096 im m0 m1 _)) | (go_at_call 99; with_reducible exact Calls.quiet_of_same (u_1_7_2048 im m0 m1 _)) | (go_at_call 99; with_reducible exact Calls.quiet_of_same (u_6_25_32 im m0 m1 _)) | (go_at_call 99; with_reducible exact Calls.quiet_of_same (u_4_8_2 im m0 m1 _)))
  go_wp2_with (fail)
  go_quiet (first | (go_at_call 99; with_reducible exact Calls.quiet2 (u_1_31_1048576 im m0 m1 _)) | (go_at_call 99; with_reducible exact Calls.quiet2 (u_8_12_4096 im m0 m1 _)) | (go_at_call 99; with_reducible exact Calls.quiet2 (u_1_20_2048 im m0 m1 _)) | (go_at_call 99; with_reducible exact Calls.quiet2 (u_10_21_2 im m0 m1 _)))
  go_wp2_with (first | (have t := TA; clear t TA; refine wpList_buildFlat rfl 117 3 _ _ rfl .i64 [0, 0, 1, 0, 2, 0, 0, 0, 3] (by kernel_rfl) (by kernel_rfl) (by kernel_rfl) rfl (by decide) (by decide) rfl ?_) | (go_at_call 63; have t := TB; clear t TB; refine (r_pickT _ 9 [0, 0, 1, 0, 2, 0, 0, 0, 3] rfl sz _ (tab_cell _ _ (by simp) _ _ _ _ rfl rfl) (by omega) (by omega) (by decide) (szS sz) rfl).mono ?_; rintro e w1 ⟨rfl, rfl⟩) | (go_at_call 99; (with_reducible refine (u_20_12_4096 im m0 m1 _).mono ?_); rintro e w1 ⟨rfl, rfl⟩))
  go_ret
  exact ⟨ret_int (by first | rfl | skip), by first | exact bl1 _ _ _ _ | exact bl2 _ _ _ _ _⟩
set_option maxHeartbeats 2000000 in
theorem w_2 (fn rd r1 r2 im sz : Int) (sg : Bool) (m0 : -2147483648 ≤ im) (m1 : im < 2147483648) (d0 : 0 ≤ rd) (d1 : rd ≤ 31) (a0 : 0 ≤ r1) (a1 : r1 ≤ 31) (b0 : 0 ≤ r2) (b1 : r2 ≤ 31) (f0 : 0 ≤ fn) (f1 : fn ≤ 28) (z0 : 0 ≤ sz) (z1 : sz ≤ 8) (w : World)  :
    Calls Tryz.prog 85 #[I.v ⟨2, fn, rd, r1, r2, im, sz, sg⟩] w fun e w' => e = .returned (.int .u32 (bits .or .u32 (bits .or .u32 (23) (at2 rd 32 128)) (at2 (im / 4096) 1048576 4096))) ∧ Below w.heap.size w w' := by
  obtain ⟨s0, s1⟩ := szS_b sz z0 z1
  have TA : Hid True := trivial
  have TB : Hid True := trivial
  go_enter Tryz.func85, Tryz.ntmps85
  go_wp2_with (first | (go_at_call 99; (with_reducible refine (p_5_7 rd (by omega) (by omega) _).mono ?_); rintro e w1 ⟨rfl, rfl⟩) | (go_at_call 99; (with_reducible refine (p_5_15 r1 (by omega) (by omega) _).mono ?_); rintro e w1 ⟨rfl, rfl⟩) | (go_at_call 99; (with_reducible refine (p_5_20 r2 (by omega) (by omega) _).mono ?_); rintro e w1 ⟨rfl, rfl⟩))
  go_quiet (first | (go_at_call 99; with_reducible exact Calls.quiet_of_same (u_1_31_4096 im m0 m1 _)) | (go_at_call 99; with_reducible exact Calls.quiet_of_same (u_1_7_2048 im m0 m1 _)) | (go_at_call 99; with_reducible exact Calls.quiet_of_same (u_6_25_32 im m0 m1 _)) | (go_at_call 99; with_reducible exact Calls.quiet_of_same (u_4_8_2 im m0 m1 _)))
  go_wp2_with (fail)
  go_quiet (first | (go_at_call 99; with_reducible exact Calls.quiet2 (u_1_31_1048576 im m0 m1 _)) | (go_at_call 99; with_reducible exact Calls.quiet2 (u_8_12_4096 im m0 m1 _)) | (go_at_call 99; with_reducible exact Calls.quiet2 (u_1_20_2048 im m0 m1 _)) | (go_at_call 99; with_reducible exact Calls.quiet2 (u_10_21_2 im m0 m1 _)))
  go_wp2_with (first | (have t := TA; clear t TA; refine wpList_buildFlat rfl 117 3 _ _ rfl .i64 [0, 0, 1, 0, 2, 0, 0, 0, 3] (by kernel_rfl) (by kernel_rfl) (by kernel_rfl) rfl (by decide) (by decide) rfl ?_) | (go_at_call 63; have t := TB; clear t TB; refine (r_pickT _ 9 [0, 0, 1, 0, 2, 0, 0, 0, 3] rfl sz _ (tab_cell _ _ (by simp) _ _ _ _ rfl rfl) (by omega) (by omega) (by decide) (szS sz) rfl).mono ?_; rintro e w1 ⟨rfl, rfl⟩) | (go_at_call 99; (with_reducible refine (u_20_12_4096 im m0 m1 _).mono ?_); rintro e w1 ⟨rfl, rfl⟩))
  go_ret
  exact ⟨ret_int (by first | rfl | skip), by first | exact bl1 _ _ _ _ | exact bl2 _ _ _ _ _⟩
set_option maxHeartbeats 2000000 in
theorem w_3 (fn rd r1 r2 im sz : Int) (sg : Bool) (m0 : -2147483648 ≤ im) (m1 : im < 2147483648) (d0 : 0 ≤ rd) (d1 : rd ≤ 31) (a0 : 0 ≤ r1) (a1 : r1 ≤ 31) (b0 : 0 ≤ r2) (b1 : r2 ≤ 31) (f0 : 0 ≤ fn) (f1 : fn ≤ 28) (z0 : 0 ≤ sz) (z1 : sz ≤ 8) (w : World)  :
    Calls Tryz.prog 85 #[I.v ⟨3, fn, rd, r1, r2, im, sz, sg⟩] w fun e w' => e = .returned (.int .u32 (bits .or .u32 (bits .or .u32 (111) (at2 rd 32 128)) (bits .or .u32 (bits .or .u32 (bits .or .u32 (at2 (im / 1048576) 2 2147483648) (at2 (im / 4096) 256 4096)) (at2 (im / 2048) 2 1048576)) (at2 (im / 2) 1024 2097152)))) ∧ Below w.heap.size w w' := by
  obtain ⟨s0, s1⟩ := szS_b sz z0 z1
  have TA : Hid True := trivial
  have TB : Hid True := trivial
  go_enter Tryz.func85, Tryz.ntmps85
  go_wp2_with (first | (go_at_call 99; (with_reducible refine (p_5_7 rd (by omega) (by omega) _).mono ?_); rintro e w1 ⟨rfl, rfl⟩) | (go_at_call 99; (with_reducible refine (p_5_15 r1 (by omega) (by omega) _).mono ?_); rintro e w1 ⟨rfl, rfl⟩) | (go_at_call 99; (with_reducible refine (p_5_20 r2 (by omega) (by omega) _).mono ?_); rintro e w1 ⟨rfl, rfl⟩))
  go_quiet (first | (go_at_call 99; with_reducible exact Calls.quiet_of_same (u_1_31_4096 im m0 m1 _)) | (go_at_call 99; with_reducible exact Calls.quiet_of_same (u_1_7_2048 im m0 m1 _)) | (go_at_call 99; with_reducible exact Calls.quiet_of_same (u_6_25_32 im m0 m1 _)) | (go_at_call 99; with_reducible exact Calls.quiet_of_same (u_4_8_2 im m0 m1 _)))
  go_wp2_with (fail)
  go_quiet (first | (go_at_call 99; with_reducible exact Calls.quiet2 (u_1_31_1048576 im m0 m1 _)) | (go_at_call 99; with_reducible exact Calls.quiet2 (u_8_12_4096 im m0 m1 _)) | (go_at_call 99; with_reducible exact Calls.quiet2 (u_1_20_2048 im m0 m1 _)) | (go_at_call 99; with_reducible exact Calls.quiet2 (u_10_21_2 im m0 m1 _)))
  go_wp2_with (first | (have t := TA; clear t TA; refine wpList_buildFlat rfl 117 3 _ _ rfl .i64 [0, 0, 1, 0, 2, 0, 0, 0, 3] (by kernel_rfl) (by kernel_rfl) (by kernel_rfl) rfl (by decide) (by decide) rfl ?_) | (go_at_call 63; have t := TB; clear t TB; refine (r_pickT _ 9 [0, 0, 1, 0, 2, 0, 0, 0, 3] rfl sz _ (tab_cell _ _ (by simp) _ _ _ _ rfl rfl) (by omega) (by omega) (by decide) (szS sz) rfl).mono ?_; rintro e w1 ⟨rfl, rfl⟩))
  go_ret
  exact ⟨ret_int (by first | rfl | skip), by first | exact bl1 _ _ _ _ | exact bl2 _ _ _ _ _⟩
set_option maxHeartbeats 2000000 in
theorem w_4 (fn rd r1 r2 im sz : Int) (sg : Bool) (m0 : -2147483648 ≤ im) (m1 : im < 2147483648) (d0 : 0 ≤ rd) (d1 : rd ≤ 31) (a0 : 0 ≤ r1) (a1 : r1 ≤ 31) (b0 : 0 ≤ r2) (b1 : r2 ≤ 31) (f0 : 0 ≤ fn) (f1 : fn ≤ 28) (z0 : 0 ≤ sz) (z1 : sz ≤ 8) (w : World)  :
    Calls Tryz.prog 85 #[I.v ⟨4, fn, rd, r1, r2, im, sz, sg⟩] w fun e w' => e = .returned (.int .u32 (bits .or .u32 (bits .or .u32 (bits .or .u32 (103) (at2 rd 32 128)) (at2 r1 32 32768)) (at2 im 4096 1048576))) ∧ Below w.heap.size w w' := by
  obtain ⟨s0, s1⟩ := szS_b sz z0 z1
  have TA : Hid True := trivial
  have TB : Hid True := trivial
  go_enter Tryz.func85, Tryz.ntmps85
  go_wp2_with (first | (go_at_call 99; (with_reducible refine (p_5_7 rd (by omega) (by omega) _).mono ?_); rintro e w1 ⟨rfl, rfl⟩) | (go_at_call 99; (with_reducible refine (p_5_15 r1 (by omega) (by omega) _).mono ?_); rintro e w1 ⟨rfl, rfl⟩) | (go_at_call 99; (with_reducible refine (p_5_20 r2 (by omega) (by omega) _).mono ?_); rintro e w1 ⟨rfl, rfl⟩))
  go_quiet (first | (go_at_call 99; with_reducible exact Calls.quiet_of_same (u_1_31_4096 im m0 m1 _)) | (go_at_call 99; with_reducible exact Calls.quiet_of_same (u_1_7_2048 im m0 m1 _)) | (go_at_call 99; with_reducible exact Calls.quiet_of_same (u_6_25_32 im m0 m1 _)) | (go_at_call 99; with_reducible exact Calls.quiet_of_same (u_4_8_2 im m0 m1 _)))
  go_wp2_with (fail)
  go_quiet (first | (go_at_call 99; with_reducible exact Calls.quiet2 (u_1_31_1048576 im m0 m1 _)) | (go_at_call 99; with_reducible exact Calls.quiet2 (u_8_12_4096 im m0 m1 _)) | (go_at_call 99; with_reducible exact Calls.quiet2 (u_1_20_2048 im m0 m1 _)) | (go_at_call 99; with_reducible exact Calls.quiet2 (u_10_21_2 im m0 m1 _)))
  go_wp2_with (first | (have t := TA; clear t TA; refine wpList_buildFlat rfl 117 3 _ _ rfl .i64 [0, 0, 1, 0, 2, 0, 0, 0, 3] (by kernel_rfl) (by kernel_rfl) (by kernel_rfl) rfl (by decide) (by decide) rfl ?_) | (go_at_call 63; have t := TB; clear t TB; refine (r_pickT _ 9 [0, 0, 1, 0, 2, 0, 0, 0, 3] rfl sz _ (tab_cell _ _ (by simp) _ _ _ _ rfl rfl) (by omega) (by omega) (by decide) (szS sz) rfl).mono ?_; rintro e w1 ⟨rfl, rfl⟩) | (go_at_call 99; (with_reducible refine (u_12_20_1 im m0 m1 _).mono ?_); rintro e w1 ⟨rfl, rfl⟩))
  go_ret
  exact ⟨ret_int (by first | rfl | skip), by first | exact bl1 _ _ _ _ | exact bl2 _ _ _ _ _⟩
set_option maxHeartbeats 2000000 in
theorem w_5 (fn rd r1 r2 im sz : Int) (sg : Bool) (m0 : -2147483648 ≤ im) (m1 : im < 2147483648) (d0 : 0 ≤ rd) (d1 : rd ≤ 31) (a0 : 0 ≤ r1) (a1 : r1 ≤ 31) (b0 : 0 ≤ r2) (b1 : r2 ≤ 31) (f0 : 0 ≤ fn) (f1 : fn ≤ 28) (z0 : 0 ≤ sz) (z1 : sz ≤ 8) (w : World)  :
    Calls Tryz.prog 85 #[I.v ⟨5, fn, rd, r1, r2, im, sz, sg⟩] w fun e w' => e = .returned (.int .u32 (bits .or .u32 (bits .or .u32 (bits .or .u32 (bits .or .u32 (99) (at2 (coS fn) 8 4096)) (at2 r1 32 32768)) (at2 r2 32 1048576)) (bits .or .u32 (bits .or .u32 (bits .or .u32 (at2 (im / 4096) 2 2147483648) (at2 (im / 2048) 2 128)) (at2 (im / 32) 64 33554432)) (at2 (im / 2) 16 256)))) ∧ Below w.heap.size w w' := by
  obtain ⟨s0, s1⟩ := szS_b sz z0 z1
  have TA : Hid True := trivial
  have TB : Hid True := trivial
  go_enter Tryz.func85, Tryz.ntmps85
  go_wp2_with (first | (go_at_call 99; (with_reducible refine (p_5_7 rd (by omega) (by omega) _).mono ?_); rintro e w1 ⟨rfl, rfl⟩) | (go_at_call 99; (with_reducible refine (p_5_15 r1 (by omega) (by omega) _).mono ?_); rintro e w1 ⟨rfl, rfl⟩) | (go_at_call 99; (with_reducible refine (p_5_20 r2 (by omega) (by omega) _).mono ?_); rintro e w1 ⟨rfl, rfl⟩))
  go_quiet (first | (go_at_call 99; with_reducible exact Calls.quiet_of_same (u_1_31_4096 im m0 m1 _)) | (go_at_call 99; with_reducible exact Calls.quiet_of_same (u_1_7_2048 im m0 m1 _)) | (go_at_call 99; with_reducible exact Calls.quiet_of_same (u_6_25_32 im m0 m1 _)) | (go_at_call 99; with_reducible exact Calls.quiet_of_same (u_4_8_2 im m0 m1 _)))
  go_wp2_with (fail)
  go_quiet (first | (go_at_call 99; with_reducible exact Calls.quiet2 (u_1_31_1048576 im m0 m1 _)) | (go_at_call 99; with_reducible exact Calls.quiet2 (u_8_12_4096 im m0 m1 _)) | (go_at_call 99; with_reducible exact Calls.quiet2 (u_1_20_2048 im m0 m1 _)) | (go_at_call 99; with_reducible exact Calls.quiet2 (u_10_21_2 im m0 m1 _)))
  go_wp2_with (first | (have t := TA; clear t TA; refine wpList_buildFlat rfl 117 3 _ _ rfl .i64 [0, 0, 1, 0, 2, 0, 0, 0, 3] (by kernel_rfl) (by kernel_rfl) (by kernel_rfl) rfl (by decide) (by decide) rfl ?_) | (go_at_call 63; have t := TB; clear t TB; refine (r_pickT _ 9 [0, 0, 1, 0, 2, 0, 0, 0, 3] rfl sz _ (tab_cell _ _ (by simp) _ _ _ _ rfl rfl) (by omega) (by omega) (by decide) (szS sz) rfl).mono ?_; rintro e w1 ⟨rfl, rfl⟩) | (refine wpList_buildFlat rfl 117 3 _ _ rfl .i64 [0, 0, 1, 4, 5, 6, 7] (by kernel_rfl) (by kernel_rfl) (by kernel_rfl) rfl (by decide) (by decide) rfl ?_) | (go_at_call 63; refine (r_pickT _ 7 [0, 0, 1, 4, 5, 6, 7] rfl fn _ (tab_cell _ _ (by simp) _ _ _ _ rfl rfl) (by omega) (by omega) (by decide) (coS fn) rfl).mono ?_; rintro e w1 ⟨rfl, rfl⟩) | (go_at_call 99; (with_reducible refine (p_3_12 (coS fn) (by have := coS_b fn f0 f1; omega) (by have := coS_b fn f0 f1; omega) _).mono ?_); rintro e w1 ⟨rfl, rfl⟩))
  go_ret
  exact ⟨ret_int (by first | rfl | skip), by first | exact bl1 _ _ _ _ | exact bl2 _ _ _ _ _⟩
set_option maxHeartbeats 2000000 in
theorem w_6s (fn rd r1 r2 im sz : Int) (sg : Bool) (m0 : -2147483648 ≤ im) (m1 : im < 2147483648) (d0 : 0 ≤ rd) (d1 : rd ≤ 31) (a0 : 0 ≤ r1) (a1 : r1 ≤ 31) (b0 : 0 ≤ r2) (b1 : r2 ≤ 31) (f0 : 0 ≤ fn) (f1 : fn ≤ 28) (z0 : 0 ≤ sz) (z1 : sz ≤ 8) (w : World) (hs : sg = true) :
    Calls Tryz.prog 85 #[I.v ⟨6, fn, rd, r1, r2, im, sz, sg⟩] w fun e w' => e = .returned (.int .u32 (bits .or .u32 (bits .or .u32 (bits .or .u32 (bits .or .u32 (3) (szS sz * 4096)) (at2 rd 32 128)) (at2 r1 32 32768)) (at2 im 4096 1048576))) ∧ Below w.heap.size w w' := by
  obtain ⟨s0, s1⟩ := szS_b sz z0 z1
  have TA : Hid True := trivial
  have TB : Hid True := trivial
  go_enter Tryz.func85, Tryz.ntmps85
  go_wp2_with (first | (go_at_call 99; (with_reducible refine (p_5_7 rd (by omega) (by omega) _).mono ?_); rintro e w1 ⟨rfl, rfl⟩) | (go_at_call 99; (with_reducible refine (p_5_15 r1 (by omega) (by omega) _).mono ?_); rintro e w1 ⟨rfl, rfl⟩) | (go_at_call 99; (with_reducible refine (p_5_20 r2 (by omega) (by omega) _).mono ?_); rintro e w1 ⟨rfl, rfl⟩))
  go_quiet (first | (go_at_call 99; with_reducible exact Calls.quiet_of_same (u_1_31_4096 im m0 m1 _)) | (go_at_call 99; with_reducible exact Calls.quiet_of_same (u_1_7_2048 im m0 m1 _)) | (go_at_call 99; with_reducible exact Calls.quiet_of_same (u_6_25_32 im m0 m1 _)) | (go_at_call 99; with_reducible exact Calls.quiet_of_same (u_4_8_2 im m0 m1 _)))
  go_wp2_with (fail)
  go_quiet (first | (go_at_call 99; with_reducible exact Calls.quiet2 (u_1_31_1048576 im m0 m1 _)) | (go_at_call 99; with_reducible exact Calls.quiet2 (u_8_12_4096 im m0 m1 _)) | (go_at_call 99; with_reducible exact Calls.quiet2 (u_1_20_2048 im m0 m1 _)) | (go_at_call 99; with_reducible exact Calls.quiet2 (u_10_21_2 im m0 m1 _)))
  go_wp2_with (first | (have t := TA; clear t TA; refine wpList_buildFlat rfl 117 3 _ _ rfl .i64 [0, 0, 1, 0, 2, 0, 0, 0, 3] (by kernel_rfl) (by kernel_rfl) (by kernel_rfl) rfl (by decide) (by decide) rfl ?_) | (go_at_call 63; have t := TB; clear t TB; refine (r_pickT _ 9 [0, 0, 1, 0, 2, 0, 0, 0, 3] rfl sz _ (tab_cell _ _ (by simp) _ _ _ _ rfl rfl) (by omega) (by omega) (by decide) (szS sz) rfl).mono ?_; rintro e w1 ⟨rfl, rfl⟩) | (go_at_call 99; (with_reducible refine (u_12_20_1 im m0 m1 _).mono ?_); rintro e w1 ⟨rfl, rfl⟩))
  go_ret
  exact ⟨ret_int (by first | rfl | skip), by first | exact bl1 _ _ _ _ | exact bl2 _ _ _ _ _⟩
set_option maxHeartbeats 2000000 in
theorem w_6u (fn rd r1 r2 im sz : Int) (sg : Bool) (m0 : -2147483648 ≤ im) (m1 : im < 2147483648) (d0 : 0 ≤ rd) (d1 : rd ≤ 31) (a0 : 0 ≤ r1) (a1 : r1 ≤ 31) (b0 : 0 ≤ r2) (b1 : r2 ≤ 31) (f0 : 0 ≤ fn) (f1 : fn ≤ 28) (z0 : 0 ≤ sz) (z1 : sz ≤ 8) (w : World) (hs : sg = false) :
    Calls Tryz.prog 85 #[I.v ⟨6, fn, rd, r1, r2, im, sz, sg⟩] w fun e w' => e = .returned (.int .u32 (bits .or .u32 (bits .or .u32 (bits .or .u32 (bits .or .u32 (3) ((szS sz + 4) * 4096)) (at2 rd 32 128)) (at2 r1 32 32768)) (at2 im 4096 1048576))) ∧ Below w.heap.size w w' := by
  obtain ⟨s0, s1⟩ := szS_b sz z0 z1
  have TA : Hid True := trivial
  have TB : Hid True := trivial
  go_enter Tryz.func85, Tryz.ntmps85
  go_wp2_with (first | (go_at_call 99; (with_reducible refine (p_5_7 rd (by omega) (by omega) _).mono ?_); rintro e w1 ⟨rfl, rfl⟩) | (go_at_call 99; (with_reducible refine (p_5_15 r1 (by omega) (by omega) _).mono ?_); rintro e w1 ⟨rfl, rfl⟩) | (go_at_call 99; (with_reducible refine (p_5_20 r2 (by omega) (by omega) _).mono ?_); rintro e w1 ⟨rfl, rfl⟩))
  go_quiet (first | (go_at_call 99; with_reducible exact Calls.quiet_of_same (u_1_31_4096 im m0 m1 _)) | (go_at_call 99; with_reducible exact Calls.quiet_of_same (u_1_7_2048 im m0 m1 _)) | (go_at_call 99; with_reducible exact Calls.quiet_of_same (u_6_25_32 im m0 m1 _)) | (go_at_call 99; with_reducible exact Calls.quiet_of_same (u_4_8_2 im m0 m1 _)))
  go_wp2_with (fail)
  go_quiet (first | (go_at_call 99; with_reducible exact Calls.quiet2 (u_1_31_1048576 im m0 m1 _)) | (go_at_call 99; with_reducible exact Calls.quiet2 (u_8_12_4096 im m0 m1 _)) | (go_at_call 99; with_reducible exact Calls.quiet2 (u_1_20_2048 im m0 m1 _)) | (go_at_call 99; with_reducible exact Calls.quiet2 (u_10_21_2 im m0 m1 _)))
  go_wp2_with (first | (have t := TA; clear t TA; refine wpList_buildFlat rfl 117 3 _ _ rfl .i64 [0, 0, 1, 0, 2, 0, 0, 0, 3] (by kernel_rfl) (by kernel_rfl) (by kernel_rfl) rfl (by decide) (by decide) rfl ?_) | (go_at_call 63; have t := TB; clear t TB; refine (r_pickT _ 9 [0, 0, 1, 0, 2, 0, 0, 0, 3] rfl sz _ (tab_cell _ _ (by simp) _ _ _ _ rfl rfl) (by omega) (by omega) (by decide) (szS sz) rfl).mono ?_; rintro e w1 ⟨rfl, rfl⟩) | (go_at_call 99; (with_reducible refine (u_12_20_1 im m0 m1 _).mono ?_); rintro e w1 ⟨rfl, rfl⟩))
  go_ret
  exact ⟨ret_int (by first | rfl | skip), by first | exact bl1 _ _ _ _ | exact bl2 _ _ _ _ _⟩
end Go.Proofs.YtlfdokkopgmfjaaGreatDoor.B
