/- The word that the reference puts together, by kind. New blocks alone. -/
import Derived.Test.YtlfdokkopgmfjaaGreatDoorBRQ
namespace Go.Proofs.YtlfdokkopgmfjaaGreatDoor.B
open Go.RowKit
set_option linter.unusedVariables false
set_option maxRecDepth 100000
set_option maxHeartbeats 2000000 in
theorem w_7 (fn rd r1 r2 im sz : Int) (sg : Bool) (m0 : -2147483648 ≤ im) (m1 : im < 2147483648) (d0 : 0 ≤ rd) (d1 : rd ≤ 31) (a0 : 0 ≤ r1) (a1 : r1 ≤ 31) (b0 : 0 ≤ r2) (b1 : r2 ≤ 31) (f0 : 0 ≤ fn) (f1 : fn ≤ 28) (z0 : 0 ≤ sz) (z1 : sz ≤ 8) (w : World)  :
    Calls Tryz.prog 85 #[I.v ⟨7, fn, rd, r1, r2, im, sz, sg⟩] w fun e w' => e = .returned (.int .u32 (bits .or .u32 (bits .or .u32 (bits .or .u32 (bits .or .u32 (bits .or .u32 (35) (szS sz * 4096)) (at2 r1 32 32768)) (at2 r2 32 1048576)) (at2 im 32 128)) (at2 (im / 32) 128 33554432))) ∧ Below w.heap.size w w' := by
  obtain ⟨s0, s1⟩ := szS_b sz z0 z1
  have TA : Hid True := trivial
  have TB : Hid True := trivial
  go_enter Tryz.func85, Tryz.ntmps85
  go_wp2_with (first | (go_at_call 99; (with_reducible refine (p_5_7 rd (by omega) (by omega) _).mono ?_); rintro e w1 ⟨rfl, rfl⟩) | (go_at_call 99; (with_reducible refine (p_5_15 r1 (by omega) (by omega) _).mono ?_); rintro e w1 ⟨rfl, rfl⟩) | (go_at_call 99; (with_reducible refine (p_5_20 r2 (by omega) (by omega) _).mono ?_); rintro e w1 ⟨rfl, rfl⟩))
  go_quiet (first | (go_at_call 99; with_reducible exact Calls.quiet_of_same (u_1_31_4096 im m0 m1 _)) | (go_at_call 99; with_reducible exact Calls.quiet_of_same (u_1_7_2048 im m0 m1 _)) | (go_at_call 99; with_reducible exact Calls.quiet_of_same (u_6_25_32 im m0 m1 _)) | (go_at_call 99; with_reducible exact Calls.quiet_of_same (u_4_8_2 im m0 m1 _)))
  go_wp2_with (fail)
  go_quiet (first | (go_at_call 99; with_reducible exact Calls.quiet2 (u_1_31_1048576 im m0 m1 _)) | (go_at_call 99; with_reducible exact Calls.quiet2 (u_8_12_4096 im m0 m1 _)) | (go_at_call 99; with_reducible exact Calls.quiet2 (u_1_20_2048 im m0 m1 _)) | (go_at_call 99; with_reducible exact Calls.quiet2 (u_10_21_2 im m0 m1 _)))
  go_wp2_with (first | (have t := TA; clear t TA; refine wpList_buildFlat rfl 117 3 _ _ rfl .i64 [0, 0, 1, 0, 2, 0, 0, 0, 3] (by kernel_rfl) (by kernel_rfl) (by kernel_rfl) rfl (by decide) (by decide) rfl ?_) | (go_at_call 63; have t := TB; clear t TB; refine (r_pickT _ 9 [0, 0, 1, 0, 2, 0, 0, 0, 3] rfl sz _ (tab_cell _ _ (by simp) _ _ _ _ rfl rfl) (by omega) (by omega) (by decide) (szS sz) rfl).mono ?_; rintro e w1 ⟨rfl, rfl⟩))
  go_quiet (first | (go_at_call 99; with_reducible exact Calls.quiet_of_same (u_5_7_1 im m0 m1 _)) | (go_at_call 99; with_reducible exact Calls.quiet_of_same (u_7_25_32 im m0 m1 _)))
  go_wp2_with (fail)
  go_ret
  exact ⟨ret_int (by first | rfl | skip), by first | exact below_dn (bl1 _ _ _ _) _ | exact bl1 _ _ _ _⟩
set_option maxHeartbeats 2000000 in
theorem w_8w (fn rd r1 r2 im sz : Int) (sg : Bool) (m0 : -2147483648 ≤ im) (m1 : im < 2147483648) (d0 : 0 ≤ rd) (d1 : rd ≤ 31) (a0 : 0 ≤ r1) (a1 : r1 ≤ 31) (b0 : 0 ≤ r2) (b1 : r2 ≤ 31) (f0 : 0 ≤ fn) (f1 : fn ≤ 28) (z0 : 0 ≤ sz) (z1 : sz ≤ 8) (w : World) (hg : 19 ≤ fn) :
    Calls Tryz.prog 85 #[I.v ⟨8, fn, rd, r1, r2, im, sz, sg⟩] w fun e w' => e = .returned (.int .u32 (bits .or .u32 (bits .or .u32 (59) (aluT fn)) (bits .or .u32 (bits .or .u32 (at2 rd 32 128) (at2 r1 32 32768)) (at2 r2 32 1048576)))) ∧ Below w.heap.size w w' := by
  obtain ⟨s0, s1⟩ := szS_b sz z0 z1
  have TA : Hid True := trivial
  have TB : Hid True := trivial
  go_enter Tryz.func85, Tryz.ntmps85
  go_wp2_with (first | (go_at_call 99; (with_reducible refine (p_5_7 rd (by omega) (by omega) _).mono ?_); rintro e w1 ⟨rfl, rfl⟩) | (go_at_call 99; (with_reducible refine (p_5_15 r1 (by omega) (by omega) _).mono ?_); rintro e w1 ⟨rfl, rfl⟩) | (go_at_call 99; (with_reducible refine (p_5_20 r2 (by omega) (by omega) _).mono ?_); rintro e w1 ⟨rfl, rfl⟩))
  go_quiet (first | (go_at_call 99; with_reducible exact Calls.quiet_of_same (u_1_31_4096 im m0 m1 _)) | (go_at_call 99; with_reducible exact Calls.quiet_of_same (u_1_7_2048 im m0 m1 _)) | (go_at_call 99; with_reducible exact Calls.quiet_of_same (u_6_25_32 im m0 m1 _)) | (go_at_call 99; with_reducible exact Calls.quiet_of_same (u_4_8_2 im m0 m1 _)))
  go_wp2_with (fail)
  go_quiet (first | (go_at_call 99; with_reducible exact Calls.quiet2 (u_1_31_1048576 im m0 m1 _)) | (go_at_call 99; with_reducible exact Calls.quiet2 (u_8_12_4096 im m0 m1 _)) | (go_at_call 99; with_reducible exact Calls.quiet2 (u_1_20_2048 im m0 m1 _)) | (go_at_call 99; with_reducible exact Calls.quiet2 (u_10_21_2 im m0 m1 _)))
  go_wp2_with (first | (have t := TA; clear t TA; refine wpList_buildFlat rfl 117 3 _ _ rfl .i64 [0, 0, 1, 0, 2, 0, 0, 0, 3] (by kernel_rfl) (by kernel_rfl) (by kernel_rfl) rfl (by decide) (by decide) rfl ?_) | (go_at_call 63; have t := TB; clear t TB; refine (r_pickT _ 9 [0, 0, 1, 0, 2, 0, 0, 0, 3] rfl sz _ (tab_cell _ _ (by simp) _ _ _ _ rfl rfl) (by omega) (by omega) (by decide) (szS sz) rfl).mono ?_; rintro e w1 ⟨rfl, rfl⟩) | (go_at_call 100; refine (r_alu fn f0 f1 _).mono ?_; rintro e w2 ⟨rfl, hb2⟩))
  go_ret
  exact ⟨ret_int (by first | rfl | skip), (bl1 _ _ _ _).trans (hb2.mono (bl1 _ _ _ _).size)⟩
set_option maxHeartbeats 2000000 in
theorem w_8 (fn rd r1 r2 im sz : Int) (sg : Bool) (m0 : -2147483648 ≤ im) (m1 : im < 2147483648) (d0 : 0 ≤ rd) (d1 : rd ≤ 31) (a0 : 0 ≤ r1) (a1 : r1 ≤ 31) (b0 : 0 ≤ r2) (b1 : r2 ≤ 31) (f0 : 0 ≤ fn) (f1 : fn ≤ 28) (z0 : 0 ≤ sz) (z1 : sz ≤ 8) (w : World) (hg : fn < 19) :
    Calls Tryz.prog 85 #[I.v ⟨8, fn, rd, r1, r2, im, sz, sg⟩] w fun e w' => e = .returned (.int .u32 (bits .or .u32 (bits .or .u32 (51) (aluT fn)) (bits .or .u32 (bits .or .u32 (at2 rd 32 128) (at2 r1 32 32768)) (at2 r2 32 1048576)))) ∧ Below w.heap.size w w' := by
  obtain ⟨s0, s1⟩ := szS_b sz z0 z1
  have TA : Hid True := trivial
  have TB : Hid True := trivial
  go_enter Tryz.func85, Tryz.ntmps85
  go_wp2_with (first | (go_at_call 99; (with_reducible refine (p_5_7 rd (by omega) (by omega) _).mono ?_); rintro e w1 ⟨rfl, rfl⟩) | (go_at_call 99; (with_reducible refine (p_5_15 r1 (by omega) (by omega) _).mono ?_); rintro e w1 ⟨rfl, rfl⟩) | (go_at_call 99; (with_reducible refine (p_5_20 r2 (by omega) (by omega) _).mono ?_); rintro e w1 ⟨rfl, rfl⟩))
  go_quiet (first | (go_at_call 99; with_reducible exact Calls.quiet_of_same (u_1_31_4096 im m0 m1 _)) | (go_at_call 99; with_reducible exact Calls.quiet_of_same (u_1_7_2048 im m0 m1 _)) | (go_at_call 99; with_reducible exact Calls.quiet_of_same (u_6_25_32 im m0 m1 _)) | (go_at_call 99; with_reducible exact Calls.quiet_of_same (u_4_8_2 im m0 m1 _)))
  go_wp2_with (fail)
  go_quiet (first | (go_at_call 99; with_reducible exact Calls.quiet2 (u_1_31_1048576 im m0 m1 _)) | (go_at_call 99; with_reducible exact Calls.quiet2 (u_8_12_4096 im m0 m1 _)) | (go_at_call 99; with_reducible exact Calls.quiet2 (u_1_20_2048 im m0 m1 _)) | (go_at_call 99; with_reducible exact Calls.quiet2 (u_10_21_2 im m0 m1 _)))
  go_wp2_with (first | (have t := TA; clear t TA; refine wpList_buildFlat rfl 117 3 _ _ rfl .i64 [0, 0, 1, 0, 2, 0, 0, 0, 3] (by kernel_rfl) (by kernel_rfl) (by kernel_rfl) rfl (by decide) (by decide) rfl ?_) | (go_at_call 63; have t := TB; clear t TB; refine (r_pickT _ 9 [0, 0, 1, 0, 2, 0, 0, 0, 3] rfl sz _ (tab_cell _ _ (by simp) _ _ _ _ rfl rfl) (by omega) (by omega) (by decide) (szS sz) rfl).mono ?_; rintro e w1 ⟨rfl, rfl⟩) | (go_at_call 100; refine (r_alu fn f0 f1 _).mono ?_; rintro e w2 ⟨rfl, hb2⟩))
  go_ret
  exact ⟨ret_int (by first | rfl | skip), (bl1 _ _ _ _).trans (hb2.mono (bl1 _ _ _ _).size)⟩
set_option maxHeartbeats 2000000 in
theorem w_9w (fn rd r1 r2 im sz : Int) (sg : Bool) (m0 : -2147483648 ≤ im) (m1 : im < 2147483648) (d0 : 0 ≤ rd) (d1 : rd ≤ 31) (a0 : 0 ≤ r1) (a1 : r1 ≤ 31) (b0 : 0 ≤ r2) (b1 : r2 ≤ 31) (f0 : 0 ≤ fn) (f1 : fn ≤ 28) (z0 : 0 ≤ sz) (z1 : sz ≤ 8) (w : World) (hg : inb fn 19 23 = true) :
    Calls Tryz.prog 85 #[I.v ⟨9, fn, rd, r1, r2, im, sz, sg⟩] w fun e w' => e = .returned (.int .u32 (bits .or .u32 (bits .or .u32 (bits .or .u32 (bits .or .u32 (27) (aluT fn)) (at2 rd 32 128)) (at2 r1 32 32768)) (at2 im 4096 1048576))) ∧ Below w.heap.size w w' := by
  obtain ⟨s0, s1⟩ := szS_b sz z0 z1
  have TA : Hid True := trivial
  have TB : Hid True := trivial
  have c1 : ∀ {n : Nat} {o' : Obj} (x : WB (((w.alloc (Obj.cells #[Value.int IntKind.i64 9, Value.int IntKind.i64 fn, Value.int IntKind.i64 rd, Value.int IntKind.i64 r1, Value.int IntKind.i64 r2, Value.int IntKind.i64 im, Value.int IntKind.i64 sz, Value.bool sg] 92)).drewN n).alloc o')), x.w.cell? ⟨w.heap.size, 1, none⟩ = some (.int .i64 fn) := fun {n} {o'} x => x.cell (by show w.heap.size < ((w.heap.push _).push _).size; simp; omega) ((Below.cell (below1 o') (p := ⟨w.heap.size, 1, none⟩) (by show w.heap.size < (w.heap.push _).size; simp)).trans (show (w.alloc (Obj.cells #[Value.int IntKind.i64 9, Value.int IntKind.i64 fn, Value.int IntKind.i64 rd, Value.int IntKind.i64 r1, Value.int IntKind.i64 r2, Value.int IntKind.i64 im, Value.int IntKind.i64 sz, Value.bool sg] 92)).cell? ⟨w.heap.size, 1, none⟩ = _ from World.cell?_alloc_at _ _ _ _ rfl))
  have c5 : ∀ {n : Nat} {o' : Obj} (x : WB (((w.alloc (Obj.cells #[Value.int IntKind.i64 9, Value.int IntKind.i64 fn, Value.int IntKind.i64 rd, Value.int IntKind.i64 r1, Value.int IntKind.i64 r2, Value.int IntKind.i64 im, Value.int IntKind.i64 sz, Value.bool sg] 92)).drewN n).alloc o')), x.w.cell? ⟨w.heap.size, 5, none⟩ = some (.int .i64 im) := fun {n} {o'} x => x.cell (by show w.heap.size < ((w.heap.push _).push _).size; simp; omega) ((Below.cell (below1 o') (p := ⟨w.heap.size, 5, none⟩) (by show w.heap.size < (w.heap.push _).size; simp)).trans (show (w.alloc (Obj.cells #[Value.int IntKind.i64 9, Value.int IntKind.i64 fn, Value.int IntKind.i64 rd, Value.int IntKind.i64 r1, Value.int IntKind.i64 r2, Value.int IntKind.i64 im, Value.int IntKind.i64 sz, Value.bool sg] 92)).cell? ⟨w.heap.size, 5, none⟩ = _ from World.cell?_alloc_at _ _ _ _ rfl))
  go_enter Tryz.func85, Tryz.ntmps85
  go_wp2_with (first | (go_at_call 99; (with_reducible refine (p_5_7 rd (by omega) (by omega) _).mono ?_); rintro e w1 ⟨rfl, rfl⟩) | (go_at_call 99; (with_reducible refine (p_5_15 r1 (by omega) (by omega) _).mono ?_); rintro e w1 ⟨rfl, rfl⟩) | (go_at_call 99; (with_reducible refine (p_5_20 r2 (by omega) (by omega) _).mono ?_); rintro e w1 ⟨rfl, rfl⟩))
  go_quiet (first | (go_at_call 99; with_reducible exact Calls.quiet_of_same (u_1_31_4096 im m0 m1 _)) | (go_at_call 99; with_reducible exact Calls.quiet_of_same (u_1_7_2048 im m0 m1 _)) | (go_at_call 99; with_reducible exact Calls.quiet_of_same (u_6_25_32 im m0 m1 _)) | (go_at_call 99; with_reducible exact Calls.quiet_of_same (u_4_8_2 im m0 m1 _)))
  go_wp2_with (fail)
  go_quiet (first | (go_at_call 99; with_reducible exact Calls.quiet2 (u_1_31_1048576 im m0 m1 _)) | (go_at_call 99; with_reducible exact Calls.quiet2 (u_8_12_4096 im m0 m1 _)) | (go_at_call 99; with_reducible exact Calls.quiet2 (u_1_20_2048 im m0 m1 _)) | (go_at_call 99; with_reducible exact Calls.quiet2 (u_10_21_2 im m0 m1 _)))
  go_wp2_with (first | (have t := TA; clear t TA; refine wpList_buildFlat rfl 117 3 _ _ rfl .i64 [0, 0, 1, 0, 2, 0, 0, 0, 3] (by kernel_rfl) (by kernel_rfl) (by kernel_rfl) rfl (by decide) (by decide) rfl ?_) | (go_at_call 63; have t := TB; clear t TB; refine (r_pickT _ 9 [0, 0, 1, 0, 2, 0, 0, 0, 3] rfl sz _ (tab_cell _ _ (by simp) _ _ _ _ rfl rfl) (by omega) (by omega) (by decide) (szS sz) rfl).mono ?_; rintro e w1 ⟨rfl, rfl⟩) | (go_at_call 84; refine (r_in fn 19 23 _).mono ?_; rintro e w1 ⟨rfl, rfl⟩))
  refine wp_region_wb (by kernel_rfl) (by kernel_rfl) ?_
  repeat
    refine wpQuiet_step (fun K hK => ?_)
    go_simp
    first
      | (refine hK _ ?_; clear hK K)
      | (refine ⟨_, fun _ => rfl, hK _ ?_⟩; clear hK K)
      | (refine ⟨.int .u32 (aluT fn), fun x => ?_, hK _ ?_⟩
         · (go_at_call 100; exact Calls.wb x (r_alu fn f0 f1 x.w))
         clear hK K)
      | (refine ⟨.int .u32 (at2 im 4096 1048576), fun x => ?_, hK _ ?_⟩
         · (go_at_call 99; exact Calls.wbs x (u_12_20_1 im m0 m1 x.w))
         clear hK K)
  refine wpQuiet_nil ?_
  intro w9 hw9
  obtain ⟨x, rfl⟩ := hw9
  go_wp2_with fail
  go_ret
  exact ⟨ret_int (by first | rfl | skip), (bl1 _ _ _ _).trans (x.h.mono (bl1 _ _ _ _).size)⟩
set_option maxHeartbeats 2000000 in
theorem w_9 (fn rd r1 r2 im sz : Int) (sg : Bool) (m0 : -2147483648 ≤ im) (m1 : im < 2147483648) (d0 : 0 ≤ rd) (d1 : rd ≤ 31) (a0 : 0 ≤ r1) (a1 : r1 ≤ 31) (b0 : 0 ≤ r2) (b1 : r2 ≤ 31) (f0 : 0 ≤ fn) (f1 : fn ≤ 28) (z0 : 0 ≤ sz) (z1 : sz ≤ 8) (w : World) (hg : inb fn 19 23 = false) :
    Calls Tryz.prog 85 #[I.v ⟨9, fn, rd, r1, r2, im, sz, sg⟩] w fun e w' => e = .returned (.int .u32 (bits .or .u32 (bits .or .u32 (bits .or .u32 (bits .or .u32 (19) (aluT fn)) (at2 rd 32 128)) (at2 r1 32 32768)) (at2 im 4096 1048576))) ∧ Below w.heap.size w w' := by
  obtain ⟨s0, s1⟩ := szS_b sz z0 z1
  have TA : Hid True := trivial
  have TB : Hid True := trivial
  have c1 : ∀ {n : Nat} {o' : Obj} (x : WB (((w.alloc (Obj.cells #[Value.int IntKind.i64 9, Value.int IntKind.i64 fn, Value.int IntKind.i64 rd, Value.int IntKind.i64 r1, Value.int IntKind.i64 r2, Value.int IntKind.i64 im, Value.int IntKind.i64 sz, Value.bool sg] 92)).drewN n).alloc o')), x.w.cell? ⟨w.heap.size, 1, none⟩ = some (.int .i64 fn) := fun {n} {o'} x => x.cell (by show w.heap.size < ((w.heap.push _).push _).size; simp; omega) ((Below.cell (below1 o') (p := ⟨w.heap.size, 1, none⟩) (by show w.heap.size < (w.heap.push _).size; simp)).trans (show (w.alloc (Obj.cells #[Value.int IntKind.i64 9, Value.int IntKind.i64 fn, Value.int IntKind.i64 rd, Value.int IntKind.i64 r1, Value.int IntKind.i64 r2, Value.int IntKind.i64 im, Value.int IntKind.i64 sz, Value.bool sg] 92)).cell? ⟨w.heap.size, 1, none⟩ = _ from World.cell?_alloc_at _ _ _ _ rfl))
  have c5 : ∀ {n : Nat} {o' : Obj} (x : WB (((w.alloc (Obj.cells #[Value.int IntKind.i64 9, Value.int IntKind.i64 fn, Value.int IntKind.i64 rd, Value.int IntKind.i64 r1, Value.int IntKind.i64 r2, Value.int IntKind.i64 im, Value.int IntKind.i64 sz, Value.bool sg] 92)).drewN n).alloc o')), x.w.cell? ⟨w.heap.size, 5, none⟩ = some (.int .i64 im) := fun {n} {o'} x => x.cell (by show w.heap.size < ((w.heap.push _).push _).size; simp; omega) ((Below.cell (below1 o') (p := ⟨w.heap.size, 5, none⟩) (by show w.heap.size < (w.heap.push _).size; simp)).trans (show (w.alloc (Obj.cells #[Value.int IntKind.i64 9, Value.int IntKind.i64 fn, Value.int IntKind.i64 rd, Value.int IntKind.i64 r1, Value.int IntKind.i64 r2, Value.int IntKind.i64 im, Value.int IntKind.i64 sz, Value.bool sg] 92)).cell? ⟨w.heap.size, 5, none⟩ = _ from World.cell?_alloc_at _ _ _ _ rfl))
  go_enter Tryz.func85, Tryz.ntmps85
  go_wp2_with (first | (go_at_call 99; (with_reducible refine (p_5_7 rd (by omega) (by omega) _).mono ?_); rintro e w1 ⟨rfl, rfl⟩) | (go_at_call 99; (with_reducible refine (p_5_15 r1 (by omega) (by omega) _).mono ?_); rintro e w1 ⟨rfl, rfl⟩) | (go_at_call 99; (with_reducible refine (p_5_20 r2 (by omega) (by omega) _).mono ?_); rintro e w1 ⟨rfl, rfl⟩))
  go_quiet (first | (go_at_call 99; with_reducible exact Calls.quiet_of_same (u_1_31_4096 im m0 m1 _)) | (go_at_call 99; with_reducible exact Calls.quiet_of_same (u_1_7_2048 im m0 m1 _)) | (go_at_call 99; with_reducible exact Calls.quiet_of_same (u_6_25_32 im m0 m1 _)) | (go_at_call 99; with_reducible exact Calls.quiet_of_same (u_4_8_2 im m0 m1 _)))
  go_wp2_with (fail)
  go_quiet (first | (go_at_call 99; with_reducible exact Calls.quiet2 (u_1_31_1048576 im m0 m1 _)) | (go_at_call 99; with_reducible exact Calls.quiet2 (u_8_12_4096 im m0 m1 _)) | (go_at_call 99; with_reducible exact Calls.quiet2 (u_1_20_2048 im m0 m1 _)) | (go_at_call 99; with_reducible exact Calls.quiet2 (u_10_21_2 im m0 m1 _)))
  go_wp2_with (first | (have t := TA; clear t TA; refine wpList_buildFlat rfl 117 3 _ _ rfl .i64 [0, 0, 1, 0, 2, 0, 0, 0, 3] (by kernel_rfl) (by kernel_rfl) (by kernel_rfl) rfl (by decide) (by decide) rfl ?_) | (go_at_call 63; have t := TB; clear t TB; refine (r_pickT _ 9 [0, 0, 1, 0, 2, 0, 0, 0, 3] rfl sz _ (tab_cell _ _ (by simp) _ _ _ _ rfl rfl) (by omega) (by omega) (by decide) (szS sz) rfl).mono ?_; rintro e w1 ⟨rfl, rfl⟩) | (go_at_call 84; refine (r_in fn 19 23 _).mono ?_; rintro e w1 ⟨rfl, rfl⟩))
  refine wp_region_wb (by kernel_rfl) (by kernel_rfl) ?_
  repeat
    refine wpQuiet_step (fun K hK => ?_)
    go_simp
    first
      | (refine hK _ ?_; clear hK K)
      | (refine ⟨_, fun _ => rfl, hK _ ?_⟩; clear hK K)
      | (refine ⟨.int .u32 (aluT fn), fun x => ?_, hK _ ?_⟩
         · (go_at_call 100; exact Calls.wb x (r_alu fn f0 f1 x.w))
         clear hK K)
      | (refine ⟨.int .u32 (at2 im 4096 1048576), fun x => ?_, hK _ ?_⟩
         · (go_at_call 99; exact Calls.wbs x (u_12_20_1 im m0 m1 x.w))
         clear hK K)
  refine wpQuiet_nil ?_
  intro w9 hw9
  obtain ⟨x, rfl⟩ := hw9
  go_wp2_with fail
  go_ret
  exact ⟨ret_int (by first | rfl | skip), (bl1 _ _ _ _).trans (x.h.mono (bl1 _ _ _ _).size)⟩
set_option maxHeartbeats 2000000 in
theorem w_10 (fn rd r1 r2 im sz : Int) (sg : Bool) (m0 : -2147483648 ≤ im) (m1 : im < 2147483648) (d0 : 0 ≤ rd) (d1 : rd ≤ 31) (a0 : 0 ≤ r1) (a1 : r1 ≤ 31) (b0 : 0 ≤ r2) (b1 : r2 ≤ 31) (f0 : 0 ≤ fn) (f1 : fn ≤ 28) (z0 : 0 ≤ sz) (z1 : sz ≤ 8) (w : World)  :
    Calls Tryz.prog 85 #[I.v ⟨10, fn, rd, r1, r2, im, sz, sg⟩] w fun e w' => e = .returned (.int .u32 (15)) ∧ Below w.heap.size w w' := by
  obtain ⟨s0, s1⟩ := szS_b sz z0 z1
  have TA : Hid True := trivial
  have TB : Hid True := trivial
  go_enter Tryz.func85, Tryz.ntmps85
  go_wp2_with (first | (go_at_call 99; (with_reducible refine (p_5_7 rd (by omega) (by omega) _).mono ?_); rintro e w1 ⟨rfl, rfl⟩) | (go_at_call 99; (with_reducible refine (p_5_15 r1 (by omega) (by omega) _).mono ?_); rintro e w1 ⟨rfl, rfl⟩) | (go_at_call 99; (with_reducible refine (p_5_20 r2 (by omega) (by omega) _).mono ?_); rintro e w1 ⟨rfl, rfl⟩))
  go_quiet (first | (go_at_call 99; with_reducible exact Calls.quiet_of_same (u_1_31_4096 im m0 m1 _)) | (go_at_call 99; with_reducible exact Calls.quiet_of_same (u_1_7_2048 im m0 m1 _)) | (go_at_call 99; with_reducible exact Calls.quiet_of_same (u_6_25_32 im m0 m1 _)) | (go_at_call 99; with_reducible exact Calls.quiet_of_same (u_4_8_2 im m0 m1 _)))
  go_wp2_with (fail)
  go_quiet (first | (go_at_call 99; with_reducible exact Calls.quiet2 (u_1_31_1048576 im m0 m1 _)) | (go_at_call 99; with_reducible exact Calls.quiet2 (u_8_12_4096 im m0 m1 _)) | (go_at_call 99; with_reducible exact Calls.quiet2 (u_1_20_2048 im m0 m1 _)) | (go_at_call 99; with_reducible exact Calls.quiet2 (u_10_21_2 im m0 m1 _)))
  go_wp2_with (first | (have t := TA; clear t TA; refine wpList_buildFlat rfl 117 3 _ _ rfl .i64 [0, 0, 1, 0, 2, 0, 0, 0, 3] (by kernel_rfl) (by kernel_rfl) (by kernel_rfl) rfl (by decide) (by decide) rfl ?_) | (go_at_call 63; have t := TB; clear t TB; refine (r_pickT _ 9 [0, 0, 1, 0, 2, 0, 0, 0, 3] rfl sz _ (tab_cell _ _ (by simp) _ _ _ _ rfl rfl) (by omega) (by omega) (by decide) (szS sz) rfl).mono ?_; rintro e w1 ⟨rfl, rfl⟩))
  go_ret
  exact ⟨ret_int (by first | rfl | skip), by first | exact bl1 _ _ _ _ | exact bl2 _ _ _ _ _⟩
set_option maxHeartbeats 2000000 in
theorem w_11 (fn rd r1 r2 im sz : Int) (sg : Bool) (m0 : -2147483648 ≤ im) (m1 : im < 2147483648) (d0 : 0 ≤ rd) (d1 : rd ≤ 31) (a0 : 0 ≤ r1) (a1 : r1 ≤ 31) (b0 : 0 ≤ r2) (b1 : r2 ≤ 31) (f0 : 0 ≤ fn) (f1 : fn ≤ 28) (z0 : 0 ≤ sz) (z1 : sz ≤ 8) (w : World)  :
    Calls Tryz.prog 85 #[I.v ⟨11, fn, rd, r1, r2, im, sz, sg⟩] w fun e w' => e = .returned (.int .u32 (115)) ∧ Below w.heap.size w w' := by
  obtain ⟨s0, s1⟩ := szS_b sz z0 z1
  have TA : Hid True := trivial
  have TB : Hid True := trivial
  go_enter Tryz.func85, Tryz.ntmps85
  go_wp2_with (first | (go_at_call 99; (with_reducible refine (p_5_7 rd (by omega) (by omega) _).mono ?_); rintro e w1 ⟨rfl, rfl⟩) | (go_at_call 99; (with_reducible refine (p_5_15 r1 (by omega) (by omega) _).mono ?_); rintro e w1 ⟨rfl, rfl⟩) | (go_at_call 99; (with_reducible refine (p_5_20 r2 (by omega) (by omega) _).mono ?_); rintro e w1 ⟨rfl, rfl⟩))
  go_quiet (first | (go_at_call 99; with_reducible exact Calls.quiet_of_same (u_1_31_4096 im m0 m1 _)) | (go_at_call 99; with_reducible exact Calls.quiet_of_same (u_1_7_2048 im m0 m1 _)) | (go_at_call 99; with_reducible exact Calls.quiet_of_same (u_6_25_32 im m0 m1 _)) | (go_at_call 99; with_reducible exact Calls.quiet_of_same (u_4_8_2 im m0 m1 _)))
  go_wp2_with (fail)
  go_quiet (first | (go_at_call 99; with_reducible exact Calls.quiet2 (u_1_31_1048576 im m0 m1 _)) | (go_at_call 99; with_reducible exact Calls.quiet2 (u_8_12_4096 im m0 m1 _)) | (go_at_call 99; with_reducible exact Calls.quiet2 (u_1_20_2048 im m0 m1 _)) | (go_at_call 99; with_reducible exact Calls.quiet2 (u_10_21_2 im m0 m1 _)))
  go_wp2_with (first | (have t := TA; clear t TA; refine wpList_buildFlat rfl 117 3 _ _ rfl .i64 [0, 0, 1, 0, 2, 0, 0, 0, 3] (by kernel_rfl) (by kernel_rfl) (by kernel_rfl) rfl (by decide) (by decide) rfl ?_) | (go_at_call 63; have t := TB; clear t TB; refine (r_pickT _ 9 [0, 0, 1, 0, 2, 0, 0, 0, 3] rfl sz _ (tab_cell _ _ (by simp) _ _ _ _ rfl rfl) (by omega) (by omega) (by decide) (szS sz) rfl).mono ?_; rintro e w1 ⟨rfl, rfl⟩))
  go_ret
  exact ⟨ret_int (by first | rfl | skip), by first | exact bl1 _ _ _ _ | exact bl2 _ _ _ _ _⟩
set_option maxHeartbeats 2000000 in
theorem w_12 (fn rd r1 r2 im sz : Int) (sg : Bool) (m0 : -2147483648 ≤ im) (m1 : im < 2147483648) (d0 : 0 ≤ rd) (d1 : rd ≤ 31) (a0 : 0 ≤ r1) (a1 : r1 ≤ 31) (b0 : 0 ≤ r2) (b1 : r2 ≤ 31) (f0 : 0 ≤ fn) (f1 : fn ≤ 28) (z0 : 0 ≤ sz) (z1 : sz ≤ 8) (w : World)  :
    Calls Tryz.prog 85 #[I.v ⟨12, fn, rd, r1, r2, im, sz, sg⟩] w fun e w' => e = .returned (.int .u32 (1048691)) ∧ Below w.heap.size w w' := by
  obtain ⟨s0, s1⟩ := szS_b sz z0 z1
  have TA : Hid True := trivial
  have TB : Hid True := trivial
  go_enter Tryz.func85, Tryz.ntmps85
  go_wp2_with (first | (go_at_call 99; (with_reducible refine (p_5_7 rd (by omega) (by omega) _).mono ?_); rintro e w1 ⟨rfl, rfl⟩) | (go_at_call 99; (with_reducible refine (p_5_15 r1 (by omega) (by omega) _).mono ?_); rintro e w1 ⟨rfl, rfl⟩) | (go_at_call 99; (with_reducible refine (p_5_20 r2 (by omega) (by omega) _).mono ?_); rintro e w1 ⟨rfl, rfl⟩))
  go_quiet (first | (go_at_call 99; with_reducible exact Calls.quiet_of_same (u_1_31_4096 im m0 m1 _)) | (go_at_call 99; with_reducible exact Calls.quiet_of_same (u_1_7_2048 im m0 m1 _)) | (go_at_call 99; with_reducible exact Calls.quiet_of_same (u_6_25_32 im m0 m1 _)) | (go_at_call 99; with_reducible exact Calls.quiet_of_same (u_4_8_2 im m0 m1 _)))
  go_wp2_with (fail)
  go_quiet (first | (go_at_call 99; with_reducible exact Calls.quiet2 (u_1_31_1048576 im m0 m1 _)) | (go_at_call 99; with_reducible exact Calls.quiet2 (u_8_12_4096 im m0 m1 _)) | (go_at_call 99; with_reducible exact Calls.quiet2 (u_1_20_2048 im m0 m1 _)) | (go_at_call 99; with_reducible exact Calls.quiet2 (u_10_21_2 im m0 m1 _)))
  go_wp2_with (first | (have t := TA; clear t TA; refine wpList_buildFlat rfl 117 3 _ _ rfl .i64 [0, 0, 1, 0, 2, 0, 0, 0, 3] (by kernel_rfl) (by kernel_rfl) (by kernel_rfl) rfl (by decide) (by decide) rfl ?_) | (go_at_call 63; have t := TB; clear t TB; refine (r_pickT _ 9 [0, 0, 1, 0, 2, 0, 0, 0, 3] rfl sz _ (tab_cell _ _ (by simp) _ _ _ _ rfl rfl) (by omega) (by omega) (by decide) (szS sz) rfl).mono ?_; rintro e w1 ⟨rfl, rfl⟩))
  go_ret
  exact ⟨ret_int (by first | rfl | skip), by first | exact bl1 _ _ _ _ | exact bl2 _ _ _ _ _⟩
end Go.Proofs.YtlfdokkopgmfjaaGreatDoor.B
