/- EngineRefuses: what may not be fails at once. -/
import Derived.Test.YtmdconecigenfaaMH2
namespace Go.Proofs.Ytmdconecigenfaa
open Go.RowKit
open C (Only hid Mem Still ret_int ret_bool put byt nu hasB RMem TB Cl fcl Tw c_Place c_Same)
set_option linter.unusedVariables false
set_option maxRecDepth 100000

theorem x_BusyB (w : World) (e : Nat) (v : EV) (h : Eg w e v) (k : Bool) (hk : (v.r 3 == 1) = k) : Calls Try.prog 12 #[.pointer (some ⟨e, 0, none⟩)] w fun x w' => x = .returned (.bool k) ∧ w' = w := by rw [← hk]; exact x_Busy w e v h
theorem FL.rn {W w : World} {b e : Nat} {v v' : EV} {S T : Nat → Prop} {p q : Nat} {bs : Int} {n : Nat} {f h : Nat → Int} (H : FL W w b e v S T p q bs n f h) (hv : v = v') : FL W w b e v' S T p q bs n f h := hv ▸ H
theorem st_idle (G : Gate) (r : Nat → Int) (s : G.σ) (h : (r 3 == 1) = false) : stN G r s = ((0, 0, false), r, s) := by unfold stN; rw [h]; rfl
theorem idle_3 {a b k : Int} (h : okB a b k = false) : (rB a b k 3 == 1) = false ∧ rB a b k 3 = 3 := by rw [rB_3, h]; exact ⟨rfl, rfl⟩
theorem busy_1 {a b k : Int} (h : okB a b k = true) : (rB a b k 3 == 1) = true ∧ rB a b k 3 = 1 := by rw [rB_3, h]; exact ⟨rfl, rfl⟩
set_option maxHeartbeats 1000000 in
theorem w_ER0 (W : World) (s : Int) (s0 : 0 ≤ s) (s1 : s < 18446744073709551616) (d : Int) (d0 : 0 ≤ d) (d1 : d < 18446744073709551616) (n : Int) (n0 : 0 ≤ n) (n1 : n < 18446744073709551616) (ad : Option Addr) (la cap ab ao : Nat) (X : Nat → Int × Int) (hX : Cl W ad la cap ab ao X)  (c0 : ¬ 0 < n) (hok : okB s d n = false) :
    Calls Try.prog 4 #[.int .u64 s, .int .u64 d, .int .u64 n, .slice ad la cap] W fun e w' => e = .returned (.bool true) ∧ Below W.heap.size W w' := by
  have HX := hid hX
  clear hX
  have T0 : Hid True := hid trivial
  have T1 : Hid True := hid trivial
  have T2 : Hid True := hid trivial
  have TW : Hid True := hid trivial
  have TB : Hid True := hid trivial
  have TC : Hid True := hid trivial
  go_enter Try.func4, Try.ntmps4
  go_wp2_with (first
    | (go_at_call 18; refine (l_flat _ ad la cap ab ao X HX.out).mono ?_; rintro r w1 ⟨e, p, q, U, rfl, g1, g2, g3, g4, g5⟩; obtain ⟨S, T, hL⟩ := FlPost.lay g1 g2 g3 g4 g5; have HL := hid hL; clear g1 g2 g3 g4 g5 hL)
    | (go_at_call 10; have t := T0; clear t T0; refine (f_Write _ _ _ _ _ _ _ _ _ _ _ _ _ HL.out 0 8 s s0 s1 (by decide) (by decide) true rfl (eu (fun _ => 0) 0 s) (f_W8 (fun _ => 0) rfl s).1).mono ?_; rintro r wx1 ⟨rfl, hL⟩; have HLx1 := hid hL; clear hL)
    | (go_at_call 10; have t := T1; clear t T1; refine (f_Write _ _ _ _ _ _ _ _ _ _ _ _ _ HLx1.out 8 8 d d0 d1 (by decide) (by decide) true rfl (eu (eu (fun _ => 0) 0 s) 1 d) (f_W8 (eu (fun _ => 0) 0 s) rfl d).2.1).mono ?_; rintro r wx2 ⟨rfl, hL⟩; have HLx2 := hid hL; clear hL)
    | (go_at_call 10; have t := T2; clear t T2; refine (f_Write _ _ _ _ _ _ _ _ _ _ _ _ _ HLx2.out 16 8 n n0 n1 (by decide) (by decide) true rfl (eu (eu (eu (fun _ => 0) 0 s) 1 d) 2 n) (f_W8 (eu (eu (fun _ => 0) 0 s) 1 d) rfl n).2.2.1).mono ?_; rintro r wx3 ⟨rfl, hL⟩; have HLx3 := hid hL; clear hL)
    | (go_at_call 10; have t := TW; clear t TW; refine (f_Write _ _ _ _ _ _ _ _ _ _ _ _ _ HLx3.out 24 8 1 (by decide) (by decide) (by decide) (by decide) true rfl (bgE (eu (eu (eu (fun _ => 0) 0 s) 1 d) 2 n)) ((f_W8 (eu (eu (eu (fun _ => 0) 0 s) 1 d) 2 n) rfl 1).2.2.2.trans (cm_1 (eu (eu (eu (fun _ => 0) 0 s) 1 d) 2 n) rfl))).mono ?_; rintro r wx4 ⟨rfl, hL⟩; have HLb := hid (FL.rn hL (v' := (e0 p).wr (rB s d n)) rfl); clear hL)
    | (go_at_call 15; refine (f_Read _ _ _ _ _ _ _ _ _ _ _ _ _ HLb.out 32 8 (by decide) (by decide) true rfl 3 (idle_3 hok).2).mono ?_; rintro r w6 ⟨rfl, hL⟩; have HLc := hid hL; clear hL)
    | (go_at_call 12; have t := TB; clear t TB; refine (x_BusyB _ _ _ HLc.out.eg false (idle_3 hok).1).mono ?_; rintro r w7 ⟨rfl, hw⟩; obtain rfl := hw.symm)
    | (go_at_call 11; have t := TC; clear t TC; refine (f_Step _ _ _ _ _ _ _ _ _ _ _ _ _ HLc.out 0 0 false _ _ (st_idle _ _ _ (idle_3 hok).1)).mono ?_; rintro r w8 ⟨rfl, S8, hL⟩; have HLd := hid hL; clear hL)
    | (go_at_call 11; refine (f_Step _ _ _ _ _ _ _ _ _ _ _ _ _ HLd.out 0 0 false _ _ (st_idle _ _ _ (idle_3 hok).1)).mono ?_; rintro r w9 ⟨rfl, S9, hL⟩; have HLe := hid hL; have c0 := HLe.out.tb.c0; have c1 := HLe.out.tb.c1; clear hL)
    | (go_at_call 16; refine (c_Same _ _ _ p q 0 4 _ HLe.out.mm HLe.out.rm).mono ?_; rintro r w10 ⟨rfl, hb⟩; have HLf := hid (HLe.out.below hb); clear hb)
    | (go_at_call 12; refine (x_BusyB _ _ _ HLf.out.eg false (idle_3 hok).1).mono ?_; rintro r w11 ⟨rfl, hw⟩; obtain rfl := hw.symm)
    | (go_at_call 17; refine (l_awake8 _).mono ?_; rintro r w12 ⟨rfl, hb⟩; have HB8 := hid hb; clear hb))
  go_ret
  exact ⟨rfl, HLf.out.new.trans (HB8.out.mono HLf.out.new.size)⟩
set_option maxHeartbeats 1000000 in
theorem w_ER1 (W : World) (s : Int) (s0 : 0 ≤ s) (s1 : s < 18446744073709551616) (d : Int) (d0 : 0 ≤ d) (d1 : d < 18446744073709551616) (n : Int) (n0 : 0 ≤ n) (n1 : n < 18446744073709551616) (ad : Option Addr) (la cap ab ao : Nat) (X : Nat → Int × Int) (hX : Cl W ad la cap ab ao X) (c0 : 0 < n) (c1 : ¬ n ≤ 4096) (hok : okB s d n = false) :
    Calls Try.prog 4 #[.int .u64 s, .int .u64 d, .int .u64 n, .slice ad la cap] W fun e w' => e = .returned (.bool true) ∧ Below W.heap.size W w' := by
  have HX := hid hX
  clear hX
  have T0 : Hid True := hid trivial
  have T1 : Hid True := hid trivial
  have T2 : Hid True := hid trivial
  have TW : Hid True := hid trivial
  have TB : Hid True := hid trivial
  have TC : Hid True := hid trivial
  go_enter Try.func4, Try.ntmps4
  go_wp2_with (first
    | (go_at_call 18; refine (l_flat _ ad la cap ab ao X HX.out).mono ?_; rintro r w1 ⟨e, p, q, U, rfl, g1, g2, g3, g4, g5⟩; obtain ⟨S, T, hL⟩ := FlPost.lay g1 g2 g3 g4 g5; have HL := hid hL; clear g1 g2 g3 g4 g5 hL)
    | (go_at_call 10; have t := T0; clear t T0; refine (f_Write _ _ _ _ _ _ _ _ _ _ _ _ _ HL.out 0 8 s s0 s1 (by decide) (by decide) true rfl (eu (fun _ => 0) 0 s) (f_W8 (fun _ => 0) rfl s).1).mono ?_; rintro r wx1 ⟨rfl, hL⟩; have HLx1 := hid hL; clear hL)
    | (go_at_call 10; have t := T1; clear t T1; refine (f_Write _ _ _ _ _ _ _ _ _ _ _ _ _ HLx1.out 8 8 d d0 d1 (by decide) (by decide) true rfl (eu (eu (fun _ => 0) 0 s) 1 d) (f_W8 (eu (fun _ => 0) 0 s) rfl d).2.1).mono ?_; rintro r wx2 ⟨rfl, hL⟩; have HLx2 := hid hL; clear hL)
    | (go_at_call 10; have t := T2; clear t T2; refine (f_Write _ _ _ _ _ _ _ _ _ _ _ _ _ HLx2.out 16 8 n n0 n1 (by decide) (by decide) true rfl (eu (eu (eu (fun _ => 0) 0 s) 1 d) 2 n) (f_W8 (eu (eu (fun _ => 0) 0 s) 1 d) rfl n).2.2.1).mono ?_; rintro r wx3 ⟨rfl, hL⟩; have HLx3 := hid hL; clear hL)
    | (go_at_call 10; have t := TW; clear t TW; refine (f_Write _ _ _ _ _ _ _ _ _ _ _ _ _ HLx3.out 24 8 1 (by decide) (by decide) (by decide) (by decide) true rfl (bgE (eu (eu (eu (fun _ => 0) 0 s) 1 d) 2 n)) ((f_W8 (eu (eu (eu (fun _ => 0) 0 s) 1 d) 2 n) rfl 1).2.2.2.trans (cm_1 (eu (eu (eu (fun _ => 0) 0 s) 1 d) 2 n) rfl))).mono ?_; rintro r wx4 ⟨rfl, hL⟩; have HLb := hid (FL.rn hL (v' := (e0 p).wr (rB s d n)) rfl); clear hL)
    | (go_at_call 15; refine (f_Read _ _ _ _ _ _ _ _ _ _ _ _ _ HLb.out 32 8 (by decide) (by decide) true rfl 3 (idle_3 hok).2).mono ?_; rintro r w6 ⟨rfl, hL⟩; have HLc := hid hL; clear hL)
    | (go_at_call 12; have t := TB; clear t TB; refine (x_BusyB _ _ _ HLc.out.eg false (idle_3 hok).1).mono ?_; rintro r w7 ⟨rfl, hw⟩; obtain rfl := hw.symm)
    | (go_at_call 11; have t := TC; clear t TC; refine (f_Step _ _ _ _ _ _ _ _ _ _ _ _ _ HLc.out 0 0 false _ _ (st_idle _ _ _ (idle_3 hok).1)).mono ?_; rintro r w8 ⟨rfl, S8, hL⟩; have HLd := hid hL; clear hL)
    | (go_at_call 11; refine (f_Step _ _ _ _ _ _ _ _ _ _ _ _ _ HLd.out 0 0 false _ _ (st_idle _ _ _ (idle_3 hok).1)).mono ?_; rintro r w9 ⟨rfl, S9, hL⟩; have HLe := hid hL; have c0 := HLe.out.tb.c0; have c1 := HLe.out.tb.c1; clear hL)
    | (go_at_call 16; refine (c_Same _ _ _ p q 0 4 _ HLe.out.mm HLe.out.rm).mono ?_; rintro r w10 ⟨rfl, hb⟩; have HLf := hid (HLe.out.below hb); clear hb)
    | (go_at_call 12; refine (x_BusyB _ _ _ HLf.out.eg false (idle_3 hok).1).mono ?_; rintro r w11 ⟨rfl, hw⟩; obtain rfl := hw.symm)
    | (go_at_call 17; refine (l_awake8 _).mono ?_; rintro r w12 ⟨rfl, hb⟩; have HB8 := hid hb; clear hb))
  go_ret
  exact ⟨rfl, HLf.out.new.trans (HB8.out.mono HLf.out.new.size)⟩
set_option maxHeartbeats 1000000 in
theorem w_ER2 (W : World) (s : Int) (s0 : 0 ≤ s) (s1 : s < 18446744073709551616) (d : Int) (d0 : 0 ≤ d) (d1 : d < 18446744073709551616) (n : Int) (n0 : 0 ≤ n) (n1 : n < 18446744073709551616) (ad : Option Addr) (la cap ab ao : Nat) (X : Nat → Int × Int) (hX : Cl W ad la cap ab ao X) (c0 : 0 < n) (c1 : n ≤ 4096) (c2 : ¬ n % 8 = 0) (hok : okB s d n = false) :
    Calls Try.prog 4 #[.int .u64 s, .int .u64 d, .int .u64 n, .slice ad la cap] W fun e w' => e = .returned (.bool true) ∧ Below W.heap.size W w' := by
  have HX := hid hX
  clear hX
  have T0 : Hid True := hid trivial
  have T1 : Hid True := hid trivial
  have T2 : Hid True := hid trivial
  have TW : Hid True := hid trivial
  have TB : Hid True := hid trivial
  have TC : Hid True := hid trivial
  go_enter Try.func4, Try.ntmps4
  go_wp2_with (first
    | (go_at_call 18; refine (l_flat _ ad la cap ab ao X HX.out).mono ?_; rintro r w1 ⟨e, p, q, U, rfl, g1, g2, g3, g4, g5⟩; obtain ⟨S, T, hL⟩ := FlPost.lay g1 g2 g3 g4 g5; have HL := hid hL; clear g1 g2 g3 g4 g5 hL)
    | (go_at_call 10; have t := T0; clear t T0; refine (f_Write _ _ _ _ _ _ _ _ _ _ _ _ _ HL.out 0 8 s s0 s1 (by decide) (by decide) true rfl (eu (fun _ => 0) 0 s) (f_W8 (fun _ => 0) rfl s).1).mono ?_; rintro r wx1 ⟨rfl, hL⟩; have HLx1 := hid hL; clear hL)
    | (go_at_call 10; have t := T1; clear t T1; refine (f_Write _ _ _ _ _ _ _ _ _ _ _ _ _ HLx1.out 8 8 d d0 d1 (by decide) (by decide) true rfl (eu (eu (fun _ => 0) 0 s) 1 d) (f_W8 (eu (fun _ => 0) 0 s) rfl d).2.1).mono ?_; rintro r wx2 ⟨rfl, hL⟩; have HLx2 := hid hL; clear hL)
    | (go_at_call 10; have t := T2; clear t T2; refine (f_Write _ _ _ _ _ _ _ _ _ _ _ _ _ HLx2.out 16 8 n n0 n1 (by decide) (by decide) true rfl (eu (eu (eu (fun _ => 0) 0 s) 1 d) 2 n) (f_W8 (eu (eu (fun _ => 0) 0 s) 1 d) rfl n).2.2.1).mono ?_; rintro r wx3 ⟨rfl, hL⟩; have HLx3 := hid hL; clear hL)
    | (go_at_call 10; have t := TW; clear t TW; refine (f_Write _ _ _ _ _ _ _ _ _ _ _ _ _ HLx3.out 24 8 1 (by decide) (by decide) (by decide) (by decide) true rfl (bgE (eu (eu (eu (fun _ => 0) 0 s) 1 d) 2 n)) ((f_W8 (eu (eu (eu (fun _ => 0) 0 s) 1 d) 2 n) rfl 1).2.2.2.trans (cm_1 (eu (eu (eu (fun _ => 0) 0 s) 1 d) 2 n) rfl))).mono ?_; rintro r wx4 ⟨rfl, hL⟩; have HLb := hid (FL.rn hL (v' := (e0 p).wr (rB s d n)) rfl); clear hL)
    | (go_at_call 15; refine (f_Read _ _ _ _ _ _ _ _ _ _ _ _ _ HLb.out 32 8 (by decide) (by decide) true rfl 3 (idle_3 hok).2).mono ?_; rintro r w6 ⟨rfl, hL⟩; have HLc := hid hL; clear hL)
    | (go_at_call 12; have t := TB; clear t TB; refine (x_BusyB _ _ _ HLc.out.eg false (idle_3 hok).1).mono ?_; rintro r w7 ⟨rfl, hw⟩; obtain rfl := hw.symm)
    | (go_at_call 11; have t := TC; clear t TC; refine (f_Step _ _ _ _ _ _ _ _ _ _ _ _ _ HLc.out 0 0 false _ _ (st_idle _ _ _ (idle_3 hok).1)).mono ?_; rintro r w8 ⟨rfl, S8, hL⟩; have HLd := hid hL; clear hL)
    | (go_at_call 11; refine (f_Step _ _ _ _ _ _ _ _ _ _ _ _ _ HLd.out 0 0 false _ _ (st_idle _ _ _ (idle_3 hok).1)).mono ?_; rintro r w9 ⟨rfl, S9, hL⟩; have HLe := hid hL; have c0 := HLe.out.tb.c0; have c1 := HLe.out.tb.c1; clear hL)
    | (go_at_call 16; refine (c_Same _ _ _ p q 0 4 _ HLe.out.mm HLe.out.rm).mono ?_; rintro r w10 ⟨rfl, hb⟩; have HLf := hid (HLe.out.below hb); clear hb)
    | (go_at_call 12; refine (x_BusyB _ _ _ HLf.out.eg false (idle_3 hok).1).mono ?_; rintro r w11 ⟨rfl, hw⟩; obtain rfl := hw.symm)
    | (go_at_call 17; refine (l_awake8 _).mono ?_; rintro r w12 ⟨rfl, hb⟩; have HB8 := hid hb; clear hb))
  go_ret
  exact ⟨rfl, HLf.out.new.trans (HB8.out.mono HLf.out.new.size)⟩
set_option maxHeartbeats 1000000 in
theorem w_ER3 (W : World) (s : Int) (s0 : 0 ≤ s) (s1 : s < 18446744073709551616) (d : Int) (d0 : 0 ≤ d) (d1 : d < 18446744073709551616) (n : Int) (n0 : 0 ≤ n) (n1 : n < 18446744073709551616) (ad : Option Addr) (la cap ab ao : Nat) (X : Nat → Int × Int) (hX : Cl W ad la cap ab ao X) (c0 : 0 < n) (c1 : n ≤ 4096) (c2 : n % 8 = 0) (c3 : ¬ s % 8 = 0) (hok : okB s d n = false) :
    Calls Try.prog 4 #[.int .u64 s, .int .u64 d, .int .u64 n, .slice ad la cap] W fun e w' => e = .returned (.bool true) ∧ Below W.heap.size W w' := by
  have HX := hid hX
  clear hX
  have T0 : Hid True := hid trivial
  have T1 : Hid True := hid trivial
  have T2 : Hid True := hid trivial
  have TW : Hid True := hid trivial
  have TB : Hid True := hid trivial
  have TC : Hid True := hid trivial
  go_enter Try.func4, Try.ntmps4
  go_wp2_with (first
    | (go_at_call 18; refine (l_flat _ ad la cap ab ao X HX.out).mono ?_; rintro r w1 ⟨e, p, q, U, rfl, g1, g2, g3, g4, g5⟩; obtain ⟨S, T, hL⟩ := FlPost.lay g1 g2 g3 g4 g5; have HL := hid hL; clear g1 g2 g3 g4 g5 hL)
    | (go_at_call 10; have t := T0; clear t T0; refine (f_Write _ _ _ _ _ _ _ _ _ _ _ _ _ HL.out 0 8 s s0 s1 (by decide) (by decide) true rfl (eu (fun _ => 0) 0 s) (f_W8 (fun _ => 0) rfl s).1).mono ?_; rintro r wx1 ⟨rfl, hL⟩; have HLx1 := hid hL; clear hL)
    | (go_at_call 10; have t := T1; clear t T1; refine (f_Write _ _ _ _ _ _ _ _ _ _ _ _ _ HLx1.out 8 8 d d0 d1 (by decide) (by decide) true rfl (eu (eu (fun _ => 0) 0 s) 1 d) (f_W8 (eu (fun _ => 0) 0 s) rfl d).2.1).mono ?_; rintro r wx2 ⟨rfl, hL⟩; have HLx2 := hid hL; clear hL)
    | (go_at_call 10; have t := T2; clear t T2; refine (f_Write _ _ _ _ _ _ _ _ _ _ _ _ _ HLx2.out 16 8 n n0 n1 (by decide) (by decide) true rfl (eu (eu (eu (fun _ => 0) 0 s) 1 d) 2 n) (f_W8 (eu (eu (fun _ => 0) 0 s) 1 d) rfl n).2.2.1).mono ?_; rintro r wx3 ⟨rfl, hL⟩; have HLx3 := hid hL; clear hL)
    | (go_at_call 10; have t := TW; clear t TW; refine (f_Write _ _ _ _ _ _ _ _ _ _ _ _ _ HLx3.out 24 8 1 (by decide) (by decide) (by decide) (by decide) true rfl (bgE (eu (eu (eu (fun _ => 0) 0 s) 1 d) 2 n)) ((f_W8 (eu (eu (eu (fun _ => 0) 0 s) 1 d) 2 n) rfl 1).2.2.2.trans (cm_1 (eu (eu (eu (fun _ => 0) 0 s) 1 d) 2 n) rfl))).mono ?_; rintro r wx4 ⟨rfl, hL⟩; have HLb := hid (FL.rn hL (v' := (e0 p).wr (rB s d n)) rfl); clear hL)
    | (go_at_call 15; refine (f_Read _ _ _ _ _ _ _ _ _ _ _ _ _ HLb.out 32 8 (by decide) (by decide) true rfl 3 (idle_3 hok).2).mono ?_; rintro r w6 ⟨rfl, hL⟩; have HLc := hid hL; clear hL)
    | (go_at_call 12; have t := TB; clear t TB; refine (x_BusyB _ _ _ HLc.out.eg false (idle_3 hok).1).mono ?_; rintro r w7 ⟨rfl, hw⟩; obtain rfl := hw.symm)
    | (go_at_call 11; have t := TC; clear t TC; refine (f_Step _ _ _ _ _ _ _ _ _ _ _ _ _ HLc.out 0 0 false _ _ (st_idle _ _ _ (idle_3 hok).1)).mono ?_; rintro r w8 ⟨rfl, S8, hL⟩; have HLd := hid hL; clear hL)
    | (go_at_call 11; refine (f_Step _ _ _ _ _ _ _ _ _ _ _ _ _ HLd.out 0 0 false _ _ (st_idle _ _ _ (idle_3 hok).1)).mono ?_; rintro r w9 ⟨rfl, S9, hL⟩; have HLe := hid hL; have c0 := HLe.out.tb.c0; have c1 := HLe.out.tb.c1; clear hL)
    | (go_at_call 16; refine (c_Same _ _ _ p q 0 4 _ HLe.out.mm HLe.out.rm).mono ?_; rintro r w10 ⟨rfl, hb⟩; have HLf := hid (HLe.out.below hb); clear hb)
    | (go_at_call 12; refine (x_BusyB _ _ _ HLf.out.eg false (idle_3 hok).1).mono ?_; rintro r w11 ⟨rfl, hw⟩; obtain rfl := hw.symm)
    | (go_at_call 17; refine (l_awake8 _).mono ?_; rintro r w12 ⟨rfl, hb⟩; have HB8 := hid hb; clear hb))
  go_ret
  exact ⟨rfl, HLf.out.new.trans (HB8.out.mono HLf.out.new.size)⟩
set_option maxHeartbeats 1000000 in
theorem w_ER4 (W : World) (s : Int) (s0 : 0 ≤ s) (s1 : s < 18446744073709551616) (d : Int) (d0 : 0 ≤ d) (d1 : d < 18446744073709551616) (n : Int) (n0 : 0 ≤ n) (n1 : n < 18446744073709551616) (ad : Option Addr) (la cap ab ao : Nat) (X : Nat → Int × Int) (hX : Cl W ad la cap ab ao X) (c0 : 0 < n) (c1 : n ≤ 4096) (c2 : n % 8 = 0) (c3 : s % 8 = 0) (c4 : ¬ d % 8 = 0) (hok : okB s d n = false) :
    Calls Try.prog 4 #[.int .u64 s, .int .u64 d, .int .u64 n, .slice ad la cap] W fun e w' => e = .returned (.bool true) ∧ Below W.heap.size W w' := by
  have HX := hid hX
  clear hX
  have T0 : Hid True := hid trivial
  have T1 : Hid True := hid trivial
  have T2 : Hid True := hid trivial
  have TW : Hid True := hid trivial
  have TB : Hid True := hid trivial
  have TC : Hid True := hid trivial
  go_enter Try.func4, Try.ntmps4
  go_wp2_with (first
    | (go_at_call 18; refine (l_flat _ ad la cap ab ao X HX.out).mono ?_; rintro r w1 ⟨e, p, q, U, rfl, g1, g2, g3, g4, g5⟩; obtain ⟨S, T, hL⟩ := FlPost.lay g1 g2 g3 g4 g5; have HL := hid hL; clear g1 g2 g3 g4 g5 hL)
    | (go_at_call 10; have t := T0; clear t T0; refine (f_Write _ _ _ _ _ _ _ _ _ _ _ _ _ HL.out 0 8 s s0 s1 (by decide) (by decide) true rfl (eu (fun _ => 0) 0 s) (f_W8 (fun _ => 0) rfl s).1).mono ?_; rintro r wx1 ⟨rfl, hL⟩; have HLx1 := hid hL; clear hL)
    | (go_at_call 10; have t := T1; clear t T1; refine (f_Write _ _ _ _ _ _ _ _ _ _ _ _ _ HLx1.out 8 8 d d0 d1 (by decide) (by decide) true rfl (eu (eu (fun _ => 0) 0 s) 1 d) (f_W8 (eu (fun _ => 0) 0 s) rfl d).2.1).mono ?_; rintro r wx2 ⟨rfl, hL⟩; have HLx2 := hid hL; clear hL)
    | (go_at_call 10; have t := T2; clear t T2; refine (f_Write _ _ _ _ _ _ _ _ _ _ _ _ _ HLx2.out 16 8 n n0 n1 (by decide) (by decide) true rfl (eu (eu (eu (fun _ => 0) 0 s) 1 d) 2 n) (f_W8 (eu (eu (fun _ => 0) 0 s) 1 d) rfl n).2.2.1).mono ?_; rintro r wx3 ⟨rfl, hL⟩; have HLx3 := hid hL; clear hL)
    | (go_at_call 10; have t := TW; clear t TW; refine (f_Write _ _ _ _ _ _ _ _ _ _ _ _ _ HLx3.out 24 8 1 (by decide) (by decide) (by decide) (by decide) true rfl (bgE (eu (eu (eu (fun _ => 0) 0 s) 1 d) 2 n)) ((f_W8 (eu (eu (eu (fun _ => 0) 0 s) 1 d) 2 n) rfl 1).2.2.2.trans (cm_1 (eu (eu (eu (fun _ => 0) 0 s) 1 d) 2 n) rfl))).mono ?_; rintro r wx4 ⟨rfl, hL⟩; have HLb := hid (FL.rn hL (v' := (e0 p).wr (rB s d n)) rfl); clear hL)
    | (go_at_call 15; refine (f_Read _ _ _ _ _ _ _ _ _ _ _ _ _ HLb.out 32 8 (by decide) (by decide) true rfl 3 (idle_3 hok).2).mono ?_; rintro r w6 ⟨rfl, hL⟩; have HLc := hid hL; clear hL)
    | (go_at_call 12; have t := TB; clear t TB; refine (x_BusyB _ _ _ HLc.out.eg false (idle_3 hok).1).mono ?_; rintro r w7 ⟨rfl, hw⟩; obtain rfl := hw.symm)
    | (go_at_call 11; have t := TC; clear t TC; refine (f_Step _ _ _ _ _ _ _ _ _ _ _ _ _ HLc.out 0 0 false _ _ (st_idle _ _ _ (idle_3 hok).1)).mono ?_; rintro r w8 ⟨rfl, S8, hL⟩; have HLd := hid hL; clear hL)
    | (go_at_call 11; refine (f_Step _ _ _ _ _ _ _ _ _ _ _ _ _ HLd.out 0 0 false _ _ (st_idle _ _ _ (idle_3 hok).1)).mono ?_; rintro r w9 ⟨rfl, S9, hL⟩; have HLe := hid hL; have c0 := HLe.out.tb.c0; have c1 := HLe.out.tb.c1; clear hL)
    | (go_at_call 16; refine (c_Same _ _ _ p q 0 4 _ HLe.out.mm HLe.out.rm).mono ?_; rintro r w10 ⟨rfl, hb⟩; have HLf := hid (HLe.out.below hb); clear hb)
    | (go_at_call 12; refine (x_BusyB _ _ _ HLf.out.eg false (idle_3 hok).1).mono ?_; rintro r w11 ⟨rfl, hw⟩; obtain rfl := hw.symm)
    | (go_at_call 17; refine (l_awake8 _).mono ?_; rintro r w12 ⟨rfl, hb⟩; have HB8 := hid hb; clear hb))
  go_ret
  exact ⟨rfl, HLf.out.new.trans (HB8.out.mono HLf.out.new.size)⟩
set_option maxHeartbeats 1000000 in
theorem w_ER5 (W : World) (s : Int) (s0 : 0 ≤ s) (s1 : s < 18446744073709551616) (d : Int) (d0 : 0 ≤ d) (d1 : d < 18446744073709551616) (n : Int) (n0 : 0 ≤ n) (n1 : n < 18446744073709551616) (ad : Option Addr) (la cap ab ao : Nat) (X : Nat → Int × Int) (hX : Cl W ad la cap ab ao X) (c0 : 0 < n) (c1 : n ≤ 4096) (c2 : n % 8 = 0) (c3 : s % 8 = 0) (c4 : d % 8 = 0) (hok : okB s d n = true) :
    Calls Try.prog 4 #[.int .u64 s, .int .u64 d, .int .u64 n, .slice ad la cap] W fun e w' => e = .returned (.bool true) ∧ Below W.heap.size W w' := by
  have HX := hid hX
  clear hX
  have T0 : Hid True := hid trivial
  have T1 : Hid True := hid trivial
  have T2 : Hid True := hid trivial
  have TW : Hid True := hid trivial
  have TB : Hid True := hid trivial
  have TC : Hid True := hid trivial
  go_enter Try.func4, Try.ntmps4
  go_wp2_with (first
    | (go_at_call 18; refine (l_flat _ ad la cap ab ao X HX.out).mono ?_; rintro r w1 ⟨e, p, q, U, rfl, g1, g2, g3, g4, g5⟩; obtain ⟨S, T, hL⟩ := FlPost.lay g1 g2 g3 g4 g5; have HL := hid hL; clear g1 g2 g3 g4 g5 hL)
    | (go_at_call 10; have t := T0; clear t T0; refine (f_Write _ _ _ _ _ _ _ _ _ _ _ _ _ HL.out 0 8 s s0 s1 (by decide) (by decide) true rfl (eu (fun _ => 0) 0 s) (f_W8 (fun _ => 0) rfl s).1).mono ?_; rintro r wx1 ⟨rfl, hL⟩; have HLx1 := hid hL; clear hL)
    | (go_at_call 10; have t := T1; clear t T1; refine (f_Write _ _ _ _ _ _ _ _ _ _ _ _ _ HLx1.out 8 8 d d0 d1 (by decide) (by decide) true rfl (eu (eu (fun _ => 0) 0 s) 1 d) (f_W8 (eu (fun _ => 0) 0 s) rfl d).2.1).mono ?_; rintro r wx2 ⟨rfl, hL⟩; have HLx2 := hid hL; clear hL)
    | (go_at_call 10; have t := T2; clear t T2; refine (f_Write _ _ _ _ _ _ _ _ _ _ _ _ _ HLx2.out 16 8 n n0 n1 (by decide) (by decide) true rfl (eu (eu (eu (fun _ => 0) 0 s) 1 d) 2 n) (f_W8 (eu (eu (fun _ => 0) 0 s) 1 d) rfl n).2.2.1).mono ?_; rintro r wx3 ⟨rfl, hL⟩; have HLx3 := hid hL; clear hL)
    | (go_at_call 10; have t := TW; clear t TW; refine (f_Write _ _ _ _ _ _ _ _ _ _ _ _ _ HLx3.out 24 8 1 (by decide) (by decide) (by decide) (by decide) true rfl (bgE (eu (eu (eu (fun _ => 0) 0 s) 1 d) 2 n)) ((f_W8 (eu (eu (eu (fun _ => 0) 0 s) 1 d) 2 n) rfl 1).2.2.2.trans (cm_1 (eu (eu (eu (fun _ => 0) 0 s) 1 d) 2 n) rfl))).mono ?_; rintro r wx4 ⟨rfl, hL⟩; have HLb := hid (FL.rn hL (v' := (e0 p).wr (rB s d n)) rfl); clear hL)
    | (go_at_call 15; refine (f_Read _ _ _ _ _ _ _ _ _ _ _ _ _ HLb.out 32 8 (by decide) (by decide) true rfl 1 (busy_1 hok).2).mono ?_; rintro r w6 ⟨rfl, hL⟩; have HLc := hid hL; clear hL)
    | (go_at_call 12; have t := TB; clear t TB; refine (x_BusyB _ _ _ HLc.out.eg true (busy_1 hok).1).mono ?_; rintro r w7 ⟨rfl, hw⟩; obtain rfl := hw.symm)
    | (go_at_call 17; refine (l_awake8 _).mono ?_; rintro r w8 ⟨rfl, hb⟩; have HB8 := hid hb; clear hb))
  go_ret
  exact ⟨rfl, HLc.out.new.trans (HB8.out.mono HLc.out.new.size)⟩
theorem w_EngineRefuses (W : World) (s : Int) (s0 : 0 ≤ s) (s1 : s < 18446744073709551616) (d : Int) (d0 : 0 ≤ d) (d1 : d < 18446744073709551616) (n : Int) (n0 : 0 ≤ n) (n1 : n < 18446744073709551616) (ad : Option Addr) (la cap ab ao : Nat) (X : Nat → Int × Int) (hX : Cl W ad la cap ab ao X) :
    Calls Try.prog 4 #[.int .u64 s, .int .u64 d, .int .u64 n, .slice ad la cap] W fun e w' => e = .returned (.bool true) ∧ Below W.heap.size W w' := by
  by_cases c0 : 0 < n
  · skip
    by_cases c1 : n ≤ 4096
    · skip
      by_cases c2 : n % 8 = 0
      · skip
        by_cases c3 : s % 8 = 0
        · skip
          by_cases c4 : d % 8 = 0
          · skip
            exact w_ER5 W s s0 s1 d d0 d1 n n0 n1 ad la cap ab ao X hX c0 c1 c2 c3 c4 (by unfold okB; simp; omega)
          · exact w_ER4 W s s0 s1 d d0 d1 n n0 n1 ad la cap ab ao X hX c0 c1 c2 c3 c4 (by unfold okB; simp; omega)
        · exact w_ER3 W s s0 s1 d d0 d1 n n0 n1 ad la cap ab ao X hX c0 c1 c2 c3 (by unfold okB; simp; omega)
      · exact w_ER2 W s s0 s1 d d0 d1 n n0 n1 ad la cap ab ao X hX c0 c1 c2 (by unfold okB; simp; omega)
    · exact w_ER1 W s s0 s1 d d0 d1 n n0 n1 ad la cap ab ao X hX c0 c1 (by unfold okB; simp; omega)
  · exact w_ER0 W s s0 s1 d d0 d1 n n0 n1 ad la cap ab ao X hX  c0 (by unfold okB; simp; omega)
end Go.Proofs.Ytmdconecigenfaa
