/- What the reference's Encode answers: what the program's answers. New blocks alone. -/
import Derived.Test.YtioodijiejipiaaGreatDoorRW
namespace Go.Proofs.YtioodijiejipiaaGreatDoor
open Go.RowKit
set_option linter.unusedVariables false

set_option maxRecDepth 100000 in
theorem e_0 (k fn rd r1 r2 im sz : Int) (sg : Bool) (w : World)  (g0 : im < -2147483648) :
    Calls Tryz.prog 10 #[I.v ⟨k, fn, rd, r1, r2, im, sz, sg⟩] w fun e w' => e = .returned (.tuple #[.int .u32 0, .bool false]) ∧ Below w.heap.size w w' := by
  go_enter Tryz.func10, Tryz.ntmps10
  go_wp2_with (first | (go_at_call 26; first | ((with_reducible refine (r_in rd 0 31 _).mono ?_); rintro e w0 ⟨rfl, rfl⟩) | ((with_reducible refine (r_in r1 0 31 _).mono ?_); rintro e w0 ⟨rfl, rfl⟩) | ((with_reducible refine (r_in r2 0 31 _).mono ?_); rintro e w0 ⟨rfl, rfl⟩) | ((with_reducible refine (r_in fn 0 28 _).mono ?_); rintro e w0 ⟨rfl, rfl⟩) | ((with_reducible refine (r_in sz 0 8 _).mono ?_); rintro e w0 ⟨rfl, rfl⟩)))
  go_ret2
  exact ⟨rfl, below1 _⟩
set_option maxRecDepth 100000 in
theorem e_1 (k fn rd r1 r2 im sz : Int) (sg : Bool) (w : World) (g0 : ¬ im < -2147483648) (g1 : 2147483648 ≤ im) :
    Calls Tryz.prog 10 #[I.v ⟨k, fn, rd, r1, r2, im, sz, sg⟩] w fun e w' => e = .returned (.tuple #[.int .u32 0, .bool false]) ∧ Below w.heap.size w w' := by
  go_enter Tryz.func10, Tryz.ntmps10
  go_wp2_with (first | (go_at_call 26; first | ((with_reducible refine (r_in rd 0 31 _).mono ?_); rintro e w0 ⟨rfl, rfl⟩) | ((with_reducible refine (r_in r1 0 31 _).mono ?_); rintro e w0 ⟨rfl, rfl⟩) | ((with_reducible refine (r_in r2 0 31 _).mono ?_); rintro e w0 ⟨rfl, rfl⟩) | ((with_reducible refine (r_in fn 0 28 _).mono ?_); rintro e w0 ⟨rfl, rfl⟩) | ((with_reducible refine (r_in sz 0 8 _).mono ?_); rintro e w0 ⟨rfl, rfl⟩)))
  go_ret2
  exact ⟨rfl, below1 _⟩
set_option maxRecDepth 100000 in
theorem e_2 (k fn rd r1 r2 im sz : Int) (sg : Bool) (w : World) (g0 : ¬ im < -2147483648) (g1 : ¬ 2147483648 ≤ im) (g2 : inb rd 0 31 = false) :
    Calls Tryz.prog 10 #[I.v ⟨k, fn, rd, r1, r2, im, sz, sg⟩] w fun e w' => e = .returned (.tuple #[.int .u32 0, .bool false]) ∧ Below w.heap.size w w' := by
  go_enter Tryz.func10, Tryz.ntmps10
  go_wp2_with (first | (go_at_call 26; first | ((with_reducible refine (r_in rd 0 31 _).mono ?_); rintro e w0 ⟨rfl, rfl⟩) | ((with_reducible refine (r_in r1 0 31 _).mono ?_); rintro e w0 ⟨rfl, rfl⟩) | ((with_reducible refine (r_in r2 0 31 _).mono ?_); rintro e w0 ⟨rfl, rfl⟩) | ((with_reducible refine (r_in fn 0 28 _).mono ?_); rintro e w0 ⟨rfl, rfl⟩) | ((with_reducible refine (r_in sz 0 8 _).mono ?_); rintro e w0 ⟨rfl, rfl⟩)))
  go_ret2
  exact ⟨rfl, below1 _⟩
set_option maxRecDepth 100000 in
theorem e_3 (k fn rd r1 r2 im sz : Int) (sg : Bool) (w : World) (g0 : ¬ im < -2147483648) (g1 : ¬ 2147483648 ≤ im) (g2 : inb rd 0 31 = true) (g3 : inb r1 0 31 = false) :
    Calls Tryz.prog 10 #[I.v ⟨k, fn, rd, r1, r2, im, sz, sg⟩] w fun e w' => e = .returned (.tuple #[.int .u32 0, .bool false]) ∧ Below w.heap.size w w' := by
  go_enter Tryz.func10, Tryz.ntmps10
  go_wp2_with (first | (go_at_call 26; first | ((with_reducible refine (r_in rd 0 31 _).mono ?_); rintro e w0 ⟨rfl, rfl⟩) | ((with_reducible refine (r_in r1 0 31 _).mono ?_); rintro e w0 ⟨rfl, rfl⟩) | ((with_reducible refine (r_in r2 0 31 _).mono ?_); rintro e w0 ⟨rfl, rfl⟩) | ((with_reducible refine (r_in fn 0 28 _).mono ?_); rintro e w0 ⟨rfl, rfl⟩) | ((with_reducible refine (r_in sz 0 8 _).mono ?_); rintro e w0 ⟨rfl, rfl⟩)))
  go_ret2
  exact ⟨rfl, below1 _⟩
set_option maxRecDepth 100000 in
theorem e_4 (k fn rd r1 r2 im sz : Int) (sg : Bool) (w : World) (g0 : ¬ im < -2147483648) (g1 : ¬ 2147483648 ≤ im) (g2 : inb rd 0 31 = true) (g3 : inb r1 0 31 = true) (g4 : inb r2 0 31 = false) :
    Calls Tryz.prog 10 #[I.v ⟨k, fn, rd, r1, r2, im, sz, sg⟩] w fun e w' => e = .returned (.tuple #[.int .u32 0, .bool false]) ∧ Below w.heap.size w w' := by
  go_enter Tryz.func10, Tryz.ntmps10
  go_wp2_with (first | (go_at_call 26; first | ((with_reducible refine (r_in rd 0 31 _).mono ?_); rintro e w0 ⟨rfl, rfl⟩) | ((with_reducible refine (r_in r1 0 31 _).mono ?_); rintro e w0 ⟨rfl, rfl⟩) | ((with_reducible refine (r_in r2 0 31 _).mono ?_); rintro e w0 ⟨rfl, rfl⟩) | ((with_reducible refine (r_in fn 0 28 _).mono ?_); rintro e w0 ⟨rfl, rfl⟩) | ((with_reducible refine (r_in sz 0 8 _).mono ?_); rintro e w0 ⟨rfl, rfl⟩)))
  go_ret2
  exact ⟨rfl, below1 _⟩
set_option maxRecDepth 100000 in
theorem e_5 (k fn rd r1 r2 im sz : Int) (sg : Bool) (w : World) (g0 : ¬ im < -2147483648) (g1 : ¬ 2147483648 ≤ im) (g2 : inb rd 0 31 = true) (g3 : inb r1 0 31 = true) (g4 : inb r2 0 31 = true) (g5 : inb fn 0 28 = false) :
    Calls Tryz.prog 10 #[I.v ⟨k, fn, rd, r1, r2, im, sz, sg⟩] w fun e w' => e = .returned (.tuple #[.int .u32 0, .bool false]) ∧ Below w.heap.size w w' := by
  go_enter Tryz.func10, Tryz.ntmps10
  go_wp2_with (first | (go_at_call 26; first | ((with_reducible refine (r_in rd 0 31 _).mono ?_); rintro e w0 ⟨rfl, rfl⟩) | ((with_reducible refine (r_in r1 0 31 _).mono ?_); rintro e w0 ⟨rfl, rfl⟩) | ((with_reducible refine (r_in r2 0 31 _).mono ?_); rintro e w0 ⟨rfl, rfl⟩) | ((with_reducible refine (r_in fn 0 28 _).mono ?_); rintro e w0 ⟨rfl, rfl⟩) | ((with_reducible refine (r_in sz 0 8 _).mono ?_); rintro e w0 ⟨rfl, rfl⟩)))
  go_ret2
  exact ⟨rfl, below1 _⟩
set_option maxRecDepth 100000 in
theorem e_6 (k fn rd r1 r2 im sz : Int) (sg : Bool) (w : World) (g0 : ¬ im < -2147483648) (g1 : ¬ 2147483648 ≤ im) (g2 : inb rd 0 31 = true) (g3 : inb r1 0 31 = true) (g4 : inb r2 0 31 = true) (g5 : inb fn 0 28 = true) (g6 : inb sz 0 8 = false) :
    Calls Tryz.prog 10 #[I.v ⟨k, fn, rd, r1, r2, im, sz, sg⟩] w fun e w' => e = .returned (.tuple #[.int .u32 0, .bool false]) ∧ Below w.heap.size w w' := by
  go_enter Tryz.func10, Tryz.ntmps10
  go_wp2_with (first | (go_at_call 26; first | ((with_reducible refine (r_in rd 0 31 _).mono ?_); rintro e w0 ⟨rfl, rfl⟩) | ((with_reducible refine (r_in r1 0 31 _).mono ?_); rintro e w0 ⟨rfl, rfl⟩) | ((with_reducible refine (r_in r2 0 31 _).mono ?_); rintro e w0 ⟨rfl, rfl⟩) | ((with_reducible refine (r_in fn 0 28 _).mono ?_); rintro e w0 ⟨rfl, rfl⟩) | ((with_reducible refine (r_in sz 0 8 _).mono ?_); rintro e w0 ⟨rfl, rfl⟩)))
  go_ret2
  exact ⟨rfl, below1 _⟩
theorem eqI8' (x : I) (k fn rd r1 r2 im sz : Int) (sg b : Bool) (h : eqI x ⟨k, fn, rd, r1, r2, im, sz, sg⟩ = b) : eqI ⟨x.kind, x.fn, x.rd, x.rs1, x.rs2, x.imm, x.size, x.sg⟩ ⟨k, fn, rd, r1, r2, im, sz, sg⟩ = b := h
set_option maxHeartbeats 1000000 in
set_option maxRecDepth 100000 in
theorem e_n (k fn rd r1 r2 im sz : Int) (sg : Bool) (w : World) (g0 : ¬ im < -2147483648) (g1 : ¬ 2147483648 ≤ im) (g2 : inb rd 0 31 = true) (g3 : inb r1 0 31 = true) (g4 : inb r2 0 31 = true) (g5 : inb fn 0 28 = true) (g6 : inb sz 0 8 = true) (X : Int) (hX : X = wordX ⟨k, fn, rd, r1, r2, im, sz, sg⟩) (hk : (D X).2 = false) :
    Calls Tryz.prog 10 #[I.v ⟨k, fn, rd, r1, r2, im, sz, sg⟩] w fun e w' => e = .returned (.tuple #[.int .u32 0, .bool false]) ∧ Below w.heap.size w w' := by
  have heq := run_eq8
  have hb2 := wordX_b ⟨k, fn, rd, r1, r2, im, sz, sg⟩
  rw [← hX] at hb2
  have hw := r_word k fn rd r1 r2 im sz sg (by omega) (by omega) (inb_o g2).1 (inb_o g2).2 (inb_o g3).1 (inb_o g3).2 (inb_o g4).1 (inb_o g4).2 (inb_o g5).1 (inb_o g5).2 (inb_o g6).1 (inb_o g6).2
  rw [← hX] at hw
  have hD := r_Decode X hb2.1 hb2.2
  rw [hk] at hD
  clear hX hb2
  go_enter Tryz.func10, Tryz.ntmps10
  go_wp2_with (first | (go_at_call 26; first | ((with_reducible refine (r_in rd 0 31 _).mono ?_); rintro e w0 ⟨rfl, rfl⟩) | ((with_reducible refine (r_in r1 0 31 _).mono ?_); rintro e w0 ⟨rfl, rfl⟩) | ((with_reducible refine (r_in r2 0 31 _).mono ?_); rintro e w0 ⟨rfl, rfl⟩) | ((with_reducible refine (r_in fn 0 28 _).mono ?_); rintro e w0 ⟨rfl, rfl⟩) | ((with_reducible refine (r_in sz 0 8 _).mono ?_); rintro e w0 ⟨rfl, rfl⟩)) | (go_at_call 27; with_reducible refine (hw _).mono ?_; rintro e w1 ⟨rfl, hb⟩; obtain ⟨hc1, hf1⟩ := bcell hb; have hz1 := belowS hb) | (go_at_call 7; with_reducible refine (hD _).mono ?_; rintro e w2 ⟨rfl, hb2⟩; obtain ⟨hc2, hf2⟩ := bcell hb2; have hz2 := Nat.lt_of_lt_of_le hz1 hb2.size))
  go_ret2
  exact ⟨rfl, (belowT (belowA hb) hb2).alloc (by omega) _⟩
set_option maxHeartbeats 1000000 in
set_option maxRecDepth 100000 in
theorem e_m (k fn rd r1 r2 im sz : Int) (sg : Bool) (w : World) (g0 : ¬ im < -2147483648) (g1 : ¬ 2147483648 ≤ im) (g2 : inb rd 0 31 = true) (g3 : inb r1 0 31 = true) (g4 : inb r2 0 31 = true) (g5 : inb fn 0 28 = true) (g6 : inb sz 0 8 = true) (X : Int) (hX : X = wordX ⟨k, fn, rd, r1, r2, im, sz, sg⟩) (hk : (D X).2 = true) (hq : eqI (D X).1 ⟨k, fn, rd, r1, r2, im, sz, sg⟩ = false) :
    Calls Tryz.prog 10 #[I.v ⟨k, fn, rd, r1, r2, im, sz, sg⟩] w fun e w' => e = .returned (.tuple #[.int .u32 0, .bool false]) ∧ Below w.heap.size w w' := by
  have heq := run_eq8
  have hb2 := wordX_b ⟨k, fn, rd, r1, r2, im, sz, sg⟩
  rw [← hX] at hb2
  have hq8 := eqI8' _ _ _ _ _ _ _ _ _ _ hq
  have hw := r_word k fn rd r1 r2 im sz sg (by omega) (by omega) (inb_o g2).1 (inb_o g2).2 (inb_o g3).1 (inb_o g3).2 (inb_o g4).1 (inb_o g4).2 (inb_o g5).1 (inb_o g5).2 (inb_o g6).1 (inb_o g6).2
  rw [← hX] at hw
  have hD := r_Decode X hb2.1 hb2.2
  rw [hk] at hD
  clear hX hb2
  go_enter Tryz.func10, Tryz.ntmps10
  go_wp2_with (first | (go_at_call 26; first | ((with_reducible refine (r_in rd 0 31 _).mono ?_); rintro e w0 ⟨rfl, rfl⟩) | ((with_reducible refine (r_in r1 0 31 _).mono ?_); rintro e w0 ⟨rfl, rfl⟩) | ((with_reducible refine (r_in r2 0 31 _).mono ?_); rintro e w0 ⟨rfl, rfl⟩) | ((with_reducible refine (r_in fn 0 28 _).mono ?_); rintro e w0 ⟨rfl, rfl⟩) | ((with_reducible refine (r_in sz 0 8 _).mono ?_); rintro e w0 ⟨rfl, rfl⟩)) | (go_at_call 27; with_reducible refine (hw _).mono ?_; rintro e w1 ⟨rfl, hb⟩; obtain ⟨hc1, hf1⟩ := bcell hb; have hz1 := belowS hb) | (go_at_call 7; with_reducible refine (hD _).mono ?_; rintro e w2 ⟨rfl, hb2⟩; obtain ⟨hc2, hf2⟩ := bcell hb2; have hz2 := Nat.lt_of_lt_of_le hz1 hb2.size))
  go_ret2
  exact ⟨rfl, (belowT (belowA hb) hb2).alloc (by omega) _⟩
set_option maxHeartbeats 1000000 in
set_option maxRecDepth 100000 in
theorem e_y (k fn rd r1 r2 im sz : Int) (sg : Bool) (w : World) (g0 : ¬ im < -2147483648) (g1 : ¬ 2147483648 ≤ im) (g2 : inb rd 0 31 = true) (g3 : inb r1 0 31 = true) (g4 : inb r2 0 31 = true) (g5 : inb fn 0 28 = true) (g6 : inb sz 0 8 = true) (X : Int) (hX : X = wordX ⟨k, fn, rd, r1, r2, im, sz, sg⟩) (hk : (D X).2 = true) (hq : eqI (D X).1 ⟨k, fn, rd, r1, r2, im, sz, sg⟩ = true) :
    Calls Tryz.prog 10 #[I.v ⟨k, fn, rd, r1, r2, im, sz, sg⟩] w fun e w' => e = .returned (.tuple #[.int .u32 X, .bool true]) ∧ Below w.heap.size w w' := by
  have heq := run_eq8
  have hb2 := wordX_b ⟨k, fn, rd, r1, r2, im, sz, sg⟩
  rw [← hX] at hb2
  have hq8 := eqI8' _ _ _ _ _ _ _ _ _ _ hq
  have hw := r_word k fn rd r1 r2 im sz sg (by omega) (by omega) (inb_o g2).1 (inb_o g2).2 (inb_o g3).1 (inb_o g3).2 (inb_o g4).1 (inb_o g4).2 (inb_o g5).1 (inb_o g5).2 (inb_o g6).1 (inb_o g6).2
  rw [← hX] at hw
  have hD := r_Decode X hb2.1 hb2.2
  rw [hk] at hD
  clear hX hb2
  go_enter Tryz.func10, Tryz.ntmps10
  go_wp2_with (first | (go_at_call 26; first | ((with_reducible refine (r_in rd 0 31 _).mono ?_); rintro e w0 ⟨rfl, rfl⟩) | ((with_reducible refine (r_in r1 0 31 _).mono ?_); rintro e w0 ⟨rfl, rfl⟩) | ((with_reducible refine (r_in r2 0 31 _).mono ?_); rintro e w0 ⟨rfl, rfl⟩) | ((with_reducible refine (r_in fn 0 28 _).mono ?_); rintro e w0 ⟨rfl, rfl⟩) | ((with_reducible refine (r_in sz 0 8 _).mono ?_); rintro e w0 ⟨rfl, rfl⟩)) | (go_at_call 27; with_reducible refine (hw _).mono ?_; rintro e w1 ⟨rfl, hb⟩; obtain ⟨hc1, hf1⟩ := bcell hb; have hz1 := belowS hb) | (go_at_call 7; with_reducible refine (hD _).mono ?_; rintro e w2 ⟨rfl, hb2⟩; obtain ⟨hc2, hf2⟩ := bcell hb2; have hz2 := Nat.lt_of_lt_of_le hz1 hb2.size))
  go_ret2
  exact ⟨rfl, (belowT (belowA hb) hb2).alloc (by omega) _⟩
theorem r_Encode (i : I) (w : World) :
    Calls Tryz.prog 10 #[i.v] w fun e w' => e = .returned (.tuple #[.int .u32 (encF i).1, .bool (encF i).2]) ∧ Below w.heap.size w w' := by
  obtain ⟨k, fn, rd, r1, r2, im, sz, sg⟩ := i
  by_cases g0 : im < -2147483648
  · rw [enc_out (fun (r : Rg ⟨k, fn, rd, r1, r2, im, sz, sg⟩) => by have := r.m0; simp at this; omega)]
    exact e_0 k fn rd r1 r2 im sz sg w g0
  by_cases g1 : 2147483648 ≤ im
  · rw [enc_out (fun (r : Rg ⟨k, fn, rd, r1, r2, im, sz, sg⟩) => by have := r.m1; simp at this; omega)]
    exact e_1 k fn rd r1 r2 im sz sg w g0 g1
  cases g2 : inb rd 0 31
  · rw [enc_out (fun (r : Rg ⟨k, fn, rd, r1, r2, im, sz, sg⟩) => by have t : inb rd 0 31 = true := r.rd; rw [g2] at t; cases t)]
    exact e_2 k fn rd r1 r2 im sz sg w g0 g1 g2
  cases g3 : inb r1 0 31
  · rw [enc_out (fun (r : Rg ⟨k, fn, rd, r1, r2, im, sz, sg⟩) => by have t : inb r1 0 31 = true := r.rs1; rw [g3] at t; cases t)]
    exact e_3 k fn rd r1 r2 im sz sg w g0 g1 g2 g3
  cases g4 : inb r2 0 31
  · rw [enc_out (fun (r : Rg ⟨k, fn, rd, r1, r2, im, sz, sg⟩) => by have t : inb r2 0 31 = true := r.rs2; rw [g4] at t; cases t)]
    exact e_4 k fn rd r1 r2 im sz sg w g0 g1 g2 g3 g4
  cases g5 : inb fn 0 28
  · rw [enc_out (fun (r : Rg ⟨k, fn, rd, r1, r2, im, sz, sg⟩) => by have t : inb fn 0 28 = true := r.fn; rw [g5] at t; cases t)]
    exact e_5 k fn rd r1 r2 im sz sg w g0 g1 g2 g3 g4 g5
  cases g6 : inb sz 0 8
  · rw [enc_out (fun (r : Rg ⟨k, fn, rd, r1, r2, im, sz, sg⟩) => by have t : inb sz 0 8 = true := r.sz; rw [g6] at t; cases t)]
    exact e_6 k fn rd r1 r2 im sz sg w g0 g1 g2 g3 g4 g5 g6
  cases hk : (D (wordX ⟨k, fn, rd, r1, r2, im, sz, sg⟩)).2
  · rw [enc_miss (fun x => by rw [hk] at x; cases x.1)]
    exact e_n k fn rd r1 r2 im sz sg w g0 g1 g2 g3 g4 g5 g6 _ rfl hk
  cases hq : eqI (D (wordX ⟨k, fn, rd, r1, r2, im, sz, sg⟩)).1 ⟨k, fn, rd, r1, r2, im, sz, sg⟩
  · rw [enc_miss (fun x => by rw [hq] at x; cases x.2)]
    exact e_m k fn rd r1 r2 im sz sg w g0 g1 g2 g3 g4 g5 g6 _ rfl hk hq
  · rw [enc_hit hk hq]
    exact e_y k fn rd r1 r2 im sz sg w g0 g1 g2 g3 g4 g5 g6 _ rfl hk hq
end Go.Proofs.YtioodijiejipiaaGreatDoor
