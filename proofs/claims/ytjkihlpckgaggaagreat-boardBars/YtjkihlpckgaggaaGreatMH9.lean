/- BoardBars, walked. -/
import Derived.Test.YtjkihlpckgaggaaGreatMH8
import Derived.Test.YtjkihlpckgaggaaGreatMH7
namespace Go.Proofs.YtjkihlpckgaggaaGreat
open Go.RowKit
open C (Only hid Still ret_bool ret_int row)
open P (Ls)
set_option linter.unusedVariables false
set_option maxRecDepth 100000

theorem wr_base (v : P.Sv) (x : Int) (h0 : 0 ≤ x) (h1 : x < 4294967296) (hm : x % 4096 = 0) : (v.wr 16 4 x).base = x ∧ (v.wr 16 4 x).c = v.c := by
  have e : v.wr 16 4 x = ⟨v.k, v.c, P.hi4 (C.byt x 1), C.byt x 2, C.byt x 3, v.l⟩ := by
    simp [P.Sv.wr, P.atP]
  rw [e]
  refine ⟨?_, rfl⟩
  unfold P.Sv.base P.hi4 C.byt
  simp only [Int.reducePow]
  omega
theorem wr_cmd (v : P.Sv) (x : Int) : (v.wr 4 2 x).base = v.base ∧ (v.wr 4 2 x).c = P.a6 (C.byt x 0) := by
  have e : v.wr 4 2 x = ⟨v.k, P.a6 (C.byt x 0), v.b1, v.b2, v.b3, v.l⟩ := by
    simp [P.Sv.wr, P.atP]
  rw [e]
  exact ⟨rfl, rfl⟩
/-- a board with a console: its base, whether it is let; the law's own block -/
def Bb (W : World) (tb bp wp mp mq : Nat) (B : Int) (L : Bool) (w : World) : Prop := ∃ X, Bo W w X ∧ X.bp = bp ∧ X.n = 1 ∧ (X.dv 0).kd = 3 ∧ X.E tb = some (.cells #[ptr bp, ptr wp, ptr mp, ptr mq] 35) ∧ (X.V 0).base = B ∧ P.bt2 (X.V 0).c = L
section
variable {W w : World} {tb bp wp mp mq : Nat} {B : Int} {L : Bool}
theorem Bb.cs (h : Bb W tb bp wp mp mq B L w) : w.cell? ⟨tb, 0, none⟩ = some (ptr bp) ∧ w.cell? ⟨tb, 2, none⟩ = some (ptr mp) := by
  obtain ⟨X, h1, -, -, -, h5, -⟩ := h
  have := h1.ex h5
  exact ⟨cell_of_row w tb 0 _ _ _ this, cell_of_row w tb 2 _ _ _ this⟩
theorem Bb.bel (h : Bb W tb bp wp mp mq B L w) : Below W.heap.size W w := by
  obtain ⟨X, h1, -⟩ := h
  exact h1.bel
theorem bb_base (h : Bb W tb bp wp mp mq B L w) (mv : Value) (x : Int) (h0 : 0 ≤ x) (h1 : x < 4294967296) (hm : x % 4096 = 0) : Calls Tryz.prog 13 #[ptr bp, mv, .int .u64 805306384, .int .i64 4, .int .u64 x] w fun r w' => r = .returned (.bool true) ∧ Bb W tb bp wp mp mq x L w' := by
  obtain ⟨X, hB, rfl, hn, hk, hE, hb, hc⟩ := h
  have := b_WriteP hB mv 16 4 x (by decide) (by decide) (by decide) (by decide) h0 (by omega) _ rfl
  rw [show (805306368 : Int) + 16 = 805306384 by decide] at this
  refine this.mono ?_
  rintro r w' ⟨rfl, q⟩
  refine ⟨rfl, _, q, rfl, hn, hk, hE, ?_⟩
  have hw : P.wrV X.n X.V (16 / 4096) (16 % 4096) 4 x 0 = (X.V 0).wr 16 4 x := by
    rw [hn]
    rfl
  show ((P.wrV X.n X.V (16 / 4096) (16 % 4096) 4 x) 0).base = x ∧ P.bt2 ((P.wrV X.n X.V (16 / 4096) (16 % 4096) 4 x) 0).c = L
  rw [hw]
  obtain ⟨e1, e2⟩ := wr_base (X.V 0) x h0 h1 hm
  rw [e2]
  exact ⟨e1, hc⟩
theorem bb_cmd (h : Bb W tb bp wp mp mq B L w) (mv : Value) (x : Int) (h0 : 0 ≤ x) (h1 : x < 4294967296) (L' : Bool) (hL : P.bt2 (P.a6 (C.byt x 0)) = L') : Calls Tryz.prog 13 #[ptr bp, mv, .int .u64 805306372, .int .i64 2, .int .u64 x] w fun r w' => r = .returned (.bool true) ∧ Bb W tb bp wp mp mq B L' w' := by
  obtain ⟨X, hB, rfl, hn, hk, hE, hb, hc⟩ := h
  have := b_WriteP hB mv 4 2 x (by decide) (by decide) (by decide) (by decide) h0 (by omega) _ rfl
  rw [show (805306368 : Int) + 4 = 805306372 by decide] at this
  refine this.mono ?_
  rintro r w' ⟨rfl, q⟩
  refine ⟨rfl, _, q, rfl, hn, hk, hE, ?_⟩
  have hw : P.wrV X.n X.V (4 / 4096) (4 % 4096) 2 x 0 = (X.V 0).wr 4 2 x := by
    rw [hn]
    rfl
  show ((P.wrV X.n X.V (4 / 4096) (4 % 4096) 2 x) 0).base = B ∧ P.bt2 ((P.wrV X.n X.V (4 / 4096) (4 % 4096) 2 x) 0).c = L'
  rw [hw]
  obtain ⟨e1, e2⟩ := wr_cmd (X.V 0) x
  rw [e1, e2]
  exact ⟨hb, hL⟩
/-- an address of a device's base: no place has it -/
theorem no_place (a : Int) (h0 : 1073741824 ≤ a) (h1 : a < 2147483648) : hitP a 0 = false ∧ hitP a 1 = false ∧ hitP a 2 = false ∧ hitP a 3 = false := by
  have e0 : plO a 0 = a - 268435456 := by show IntKind.u64.wrap (a - 268435456) = _; rw [IntKind.wrap_u64]; omega
  have e1 : plO a 1 = a - 268439552 := by show IntKind.u64.wrap (a - 268439552) = _; rw [IntKind.wrap_u64]; omega
  have e2 : plO a 2 = a - 201326592 := by show IntKind.u64.wrap (a - 201326592) = _; rw [IntKind.wrap_u64]; omega
  have e3 : plO a 3 = a - 805306368 := by show IntKind.u64.wrap (a - 805306368) = _; rw [IntKind.wrap_u64]; omega
  unfold hitP
  rw [e0, e1, e2, e3]
  exact ⟨decide_eq_false (show ¬ a - 268435456 < 8 by omega), decide_eq_false (show ¬ a - 268439552 < 4096 by omega), decide_eq_false (show ¬ a - 201326592 < 16384 by omega), decide_eq_false (show ¬ a - 805306368 < 32768 by omega)⟩
theorem bb_hit (h : Bb W tb bp wp mp mq B true w) (mv : Value) (h0 : 1073741824 ≤ B) (h1 : B < 2147479552) : Calls Tryz.prog 14 #[ptr bp, mv, .int .u64 (B + 8), .int .i64 4, .int .u64 0] w fun r w' => r = .returned (.tuple #[.int .u64 3, .bool true]) ∧ Bb W tb bp wp mp mq B true w' := by
  obtain ⟨X, hB, rfl, hn, hk, hE, hb, hc⟩ := h
  obtain ⟨q0, q1, q2, q3⟩ := no_place (B + 8) (by omega) (by omega)
  have hh : P.hitV X.V (B + 8) 0 = true := by
    unfold P.hitV P.Sv.on
    rw [hb, hc]
    simp
    omega
  obtain ⟨f1, f2, f3⟩ := P.fd_hit (n := X.n) (V := X.V) (a := B + 8) (j := 0) (by omega) hh (fun i hi => absurd hi (Nat.not_lt_zero i))
  have e1 : fdD X (B + 8) = ptD (X.pv 0) := by unfold fdD; simp [q0, q1, q2, q3, f3, f1]
  have e2 : fdF X (B + 8) = 8 := by unfold fdF; simp [q0, q1, q2, q3, f3, f2, hb]; omega
  refine (b_ReadD hB mv (B + 8) 0 (by omega) (by omega) 0 (by omega) 3 hk (by decide) (by decide) e1 e2).mono ?_
  rintro r w' ⟨rfl, q⟩
  exact ⟨rfl, _, q, rfl, hn, hk, hE, hb, hc⟩
theorem bb_miss (h : Bb W tb bp wp mp mq B L w) (mv : Value) (a : Int) (h0 : 1073741824 ≤ a) (h1 : a < 2147479552) (hm : a % 4096 = 0) (hB4 : B % 4096 = 0) (hx : L = false ∨ a ≠ B) : Calls Tryz.prog 14 #[ptr bp, mv, .int .u64 (a + 8), .int .i64 4, .int .u64 0] w fun r w' => r = .returned (.tuple #[.int .u64 0, .bool false]) ∧ Bb W tb bp wp mp mq B L w' := by
  obtain ⟨X, hB, rfl, hn, hk, hE, hb, hc⟩ := h
  obtain ⟨q0, q1, q2, q3⟩ := no_place (a + 8) (by omega) (by omega)
  have hh : P.hitV X.V (a + 8) 0 = false := by
    unfold P.hitV P.Sv.on
    rw [hb, hc]
    rcases hx with rfl | hx
    · simp
    · have : ¬ (B ≤ a + 8 ∧ a + 8 - B < 4096) := by omega
      simp [this]
  obtain ⟨f1, f2, f3⟩ := P.fd_none (n := X.n) (V := X.V) (a := a + 8) (fun i hi => by obtain rfl : i = 0 := (by omega); exact hh)
  have e1 : fdD X (a + 8) = nbd := by unfold fdD; simp [q0, q1, q2, q3, f3]
  refine (b_ReadX hB mv (a + 8) 4 0 (by omega) (by omega) e1).mono ?_
  rintro r w' ⟨rfl, q⟩
  exact ⟨rfl, _, q, rfl, hn, hk, hE, hb, hc⟩
theorem Bo.bb {w3 : World} {X : BX} (h : Bo W w3 X) (hn : X.n = 1) (hk : (X.dv 0).kd = 3) (hV : X.V = (fun _ => P.sv0 3)) : Bb W w3.heap.size X.bp wp mp mq 0 false (w3.alloc (.cells #[ptr X.bp, ptr wp, ptr mp, ptr mq] 35)) :=
  ⟨_, h.add _, rfl, hn, hk, if_pos rfl, by show (X.V 0).base = 0; rw [hV]; rfl, by show P.bt2 (X.V 0).c = false; rw [hV]; decide +kernel⟩
end
end Go.Proofs.YtjkihlpckgaggaaGreat
namespace Go.Proofs.YtjkihlpckgaggaaGreat
open Go.RowKit
open C (Only hid Still ret_bool ret_int row)
open P (Ls)
set_option linter.unusedVariables false
set_option maxRecDepth 100000

set_option maxHeartbeats 4000000 in
theorem w_BoardBars (w : World) (x : Int) (x0 : 0 ≤ x) (x1 : x < 18446744073709551616) (y : Int) (y0 : 0 ≤ y) (y1 : y < 18446744073709551616) (z : Bool) : Calls Tryz.prog 5 #[.int .u64 x, .int .u64 y, .bool z] w fun e w' => e = .returned (.bool true) ∧ Below w.heap.size w w' := by
  have hN := l_New16c (w.alloc (.cells #[.int .i64 3] 3)) 1 (by decide) (by decide) w.heap.size 0 1 (fun _ => 3) (P.ls_one w 3 (by decide) (by decide)) 3 rfl (.inr rfl)
  have HN := hid hN
  have HW : Hid (Below w.heap.size w (w.alloc (.cells #[.int .i64 3] 3))) := hid ((Below.refl _ _).alloc (Nat.le_refl _) _)
  obtain ⟨a, ha⟩ : ∃ a, a = 1073741824 + x % 1000 * 4096 := ⟨_, rfl⟩
  obtain ⟨b, hb⟩ : ∃ b, b = 1073741824 + y % 1000 * 4096 := ⟨_, rfl⟩
  have ax1 : x.tmod 1000 = x % 1000 := Int.tmod_eq_emod_of_nonneg x0
  have ay1 : y.tmod 1000 = y % 1000 := Int.tmod_eq_emod_of_nonneg y0
  have ax2 : IntKind.u64.wrap (x % 1000) = x % 1000 := by rw [IntKind.wrap_u64]; omega
  have ay2 : IntKind.u64.wrap (y % 1000) = y % 1000 := by rw [IntKind.wrap_u64]; omega
  have ax3 : IntKind.u64.wrap (x % 1000 * 4096) = x % 1000 * 4096 := by rw [IntKind.wrap_u64]; omega
  have ay3 : IntKind.u64.wrap (y % 1000 * 4096) = y % 1000 * 4096 := by rw [IntKind.wrap_u64]; omega
  have ax4 : IntKind.u64.wrap (1073741824 + x % 1000 * 4096) = a := by rw [IntKind.wrap_u64]; omega
  have ay4 : IntKind.u64.wrap (1073741824 + y % 1000 * 4096) = b := by rw [IntKind.wrap_u64]; omega
  have ax5 : IntKind.u64.wrap (a + 8) = a + 8 := by rw [IntKind.wrap_u64]; omega
  have ay5 : IntKind.u64.wrap (b + 8) = b + 8 := by rw [IntKind.wrap_u64]; omega
  have FA : Hid (0 ≤ a ∧ a < 4294967296 ∧ a % 4096 = 0 ∧ 1073741824 ≤ a ∧ a < 2147479552) := hid ⟨by omega, by omega, by omega, by omega, by omega⟩
  have FB : Hid (0 ≤ b ∧ b < 4294967296 ∧ b % 4096 = 0 ∧ 1073741824 ≤ b ∧ b < 2147479552) := hid ⟨by omega, by omega, by omega, by omega, by omega⟩
  clear hN ha hb x0 x1 y0 y1
  cases z
  · go_enter Tryz.func5, Tryz.ntmps5
    go_wp2_with (first
        | (go_at_call 11; refine (HN.out).mono ?_; rintro r w3 ⟨X, ud, dk, wp, mp, mq, rfl, q1, q2, q3, q4, q5, q6, q7⟩; have H0 := hid ((q1.base HW.out).bb (wp := wp) (mp := mp) (mq := mq) q2 (by rw [q6]; rfl) q5); obtain ⟨c0, c2⟩ := H0.out.cs; clear q1 q2 q3 q4 q5 q6 q7)
        | (go_at_call 13; refine (bb_base H0.out _ a FA.out.1 FA.out.2.1 FA.out.2.2.1).mono ?_; rintro r w4 ⟨rfl, q⟩; have H1 := hid q; obtain ⟨c0, c2⟩ := q.cs; clear q H0)
        | (go_at_call 14; refine (bb_miss H1.out _ a FA.out.2.2.2.1 FA.out.2.2.2.2 FA.out.2.2.1 FA.out.2.2.1 (.inl rfl)).mono ?_; rintro r w5 ⟨rfl, q⟩; have H2 := hid q; obtain ⟨c0, c2⟩ := q.cs; clear q H1)
        | (go_at_call 13; refine (bb_base H2.out _ b FB.out.1 FB.out.2.1 FB.out.2.2.1).mono ?_; rintro r w6 ⟨rfl, q⟩; have H3 := hid q; obtain ⟨c0, c2⟩ := q.cs; clear q H2)
        | (go_at_call 14; refine (bb_miss H3.out _ a FA.out.2.2.2.1 FA.out.2.2.2.2 FA.out.2.2.1 FB.out.2.2.1 (.inl rfl)).mono ?_; rintro r w7 ⟨rfl, q⟩; have H4 := hid q; obtain ⟨c0, c2⟩ := q.cs; clear q H3)
        | (go_at_call 14; refine (bb_miss H4.out _ b FB.out.2.2.2.1 FB.out.2.2.2.2 FB.out.2.2.1 FB.out.2.2.1 (.inl rfl)).mono ?_; rintro r w8 ⟨rfl, q⟩; have H5 := hid q; obtain ⟨c0, c2⟩ := q.cs; clear q H4)
        | (go_at_call 13; refine (bb_cmd H5.out _ 0 (by decide) (by decide) false (by decide +kernel)).mono ?_; rintro r w9 ⟨rfl, q⟩; have H6 := hid q; obtain ⟨c0, c2⟩ := q.cs; clear q H5)
        | (go_at_call 14; refine (bb_miss H6.out _ b FB.out.2.2.2.1 FB.out.2.2.2.2 FB.out.2.2.1 FB.out.2.2.1 (.inl rfl)).mono ?_; rintro r w10 ⟨rfl, q⟩; have H7 := hid q; obtain ⟨c0, c2⟩ := q.cs; clear q H6)
        | (go_at_call 10; refine (l_awake16 _).mono ?_; rintro r w20 ⟨rfl, q⟩; have BE := hid (H7.out.bel.trans (q.mono H7.out.bel.size)); clear q))
    go_ret
    exact ⟨rfl, BE.out⟩
  · by_cases hab : a = b
    · subst hab
      clear FA
      have FA := FB
      go_enter Tryz.func5, Tryz.ntmps5
      go_wp2_with (first
        | (go_at_call 11; refine (HN.out).mono ?_; rintro r w3 ⟨X, ud, dk, wp, mp, mq, rfl, q1, q2, q3, q4, q5, q6, q7⟩; have H0 := hid ((q1.base HW.out).bb (wp := wp) (mp := mp) (mq := mq) q2 (by rw [q6]; rfl) q5); obtain ⟨c0, c2⟩ := H0.out.cs; clear q1 q2 q3 q4 q5 q6 q7)
        | (go_at_call 13; refine (bb_base H0.out _ a FA.out.1 FA.out.2.1 FA.out.2.2.1).mono ?_; rintro r w4 ⟨rfl, q⟩; have H1 := hid q; obtain ⟨c0, c2⟩ := q.cs; clear q H0)
        | (go_at_call 13; refine (bb_cmd H1.out _ 2 (by decide) (by decide) true (by decide +kernel)).mono ?_; rintro r w5 ⟨rfl, q⟩; have H2 := hid q; obtain ⟨c0, c2⟩ := q.cs; clear q H1)
        | (go_at_call 14; refine (bb_hit H2.out _ FA.out.2.2.2.1 FA.out.2.2.2.2).mono ?_; rintro r w6 ⟨rfl, q⟩; have H3 := hid q; obtain ⟨c0, c2⟩ := q.cs; clear q H2)
        | (go_at_call 13; refine (bb_base H3.out _ a FB.out.1 FB.out.2.1 FB.out.2.2.1).mono ?_; rintro r w7 ⟨rfl, q⟩; have H4 := hid q; obtain ⟨c0, c2⟩ := q.cs; clear q H3)
        | (go_at_call 14; refine (bb_hit H4.out _ FB.out.2.2.2.1 FB.out.2.2.2.2).mono ?_; rintro r w8 ⟨rfl, q⟩; have H5 := hid q; obtain ⟨c0, c2⟩ := q.cs; clear q H4)
        | (go_at_call 14; refine (bb_hit H5.out _ FB.out.2.2.2.1 FB.out.2.2.2.2).mono ?_; rintro r w9 ⟨rfl, q⟩; have H6 := hid q; obtain ⟨c0, c2⟩ := q.cs; clear q H5)
        | (go_at_call 13; refine (bb_cmd H6.out _ 0 (by decide) (by decide) false (by decide +kernel)).mono ?_; rintro r w10 ⟨rfl, q⟩; have H7 := hid q; obtain ⟨c0, c2⟩ := q.cs; clear q H6)
        | (go_at_call 14; refine (bb_miss H7.out _ a FB.out.2.2.2.1 FB.out.2.2.2.2 FB.out.2.2.1 FB.out.2.2.1 (.inl rfl)).mono ?_; rintro r w11 ⟨rfl, q⟩; have H8 := hid q; obtain ⟨c0, c2⟩ := q.cs; clear q H7)
        | (go_at_call 10; refine (l_awake16 _).mono ?_; rintro r w20 ⟨rfl, q⟩; have BE := hid (H8.out.bel.trans (q.mono H8.out.bel.size)); clear q))
      go_ret
      exact ⟨rfl, BE.out⟩
    · have HNE := hid hab
      go_enter Tryz.func5, Tryz.ntmps5
      go_wp2_with (first
        | (go_at_call 11; refine (HN.out).mono ?_; rintro r w3 ⟨X, ud, dk, wp, mp, mq, rfl, q1, q2, q3, q4, q5, q6, q7⟩; have H0 := hid ((q1.base HW.out).bb (wp := wp) (mp := mp) (mq := mq) q2 (by rw [q6]; rfl) q5); obtain ⟨c0, c2⟩ := H0.out.cs; clear q1 q2 q3 q4 q5 q6 q7)
        | (go_at_call 13; refine (bb_base H0.out _ a FA.out.1 FA.out.2.1 FA.out.2.2.1).mono ?_; rintro r w4 ⟨rfl, q⟩; have H1 := hid q; obtain ⟨c0, c2⟩ := q.cs; clear q H0)
        | (go_at_call 13; refine (bb_cmd H1.out _ 2 (by decide) (by decide) true (by decide +kernel)).mono ?_; rintro r w5 ⟨rfl, q⟩; have H2 := hid q; obtain ⟨c0, c2⟩ := q.cs; clear q H1)
        | (go_at_call 14; refine (bb_hit H2.out _ FA.out.2.2.2.1 FA.out.2.2.2.2).mono ?_; rintro r w6 ⟨rfl, q⟩; have H3 := hid q; obtain ⟨c0, c2⟩ := q.cs; clear q H2)
        | (go_at_call 13; refine (bb_base H3.out _ b FB.out.1 FB.out.2.1 FB.out.2.2.1).mono ?_; rintro r w7 ⟨rfl, q⟩; have H4 := hid q; obtain ⟨c0, c2⟩ := q.cs; clear q H3)
        | (go_at_call 14; refine (bb_miss H4.out _ a FA.out.2.2.2.1 FA.out.2.2.2.2 FA.out.2.2.1 FB.out.2.2.1 (.inr HNE.out)).mono ?_; rintro r w8 ⟨rfl, q⟩; have H5 := hid q; obtain ⟨c0, c2⟩ := q.cs; clear q H4)
        | (go_at_call 14; refine (bb_hit H5.out _ FB.out.2.2.2.1 FB.out.2.2.2.2).mono ?_; rintro r w9 ⟨rfl, q⟩; have H6 := hid q; obtain ⟨c0, c2⟩ := q.cs; clear q H5)
        | (go_at_call 13; refine (bb_cmd H6.out _ 0 (by decide) (by decide) false (by decide +kernel)).mono ?_; rintro r w10 ⟨rfl, q⟩; have H7 := hid q; obtain ⟨c0, c2⟩ := q.cs; clear q H6)
        | (go_at_call 14; refine (bb_miss H7.out _ b FB.out.2.2.2.1 FB.out.2.2.2.2 FB.out.2.2.1 FB.out.2.2.1 (.inl rfl)).mono ?_; rintro r w11 ⟨rfl, q⟩; have H8 := hid q; obtain ⟨c0, c2⟩ := q.cs; clear q H7)
        | (go_at_call 10; refine (l_awake16 _).mono ?_; rintro r w20 ⟨rfl, q⟩; have BE := hid (H8.out.bel.trans (q.mono H8.out.bel.size)); clear q))
      go_ret
      exact ⟨rfl, BE.out⟩
end Go.Proofs.YtjkihlpckgaggaaGreat
