/- BoardBars, walked. -/
import Derived.Test.YtjkihlpckgaggaaGreatMH8
import Derived.Test.YtjkihlpckgaggaaGreatMH7
namespace Go.Proofs.YtjkihlpckgaggaaGreat
open Go.RowKit
open C (Only hid Still ret_bool ret_int row)
open P (Ls)
set_option linter.unusedVariables false
set_option maxRecDepth 100000

theorem wr_base (v : P.Sv) (x : Int) (h0 : 0 ≤ x) (h1 : x < 4294967296) (hm : x % 4096 = 0) : (v.wr 16 4 x).base = x ∧ (v.wr 16 4 x).c = v.c := by
  have e : v.wr 16 4 x = ⟨v.k, v.c, P.hi4 (C.byt x 1), C.byt x 2, C.byt x 3, v.l⟩ := by
    simp [P.Sv.wr, P.atP]
  rw [e]
  refine ⟨?_, rfl⟩
  unfold P.Sv.base P.hi4 C.byt
  simp only [Int.reducePow]
  omega
theorem wr_cmd (v : P.Sv) (x : Int) : (v.wr 4 2 x).base = v.base ∧ (v.wr 4 2 x).c = P.a6 (C.byt x 0) := by
  have e : v.wr 4 2 x = ⟨v.k, P.a6 (C.byt x 0), v.b1, v.b2, v.b3, v.l⟩ := by
    simp [P.Sv.wr, P.atP]
  rw [e]
  exact ⟨rfl, rfl⟩
/-- a board with a console: its base, whether it is let; the law's own block -/
def Bb (W : World) (tb bp wp mp mq : Nat) (B : Int) (L : Bool) (w : World) : Prop := ∃ X, Bo W w X ∧ X.bp = bp ∧ X.n = 1 ∧ (X.dv 0).kd = 3 ∧ X.E tb = some (.cells #[ptr bp, ptr wp, ptr mp, ptr mq] 35) ∧ (X.V 0).base = B ∧ P.bt2 (X.V 0).c = L
section
variable {W w : World} {tb bp wp mp mq : Nat} {B : Int} {L : Bool}
theorem Bb.cs (h : Bb W tb bp wp mp mq B L w) : w.cell? ⟨tb, 0, none⟩ = some (ptr bp) ∧ w.cell? ⟨tb, 2, none⟩ = some (ptr mp) := by
  obtain ⟨X, h1, -, -, -, h5, -⟩ := h
  have := h1.ex h5
  exact ⟨cell_of_row w tb 0 _ _ _ this, cell_of_row w tb 2 _ _ _ this⟩
theorem Bb.bel (h : Bb W tb bp wp mp mq B L w) : Below W.heap.size W w := by
  obtain ⟨X, h1, -⟩ := h
  exact h1.bel
theorem bb_base (h : Bb W tb bp wp mp mq B L w) (mv : Value) (x : Int) (h0 : 0 ≤ x) (h1 : x < 4294967296) (hm : x % 4096 = 0) : Calls Tryz.prog 13 #[ptr bp, mv, .int .u64 805306384, .int .i64 4, .int .u64 x] w fun r w' => r = .returned (.bool true) ∧ Bb W tb bp wp mp mq x L w' := by
  obtain ⟨X, hB, rfl, hn, hk, hE, hb, hc⟩ := h
  have := b_WriteP hB mv 16 4 x (by decide) (by decide) (by decide) (by decide) h0 (by omega) _ rfl
  rw [show (805306368 : Int) + 16 = 805306384 by decide] at this
  refine this.mono ?_
  rintro r w' ⟨rfl, q⟩
  refine ⟨rfl, _, q, rfl, hn, hk, hE, ?_⟩
  have hw : P.wrV X.n X.V (16 / 4096) (16 % 4096) 4 x 0 = (X.V 0).wr 16 4 x := by
    rw [hn]
    rfl
  show ((P.wrV X.n X.V (16 / 4096) (16 % 4096) 4 x) 0).base = x ∧ P.bt2 ((P.wrV X.n X.V (16 / 4096) (16 % 4096) 4 x) 0).c = L
  rw [hw]
  obtain ⟨e1, e2⟩ := wr_base (X.V 0) x h0 h1 hm
  rw [e2]
  exact ⟨e1, hc⟩
theorem bb_cmd (h : Bb W tb bp wp mp mq B L w) (mv : Value) (x : Int) (h0 : 0 ≤ x) (h1 : x < 4294967296) (L' : Bool) (hL : P.bt2 (P.a6 (C.byt x 0)) = L') : Calls Tryz.prog 13 #[ptr bp, mv, .int .u64 805306372, .int .i64 2, .int .u64 x] w fun r w' => r = .returned (.bool true) ∧ Bb W tb bp wp mp mq B L' w' := by
  obtain ⟨X, hB, rfl, hn, hk, hE, hb, hc⟩ := h
  have := b_WriteP hB mv 4 2 x (by decide) (by decide) (by decide) (by decide) h0 (by omega) _ rfl
  rw [show (805306368 : Int) + 4 = 805306372 by decide] at this
  refine this.mono ?_
  rintro r w' ⟨rfl, q⟩
  refine ⟨rfl, _, q, rfl, hn, hk, hE, ?_⟩
  have hw : P.wrV X.n X.V (4 / 4096) (4 % 4096) 2 x 0 = (X.V 0).wr 4 2 x := by
    rw [hn]
    rfl
  show ((P.wrV X.n X.V (4 / 4096) (4 % 4096) 2 x) 0).base = B ∧ P.bt2 ((P.wrV X.n X.V (4 / 4096) (4 % 4096) 2 x) 0).c = L'
  rw [hw]
  obtain ⟨e1, e2⟩ := wr_cmd (X.V 0) x
  rw [e1, e2]
  exact ⟨hb, hL⟩
/-- an address of a device's base: no place has it -/
theorem no_place (a : Int) (h0 : 1073741824 ≤ a) (h1 : a < 2147483648) : hitP a 0 = false ∧ hitP a 1 = false ∧ hitP a 2 = false ∧ hitP a 3 = false := by
  have e0 : plO a 0 = a - 268435456 := by show IntKind.u64.wrap (a - 268435456) = _; rw [IntKind.wrap_u64]; omega
  have e1 : plO a 1 = a - 268439552 := by show IntKind.u64.wrap (a - 268439552) = _; rw [IntKind.wrap_u64]; omega
  have e2 : plO a 2 = a - 201326592 := by show IntKind.u64.wrap (a - 201326592) = _; rw [IntKind.wrap_u64]; omega
  have e3 : plO a 3 = a - 805306368 := by show IntKind.u64.wrap (a - 805306368) = _; rw [IntKind.wrap_u64]; omega
  unfold hitP
  rw [e0, e1, e2, e3]
  exact ⟨decide_eq_false (show ¬ a - 268435456 < 8 by omega), decide_eq_false (show ¬ a - 268439552 < 4096 by omega), decide_eq_false (show ¬ a - 201326592 < 16384 by omega), decide_eq_false (show ¬ a - 805306368 < 32768 by omega)⟩
theorem bb_hit (h : Bb W tb bp wp mp mq B true w) (mv : Value) (h0 : 1073741824 ≤ B) (h1 : B < 2147479552) : Calls Tryz.prog 14 #[ptr bp, mv, .int .u64 (B + 8), .int .i64 4, .int .u64 0] w fun r w' => r = .returned (.tuple #[.int .u64 3, .bool true]) ∧ Bb W tb bp wp mp mq B true w' := by
  obtain ⟨X, hB, rfl, hn, hk, hE, hb, hc⟩ := h
  obtain ⟨q0, q1, q2, q3⟩ := no_place (B + 8) (by omega) (by omega)
  have hh : P.hitV X.V (B + 8) 0 = true := by
    unfold P.hitV P.Sv.on
    rw [hb, hc]
    simp
    omega
  obtain ⟨f1, f2, f3⟩ := P.fd_hit (n := X.n) (V := X.V) (a := B + 8) (j := 0) (by omega) hh (fun i hi => absurd hi (Nat.not_lt_zero i))
  have e1 : fdD X (B + 8) = ptD (X.pv 0) := by unfold fdD; simp [q0, q1, q2, q3, f3, f1]
  have e2 : fdF X (B + 8) = 8 := by unfold fdF; simp [q0, q1, q2, q3, f3, f2, hb]; omega
  refine (b_ReadD hB mv (B + 8) 0 (by omega) (by omega) 0 (by omega) 3 hk (by decide) (by decide) e1 e2).mono ?_
  rintro r w' ⟨rfl, q⟩
  exact ⟨rfl, _, q, rfl, hn, hk, hE, hb, hc⟩
theorem bb_miss (h : Bb W tb bp wp mp mq B L w) (mv : Value) (a : Int) (h0 : 1073741824 ≤ a) (h1 : a < 2147479552) (hm : a % 4096 = 0) (hB4 : B % 4096 = 0) (hx : L = false ∨ a ≠ B) : Calls Tryz.prog 14 #[ptr bp, mv, .int .u64 (a + 8), .int .i64 4, .int .u64 0] w fun r w' => r = .returned (.tuple #[.int .u64 0, .bool false]) ∧ Bb W tb bp wp mp mq B L w' := by
  obtain ⟨X, hB, rfl, hn, hk, hE, hb, hc⟩ := h
  obtain ⟨q0, q1, q2, q3⟩ := no_place (a + 8) (by omega) (by omega)
  have hh : P.hitV X.V (a + 8) 0 = false := by
    unfold P.hitV P.Sv.on
    rw [hb, hc]
    rcases hx with rfl | hx
    · simp
    · have : ¬ (B ≤ a + 8 ∧ a + 8 - B < 4096) := by omega
      simp [this]
  obtain ⟨f1, f2, f3⟩ := P.fd_none (n := X.n) (V := X.V) (a := a + 8) (fun i hi => by obtain rfl : i = 0 := (by omega); exact hh)
  have e1 : fdD X (a + 8) = nbd := by unfold fdD; simp [q0, q1, q2, q3, f3]
  refine (b_ReadX hB mv (a + 8) 4 0 (by omega) (by omega) e1).mono ?_
  rintro r w' ⟨rfl, q⟩
  exact ⟨rfl, _, q, rfl, hn, hk, hE, hb, hc⟩
theorem Bo.bb {w3 : World} {X : BX} (h : Bo W w3 X) (hn : X.n = 1) (hk : (X.dv 0).kd = 3) (hV : X.V = (fun _ => P.sv0 3)) : Bb W w3.heap.size X.bp wp mp mq 0 false (w3.alloc (.cells #[ptr X.bp, ptr wp, ptr mp, ptr mq] 35)) :=
  ⟨_, h.add _, rfl, hn, hk, if_pos rfl, by show (X.V 0).base = 0; rw [hV]; rfl, by show P.bt2 (X.V 0).c = false; rw [hV]; decide +kernel⟩
end
end Go.Proofs.YtjkihlpckgaggaaGreat
namespace Go.Proofs.YtjkihlpckgaggaaGreat
open Go.RowKit
open C (Only hid Still ret_bool ret_int)
set_option linter.unusedVariables false
set_option maxRecDepth 100000

theorem and_lowG (n : Int) (n0 : 0 ≤ n) (n1 : n < 18446744073709551616) : bits BinOp.and IntKind.u64 n 4294967295 = n % 4294967296 := by
  obtain ⟨k, rfl⟩ : ∃ k : Nat, n = k := ⟨n.toNat, by omega⟩
  have e := u64_and_nat k 4294967295 (by omega) (by decide)
  have e2 := Nat.and_two_pow_sub_one_eq_mod k 32
  rw [show (2 : Nat) ^ 32 - 1 = 4294967295 by decide, show (2 : Nat) ^ 32 = 4294967296 by decide] at e2
  rw [e2] at e
  have e3 : ((4294967295 : Nat) : Int) = 4294967295 := rfl
  rw [e3] at e
  rw [e]
  omega
theorem ck_read0 (w : World) (p : Nat) (hv s n : Int) (H : w.heap[p]? = some (.cells #[.int .u64 hv] 238 (0, 0))) (n0 : 0 ≤ n) (n1 : n < 18446744073709551616) :
    Calls Tryz.prog 290 #[ptr p, .int .u64 0, .int .i64 s, .int .u64 n] w fun e w' => e = .returned (.tuple #[.int .u64 (if s = 4 then n % 4294967296 else 0), .bool (decide (s = 4))]) ∧ (∃ hv', w'.heap[p]? = some (.cells #[.int .u64 hv'] 238 (0, 0))) ∧ Only (· = p) w w' := by
  have c0 : w.cell? ⟨p, 0, none⟩ = some (.int .u64 hv) := cell_of_row w p 0 _ _ _ H
  have z0 : w.frozen? ⟨p, 0, none⟩ = false := frozen_of_row w p 0 _ _ H
  have ea := and_lowG n n0 n1
  have HC := hid H
  clear H
  by_cases q1 : s = 4
  · subst q1
    go_enter Tryz.func290, Tryz.ntmps290
    go_wp2
    go_returns
    exact ⟨rfl, ⟨_, setRowB w p 0 _ _ _ _ HC.out rfl⟩, only_c w p 0 _⟩
  · have e1 : (if s = 4 then n % 4294967296 else 0) = 0 := if_neg q1
    have e2 : decide (s = 4) = false := decide_eq_false q1
    rw [e1, e2]
    clear e1 e2
    go_enter Tryz.func290, Tryz.ntmps290
    go_wp2
    go_returns
    exact ⟨rfl, ⟨hv, HC.out⟩, .refl w⟩
theorem fd_c (X : BX) (o : Int) (o0 : 0 ≤ o) (o1 : o < 4096) : fdD X (268439552 + o) = .iface 184 (.agg #[ptr X.kc]) ∧ fdF X (268439552 + o) = o := by
  have e0 : plO (268439552 + o) 0 = 4096 + o := by show IntKind.u64.wrap ((268439552 + o) - 268435456) = _; rw [IntKind.wrap_u64]; omega
  have e1 : plO (268439552 + o) 1 = o := by show IntKind.u64.wrap ((268439552 + o) - 268439552) = _; rw [IntKind.wrap_u64]; omega
  have h0 : hitP (268439552 + o) 0 = false := by unfold hitP; rw [e0]; exact decide_eq_false (show ¬ 4096 + o < 8 by omega)
  have h1 : hitP (268439552 + o) 1 = true := by unfold hitP; rw [e1]; exact decide_eq_true (show o < 4096 from o1)
  unfold fdD fdF
  rw [h0, h1, e1]
  exact ⟨rfl, rfl⟩
theorem fd_i (X : BX) (o : Int) (o0 : 0 ≤ o) (o1 : o < 16384) : fdD X (201326592 + o) = .iface 186 (.agg #[ptr X.pi]) ∧ fdF X (201326592 + o) = o := by
  have e0 : plO (201326592 + o) 0 = 18446744073642442752 + o := by show IntKind.u64.wrap ((201326592 + o) - 268435456) = _; rw [IntKind.wrap_u64]; omega
  have e1 : plO (201326592 + o) 1 = 18446744073642438656 + o := by show IntKind.u64.wrap ((201326592 + o) - 268439552) = _; rw [IntKind.wrap_u64]; omega
  have e2 : plO (201326592 + o) 2 = o := by show IntKind.u64.wrap ((201326592 + o) - 201326592) = _; rw [IntKind.wrap_u64]; omega
  have h0 : hitP (201326592 + o) 0 = false := by unfold hitP; rw [e0]; exact decide_eq_false (show ¬ 18446744073642442752 + o < 8 by omega)
  have h1 : hitP (201326592 + o) 1 = false := by unfold hitP; rw [e1]; exact decide_eq_false (show ¬ 18446744073642438656 + o < 4096 by omega)
  have h2 : hitP (201326592 + o) 2 = true := by unfold hitP; rw [e2]; exact decide_eq_true (show o < 16384 from o1)
  unfold fdD fdF
  rw [h0, h1, h2, e2]
  exact ⟨rfl, rfl⟩
section
variable {W w w' : World} {c : Nat → Nat} {X : BX}
theorem Bd.turnK (h : Bd W w c X) (ho : Only (· = X.kc) w w') {hv : Int} (hk : w'.heap[X.kc]? = some (.cells #[.int .u64 hv] 238 (0, 0))) : Bd W w' c X := by
  obtain ⟨⟨hv0, e0⟩, k2, k3⟩ := h.k
  obtain ⟨Fu, u1, u2⟩ := h.u
  obtain ⟨Fi, i1, i2⟩ := h.i
  obtain ⟨Fb, b1, b2⟩ := h.b
  obtain ⟨z1, z2, z3, z4⟩ := h.c0
  have ne : ∀ k m, c k = m → m ≠ 5 → k ≠ X.kc := fun k m e q f => by rw [f, k2] at e; exact q e.symm
  refine ⟨h.bel.trans (ho.below _ h.bel.size fun k hk => by subst hk; exact k3), ho.old h.top (ne _ _ z1 (by decide)), ho.old h.sp (ne _ _ z2 (by decide)), own_only h.pr ho (fun k hk => ?_), ho.old h.pl (ne _ _ z4 (by decide)),
    ⟨Fu, u1.only ho (fun k hk => ne _ _ (u2 k hk).1 (by decide)), u2⟩, ⟨Fi, i1.only ho (fun k hk => ne _ _ (i2 k hk).1 (by decide)), i2⟩, ⟨Fb, b1.only ho (fun k hk => ne _ _ (b2 k hk).1 (by decide)), b2⟩, h.vok, fun j hj => ?_, h.n8, h.c0, h.w0, fun k o hk => by obtain ⟨e1, e2, e3⟩ := h.ee k o hk; exact ⟨ho.old e1 (ne _ _ e2 (by decide)), e2, Nat.lt_of_lt_of_le e3 ho.size⟩, ⟨⟨hv, hk⟩, k2, k3⟩⟩
  · obtain rfl : X.g = k := Option.some.inj (show some X.g = some k from hk)
    exact ne _ _ z3 (by decide)
  · obtain ⟨d1, d2, d3⟩ := h.d j hj
    exact ⟨d1.only ho (ne _ _ d2 (by decide)) (fun k hk => by subst hk; exact ⟨_, _, _, e0, by decide⟩), d2, d3⟩
/-- the clock's low half -/
theorem cl_read (h : Bo W w X) (s n : Int) (n0 : 0 ≤ n) (n1 : n < 18446744073709551616) : Calls Tryz.prog 291 #[.agg #[ptr X.kc], .int .u64 0, .int .i64 s, .int .u64 n] w fun r w' => r = .returned (.tuple #[.int .u64 (if s = 4 then n % 4294967296 else 0), .bool (decide (s = 4))]) ∧ Bo W w' X := by
  obtain ⟨w1, hw1⟩ : ∃ w1, w1 = w.alloc (.cells #[ptr X.kc] 184) := ⟨_, rfl⟩
  have hB : Bo W w1 X := by rw [hw1]; exact h.below ((Below.refl w.heap.size w).alloc (Nat.le_refl _) _)
  have hc : (w.alloc (.cells #[ptr X.kc] 184)).cell? ⟨w.heap.size, 0, none⟩ = some (ptr X.kc) := cell_of_row _ _ 0 _ _ _ (heap_alloc_new w _)
  obtain ⟨c, hb⟩ := hB
  obtain ⟨⟨hv, e0⟩, -⟩ := hb.k
  have HR := hid (ck_read0 w1 X.kc hv s n e0 n0 n1)
  have HT : Hid (∀ w2, (∃ hv', w2.heap[X.kc]? = some (.cells #[.int .u64 hv'] 238 (0, 0))) → Only (· = X.kc) w1 w2 → Bo W w2 X) := hid fun w2 ⟨hv', q1⟩ q2 => ⟨c, hb.turnK q2 q1⟩
  rw [hw1] at HR HT
  clear h hb e0 hw1
  generalize (if s = 4 then n % 4294967296 else 0) = rv at *
  generalize decide (s = 4) = rb at *
  generalize X.kc = kc at *
  go_enter Tryz.func291, Tryz.ntmps291
  go_wp2_with (go_at_call 290; refine HR.out.mono ?_; rintro r w2 ⟨rfl, q1, q2⟩; have H2 := hid (HT.out w2 q1 q2); clear q1 q2)
  go_returns
  exact ⟨rfl, H2.out⟩
theorem co_read (h : Bo W w X) (o s n : Int) (o0 : 0 ≤ o) (o1 : o < 18446744073709551616) (s0 : -9223372036854775808 ≤ s) (s1 : s ≤ 9223372036854775807) : Calls Tryz.prog 292 #[.agg #[ptr X.pi], .int .u64 o, .int .i64 s, .int .u64 n] w fun r w' => r = .returned (.tuple #[.int .u64 (X.I.rd o s).1, .bool (X.I.rd o s).2.1]) ∧ Bo W w' (X.at (X.I.rd o s).2.2) := by
  obtain ⟨w1, hw1⟩ : ∃ w1, w1 = w.alloc (.cells #[ptr X.pi] 186) := ⟨_, rfl⟩
  have hB : Bo W w1 X := by rw [hw1]; exact h.below ((Below.refl w.heap.size w).alloc (Nat.le_refl _) _)
  have hc : (w.alloc (.cells #[ptr X.pi] 186)).cell? ⟨w.heap.size, 0, none⟩ = some (ptr X.pi) := cell_of_row _ _ 0 _ _ _ (heap_alloc_new w _)
  obtain ⟨c, hb⟩ := hB
  obtain ⟨F, i1, i2⟩ := hb.i
  have HR := hid (L.i_Read w1 F X.pi X.I i1 o s o0 o1 s0 s1)
  have HT : Hid (∀ w2 I', L.Ix w2 F X.pi I' → Only F w1 w2 → Bo W w2 (X.at I')) := hid fun w2 I' q1 q2 => ⟨c, hb.turnI i1 i2 q1 q2⟩
  rw [hw1] at HR HT
  clear h hb i1 i2 hw1
  generalize X.I.rd o s = rr at *
  generalize hpi : X.pi = pi at *
  go_enter Tryz.func292, Tryz.ntmps292
  go_wp2_with (go_at_call 225; refine HR.out.mono ?_; rintro r w2 ⟨rfl, q1, q2⟩; have H2 := hid (HT.out w2 _ q1 q2); clear q1 q2)
  go_returns
  exact ⟨rfl, H2.out⟩
theorem co_write (h : Bo W w X) (mv : Value) (o s v : Int) (o0 : 0 ≤ o) (o1 : o < 18446744073709551616) (s0 : -9223372036854775808 ≤ s) (s1 : s ≤ 9223372036854775807) (v0 : 0 ≤ v) (v1 : v < 18446744073709551616) : Calls Tryz.prog 293 #[.agg #[ptr X.pi], mv, .int .u64 o, .int .i64 s, .int .u64 v] w fun r w' => r = .returned (.bool (X.I.wr o s v).1) ∧ Bo W w' (X.at (X.I.wr o s v).2) := by
  obtain ⟨w1, hw1⟩ : ∃ w1, w1 = w.alloc (.cells #[ptr X.pi] 186) := ⟨_, rfl⟩
  have hB : Bo W w1 X := by rw [hw1]; exact h.below ((Below.refl w.heap.size w).alloc (Nat.le_refl _) _)
  have hc : (w.alloc (.cells #[ptr X.pi] 186)).cell? ⟨w.heap.size, 0, none⟩ = some (ptr X.pi) := cell_of_row _ _ 0 _ _ _ (heap_alloc_new w _)
  obtain ⟨c, hb⟩ := hB
  obtain ⟨F, i1, i2⟩ := hb.i
  have HR := hid (L.i_Write w1 F X.pi X.I i1 o s v o0 o1 s0 s1 v0 v1)
  have HT : Hid (∀ w2 I', L.Ix w2 F X.pi I' → Only F w1 w2 → Bo W w2 (X.at I')) := hid fun w2 I' q1 q2 => ⟨c, hb.turnI i1 i2 q1 q2⟩
  rw [hw1] at HR HT
  clear h hb i1 i2 hw1
  generalize X.I.wr o s v = rr at *
  generalize hpi : X.pi = pi at *
  go_enter Tryz.func293, Tryz.ntmps293
  go_wp2_with (go_at_call 226; refine HR.out.mono ?_; rintro r w2 ⟨rfl, q1, q2⟩; have H2 := hid (HT.out w2 _ q1 q2); clear q1 q2)
  go_ret
  exact ⟨rfl, H2.out⟩
theorem se_write (h : Bo W w X) (mv : Value) (o s v : Int) (o0 : 0 ≤ o) (o1 : o < 18446744073709551616) (v0 : 0 ≤ v) (v1 : v < 18446744073709551616) (hl : X.U.s.length < 140737488355328) (Y : BX) (hY : Y = if s = 1 then X.au (X.U.wr o (v % 256)) else X) : Calls Tryz.prog 223 #[.agg #[ptr X.pu], mv, .int .u64 o, .int .i64 s, .int .u64 v] w fun r w' => r = .returned (.bool (decide (s = 1))) ∧ Bo W w' Y := by
  obtain ⟨w1, hw1⟩ : ∃ w1, w1 = w.alloc (.cells #[ptr X.pu] 74) := ⟨_, rfl⟩
  have hB : Bo W w1 X := by rw [hw1]; exact h.below ((Below.refl w.heap.size w).alloc (Nat.le_refl _) _)
  have hc : (w.alloc (.cells #[ptr X.pu] 74)).cell? ⟨w.heap.size, 0, none⟩ = some (ptr X.pu) := cell_of_row _ _ 0 _ _ _ (heap_alloc_new w _)
  have HB := hid hB
  obtain ⟨c, hb⟩ := hB
  obtain ⟨F, u1, u2⟩ := hb.u
  have hby : L.Byt (v % 256) := ⟨by omega, by omega⟩
  have HR := hid (L.u_Write w1 F X.pu X.U o (v % 256) u1 o0 o1 hby hl)
  have HT : Hid (∀ w2, (∃ F', L.Ux w2 F' X.pu (X.U.wr o (v % 256)) ∧ L.Tn w1 w2 F F') → Bo W w2 (X.au (X.U.wr o (v % 256)))) := hid fun w2 ⟨F', q1, q2⟩ => ⟨_, hb.turnU u1 u2 q1 q2⟩
  have ew : IntKind.u8.wrap v = v % 256 := by rw [IntKind.wrap_u8]
  rw [hw1] at HR HT HB
  clear h hb u1 u2 hw1 hby hl
  by_cases q1 : s = 1
  · subst q1
    rw [if_pos rfl] at hY
    rw [← hY] at HT
    clear HB hY
    generalize v % 256 = v8 at *
    generalize X.pu = pu at *
    go_enter Tryz.func223, Tryz.ntmps223
    go_wp2_with (go_at_call 215; refine HR.out.mono ?_; rintro r w2 ⟨rfl, q2⟩; have H2 := hid (HT.out w2 q2); clear q2)
    go_ret
    exact ⟨rfl, H2.out⟩
  · rw [if_neg q1] at hY
    rw [hY]
    clear hY
    have e2 : decide (s = 1) = false := decide_eq_false q1
    rw [e2]
    clear HR HT e2
    generalize X.pu = pu at *
    go_enter Tryz.func223, Tryz.ntmps223
    go_wp2
    go_ret
    exact ⟨rfl, HB.out⟩
end
end Go.Proofs.YtjkihlpckgaggaaGreat
namespace Go.Proofs.YtjkihlpckgaggaaGreat
open Go.RowKit
open C (Only hid Still ret_bool ret_int)
set_option linter.unusedVariables false
set_option maxRecDepth 100000

section
variable {W w : World} {X : BX}
set_option maxHeartbeats 1000000 in
theorem b_WriteU (h : Bo W w X) (mv : Value) (o z v : Int) (o0 : 0 ≤ o) (o1 : o < 8) (v0 : 0 ≤ v) (v1 : v < 18446744073709551616) (hl : X.U.s.length < 140737488355328) (Y : BX) (hY : Y = if z = 1 then X.au (X.U.wr o (v % 256)) else X) :
    Calls Tryz.prog 13 #[ptr X.bp, mv, .int .u64 (268435456 + o), .int .i64 z, .int .u64 v] w fun r w' => r = .returned (.bool (decide (z = 1))) ∧ Bo W w' (Y.at (lvI Y Y.n)) := by
  have hF := b_find h (268435456 + o) (by omega) (by omega)
  obtain ⟨e1, e2⟩ := fd_u X o o0 o1
  rw [e1, e2] at hF
  have HF := hid hF
  have HR := hid (fun w8 (q : Bo W w8 X) => se_write q mv o z v o0 (by omega) v0 v1 hl Y hY)
  have HL := hid (fun w8 (q : Bo W w8 Y) => b_level W w8 Y q)
  rw [show Y.bp = X.bp by rw [hY]; split <;> rfl] at HL
  generalize decide (z = 1) = rb at *
  clear h hF e1 e2 hY
  go_enter Tryz.func13, Tryz.ntmps13
  go_wp2_with (first
    | (go_at_call 24; refine HF.out.mono ?_; rintro r w1 ⟨rfl, k⟩; have H1 := hid k; clear k)
    | (go_at_call 223; refine (HR.out w1 H1.out).mono ?_; rintro r w2 ⟨rfl, k⟩; have H2 := hid k; clear k)
    | (go_at_call 25; refine (HL.out w2 H2.out).mono ?_; rintro r w3 ⟨rfl, k⟩; have H3 := hid k; clear k))
  go_returns
  exact ⟨rfl, H3.out⟩
set_option maxHeartbeats 1000000 in
theorem b_WriteI (h : Bo W w X) (mv : Value) (o z v : Int) (o0 : 0 ≤ o) (o1 : o < 16384) (z0 : -9223372036854775808 ≤ z) (z1 : z ≤ 9223372036854775807) (v0 : 0 ≤ v) (v1 : v < 18446744073709551616) (Y : BX) (hY : Y = X.at (X.I.wr o z v).2) (rb : Bool) (hb : (X.I.wr o z v).1 = rb) :
    Calls Tryz.prog 13 #[ptr X.bp, mv, .int .u64 (201326592 + o), .int .i64 z, .int .u64 v] w fun r w' => r = .returned (.bool rb) ∧ Bo W w' (Y.at (lvI Y Y.n)) := by
  have hF := b_find h (201326592 + o) (by omega) (by omega)
  obtain ⟨e1, e2⟩ := fd_i X o o0 o1
  rw [e1, e2] at hF
  have HF := hid hF
  have HR := hid (fun w8 (q : Bo W w8 X) => co_write q mv o z v o0 (by omega) z0 z1 v0 v1)
  rw [← hY, hb] at HR
  have HL := hid (fun w8 (q : Bo W w8 Y) => b_level W w8 Y q)
  rw [show Y.bp = X.bp by rw [hY]; rfl] at HL
  clear h hF e1 e2 hY hb
  go_enter Tryz.func13, Tryz.ntmps13
  go_wp2_with (first
    | (go_at_call 24; refine HF.out.mono ?_; rintro r w1 ⟨rfl, k⟩; have H1 := hid k; clear k)
    | (go_at_call 293; refine (HR.out w1 H1.out).mono ?_; rintro r w2 ⟨rfl, k⟩; have H2 := hid k; clear k)
    | (go_at_call 25; refine (HL.out w2 H2.out).mono ?_; rintro r w3 ⟨rfl, k⟩; have H3 := hid k; clear k))
  go_returns
  exact ⟨rfl, H3.out⟩
set_option maxHeartbeats 1000000 in
theorem b_ReadI (h : Bo W w X) (mv : Value) (o z nw : Int) (o0 : 0 ≤ o) (o1 : o < 16384) (z0 : -9223372036854775808 ≤ z) (z1 : z ≤ 9223372036854775807) (Y : BX) (hY : Y = X.at (X.I.rd o z).2.2) (rv : Int) (rb : Bool) (hv : (X.I.rd o z).1 = rv) (hb : (X.I.rd o z).2.1 = rb) :
    Calls Tryz.prog 14 #[ptr X.bp, mv, .int .u64 (201326592 + o), .int .i64 z, .int .u64 nw] w fun r w' => r = .returned (.tuple #[.int .u64 rv, .bool rb]) ∧ Bo W w' (Y.at (lvI Y Y.n)) := by
  have hF := b_find h (201326592 + o) (by omega) (by omega)
  obtain ⟨e1, e2⟩ := fd_i X o o0 o1
  rw [e1, e2] at hF
  have HF := hid hF
  have HR := hid (fun w8 (q : Bo W w8 X) => co_read q o z nw o0 (by omega) z0 z1)
  rw [← hY, hb, hv] at HR
  have HL := hid (fun w8 (q : Bo W w8 Y) => b_level W w8 Y q)
  rw [show Y.bp = X.bp by rw [hY]; rfl] at HL
  clear h hF e1 e2 hY hb hv
  go_enter Tryz.func14, Tryz.ntmps14
  go_wp2_with (first
    | (go_at_call 24; refine HF.out.mono ?_; rintro r w1 ⟨rfl, k⟩; have H1 := hid k; clear k)
    | (go_at_call 292; refine (HR.out w1 H1.out).mono ?_; rintro r w2 ⟨rfl, k⟩; have H2 := hid k; clear k)
    | (go_at_call 25; refine (HL.out w2 H2.out).mono ?_; rintro r w3 ⟨rfl, k⟩; have H3 := hid k; clear k))
  go_returns
  exact ⟨rfl, H3.out⟩
set_option maxHeartbeats 1000000 in
theorem b_ReadC (h : Bo W w X) (mv : Value) (z nw : Int) (n0 : 0 ≤ nw) (n1 : nw < 18446744073709551616) (rv : Int) (rb : Bool) (hv : (if z = 4 then nw % 4294967296 else 0) = rv) (hb : decide (z = 4) = rb) :
    Calls Tryz.prog 14 #[ptr X.bp, mv, .int .u64 268439552, .int .i64 z, .int .u64 nw] w fun r w' => r = .returned (.tuple #[.int .u64 rv, .bool rb]) ∧ Bo W w' (X.at (lvI X X.n)) := by
  have hF := b_find h 268439552 (by omega) (by omega)
  obtain ⟨e1, e2⟩ := fd_c X 0 (by decide) (by decide)
  rw [show (268439552 : Int) + 0 = 268439552 by decide] at e1 e2
  rw [e1, e2] at hF
  have HF := hid hF
  have HR := hid (fun w8 (q : Bo W w8 X) => cl_read q z nw n0 n1)
  rw [hb, hv] at HR
  have HL := hid (fun w8 (q : Bo W w8 X) => b_level W w8 X q)
  clear h hF e1 e2 hb hv
  go_enter Tryz.func14, Tryz.ntmps14
  go_wp2_with (first
    | (go_at_call 24; refine HF.out.mono ?_; rintro r w1 ⟨rfl, k⟩; have H1 := hid k; clear k)
    | (go_at_call 291; refine (HR.out w1 H1.out).mono ?_; rintro r w2 ⟨rfl, k⟩; have H2 := hid k; clear k)
    | (go_at_call 25; refine (HL.out w2 H2.out).mono ?_; rintro r w3 ⟨rfl, k⟩; have H3 := hid k; clear k))
  go_returns
  exact ⟨rfl, H3.out⟩
set_option maxHeartbeats 1000000 in
theorem no_write (h : Bo W w X) (mv : Value) (o z v : Int) : Calls Tryz.prog 246 #[.agg #[], mv, .int .u64 o, .int .i64 z, .int .u64 v] w fun r w' => r = .returned (.bool false) ∧ Bo W w' X := by
  have HQ := hid (h.below ((Below.refl w.heap.size w).alloc (Nat.le_refl _) (.cells #[] 149)))
  clear h
  go_enter Tryz.func246, Tryz.ntmps246
  go_wp2
  go_ret
  exact ⟨rfl, HQ.out⟩
set_option maxHeartbeats 1000000 in
theorem b_WriteC (h : Bo W w X) (mv : Value) (z v : Int) :
    Calls Tryz.prog 13 #[ptr X.bp, mv, .int .u64 268439552, .int .i64 z, .int .u64 v] w fun r w' => r = .returned (.bool false) ∧ Bo W w' (X.at (lvI X X.n)) := by
  have hF := b_find h 268439552 (by omega) (by omega)
  obtain ⟨e1, e2⟩ := fd_c X 0 (by decide) (by decide)
  rw [show (268439552 : Int) + 0 = 268439552 by decide] at e1 e2
  rw [e1, e2] at hF
  have HF := hid hF
  have HR := hid (fun w8 (q : Bo W w8 X) => no_write q mv 0 z v)
  have HL := hid (fun w8 (q : Bo W w8 X) => b_level W w8 X q)
  clear h hF e1 e2
  go_enter Tryz.func13, Tryz.ntmps13
  go_wp2_with (first
    | (go_at_call 24; refine HF.out.mono ?_; rintro r w1 ⟨rfl, k⟩; have H1 := hid k; clear k)
    | (go_at_call 246; refine (HR.out w1 H1.out).mono ?_; rintro r w2 ⟨rfl, k⟩; have H2 := hid k; clear k)
    | (go_at_call 25; refine (HL.out w2 H2.out).mono ?_; rintro r w3 ⟨rfl, k⟩; have H3 := hid k; clear k))
  go_returns
  exact ⟨rfl, H3.out⟩
end
end Go.Proofs.YtjkihlpckgaggaaGreat
namespace Go.Proofs.YtjkihlpckgaggaaGreat
open Go.RowKit
open C (Only hid Still ret_bool ret_int row)
open P (Ls)
set_option linter.unusedVariables false
set_option maxRecDepth 100000

theorem and_fe (k : Nat) (h : k < 4294967296) : k &&& 4294967294 = k / 2 * 2 := by
  have h1 : (k &&& 4294967294) / 2 = k / 2 := by
    rw [Nat.and_div_two]
    have := Nat.and_two_pow_sub_one_eq_mod (k / 2) 31
    rw [show (2 : Nat) ^ 31 - 1 = 4294967294 / 2 by decide, show (2 : Nat) ^ 31 = 2147483648 by decide] at this
    rw [this]
    omega
  have h2 : (k &&& 4294967294) % 2 = 0 := by
    have := Nat.testBit_and k 4294967294 0
    rw [show Nat.testBit 4294967294 0 = false by decide, Bool.and_false, Nat.testBit_zero] at this
    have h3 := of_decide_eq_false this
    omega
  omega
/-- a board with a console: its UART, what hart 1 lets; the law's own block -/
def Rb (W : World) (tb bp wp mp mq : Nat) (U : L.UV) (l1 : Nat) (w : World) : Prop := ∃ X, Bo W w X ∧ X.bp = bp ∧ X.n = 1 ∧ X.E tb = some (.cells #[ptr bp, ptr wp, ptr mp, ptr mq] 35 (0, 0)) ∧ X.V = (fun _ => P.sv0 3) ∧ X.U = U ∧ X.I.n = 2 ∧ X.I.le 0 = 0 ∧ X.I.le 1 = l1
theorem lvI_le (X : BX) : ∀ k, (lvI X k).le = X.I.le ∧ (lvI X k).n = X.I.n
  | 0 => ⟨rfl, rfl⟩
  | k + 1 => lvI_le X k
section
variable {W w w' : World} {tb bp wp mp mq : Nat} {U : L.UV} {l1 : Nat}
theorem Rb.cs (h : Rb W tb bp wp mp mq U l1 w) : w.cell? ⟨tb, 0, none⟩ = some (ptr bp) ∧ w.cell? ⟨tb, 2, none⟩ = some (ptr mp) := by
  obtain ⟨X, h1, -, -, h5, -⟩ := h
  have := h1.ex h5
  exact ⟨cell_of_row w tb 0 _ _ _ this, cell_of_row w tb 2 _ _ _ this⟩
theorem Rb.bel (h : Rb W tb bp wp mp mq U l1 w) : Below W.heap.size W w := by
  obtain ⟨X, h1, -⟩ := h
  exact h1.bel
theorem Rb.below (h : Rb W tb bp wp mp mq U l1 w) (hb : Below w.heap.size w w') : Rb W tb bp wp mp mq U l1 w' := by
  obtain ⟨X, h1, h2⟩ := h
  exact ⟨X, h1.below hb, h2⟩
/-- behind the levels -/
theorem Rb.mk {X Y : BX} (hB : Bo W w' (Y.at (lvI Y Y.n))) (h1 : Y.bp = bp) (h2 : Y.n = 1) (h3 : Y.E tb = some (.cells #[ptr bp, ptr wp, ptr mp, ptr mq] 35 (0, 0))) (h4 : Y.V = (fun _ => P.sv0 3)) (h5 : Y.U = U) (h6 : Y.I.n = 2) (h7 : Y.I.le 0 = 0) (h8 : Y.I.le 1 = l1) : Rb W tb bp wp mp mq U l1 w' := by
  obtain ⟨e1, e2⟩ := lvI_le Y Y.n
  exact ⟨_, hB, h1, h2, h3, h4, h5, by show (lvI Y Y.n).n = 2; rw [e2, h6], by show (lvI Y Y.n).le 0 = 0; rw [e1, h7], by show (lvI Y Y.n).le 1 = l1; rw [e1, h8]⟩
theorem rb_WU (h : Rb W tb bp wp mp mq U l1 w) (mv : Value) (z v : Int) (v0 : 0 ≤ v) (v1 : v < 18446744073709551616) (hl : U.s.length < 140737488355328) (U' : L.UV) (hU : (if z = 1 then U.wr 7 (v % 256) else U) = U') (rb : Bool) (hb : decide (z = 1) = rb) :
    Calls Tryz.prog 13 #[ptr bp, mv, .int .u64 268435463, .int .i64 z, .int .u64 v] w fun r w' => r = .returned (.bool rb) ∧ Rb W tb bp wp mp mq U' l1 w' := by
  obtain ⟨X, hB, rfl, hn, hE, hV, rfl, h6, h7, h8⟩ := h
  have := b_WriteU hB mv 7 z v (by decide) (by decide) v0 v1 hl _ rfl
  rw [show (268435456 : Int) + 7 = 268435463 by decide, hb] at this
  refine this.mono ?_
  rintro r w' ⟨rfl, q⟩
  refine ⟨rfl, ?_⟩
  by_cases hz : z = 1
  · rw [if_pos hz] at q hU
    exact Rb.mk (X := X) q rfl hn hE hV hU h6 h7 h8
  · rw [if_neg hz] at q hU
    exact Rb.mk (X := X) q rfl hn hE hV hU h6 h7 h8
theorem rb_RU (h : Rb W tb bp wp mp mq U l1 w) (mv : Value) (x : Int) (hx : U.h 7 = x) (x0 : 0 ≤ x) (x1 : x < 256) :
    Calls Tryz.prog 14 #[ptr bp, mv, .int .u64 268435463, .int .i64 1, .int .u64 0] w fun r w' => r = .returned (.tuple #[.int .u64 x, .bool true]) ∧ Rb W tb bp wp mp mq U l1 w' := by
  obtain ⟨X, hB, rfl, hn, hE, hV, rfl, h6, h7, h8⟩ := h
  have := b_ReadU hB mv 7 1 0 (by decide) (by decide) x (by rw [← hx]; rfl) x0 x1 _ rfl
  rw [show (268435456 : Int) + 7 = 268435463 by decide] at this
  refine this.mono ?_
  rintro r w' ⟨rfl, q⟩
  exact ⟨rfl, Rb.mk (X := X) q rfl hn hE hV rfl h6 h7 h8⟩
theorem rb_WI4 (h : Rb W tb bp wp mp mq U l1 w) (mv : Value) (v : Int) (v0 : 0 ≤ v) (v1 : v < 18446744073709551616) (l2 : Nat) (hl : (v % 4294967296).toNat / 2 * 2 = l2) :
    Calls Tryz.prog 13 #[ptr bp, mv, .int .u64 201330692, .int .i64 4, .int .u64 v] w fun r w' => r = .returned (.bool true) ∧ Rb W tb bp wp mp mq U l2 w' := by
  obtain ⟨X, hB, rfl, hn, hE, hV, rfl, h6, h7, h8⟩ := h
  have hw : X.I.wr 4100 4 v = (true, X.I.let 1 v) := by
    unfold L.IV.wr
    rw [h6]
    rfl
  have := b_WriteI hB mv 4100 4 v (by decide) (by decide) (by decide) (by decide) v0 v1 _ rfl true (by rw [hw])
  rw [show (201326592 : Int) + 4100 = 201330692 by decide, hw] at this
  refine this.mono ?_
  rintro r w' ⟨rfl, q⟩
  refine ⟨rfl, Rb.mk (X := X) q rfl hn hE hV rfl h6 ?_ ?_⟩
  · show L.upN X.I.le 1 ((v % 4294967296).toNat &&& 4294967294) 0 = 0
    rw [L.upN_other _ _ _ _ (by decide)]; exact h7
  · show L.upN X.I.le 1 ((v % 4294967296).toNat &&& 4294967294) 1 = l2
    rw [L.upN_same, and_fe _ (by omega)]
    exact hl
theorem rb_WIn (h : Rb W tb bp wp mp mq U l1 w) (mv : Value) (z v : Int) (hz : z ≠ 4) (z0 : -9223372036854775808 ≤ z) (z1 : z ≤ 9223372036854775807) (v0 : 0 ≤ v) (v1 : v < 18446744073709551616) :
    Calls Tryz.prog 13 #[ptr bp, mv, .int .u64 201330692, .int .i64 z, .int .u64 v] w fun r w' => r = .returned (.bool false) ∧ Rb W tb bp wp mp mq U l1 w' := by
  obtain ⟨X, hB, rfl, hn, hE, hV, rfl, h6, h7, h8⟩ := h
  have hw : X.I.wr 4100 z v = (false, X.I) := by
    unfold L.IV.wr L.fdN
    simp [hz]
  have := b_WriteI hB mv 4100 z v (by decide) (by decide) z0 z1 v0 v1 _ rfl false (by rw [hw])
  rw [show (201326592 : Int) + 4100 = 201330692 by decide, hw] at this
  refine this.mono ?_
  rintro r w' ⟨rfl, q⟩
  exact ⟨rfl, Rb.mk (X := X) q rfl hn hE hV rfl h6 h7 h8⟩
theorem rb_RI1 (h : Rb W tb bp wp mp mq U l1 w) (mv : Value) :
    Calls Tryz.prog 14 #[ptr bp, mv, .int .u64 201330692, .int .i64 4, .int .u64 0] w fun r w' => r = .returned (.tuple #[.int .u64 (l1 : Int), .bool true]) ∧ Rb W tb bp wp mp mq U l1 w' := by
  obtain ⟨X, hB, rfl, hn, hE, hV, rfl, h6, h7, h8⟩ := h
  have hw : X.I.rd 4100 4 = ((l1 : Int), true, X.I) := by
    rw [← h8]
    unfold L.IV.rd
    rw [h6]
    rfl
  have := b_ReadI hB mv 4100 4 0 (by decide) (by decide) (by decide) (by decide) _ rfl (l1 : Int) true (by rw [hw]) (by rw [hw])
  rw [show (201326592 : Int) + 4100 = 201330692 by decide, hw] at this
  refine this.mono ?_
  rintro r w' ⟨rfl, q⟩
  exact ⟨rfl, Rb.mk (X := X) q rfl hn hE hV rfl h6 h7 h8⟩
theorem rb_RI0 (h : Rb W tb bp wp mp mq U l1 w) (mv : Value) :
    Calls Tryz.prog 14 #[ptr bp, mv, .int .u64 201330688, .int .i64 4, .int .u64 0] w fun r w' => r = .returned (.tuple #[.int .u64 0, .bool true]) ∧ Rb W tb bp wp mp mq U l1 w' := by
  obtain ⟨X, hB, rfl, hn, hE, hV, rfl, h6, h7, h8⟩ := h
  have hw : X.I.rd 4096 4 = (0, true, X.I) := by
    have e : ((X.I.le 0 : Nat) : Int) = 0 := by rw [h7]; rfl
    rw [← e]
    unfold L.IV.rd
    rw [h6]
    rfl
  have := b_ReadI hB mv 4096 4 0 (by decide) (by decide) (by decide) (by decide) _ rfl 0 true (by rw [hw]) (by rw [hw])
  rw [show (201326592 : Int) + 4096 = 201330688 by decide, hw] at this
  refine this.mono ?_
  rintro r w' ⟨rfl, q⟩
  exact ⟨rfl, Rb.mk (X := X) q rfl hn hE hV rfl h6 h7 h8⟩
theorem rb_RC (h : Rb W tb bp wp mp mq U l1 w) (mv : Value) (z nw : Int) (n0 : 0 ≤ nw) (n1 : nw < 18446744073709551616) (rv : Int) (rb : Bool) (hv : (if z = 4 then nw % 4294967296 else 0) = rv) (hb : decide (z = 4) = rb) :
    Calls Tryz.prog 14 #[ptr bp, mv, .int .u64 268439552, .int .i64 z, .int .u64 nw] w fun r w' => r = .returned (.tuple #[.int .u64 rv, .bool rb]) ∧ Rb W tb bp wp mp mq U l1 w' := by
  obtain ⟨X, hB, rfl, hn, hE, hV, rfl, h6, h7, h8⟩ := h
  refine (b_ReadC hB mv z nw n0 n1 rv rb hv hb).mono ?_
  rintro r w' ⟨rfl, q⟩
  exact ⟨rfl, Rb.mk (X := X) q rfl hn hE hV rfl h6 h7 h8⟩
theorem rb_WC (h : Rb W tb bp wp mp mq U l1 w) (mv : Value) (z v : Int) :
    Calls Tryz.prog 13 #[ptr bp, mv, .int .u64 268439552, .int .i64 z, .int .u64 v] w fun r w' => r = .returned (.bool false) ∧ Rb W tb bp wp mp mq U l1 w' := by
  obtain ⟨X, hB, rfl, hn, hE, hV, rfl, h6, h7, h8⟩ := h
  refine (b_WriteC hB mv z v).mono ?_
  rintro r w' ⟨rfl, q⟩
  exact ⟨rfl, Rb.mk (X := X) q rfl hn hE hV rfl h6 h7 h8⟩
theorem rb_RP (h : Rb W tb bp wp mp mq U l1 w) (mv : Value) (o z : Int) (o0 : 0 ≤ o) (o1 : o < 32768) (z0 : -9223372036854775808 ≤ z) (z1 : z ≤ 9223372036854775807) (rv : Int) (rb : Bool) (hv : P.rdV 1 (fun _ => P.sv0 3) (o / 4096) (o % 4096) z = rv) (hb : P.fitB (o % 4096) z = rb) :
    Calls Tryz.prog 14 #[ptr bp, mv, .int .u64 (805306368 + o), .int .i64 z, .int .u64 0] w fun r w' => r = .returned (.tuple #[.int .u64 rv, .bool rb]) ∧ Rb W tb bp wp mp mq U l1 w' := by
  obtain ⟨X, hB, rfl, hn, hE, hV, rfl, h6, h7, h8⟩ := h
  have := b_ReadP hB mv o z 0 o0 o1 z0 z1
  rw [hn, hV, hv, hb] at this
  refine this.mono ?_
  rintro r w' ⟨rfl, q⟩
  exact ⟨rfl, Rb.mk (X := X) (by rw [hn]; exact q) rfl hn hE hV rfl h6 h7 h8⟩
theorem rp_far (o : Int) (h0 : 256 ≤ o) (h1 : o < 4096) : P.rdV 1 (fun _ => P.sv0 3) (o / 4096) (o % 4096) 1 = 0 ∧ P.fitB (o % 4096) 1 = false := by
  have e : o % 4096 = o := by omega
  have hf : P.fitB (o % 4096) 1 = false := by
    rw [e]
    unfold P.fitB
    have : decide (o < 256) = false := decide_eq_false (by omega)
    rw [this]
    simp
  refine ⟨?_, hf⟩
  unfold P.rdV
  rw [hf]
  rfl
theorem rp_kind : P.rdV 1 (fun _ => P.sv0 3) (2 / 4096) (2 % 4096) 2 = 4163 ∧ P.fitB (2 % 4096) 2 = true := by decide +kernel
theorem rp_none (k : Int) (h0 : 1 ≤ k) (h1 : k < 8) : P.rdV 1 (fun _ => P.sv0 3) (4096 * k / 4096) (4096 * k % 4096) 4 = 4294967295 ∧ P.fitB (4096 * k % 4096) 4 = true := by
  have e1 : 4096 * k / 4096 = k := by omega
  have e2 : 4096 * k % 4096 = 0 := by omega
  rw [e1, e2]
  refine ⟨?_, rfl⟩
  unfold P.rdV P.hasS
  have : decide (k < ((1 : Nat) : Int)) = false := decide_eq_false (by omega)
  rw [this]
  simp [P.fitB]
theorem rb_RI1x (h : Rb W tb bp wp mp mq U l1 w) (mv : Value) (x : Int) (hx : (l1 : Int) = x) :
    Calls Tryz.prog 14 #[ptr bp, mv, .int .u64 201330692, .int .i64 4, .int .u64 0] w fun r w' => r = .returned (.tuple #[.int .u64 x, .bool true]) ∧ Rb W tb bp wp mp mq U l1 w' := by
  subst hx
  exact rb_RI1 h mv
theorem rb_RPx (h : Rb W tb bp wp mp mq U l1 w) (mv : Value) (p o z : Int) (hp : 805306368 + o = p) (o0 : 0 ≤ o) (o1 : o < 32768) (z0 : -9223372036854775808 ≤ z) (z1 : z ≤ 9223372036854775807) (rv : Int) (rb : Bool) (hv : P.rdV 1 (fun _ => P.sv0 3) (o / 4096) (o % 4096) z = rv) (hb : P.fitB (o % 4096) z = rb) :
    Calls Tryz.prog 14 #[ptr bp, mv, .int .u64 p, .int .i64 z, .int .u64 0] w fun r w' => r = .returned (.tuple #[.int .u64 rv, .bool rb]) ∧ Rb W tb bp wp mp mq U l1 w' := by
  subst hp
  exact rb_RP h mv o z o0 o1 z0 z1 rv rb hv hb
theorem Bo.rb {w3 : World} {X : BX} (h : Bo W w3 X) (hn : X.n = 1) (hU : X.U = L.uv0) (hI : X.I = L.iv0 2) (hV : X.V = (fun _ => P.sv0 3)) : Rb W w3.heap.size X.bp wp mp mq L.uv0 0 (w3.alloc (.cells #[ptr X.bp, ptr wp, ptr mp, ptr mq] 35)) :=
  ⟨_, h.add _, rfl, hn, if_pos rfl, hV, hU, by show X.I.n = 2; rw [hI]; rfl, by show X.I.le 0 = 0; rw [hI]; rfl, by show X.I.le 1 = 0; rw [hI]; rfl⟩
end
end Go.Proofs.YtjkihlpckgaggaaGreat
namespace Go.Proofs.YtjkihlpckgaggaaGreat
open Go.RowKit
open C (Only hid Still ret_bool ret_int row)
open P (Ls)
set_option linter.unusedVariables false
set_option maxRecDepth 100000

set_option maxHeartbeats 4000000 in
theorem w_BoardBars (w : World) (x : Int) (x0 : 0 ≤ x) (x1 : x < 18446744073709551616) (y : Int) (y0 : 0 ≤ y) (y1 : y < 18446744073709551616) (z : Bool) : Calls Tryz.prog 5 #[.int .u64 x, .int .u64 y, .bool z] w fun e w' => e = .returned (.bool true) ∧ Below w.heap.size w w' := by
  have hN := l_New16c (w.alloc (.cells #[.int .i64 3] 3)) 1 (by decide) (by decide) w.heap.size 0 1 (fun _ => 3) (P.ls_one w 3 (by decide) (by decide)) 3 rfl (.inr rfl)
  have HN := hid hN
  have HW : Hid (Below w.heap.size w (w.alloc (.cells #[.int .i64 3] 3))) := hid ((Below.refl _ _).alloc (Nat.le_refl _) _)
  obtain ⟨a, ha⟩ : ∃ a, a = 1073741824 + x % 1000 * 4096 := ⟨_, rfl⟩
  obtain ⟨b, hb⟩ : ∃ b, b = 1073741824 + y % 1000 * 4096 := ⟨_, rfl⟩
  have ax1 : x.tmod 1000 = x % 1000 := Int.tmod_eq_emod_of_nonneg x0
  have ay1 : y.tmod 1000 = y % 1000 := Int.tmod_eq_emod_of_nonneg y0
  have ax2 : IntKind.u64.wrap (x % 1000) = x % 1000 := by rw [IntKind.wrap_u64]; omega
  have ay2 : IntKind.u64.wrap (y % 1000) = y % 1000 := by rw [IntKind.wrap_u64]; omega
  have ax3 : IntKind.u64.wrap (x % 1000 * 4096) = x % 1000 * 4096 := by rw [IntKind.wrap_u64]; omega
  have ay3 : IntKind.u64.wrap (y % 1000 * 4096) = y % 1000 * 4096 := by rw [IntKind.wrap_u64]; omega
  have ax4 : IntKind.u64.wrap (1073741824 + x % 1000 * 4096) = a := by rw [IntKind.wrap_u64]; omega
  have ay4 : IntKind.u64.wrap (1073741824 + y % 1000 * 4096) = b := by rw [IntKind.wrap_u64]; omega
  have ax5 : IntKind.u64.wrap (a + 8) = a + 8 := by rw [IntKind.wrap_u64]; omega
  have ay5 : IntKind.u64.wrap (b + 8) = b + 8 := by rw [IntKind.wrap_u64]; omega
  have FA : Hid (0 ≤ a ∧ a < 4294967296 ∧ a % 4096 = 0 ∧ 1073741824 ≤ a ∧ a < 2147479552) := hid ⟨by omega, by omega, by omega, by omega, by omega⟩
  have FB : Hid (0 ≤ b ∧ b < 4294967296 ∧ b % 4096 = 0 ∧ 1073741824 ≤ b ∧ b < 2147479552) := hid ⟨by omega, by omega, by omega, by omega, by omega⟩
  clear hN ha hb x0 x1 y0 y1
  cases z
  · go_enter Tryz.func5, Tryz.ntmps5
    go_wp2_with (first
        | (go_at_call 11; refine (HN.out).mono ?_; rintro r w3 ⟨X, ud, dk, wp, mp, mq, rfl, q1, q2, q3, q4, q5, q6, q7⟩; have H0 := hid ((q1.base HW.out).bb (wp := wp) (mp := mp) (mq := mq) q2 (by rw [q6]; rfl) q5); obtain ⟨c0, c2⟩ := H0.out.cs; clear q1 q2 q3 q4 q5 q6 q7)
        | (go_at_call 13; refine (bb_base H0.out _ a FA.out.1 FA.out.2.1 FA.out.2.2.1).mono ?_; rintro r w4 ⟨rfl, q⟩; have H1 := hid q; obtain ⟨c0, c2⟩ := q.cs; clear q H0)
        | (go_at_call 14; refine (bb_miss H1.out _ a FA.out.2.2.2.1 FA.out.2.2.2.2 FA.out.2.2.1 FA.out.2.2.1 (.inl rfl)).mono ?_; rintro r w5 ⟨rfl, q⟩; have H2 := hid q; obtain ⟨c0, c2⟩ := q.cs; clear q H1)
        | (go_at_call 13; refine (bb_base H2.out _ b FB.out.1 FB.out.2.1 FB.out.2.2.1).mono ?_; rintro r w6 ⟨rfl, q⟩; have H3 := hid q; obtain ⟨c0, c2⟩ := q.cs; clear q H2)
        | (go_at_call 14; refine (bb_miss H3.out _ a FA.out.2.2.2.1 FA.out.2.2.2.2 FA.out.2.2.1 FB.out.2.2.1 (.inl rfl)).mono ?_; rintro r w7 ⟨rfl, q⟩; have H4 := hid q; obtain ⟨c0, c2⟩ := q.cs; clear q H3)
        | (go_at_call 14; refine (bb_miss H4.out _ b FB.out.2.2.2.1 FB.out.2.2.2.2 FB.out.2.2.1 FB.out.2.2.1 (.inl rfl)).mono ?_; rintro r w8 ⟨rfl, q⟩; have H5 := hid q; obtain ⟨c0, c2⟩ := q.cs; clear q H4)
        | (go_at_call 13; refine (bb_cmd H5.out _ 0 (by decide) (by decide) false (by decide +kernel)).mono ?_; rintro r w9 ⟨rfl, q⟩; have H6 := hid q; obtain ⟨c0, c2⟩ := q.cs; clear q H5)
        | (go_at_call 14; refine (bb_miss H6.out _ b FB.out.2.2.2.1 FB.out.2.2.2.2 FB.out.2.2.1 FB.out.2.2.1 (.inl rfl)).mono ?_; rintro r w10 ⟨rfl, q⟩; have H7 := hid q; obtain ⟨c0, c2⟩ := q.cs; clear q H6)
        | (go_at_call 10; refine (l_awake16 _).mono ?_; rintro r w20 ⟨rfl, q⟩; have BE := hid (H7.out.bel.trans (q.mono H7.out.bel.size)); clear q))
    go_ret
    exact ⟨rfl, BE.out⟩
  · by_cases hab : a = b
    · subst hab
      clear FA
      have FA := FB
      go_enter Tryz.func5, Tryz.ntmps5
      go_wp2_with (first
        | (go_at_call 11; refine (HN.out).mono ?_; rintro r w3 ⟨X, ud, dk, wp, mp, mq, rfl, q1, q2, q3, q4, q5, q6, q7⟩; have H0 := hid ((q1.base HW.out).bb (wp := wp) (mp := mp) (mq := mq) q2 (by rw [q6]; rfl) q5); obtain ⟨c0, c2⟩ := H0.out.cs; clear q1 q2 q3 q4 q5 q6 q7)
        | (go_at_call 13; refine (bb_base H0.out _ a FA.out.1 FA.out.2.1 FA.out.2.2.1).mono ?_; rintro r w4 ⟨rfl, q⟩; have H1 := hid q; obtain ⟨c0, c2⟩ := q.cs; clear q H0)
        | (go_at_call 13; refine (bb_cmd H1.out _ 2 (by decide) (by decide) true (by decide +kernel)).mono ?_; rintro r w5 ⟨rfl, q⟩; have H2 := hid q; obtain ⟨c0, c2⟩ := q.cs; clear q H1)
        | (go_at_call 14; refine (bb_hit H2.out _ FA.out.2.2.2.1 FA.out.2.2.2.2).mono ?_; rintro r w6 ⟨rfl, q⟩; have H3 := hid q; obtain ⟨c0, c2⟩ := q.cs; clear q H2)
        | (go_at_call 13; refine (bb_base H3.out _ a FB.out.1 FB.out.2.1 FB.out.2.2.1).mono ?_; rintro r w7 ⟨rfl, q⟩; have H4 := hid q; obtain ⟨c0, c2⟩ := q.cs; clear q H3)
        | (go_at_call 14; refine (bb_hit H4.out _ FB.out.2.2.2.1 FB.out.2.2.2.2).mono ?_; rintro r w8 ⟨rfl, q⟩; have H5 := hid q; obtain ⟨c0, c2⟩ := q.cs; clear q H4)
        | (go_at_call 14; refine (bb_hit H5.out _ FB.out.2.2.2.1 FB.out.2.2.2.2).mono ?_; rintro r w9 ⟨rfl, q⟩; have H6 := hid q; obtain ⟨c0, c2⟩ := q.cs; clear q H5)
        | (go_at_call 13; refine (bb_cmd H6.out _ 0 (by decide) (by decide) false (by decide +kernel)).mono ?_; rintro r w10 ⟨rfl, q⟩; have H7 := hid q; obtain ⟨c0, c2⟩ := q.cs; clear q H6)
        | (go_at_call 14; refine (bb_miss H7.out _ a FB.out.2.2.2.1 FB.out.2.2.2.2 FB.out.2.2.1 FB.out.2.2.1 (.inl rfl)).mono ?_; rintro r w11 ⟨rfl, q⟩; have H8 := hid q; obtain ⟨c0, c2⟩ := q.cs; clear q H7)
        | (go_at_call 10; refine (l_awake16 _).mono ?_; rintro r w20 ⟨rfl, q⟩; have BE := hid (H8.out.bel.trans (q.mono H8.out.bel.size)); clear q))
      go_ret
      exact ⟨rfl, BE.out⟩
    · have HNE := hid hab
      go_enter Tryz.func5, Tryz.ntmps5
      go_wp2_with (first
        | (go_at_call 11; refine (HN.out).mono ?_; rintro r w3 ⟨X, ud, dk, wp, mp, mq, rfl, q1, q2, q3, q4, q5, q6, q7⟩; have H0 := hid ((q1.base HW.out).bb (wp := wp) (mp := mp) (mq := mq) q2 (by rw [q6]; rfl) q5); obtain ⟨c0, c2⟩ := H0.out.cs; clear q1 q2 q3 q4 q5 q6 q7)
        | (go_at_call 13; refine (bb_base H0.out _ a FA.out.1 FA.out.2.1 FA.out.2.2.1).mono ?_; rintro r w4 ⟨rfl, q⟩; have H1 := hid q; obtain ⟨c0, c2⟩ := q.cs; clear q H0)
        | (go_at_call 13; refine (bb_cmd H1.out _ 2 (by decide) (by decide) true (by decide +kernel)).mono ?_; rintro r w5 ⟨rfl, q⟩; have H2 := hid q; obtain ⟨c0, c2⟩ := q.cs; clear q H1)
        | (go_at_call 14; refine (bb_hit H2.out _ FA.out.2.2.2.1 FA.out.2.2.2.2).mono ?_; rintro r w6 ⟨rfl, q⟩; have H3 := hid q; obtain ⟨c0, c2⟩ := q.cs; clear q H2)
        | (go_at_call 13; refine (bb_base H3.out _ b FB.out.1 FB.out.2.1 FB.out.2.2.1).mono ?_; rintro r w7 ⟨rfl, q⟩; have H4 := hid q; obtain ⟨c0, c2⟩ := q.cs; clear q H3)
        | (go_at_call 14; refine (bb_miss H4.out _ a FA.out.2.2.2.1 FA.out.2.2.2.2 FA.out.2.2.1 FB.out.2.2.1 (.inr HNE.out)).mono ?_; rintro r w8 ⟨rfl, q⟩; have H5 := hid q; obtain ⟨c0, c2⟩ := q.cs; clear q H4)
        | (go_at_call 14; refine (bb_hit H5.out _ FB.out.2.2.2.1 FB.out.2.2.2.2).mono ?_; rintro r w9 ⟨rfl, q⟩; have H6 := hid q; obtain ⟨c0, c2⟩ := q.cs; clear q H5)
        | (go_at_call 13; refine (bb_cmd H6.out _ 0 (by decide) (by decide) false (by decide +kernel)).mono ?_; rintro r w10 ⟨rfl, q⟩; have H7 := hid q; obtain ⟨c0, c2⟩ := q.cs; clear q H6)
        | (go_at_call 14; refine (bb_miss H7.out _ b FB.out.2.2.2.1 FB.out.2.2.2.2 FB.out.2.2.1 FB.out.2.2.1 (.inl rfl)).mono ?_; rintro r w11 ⟨rfl, q⟩; have H8 := hid q; obtain ⟨c0, c2⟩ := q.cs; clear q H7)
        | (go_at_call 10; refine (l_awake16 _).mono ?_; rintro r w20 ⟨rfl, q⟩; have BE := hid (H8.out.bel.trans (q.mono H8.out.bel.size)); clear q))
      go_ret
      exact ⟨rfl, BE.out⟩
end Go.Proofs.YtjkihlpckgaggaaGreat
namespace Go.Proofs.YtjkihlpckgaggaaGreat
open Go.RowKit
open C (Only hid Still ret_bool ret_int row)
open P (Ls)
set_option linter.unusedVariables false
set_option maxRecDepth 100000

section
variable {W w w' : World} {tb bp wp mp mq : Nat} {U : L.UV} {l1 : Nat}
end
set_option maxHeartbeats 4000000 in
theorem w_BR0 (w : World) (off : Int) (o0 : 0 ≤ off) (o1 : off < 18446744073709551616) (v : Int) (v0 : 0 ≤ v) (v1 : v < 18446744073709551616) (s : Int) (s0 : -9223372036854775808 ≤ s) (s1 : s ≤ 9223372036854775807) (hs : s % 4 = 0) : Calls Tryz.prog 4 #[.int .u64 off, .int .u64 v, .int .i64 s] w fun e w' => e = .returned (.bool true) ∧ Below w.heap.size w w' := by
  have hN := l_New16c (w.alloc (.cells #[.int .i64 3] 3)) 2 (by decide) (by decide) w.heap.size 0 1 (fun _ => 3) (P.ls_one w 3 (by decide) (by decide)) 3 rfl (.inr rfl)
  have HN := hid hN
  have HW : Hid (Below w.heap.size w (w.alloc (.cells #[.int .i64 3] 3))) := hid ((Below.refl _ _).alloc (Nat.le_refl _) _)
  have HP := hid (C.c_Place s 4 (by decide) (by decide) s0 s1)
  rw [hs] at HP
  have VB : Hid (0 ≤ v ∧ v < 18446744073709551616) := hid ⟨v0, v1⟩
  have VQ : Hid (0 ≤ v % 256 ∧ v % 256 < 256) := hid ⟨by omega, by omega⟩
  have bv1 : v.tmod 256 = v % 256 := Int.tmod_eq_emod_of_nonneg v0
  have bv2 : IntKind.u64.wrap (v % 256) = v % 256 := by rw [IntKind.wrap_u64]; omega
  have bv3 : v.tmod 4294967296 = v % 4294967296 := Int.tmod_eq_emod_of_nonneg v0
  have bv4 : IntKind.u64.wrap (v % 4294967296) = v % 4294967296 := by rw [IntKind.wrap_u64]; omega
  have UH := hid (show (L.uv0.wr 7 (v % 256)).h 7 = v % 256 from rfl)
  obtain ⟨o1, ho1⟩ : ∃ o1, o1 = 256 + off % 3840 := ⟨_, rfl⟩
  obtain ⟨p1, hp1⟩ : ∃ p1, 805306368 + o1 = p1 := ⟨_, rfl⟩
  obtain ⟨o3, ho3⟩ : ∃ o3, o3 = 4096 * (1 + off % 7) := ⟨_, rfl⟩
  obtain ⟨p3, hp3⟩ : ∃ p3, 805306368 + o3 = p3 := ⟨_, rfl⟩
  have PA : Hid (805306368 + o1 = p1 ∧ 0 ≤ o1 ∧ o1 < 32768 ∧ P.rdV 1 (fun _ => P.sv0 3) (o1 / 4096) (o1 % 4096) 1 = 0 ∧ P.fitB (o1 % 4096) 1 = false) := hid ⟨hp1, by omega, by omega, (rp_far o1 (by omega) (by omega)).1, (rp_far o1 (by omega) (by omega)).2⟩
  have hrn := rp_none (1 + off % 7) (by omega) (by omega)
  rw [← ho3] at hrn
  have PC : Hid (805306368 + o3 = p3 ∧ 0 ≤ o3 ∧ o3 < 32768 ∧ P.rdV 1 (fun _ => P.sv0 3) (o3 / 4096) (o3 % 4096) 4 = 4294967295 ∧ P.fitB (o3 % 4096) 4 = true) := hid ⟨hp3, by omega, by omega, hrn.1, hrn.2⟩
  have cx1 : off.tmod 3840 = off % 3840 := Int.tmod_eq_emod_of_nonneg o0
  have cx2 : IntKind.u64.wrap (off % 3840) = off % 3840 := by rw [IntKind.wrap_u64]; omega
  have cx3 : IntKind.u64.wrap (805306624 + off % 3840) = p1 := by rw [IntKind.wrap_u64]; omega
  have cy1 : off.tmod 7 = off % 7 := Int.tmod_eq_emod_of_nonneg o0
  have cy2 : IntKind.u64.wrap (off % 7) = off % 7 := by rw [IntKind.wrap_u64]; omega
  have cy3 : IntKind.u64.wrap (1 + off % 7) = 1 + off % 7 := by rw [IntKind.wrap_u64]; omega
  have cy4 : IntKind.u64.wrap (4096 * (1 + off % 7)) = o3 := by rw [IntKind.wrap_u64]; omega
  have cy5 : IntKind.u64.wrap (805306368 + o3) = p3 := by rw [IntKind.wrap_u64]; omega
  clear hN hrn ho1 hp1 ho3 hp3 v0 v1 s0 s1 hs
  go_enter Tryz.func4, Tryz.ntmps4
  go_upto_region 4 with (go_at_call 11; refine (HN.out).mono ?_; rintro r w3 ⟨X, ud, dk, wp, mp, mq, rfl, q1, q2, q3, q4, q5, q6, q7⟩; have H0 := hid ((q1.base HW.out).rb (wp := wp) (mp := mp) (mq := mq) q2 q3 q4 q5); obtain ⟨c0, c2⟩ := H0.out.cs; clear q1 q2 q3 q4 q5 q6 q7)
  obtain ⟨w4, hw4⟩ : ∃ w4, w4 = w3.alloc (.cells #[ptr X.bp, ptr wp, ptr mp, ptr mq] 35) := ⟨_, rfl⟩
  rw [← hw4] at H0 c0 c2 ⊢
  clear hw4
  generalize w3.heap.size = tb at *
  have cn : (w4.alloc (.cells #[.int .i64 1, .int .i64 2, .int .i64 4, .int .i64 8] 3)).cell? ⟨w4.heap.size, 0, none⟩ = some (.int .i64 1) := (cell_of_row _ _ 0 _ _ _ (heap_alloc_new w4 _))
  have HB4 : Hid (Below w4.heap.size w4 (w4.alloc (.cells #[.int .i64 1, .int .i64 2, .int .i64 4, .int .i64 8] 3))) := hid ((Below.refl _ _).alloc (Nat.le_refl _) _)
  have H1 := hid (H0.out.below HB4.out)
  clear H0 HB4
  go_upto_region 5 with (go_at_call 12; refine (HP.out _).mono ?_; rintro r w6 ⟨rfl, hw⟩; obtain rfl := hw.symm; clear HP)
  obtain ⟨wb, hwb⟩ : ∃ wb, wb = w4.alloc (.cells #[.int .i64 1, .int .i64 2, .int .i64 4, .int .i64 8] 3) := ⟨_, rfl⟩
  rw [← hwb] at H1 ⊢
  clear hwb cn c0 c2
  obtain ⟨c0, c2⟩ := H1.out.cs
  go_wp2_with (first
    | (go_at_call 13; refine (rb_WU H1.out _ 1 v VB.out.1 VB.out.2 (by decide) (L.uv0.wr 7 (v % 256)) (if_pos rfl) true (by decide)).mono ?_; rintro r w5 ⟨rfl, q⟩; have H2 := hid q; obtain ⟨c0, c2⟩ := q.cs; clear q H1)
    | (go_at_call 14; refine (rb_RU H2.out _ (v % 256) UH.out VQ.out.1 VQ.out.2).mono ?_; rintro r w6 ⟨rfl, q⟩; have H3 := hid q; obtain ⟨c0, c2⟩ := q.cs; clear q H2)
    | (go_at_call 13; refine (rb_WIn H3.out _ 1 v (by decide) (by decide) (by decide) VB.out.1 VB.out.2).mono ?_; rintro r w7 ⟨rfl, q⟩; have H4 := hid q; obtain ⟨c0, c2⟩ := q.cs; clear q H3)
    | (go_at_call 14; refine (rb_RI1x H4.out _ 0 rfl).mono ?_; rintro r w8 ⟨rfl, q⟩; have H5 := hid q; obtain ⟨c0, c2⟩ := q.cs; clear q H4)
    | (go_at_call 14; refine (rb_RI0 H5.out _).mono ?_; rintro r w9 ⟨rfl, q⟩; have H6 := hid q; obtain ⟨c0, c2⟩ := q.cs; clear q H5)
    | (go_at_call 14; refine (rb_RC H6.out _ 1 v VB.out.1 VB.out.2 0 false (if_neg (by decide)) (by decide)).mono ?_; rintro r w10 ⟨rfl, q⟩; have H7 := hid q; obtain ⟨c0, c2⟩ := q.cs; clear q H6)
    | (go_at_call 13; refine (rb_WC H7.out _ 1 v).mono ?_; rintro r w11 ⟨rfl, q⟩; have H8 := hid q; obtain ⟨c0, c2⟩ := q.cs; clear q H7)
    | (go_at_call 14; refine (rb_RPx H8.out _ p1 o1 1 PA.out.1 PA.out.2.1 PA.out.2.2.1 (by decide) (by decide) 0 false PA.out.2.2.2.1 PA.out.2.2.2.2).mono ?_; rintro r w12 ⟨rfl, q⟩; have H9 := hid q; obtain ⟨c0, c2⟩ := q.cs; clear q H8)
    | (go_at_call 14; refine (rb_RPx H9.out _ 805306370 2 2 (by decide) (by decide) (by decide) (by decide) (by decide) 4163 true rp_kind.1 rp_kind.2).mono ?_; rintro r w13 ⟨rfl, q⟩; have H10 := hid q; obtain ⟨c0, c2⟩ := q.cs; clear q H9)
    | (go_at_call 14; refine (rb_RPx H10.out _ p3 o3 4 PC.out.1 PC.out.2.1 PC.out.2.2.1 (by decide) (by decide) 4294967295 true PC.out.2.2.2.1 PC.out.2.2.2.2).mono ?_; rintro r w14 ⟨rfl, q⟩; have H11 := hid q; obtain ⟨c0, c2⟩ := q.cs; clear q H10)
    | (go_at_call 10; refine (l_awake16 _).mono ?_; rintro r w20 ⟨rfl, q⟩; have BE := hid (H11.out.bel.trans (q.mono H11.out.bel.size)); clear q))
  go_ret
  exact ⟨rfl, BE.out⟩
end Go.Proofs.YtjkihlpckgaggaaGreat
namespace Go.Proofs.YtjkihlpckgaggaaGreat
open Go.RowKit
open C (Only hid Still ret_bool ret_int row)
open P (Ls)
set_option linter.unusedVariables false
set_option maxRecDepth 100000

set_option maxHeartbeats 4000000 in
theorem w_BR1 (w : World) (off : Int) (o0 : 0 ≤ off) (o1 : off < 18446744073709551616) (v : Int) (v0 : 0 ≤ v) (v1 : v < 18446744073709551616) (s : Int) (s0 : -9223372036854775808 ≤ s) (s1 : s ≤ 9223372036854775807) (hs : s % 4 = 1) : Calls Tryz.prog 4 #[.int .u64 off, .int .u64 v, .int .i64 s] w fun e w' => e = .returned (.bool true) ∧ Below w.heap.size w w' := by
  have hN := l_New16c (w.alloc (.cells #[.int .i64 3] 3)) 2 (by decide) (by decide) w.heap.size 0 1 (fun _ => 3) (P.ls_one w 3 (by decide) (by decide)) 3 rfl (.inr rfl)
  have HN := hid hN
  have HW : Hid (Below w.heap.size w (w.alloc (.cells #[.int .i64 3] 3))) := hid ((Below.refl _ _).alloc (Nat.le_refl _) _)
  have HP := hid (C.c_Place s 4 (by decide) (by decide) s0 s1)
  rw [hs] at HP
  have VB : Hid (0 ≤ v ∧ v < 18446744073709551616) := hid ⟨v0, v1⟩
  have VQ : Hid (0 ≤ v % 256 ∧ v % 256 < 256) := hid ⟨by omega, by omega⟩
  have bv1 : v.tmod 256 = v % 256 := Int.tmod_eq_emod_of_nonneg v0
  have bv2 : IntKind.u64.wrap (v % 256) = v % 256 := by rw [IntKind.wrap_u64]; omega
  have bv3 : v.tmod 4294967296 = v % 4294967296 := Int.tmod_eq_emod_of_nonneg v0
  have bv4 : IntKind.u64.wrap (v % 4294967296) = v % 4294967296 := by rw [IntKind.wrap_u64]; omega
  obtain ⟨o1, ho1⟩ : ∃ o1, o1 = 256 + off % 3840 := ⟨_, rfl⟩
  obtain ⟨p1, hp1⟩ : ∃ p1, 805306368 + o1 = p1 := ⟨_, rfl⟩
  obtain ⟨o3, ho3⟩ : ∃ o3, o3 = 4096 * (1 + off % 7) := ⟨_, rfl⟩
  obtain ⟨p3, hp3⟩ : ∃ p3, 805306368 + o3 = p3 := ⟨_, rfl⟩
  have PA : Hid (805306368 + o1 = p1 ∧ 0 ≤ o1 ∧ o1 < 32768 ∧ P.rdV 1 (fun _ => P.sv0 3) (o1 / 4096) (o1 % 4096) 1 = 0 ∧ P.fitB (o1 % 4096) 1 = false) := hid ⟨hp1, by omega, by omega, (rp_far o1 (by omega) (by omega)).1, (rp_far o1 (by omega) (by omega)).2⟩
  have hrn := rp_none (1 + off % 7) (by omega) (by omega)
  rw [← ho3] at hrn
  have PC : Hid (805306368 + o3 = p3 ∧ 0 ≤ o3 ∧ o3 < 32768 ∧ P.rdV 1 (fun _ => P.sv0 3) (o3 / 4096) (o3 % 4096) 4 = 4294967295 ∧ P.fitB (o3 % 4096) 4 = true) := hid ⟨hp3, by omega, by omega, hrn.1, hrn.2⟩
  have cx1 : off.tmod 3840 = off % 3840 := Int.tmod_eq_emod_of_nonneg o0
  have cx2 : IntKind.u64.wrap (off % 3840) = off % 3840 := by rw [IntKind.wrap_u64]; omega
  have cx3 : IntKind.u64.wrap (805306624 + off % 3840) = p1 := by rw [IntKind.wrap_u64]; omega
  have cy1 : off.tmod 7 = off % 7 := Int.tmod_eq_emod_of_nonneg o0
  have cy2 : IntKind.u64.wrap (off % 7) = off % 7 := by rw [IntKind.wrap_u64]; omega
  have cy3 : IntKind.u64.wrap (1 + off % 7) = 1 + off % 7 := by rw [IntKind.wrap_u64]; omega
  have cy4 : IntKind.u64.wrap (4096 * (1 + off % 7)) = o3 := by rw [IntKind.wrap_u64]; omega
  have cy5 : IntKind.u64.wrap (805306368 + o3) = p3 := by rw [IntKind.wrap_u64]; omega
  clear hN hrn ho1 hp1 ho3 hp3 v0 v1 s0 s1 hs
  go_enter Tryz.func4, Tryz.ntmps4
  go_upto_region 4 with (go_at_call 11; refine (HN.out).mono ?_; rintro r w3 ⟨X, ud, dk, wp, mp, mq, rfl, q1, q2, q3, q4, q5, q6, q7⟩; have H0 := hid ((q1.base HW.out).rb (wp := wp) (mp := mp) (mq := mq) q2 q3 q4 q5); obtain ⟨c0, c2⟩ := H0.out.cs; clear q1 q2 q3 q4 q5 q6 q7)
  obtain ⟨w4, hw4⟩ : ∃ w4, w4 = w3.alloc (.cells #[ptr X.bp, ptr wp, ptr mp, ptr mq] 35) := ⟨_, rfl⟩
  rw [← hw4] at H0 c0 c2 ⊢
  clear hw4
  generalize w3.heap.size = tb at *
  have cn : (w4.alloc (.cells #[.int .i64 1, .int .i64 2, .int .i64 4, .int .i64 8] 3)).cell? ⟨w4.heap.size, 1, none⟩ = some (.int .i64 2) := (cell_of_row _ _ 1 _ _ _ (heap_alloc_new w4 _))
  have HB4 : Hid (Below w4.heap.size w4 (w4.alloc (.cells #[.int .i64 1, .int .i64 2, .int .i64 4, .int .i64 8] 3))) := hid ((Below.refl _ _).alloc (Nat.le_refl _) _)
  have H1 := hid (H0.out.below HB4.out)
  clear H0 HB4
  go_upto_region 5 with (go_at_call 12; refine (HP.out _).mono ?_; rintro r w6 ⟨rfl, hw⟩; obtain rfl := hw.symm; clear HP)
  obtain ⟨wb, hwb⟩ : ∃ wb, wb = w4.alloc (.cells #[.int .i64 1, .int .i64 2, .int .i64 4, .int .i64 8] 3) := ⟨_, rfl⟩
  rw [← hwb] at H1 ⊢
  clear hwb cn c0 c2
  obtain ⟨c0, c2⟩ := H1.out.cs
  go_wp2_with (first
    | (go_at_call 13; refine (rb_WU H1.out _ 2 v VB.out.1 VB.out.2 (by decide) L.uv0 (if_neg (by decide)) false (by decide)).mono ?_; rintro r w5 ⟨rfl, q⟩; have H2 := hid q; obtain ⟨c0, c2⟩ := q.cs; clear q H1)
    | (go_at_call 14; refine (rb_RU H2.out _ 0 rfl (by decide) (by decide)).mono ?_; rintro r w6 ⟨rfl, q⟩; have H3 := hid q; obtain ⟨c0, c2⟩ := q.cs; clear q H2)
    | (go_at_call 13; refine (rb_WIn H3.out _ 2 v (by decide) (by decide) (by decide) VB.out.1 VB.out.2).mono ?_; rintro r w7 ⟨rfl, q⟩; have H4 := hid q; obtain ⟨c0, c2⟩ := q.cs; clear q H3)
    | (go_at_call 14; refine (rb_RI1x H4.out _ 0 rfl).mono ?_; rintro r w8 ⟨rfl, q⟩; have H5 := hid q; obtain ⟨c0, c2⟩ := q.cs; clear q H4)
    | (go_at_call 14; refine (rb_RI0 H5.out _).mono ?_; rintro r w9 ⟨rfl, q⟩; have H6 := hid q; obtain ⟨c0, c2⟩ := q.cs; clear q H5)
    | (go_at_call 14; refine (rb_RC H6.out _ 2 v VB.out.1 VB.out.2 0 false (if_neg (by decide)) (by decide)).mono ?_; rintro r w10 ⟨rfl, q⟩; have H7 := hid q; obtain ⟨c0, c2⟩ := q.cs; clear q H6)
    | (go_at_call 13; refine (rb_WC H7.out _ 2 v).mono ?_; rintro r w11 ⟨rfl, q⟩; have H8 := hid q; obtain ⟨c0, c2⟩ := q.cs; clear q H7)
    | (go_at_call 14; refine (rb_RPx H8.out _ p1 o1 1 PA.out.1 PA.out.2.1 PA.out.2.2.1 (by decide) (by decide) 0 false PA.out.2.2.2.1 PA.out.2.2.2.2).mono ?_; rintro r w12 ⟨rfl, q⟩; have H9 := hid q; obtain ⟨c0, c2⟩ := q.cs; clear q H8)
    | (go_at_call 14; refine (rb_RPx H9.out _ 805306370 2 2 (by decide) (by decide) (by decide) (by decide) (by decide) 4163 true rp_kind.1 rp_kind.2).mono ?_; rintro r w13 ⟨rfl, q⟩; have H10 := hid q; obtain ⟨c0, c2⟩ := q.cs; clear q H9)
    | (go_at_call 14; refine (rb_RPx H10.out _ p3 o3 4 PC.out.1 PC.out.2.1 PC.out.2.2.1 (by decide) (by decide) 4294967295 true PC.out.2.2.2.1 PC.out.2.2.2.2).mono ?_; rintro r w14 ⟨rfl, q⟩; have H11 := hid q; obtain ⟨c0, c2⟩ := q.cs; clear q H10)
    | (go_at_call 10; refine (l_awake16 _).mono ?_; rintro r w20 ⟨rfl, q⟩; have BE := hid (H11.out.bel.trans (q.mono H11.out.bel.size)); clear q))
  go_ret
  exact ⟨rfl, BE.out⟩
end Go.Proofs.YtjkihlpckgaggaaGreat
namespace Go.Proofs.YtjkihlpckgaggaaGreat
open Go.RowKit
open C (Only hid Still ret_bool ret_int row)
open P (Ls)
set_option linter.unusedVariables false
set_option maxRecDepth 100000

set_option maxHeartbeats 4000000 in
theorem w_BR2 (w : World) (off : Int) (o0 : 0 ≤ off) (o1 : off < 18446744073709551616) (v : Int) (v0 : 0 ≤ v) (v1 : v < 18446744073709551616) (s : Int) (s0 : -9223372036854775808 ≤ s) (s1 : s ≤ 9223372036854775807) (hs : s % 4 = 2) : Calls Tryz.prog 4 #[.int .u64 off, .int .u64 v, .int .i64 s] w fun e w' => e = .returned (.bool true) ∧ Below w.heap.size w w' := by
  have hN := l_New16c (w.alloc (.cells #[.int .i64 3] 3)) 2 (by decide) (by decide) w.heap.size 0 1 (fun _ => 3) (P.ls_one w 3 (by decide) (by decide)) 3 rfl (.inr rfl)
  have HN := hid hN
  have HW : Hid (Below w.heap.size w (w.alloc (.cells #[.int .i64 3] 3))) := hid ((Below.refl _ _).alloc (Nat.le_refl _) _)
  have HP := hid (C.c_Place s 4 (by decide) (by decide) s0 s1)
  rw [hs] at HP
  have VB : Hid (0 ≤ v ∧ v < 18446744073709551616) := hid ⟨v0, v1⟩
  have VQ : Hid (0 ≤ v % 256 ∧ v % 256 < 256) := hid ⟨by omega, by omega⟩
  have bv1 : v.tmod 256 = v % 256 := Int.tmod_eq_emod_of_nonneg v0
  have bv2 : IntKind.u64.wrap (v % 256) = v % 256 := by rw [IntKind.wrap_u64]; omega
  have bv3 : v.tmod 4294967296 = v % 4294967296 := Int.tmod_eq_emod_of_nonneg v0
  have bv4 : IntKind.u64.wrap (v % 4294967296) = v % 4294967296 := by rw [IntKind.wrap_u64]; omega
  obtain ⟨lv, hlv⟩ : ∃ lv, lv = v % 4294967296 / 2 * 2 := ⟨_, rfl⟩
  obtain ⟨l2, hl2, hl3⟩ : ∃ l2 : Nat, (v % 4294967296).toNat / 2 * 2 = l2 ∧ ((l2 : Nat) : Int) = lv := ⟨_, rfl, by omega⟩
  have HL := hid (And.intro hl2 hl3)
  have bv5 : (v % 4294967296).tdiv 2 = v % 4294967296 / 2 := Int.tdiv_eq_ediv_of_nonneg (by omega)
  have bv6 : IntKind.u64.wrap (v % 4294967296 / 2) = v % 4294967296 / 2 := by rw [IntKind.wrap_u64]; omega
  have bv7 : IntKind.u64.wrap (v % 4294967296 / 2 * 2) = lv := by rw [IntKind.wrap_u64]; omega
  clear hl2 hl3 hlv
  obtain ⟨o1, ho1⟩ : ∃ o1, o1 = 256 + off % 3840 := ⟨_, rfl⟩
  obtain ⟨p1, hp1⟩ : ∃ p1, 805306368 + o1 = p1 := ⟨_, rfl⟩
  obtain ⟨o3, ho3⟩ : ∃ o3, o3 = 4096 * (1 + off % 7) := ⟨_, rfl⟩
  obtain ⟨p3, hp3⟩ : ∃ p3, 805306368 + o3 = p3 := ⟨_, rfl⟩
  have PA : Hid (805306368 + o1 = p1 ∧ 0 ≤ o1 ∧ o1 < 32768 ∧ P.rdV 1 (fun _ => P.sv0 3) (o1 / 4096) (o1 % 4096) 1 = 0 ∧ P.fitB (o1 % 4096) 1 = false) := hid ⟨hp1, by omega, by omega, (rp_far o1 (by omega) (by omega)).1, (rp_far o1 (by omega) (by omega)).2⟩
  have hrn := rp_none (1 + off % 7) (by omega) (by omega)
  rw [← ho3] at hrn
  have PC : Hid (805306368 + o3 = p3 ∧ 0 ≤ o3 ∧ o3 < 32768 ∧ P.rdV 1 (fun _ => P.sv0 3) (o3 / 4096) (o3 % 4096) 4 = 4294967295 ∧ P.fitB (o3 % 4096) 4 = true) := hid ⟨hp3, by omega, by omega, hrn.1, hrn.2⟩
  have cx1 : off.tmod 3840 = off % 3840 := Int.tmod_eq_emod_of_nonneg o0
  have cx2 : IntKind.u64.wrap (off % 3840) = off % 3840 := by rw [IntKind.wrap_u64]; omega
  have cx3 : IntKind.u64.wrap (805306624 + off % 3840) = p1 := by rw [IntKind.wrap_u64]; omega
  have cy1 : off.tmod 7 = off % 7 := Int.tmod_eq_emod_of_nonneg o0
  have cy2 : IntKind.u64.wrap (off % 7) = off % 7 := by rw [IntKind.wrap_u64]; omega
  have cy3 : IntKind.u64.wrap (1 + off % 7) = 1 + off % 7 := by rw [IntKind.wrap_u64]; omega
  have cy4 : IntKind.u64.wrap (4096 * (1 + off % 7)) = o3 := by rw [IntKind.wrap_u64]; omega
  have cy5 : IntKind.u64.wrap (805306368 + o3) = p3 := by rw [IntKind.wrap_u64]; omega
  clear hN hrn ho1 hp1 ho3 hp3 v0 v1 s0 s1 hs
  go_enter Tryz.func4, Tryz.ntmps4
  go_upto_region 4 with (go_at_call 11; refine (HN.out).mono ?_; rintro r w3 ⟨X, ud, dk, wp, mp, mq, rfl, q1, q2, q3, q4, q5, q6, q7⟩; have H0 := hid ((q1.base HW.out).rb (wp := wp) (mp := mp) (mq := mq) q2 q3 q4 q5); obtain ⟨c0, c2⟩ := H0.out.cs; clear q1 q2 q3 q4 q5 q6 q7)
  obtain ⟨w4, hw4⟩ : ∃ w4, w4 = w3.alloc (.cells #[ptr X.bp, ptr wp, ptr mp, ptr mq] 35) := ⟨_, rfl⟩
  rw [← hw4] at H0 c0 c2 ⊢
  clear hw4
  generalize w3.heap.size = tb at *
  have cn : (w4.alloc (.cells #[.int .i64 1, .int .i64 2, .int .i64 4, .int .i64 8] 3)).cell? ⟨w4.heap.size, 2, none⟩ = some (.int .i64 4) := (cell_of_row _ _ 2 _ _ _ (heap_alloc_new w4 _))
  have HB4 : Hid (Below w4.heap.size w4 (w4.alloc (.cells #[.int .i64 1, .int .i64 2, .int .i64 4, .int .i64 8] 3))) := hid ((Below.refl _ _).alloc (Nat.le_refl _) _)
  have H1 := hid (H0.out.below HB4.out)
  clear H0 HB4
  go_upto_region 5 with (go_at_call 12; refine (HP.out _).mono ?_; rintro r w6 ⟨rfl, hw⟩; obtain rfl := hw.symm; clear HP)
  obtain ⟨wb, hwb⟩ : ∃ wb, wb = w4.alloc (.cells #[.int .i64 1, .int .i64 2, .int .i64 4, .int .i64 8] 3) := ⟨_, rfl⟩
  rw [← hwb] at H1 ⊢
  clear hwb cn c0 c2
  obtain ⟨c0, c2⟩ := H1.out.cs
  go_wp2_with (first
    | (go_at_call 13; refine (rb_WU H1.out _ 4 v VB.out.1 VB.out.2 (by decide) L.uv0 (if_neg (by decide)) false (by decide)).mono ?_; rintro r w5 ⟨rfl, q⟩; have H2 := hid q; obtain ⟨c0, c2⟩ := q.cs; clear q H1)
    | (go_at_call 14; refine (rb_RU H2.out _ 0 rfl (by decide) (by decide)).mono ?_; rintro r w6 ⟨rfl, q⟩; have H3 := hid q; obtain ⟨c0, c2⟩ := q.cs; clear q H2)
    | (go_at_call 13; refine (rb_WI4 H3.out _ v VB.out.1 VB.out.2 l2 HL.out.1).mono ?_; rintro r w7 ⟨rfl, q⟩; have H4 := hid q; obtain ⟨c0, c2⟩ := q.cs; clear q H3)
    | (go_at_call 14; refine (rb_RI1x H4.out _ lv HL.out.2).mono ?_; rintro r w8 ⟨rfl, q⟩; have H5 := hid q; obtain ⟨c0, c2⟩ := q.cs; clear q H4)
    | (go_at_call 14; refine (rb_RI0 H5.out _).mono ?_; rintro r w9 ⟨rfl, q⟩; have H6 := hid q; obtain ⟨c0, c2⟩ := q.cs; clear q H5)
    | (go_at_call 14; refine (rb_RC H6.out _ 4 v VB.out.1 VB.out.2 (v % 4294967296) true (if_pos rfl) (by decide)).mono ?_; rintro r w10 ⟨rfl, q⟩; have H7 := hid q; obtain ⟨c0, c2⟩ := q.cs; clear q H6)
    | (go_at_call 13; refine (rb_WC H7.out _ 4 v).mono ?_; rintro r w11 ⟨rfl, q⟩; have H8 := hid q; obtain ⟨c0, c2⟩ := q.cs; clear q H7)
    | (go_at_call 14; refine (rb_RPx H8.out _ p1 o1 1 PA.out.1 PA.out.2.1 PA.out.2.2.1 (by decide) (by decide) 0 false PA.out.2.2.2.1 PA.out.2.2.2.2).mono ?_; rintro r w12 ⟨rfl, q⟩; have H9 := hid q; obtain ⟨c0, c2⟩ := q.cs; clear q H8)
    | (go_at_call 14; refine (rb_RPx H9.out _ 805306370 2 2 (by decide) (by decide) (by decide) (by decide) (by decide) 4163 true rp_kind.1 rp_kind.2).mono ?_; rintro r w13 ⟨rfl, q⟩; have H10 := hid q; obtain ⟨c0, c2⟩ := q.cs; clear q H9)
    | (go_at_call 14; refine (rb_RPx H10.out _ p3 o3 4 PC.out.1 PC.out.2.1 PC.out.2.2.1 (by decide) (by decide) 4294967295 true PC.out.2.2.2.1 PC.out.2.2.2.2).mono ?_; rintro r w14 ⟨rfl, q⟩; have H11 := hid q; obtain ⟨c0, c2⟩ := q.cs; clear q H10)
    | (go_at_call 10; refine (l_awake16 _).mono ?_; rintro r w20 ⟨rfl, q⟩; have BE := hid (H11.out.bel.trans (q.mono H11.out.bel.size)); clear q))
  go_ret
  exact ⟨rfl, BE.out⟩
end Go.Proofs.YtjkihlpckgaggaaGreat
namespace Go.Proofs.YtjkihlpckgaggaaGreat
open Go.RowKit
open C (Only hid Still ret_bool ret_int row)
open P (Ls)
set_option linter.unusedVariables false
set_option maxRecDepth 100000

set_option maxHeartbeats 4000000 in
theorem w_BR3 (w : World) (off : Int) (o0 : 0 ≤ off) (o1 : off < 18446744073709551616) (v : Int) (v0 : 0 ≤ v) (v1 : v < 18446744073709551616) (s : Int) (s0 : -9223372036854775808 ≤ s) (s1 : s ≤ 9223372036854775807) (hs : s % 4 = 3) : Calls Tryz.prog 4 #[.int .u64 off, .int .u64 v, .int .i64 s] w fun e w' => e = .returned (.bool true) ∧ Below w.heap.size w w' := by
  have hN := l_New16c (w.alloc (.cells #[.int .i64 3] 3)) 2 (by decide) (by decide) w.heap.size 0 1 (fun _ => 3) (P.ls_one w 3 (by decide) (by decide)) 3 rfl (.inr rfl)
  have HN := hid hN
  have HW : Hid (Below w.heap.size w (w.alloc (.cells #[.int .i64 3] 3))) := hid ((Below.refl _ _).alloc (Nat.le_refl _) _)
  have HP := hid (C.c_Place s 4 (by decide) (by decide) s0 s1)
  rw [hs] at HP
  have VB : Hid (0 ≤ v ∧ v < 18446744073709551616) := hid ⟨v0, v1⟩
  have VQ : Hid (0 ≤ v % 256 ∧ v % 256 < 256) := hid ⟨by omega, by omega⟩
  have bv1 : v.tmod 256 = v % 256 := Int.tmod_eq_emod_of_nonneg v0
  have bv2 : IntKind.u64.wrap (v % 256) = v % 256 := by rw [IntKind.wrap_u64]; omega
  have bv3 : v.tmod 4294967296 = v % 4294967296 := Int.tmod_eq_emod_of_nonneg v0
  have bv4 : IntKind.u64.wrap (v % 4294967296) = v % 4294967296 := by rw [IntKind.wrap_u64]; omega
  obtain ⟨o1, ho1⟩ : ∃ o1, o1 = 256 + off % 3840 := ⟨_, rfl⟩
  obtain ⟨p1, hp1⟩ : ∃ p1, 805306368 + o1 = p1 := ⟨_, rfl⟩
  obtain ⟨o3, ho3⟩ : ∃ o3, o3 = 4096 * (1 + off % 7) := ⟨_, rfl⟩
  obtain ⟨p3, hp3⟩ : ∃ p3, 805306368 + o3 = p3 := ⟨_, rfl⟩
  have PA : Hid (805306368 + o1 = p1 ∧ 0 ≤ o1 ∧ o1 < 32768 ∧ P.rdV 1 (fun _ => P.sv0 3) (o1 / 4096) (o1 % 4096) 1 = 0 ∧ P.fitB (o1 % 4096) 1 = false) := hid ⟨hp1, by omega, by omega, (rp_far o1 (by omega) (by omega)).1, (rp_far o1 (by omega) (by omega)).2⟩
  have hrn := rp_none (1 + off % 7) (by omega) (by omega)
  rw [← ho3] at hrn
  have PC : Hid (805306368 + o3 = p3 ∧ 0 ≤ o3 ∧ o3 < 32768 ∧ P.rdV 1 (fun _ => P.sv0 3) (o3 / 4096) (o3 % 4096) 4 = 4294967295 ∧ P.fitB (o3 % 4096) 4 = true) := hid ⟨hp3, by omega, by omega, hrn.1, hrn.2⟩
  have cx1 : off.tmod 3840 = off % 3840 := Int.tmod_eq_emod_of_nonneg o0
  have cx2 : IntKind.u64.wrap (off % 3840) = off % 3840 := by rw [IntKind.wrap_u64]; omega
  have cx3 : IntKind.u64.wrap (805306624 + off % 3840) = p1 := by rw [IntKind.wrap_u64]; omega
  have cy1 : off.tmod 7 = off % 7 := Int.tmod_eq_emod_of_nonneg o0
  have cy2 : IntKind.u64.wrap (off % 7) = off % 7 := by rw [IntKind.wrap_u64]; omega
  have cy3 : IntKind.u64.wrap (1 + off % 7) = 1 + off % 7 := by rw [IntKind.wrap_u64]; omega
  have cy4 : IntKind.u64.wrap (4096 * (1 + off % 7)) = o3 := by rw [IntKind.wrap_u64]; omega
  have cy5 : IntKind.u64.wrap (805306368 + o3) = p3 := by rw [IntKind.wrap_u64]; omega
  clear hN hrn ho1 hp1 ho3 hp3 v0 v1 s0 s1 hs
  go_enter Tryz.func4, Tryz.ntmps4
  go_upto_region 4 with (go_at_call 11; refine (HN.out).mono ?_; rintro r w3 ⟨X, ud, dk, wp, mp, mq, rfl, q1, q2, q3, q4, q5, q6, q7⟩; have H0 := hid ((q1.base HW.out).rb (wp := wp) (mp := mp) (mq := mq) q2 q3 q4 q5); obtain ⟨c0, c2⟩ := H0.out.cs; clear q1 q2 q3 q4 q5 q6 q7)
  obtain ⟨w4, hw4⟩ : ∃ w4, w4 = w3.alloc (.cells #[ptr X.bp, ptr wp, ptr mp, ptr mq] 35) := ⟨_, rfl⟩
  rw [← hw4] at H0 c0 c2 ⊢
  clear hw4
  generalize w3.heap.size = tb at *
  have cn : (w4.alloc (.cells #[.int .i64 1, .int .i64 2, .int .i64 4, .int .i64 8] 3)).cell? ⟨w4.heap.size, 3, none⟩ = some (.int .i64 8) := (cell_of_row _ _ 3 _ _ _ (heap_alloc_new w4 _))
  have HB4 : Hid (Below w4.heap.size w4 (w4.alloc (.cells #[.int .i64 1, .int .i64 2, .int .i64 4, .int .i64 8] 3))) := hid ((Below.refl _ _).alloc (Nat.le_refl _) _)
  have H1 := hid (H0.out.below HB4.out)
  clear H0 HB4
  go_upto_region 5 with (go_at_call 12; refine (HP.out _).mono ?_; rintro r w6 ⟨rfl, hw⟩; obtain rfl := hw.symm; clear HP)
  obtain ⟨wb, hwb⟩ : ∃ wb, wb = w4.alloc (.cells #[.int .i64 1, .int .i64 2, .int .i64 4, .int .i64 8] 3) := ⟨_, rfl⟩
  rw [← hwb] at H1 ⊢
  clear hwb cn c0 c2
  obtain ⟨c0, c2⟩ := H1.out.cs
  go_wp2_with (first
    | (go_at_call 13; refine (rb_WU H1.out _ 8 v VB.out.1 VB.out.2 (by decide) L.uv0 (if_neg (by decide)) false (by decide)).mono ?_; rintro r w5 ⟨rfl, q⟩; have H2 := hid q; obtain ⟨c0, c2⟩ := q.cs; clear q H1)
    | (go_at_call 14; refine (rb_RU H2.out _ 0 rfl (by decide) (by decide)).mono ?_; rintro r w6 ⟨rfl, q⟩; have H3 := hid q; obtain ⟨c0, c2⟩ := q.cs; clear q H2)
    | (go_at_call 13; refine (rb_WIn H3.out _ 8 v (by decide) (by decide) (by decide) VB.out.1 VB.out.2).mono ?_; rintro r w7 ⟨rfl, q⟩; have H4 := hid q; obtain ⟨c0, c2⟩ := q.cs; clear q H3)
    | (go_at_call 14; refine (rb_RI1x H4.out _ 0 rfl).mono ?_; rintro r w8 ⟨rfl, q⟩; have H5 := hid q; obtain ⟨c0, c2⟩ := q.cs; clear q H4)
    | (go_at_call 14; refine (rb_RI0 H5.out _).mono ?_; rintro r w9 ⟨rfl, q⟩; have H6 := hid q; obtain ⟨c0, c2⟩ := q.cs; clear q H5)
    | (go_at_call 14; refine (rb_RC H6.out _ 8 v VB.out.1 VB.out.2 0 false (if_neg (by decide)) (by decide)).mono ?_; rintro r w10 ⟨rfl, q⟩; have H7 := hid q; obtain ⟨c0, c2⟩ := q.cs; clear q H6)
    | (go_at_call 13; refine (rb_WC H7.out _ 8 v).mono ?_; rintro r w11 ⟨rfl, q⟩; have H8 := hid q; obtain ⟨c0, c2⟩ := q.cs; clear q H7)
    | (go_at_call 14; refine (rb_RPx H8.out _ p1 o1 1 PA.out.1 PA.out.2.1 PA.out.2.2.1 (by decide) (by decide) 0 false PA.out.2.2.2.1 PA.out.2.2.2.2).mono ?_; rintro r w12 ⟨rfl, q⟩; have H9 := hid q; obtain ⟨c0, c2⟩ := q.cs; clear q H8)
    | (go_at_call 14; refine (rb_RPx H9.out _ 805306370 2 2 (by decide) (by decide) (by decide) (by decide) (by decide) 4163 true rp_kind.1 rp_kind.2).mono ?_; rintro r w13 ⟨rfl, q⟩; have H10 := hid q; obtain ⟨c0, c2⟩ := q.cs; clear q H9)
    | (go_at_call 14; refine (rb_RPx H10.out _ p3 o3 4 PC.out.1 PC.out.2.1 PC.out.2.2.1 (by decide) (by decide) 4294967295 true PC.out.2.2.2.1 PC.out.2.2.2.2).mono ?_; rintro r w14 ⟨rfl, q⟩; have H11 := hid q; obtain ⟨c0, c2⟩ := q.cs; clear q H10)
    | (go_at_call 10; refine (l_awake16 _).mono ?_; rintro r w20 ⟨rfl, q⟩; have BE := hid (H11.out.bel.trans (q.mono H11.out.bel.size)); clear q))
  go_ret
  exact ⟨rfl, BE.out⟩
end Go.Proofs.YtjkihlpckgaggaaGreat
