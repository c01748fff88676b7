/- A pool beside the pair of memories that a law has; each call upon the whole. -/
import Derived.Test.YtehghhonhfmieaaFG
import Derived.Test.YtehghhonhfmieaaCPF
import Derived.Test.YtehghhonhfmieaaMC5
import Derived.Test.YtehghhonhfmieaaRows
import Derived.Test.YtehghhonhfmieaaMC2
import Derived.OpenShut
import Derived.SizedLaws
import Derived.Deep.Slices
namespace Go.Proofs.Ytehghhonhfmieaa
open Go.RowKit
open C (Only hid Mem RMem Still ret_bool ret_int put byt nu TB Tw Cl fcl)
set_option linter.unusedVariables false
set_option maxRecDepth 100000

def akR (v : PV) (x : Int) : Int := bif akOk v x then ((ackN v x.toNat v.n : Nat) : Int) else 0
def akV (v : PV) (x : Int) : PV := bif akOk v x then ackP v x.toNat v.n else v
def akF (v : PV) (x : Int) (f : Nat → Int) : Nat → Int := bif akOk v x then ackF v x.toNat v.n f else f
structure LB (W w : World) (b : Nat) (F : Nat → Prop) (p q : Nat) (v : PV) (f : Nat → Int) : Prop where
  pl : Pool w F p v f
  tb : TB w b v.m q
  fb : ¬ F b
  new : Below W.heap.size W w
  own : ∀ k, F k ∨ k = b → W.heap.size ≤ k
section
variable {W w w' : World} {b p q : Nat} {F F' : Nat → Prop} {v v' : PV} {f f' : Nat → Int}
theorem LB.turn (h : LB W w b F p q v f) (hp : Pool w' F' p v' f') (ho : Only F w w') (hF : ∀ k, F' k → F k ∨ w.heap.size ≤ k) (hm : v'.m = v.m) : LB W w' b F' p q v' f' :=
  ⟨hp, by rw [hm]; exact ho.old h.tb h.fb, fun z => (hF b z).elim h.fb fun y => by have := lt_of_block h.tb; omega, h.new.trans (ho.below _ h.new.size fun k z => h.own k (.inl z)), fun k z => z.elim (fun z => (hF k z).elim (fun y => h.own k (.inl y)) fun y => Nat.le_trans h.new.size y) fun z => h.own k (.inr z)⟩
theorem LB.below (h : LB W w b F p q v f) (hb : Below w.heap.size w w') : LB W w' b F p q v f :=
  h.turn (F' := F) (h.pl.below hb) (.ofBelow hb) (fun _ z => .inl z) rfl
theorem LB.ok (h : LB W w b F p q v f) : v.Ok := h.pl.ok
theorem LB.rn (h : LB W w b F p q v f) (e : v' = v) : LB W w b F p q v' f := e ▸ h
theorem LB.rf (h : LB W w b F p q v f) (e : f' = f) : LB W w b F p q v f' := e ▸ h
end
section
variable (W w : World) (b : Nat) (F : Nat → Prop) (p q : Nat) (v : PV) (f : Nat → Int) (h : LB W w b F p q v f)
include h
theorem l_Take (x : Int) (a e : Int) (v' : PV) (hx : tk v x = (a, e, v')) : Calls Try.prog 13 #[.pointer (some ⟨p, 0, none⟩), .int .i64 x] w fun r w' => r = .returned (.tuple #[.int .i64 a, .int .i64 e]) ∧ LB W w' b F p q v' f ∧ Only F w w' := by
  refine (x_Take w F p v f h.pl x).mono ?_
  have hm : (tk v x).2.2.m = v.m := by unfold tk; cases may x <;> cases decide (ff v.o v.n < v.n) <;> rfl
  rw [hx] at hm ⊢
  rintro r w' ⟨rfl, h1, h2⟩
  exact ⟨rfl, h.turn h1 h2 (fun _ z => .inl z) hm, h2⟩
theorem l_Release (x : Int) (e : Int) (v' : PV) (hx : rl v x = (e, v')) : Calls Try.prog 15 #[.pointer (some ⟨p, 0, none⟩), .int .i64 x] w fun r w' => r = .returned (.int .i64 e) ∧ ∃ F', LB W w' b F' p q v' f ∧ Only F w w' := by
  cases z : rlOk v x
  · have : rl v x = (11, v) := by unfold rl; rw [z]; rfl
    rw [this] at hx
    cases hx
    refine (x_Release_no w F p v f h.pl x z).mono ?_
    rintro r w' ⟨rfl, rfl⟩
    exact ⟨rfl, F, h, .refl _⟩
  · have e1 : (rl v x).1 = 0 := by unfold rl; rw [z]; rfl
    have hm : (rl v x).2.m = v.m := by unfold rl; rw [z]; rfl
    refine (x_Release w F p v f h.pl x z).mono ?_
    rw [hx] at e1 hm ⊢
    obtain rfl : e = 0 := e1
    rintro r w' ⟨rfl, F', h1, h2, h3⟩
    exact ⟨rfl, F', h.turn h1 h2 h3 hm, h2⟩
theorem l_Ack (x : Int) (r' : Int) (v' : PV) (f' : Nat → Int) (h1 : akR v x = r') (h2 : akV v x = v') (h3 : akF v x f = f') : Calls Try.prog 17 #[.pointer (some ⟨p, 0, none⟩), .int .i64 x] w fun r w' => r = .returned (.int .i64 r') ∧ ∃ F', LB W w' b F' p q v' f' ∧ Only F w w' := by
  subst h1 h2 h3
  unfold akR akV akF
  cases z : akOk v x
  · refine (x_Ack_no w F p v f h.pl x z).mono ?_
    rintro r w' ⟨rfl, rfl⟩
    exact ⟨rfl, F, h, .refl _⟩
  · refine (x_Ack w F p v f h.pl x z).mono ?_
    rintro r w' ⟨rfl, F', h1, h2, h3⟩
    exact ⟨rfl, F', h.turn h1 h2 h3 rfl, h2⟩
theorem l_AckD (r' : Nat) (v' : PV) (f' : Nat → Int) (h1 : ackN v 8 v.n = r') (h2 : ackP v 8 v.n = v') (h3 : ackF v 8 v.n f = f') : Calls Try.prog 19 #[.pointer (some ⟨p, 0, none⟩)] w fun r w' => r = .returned (.int .i64 r') ∧ ∃ F', LB W w' b F' p q v' f' ∧ Only F w w' := by
  subst h1 h2 h3
  refine (x_AckDevices w F p v f h.pl).mono ?_
  rintro r w' ⟨rfl, F', h1, h2, h3⟩
  exact ⟨rfl, F', h.turn h1 h2 h3 rfl, h2⟩
theorem l_Owner (x y : Int) (hy : ownF v x = y) : Calls Try.prog 21 #[.pointer (some ⟨p, 0, none⟩), .int .i64 x] w fun e w' => e = .returned (.int .i64 y) ∧ w' = w := by
  subst hy
  obtain ⟨g, d, k, B, S, hp, ok, hF⟩ := h.pl
  exact c_Owner w p g d k B S v f hp ok x
theorem l_Waits (x y : Int) (hy : waitF v x = y) : Calls Try.prog 23 #[.pointer (some ⟨p, 0, none⟩), .int .i64 x] w fun e w' => e = .returned (.int .u64 y) ∧ w' = w := by
  subst hy
  obtain ⟨g, d, k, B, S, hp, ok, hF⟩ := h.pl
  exact c_Waits w p g d k B S v f hp ok x
theorem l_Count (x : Int) (y : Nat) (hy : cnt v.o x v.n = y) : Calls Try.prog 25 #[.pointer (some ⟨p, 0, none⟩), .int .i64 x] w fun e w' => e = .returned (.int .i64 y) ∧ w' = w := by
  subst hy
  obtain ⟨g, d, k, B, S, hp, ok, hF⟩ := h.pl
  exact c_Count w p g d k B S v f hp ok x
theorem l_Read (off : Nat) (hl : off + 8 ≤ 4096 * v.n) (addr : Int) (ha : addr = (off : Int)) (y : Int) (hy : nu (fun j => f (off + j)) 8 = y) : Calls Try.prog 29 #[.pointer (some ⟨v.m, 0, none⟩), .int .u64 addr, .int .i64 8] w fun e w' => e = .returned (.tuple #[.int .u64 y, .bool true]) ∧ LB W w' b F p q v f := by
  subst hy
  obtain ⟨g, d, k, B, S, hp, ok, hF⟩ := h.pl
  refine (C.c_Read w S v.m 0 v.n f hp.mem off 8 hl (by decide) addr (by omega)).mono ?_
  rintro e w' ⟨rfl, hb⟩
  exact ⟨rfl, h.below hb⟩
theorem l_Write (off : Nat) (hl : off + 8 ≤ 4096 * v.n) (addr : Int) (ha : addr = (off : Int)) (y : Int) (y0 : 0 ≤ y) (y1 : y < 18446744073709551616) : Calls Try.prog 28 #[.pointer (some ⟨v.m, 0, none⟩), .int .u64 addr, .int .i64 8, .int .u64 y] w fun e w' => e = .returned (.bool true) ∧ ∃ F', LB W w' b F' p q v (put f off 8 (byt y)) := by
  obtain ⟨g, d, k, B, S, hp, ok, hF⟩ := h.pl
  refine (C.c_Write w S v.m 0 v.n f hp.mem off 8 hl (by decide) addr (by omega) y y0 y1).mono ?_
  rintro e w' ⟨S', rfl, h1, h2, h3⟩
  refine ⟨rfl, fun x => x = p ∨ x = g ∨ B x ∨ S' x, h.turn ⟨g, d, k, B, S', hp.turnM h1 h2, ok, fun x => Iff.rfl⟩ (h2.mono fun x _ z => (hF x).2 (.inr (.inr (.inr z)))) ?_ rfl⟩
  rintro x (z | z | z | z)
  · exact .inl ((hF x).2 (.inl z))
  · exact .inl ((hF x).2 (.inr (.inl z)))
  · exact .inl ((hF x).2 (.inr (.inr (.inl z))))
  · exact (h3 x z).elim (fun y => .inl ((hF x).2 (.inr (.inr (.inr y))))) .inr
end
/-- the pool is made behind the pair of memories -/
theorem lay_pool {W w0 w1 w2 : World} {p q m n r hh : Nat} {U F : Nat → Prop} {f : Nat → Int} (h0 : Below W.heap.size W w0) (ht : Tw w1 U m q n f) (hb : Below w0.heap.size w0 w1) (hu : ∀ k, U k → w0.heap.size ≤ k)
    (S : Nat → Prop) (hS : ∀ k, S k → U k) (f1 : Pool w2 F p (v0 m r hh n) f) (f2 : Below (w1.alloc (.cells #[.pointer (some ⟨m, 0, none⟩), .pointer (some ⟨q, 0, none⟩)] 27)).heap.size (w1.alloc (.cells #[.pointer (some ⟨m, 0, none⟩), .pointer (some ⟨q, 0, none⟩)] 27)) w2) (f3 : ∀ k, F k → S k ∨ (w1.alloc (.cells #[.pointer (some ⟨m, 0, none⟩), .pointer (some ⟨q, 0, none⟩)] 27)).heap.size ≤ k) :
    LB W w2 w1.heap.size F p q (v0 m r hh n) f := by
  have b1 : Below w1.heap.size w1 (w1.alloc (.cells #[.pointer (some ⟨m, 0, none⟩), .pointer (some ⟨q, 0, none⟩)] 27)) := (Below.refl _ _).alloc (Nat.le_refl _) _
  have z0 := h0.size
  have z1 := hb.size
  have z2 : (w1.alloc (.cells #[.pointer (some ⟨m, 0, none⟩), .pointer (some ⟨q, 0, none⟩)] 27)).heap.size = w1.heap.size + 1 := by simp
  refine ⟨f1, C.TB.below (C.TB.new w1 m q) f2, fun z => ?_, h0.trans ((hb.mono z0).trans ((b1.trans (f2.mono b1.size)).mono (Nat.le_trans z0 z1))), fun k z => ?_⟩
  · rcases f3 _ z with y | y
    · have := ht.lt (hS _ y); omega
    · omega
  · rcases z with z | z
    · rcases f3 _ z with y | y
      · have := hu _ (hS _ y); omega
      · omega
    · omega
theorem cl0 (w : World) : Cl w none 0 0 0 0 (fun _ => (0, 0)) := ⟨Nat.le_refl _, by decide, fun h => absurd h (by decide), fun i h => absurd h (by omega), fun i h => absurd h (by omega)⟩
/-- a memory of n frames without cells -/
theorem l_Mem (w : World) (n : Nat) (n0 : 0 < n) (n1 : n ≤ 1024) (n' : Int) (hn : n' = (n : Int)) : Calls Try.prog 9 #[.int .u64 0, .int .i64 n', .slice none 0 0] w fun r w' => ∃ p q U, r = .returned (.tuple #[.agg #[.pointer (some ⟨p, 0, none⟩), .pointer (some ⟨q, 0, none⟩)], .bool true]) ∧ Tw w' U p q n (fun _ => 0) ∧ Below w.heap.size w w' ∧ ∀ k, U k → w.heap.size ≤ k := by
  subst hn
  exact C.c_Memory w n n0 n1 none 0 0 0 0 (fun _ => (0, 0)) (cl0 w)
/-- New upon the pair -/
theorem l_New (W w0 w1 : World) (n r hh : Nat) (m q : Nat) (U : Nat → Prop) (f : Nat → Int) (h0 : Below W.heap.size W w0) (ht : Tw w1 U m q n f) (hb : Below w0.heap.size w0 w1) (hu : ∀ k, U k → w0.heap.size ≤ k) (g0 : 0 < hh) (g1 : hh ≤ 8) (hr : r ≤ n) (r' h' : Int) (er : r' = (r : Int)) (eh : h' = (hh : Int)) :
    Calls Try.prog 10 #[.pointer (some ⟨m, 0, none⟩), .int .i64 r', .int .i64 h'] (w1.alloc (.cells #[.pointer (some ⟨m, 0, none⟩), .pointer (some ⟨q, 0, none⟩)] 27)) fun e w' => ∃ p F, e = .returned (.tuple #[.pointer (some ⟨p, 0, none⟩), .int .i64 0]) ∧ LB W w' w1.heap.size F p q (v0 m r hh n) f := by
  subst er eh
  have hT := ht
  obtain ⟨S, T, m1, m2, m3, m4⟩ := ht
  refine (x_New _ S m n f (m1.below ((Below.refl _ _).alloc (Nat.le_refl _) _)) r hh g0 g1 hr).mono ?_
  rintro e w' ⟨p, F, rfl, k1, k2, k3⟩
  exact ⟨p, F, rfl, lay_pool h0 hT hb hu S (fun k hk => (m3 k).2 (.inl hk)) k1 k2 k3⟩
theorem tk_cases (v : PV) (x : Int) : (∃ i : Nat, i < v.n ∧ v.o i = 0 ∧ (∀ j, j < i → v.o j ≠ 0) ∧ may x = true ∧ tk v x = ((i : Int), 0, v.own i x)) ∨ (may x = true ∧ (∀ j, j < v.n → v.o j ≠ 0) ∧ tk v x = (0, 10, v)) ∨ (may x = false ∧ tk v x = (0, 1, v)) := by
  obtain ⟨h1, h2, h3⟩ := ff_spec v.o v.n
  unfold tk
  cases hx : may x
  · exact .inr (.inr ⟨rfl, rfl⟩)
  · by_cases q : ff v.o v.n < v.n
    · exact .inl ⟨_, q, h2 q, h3, rfl, by simp [q]⟩
    · exact .inr (.inl ⟨rfl, fun j hj => h3 j (by omega), by simp [q]⟩)
theorem rl_cases (v : PV) (x : Int) : (∃ i : Nat, x = (i : Int) ∧ i < v.n ∧ v.r ≤ i ∧ may (v.o i) = true ∧ rl v x = (0, (v.own i (-2)).wait i (msk v.h))) ∨ (rlOk v x = false ∧ rl v x = (11, v)) := by
  unfold rl
  cases hx : rlOk v x
  · exact .inr ⟨rfl, rfl⟩
  · have h := hx
    simp [rlOk] at h
    obtain ⟨i, rfl⟩ := Int.eq_ofNat_of_zero_le h.1.1.1
    exact .inl ⟨i, rfl, by omega, by omega, h.2, rfl⟩
theorem ak_same (v : PV) (x : Int) : (akV v x).n = v.n ∧ (akV v x).r = v.r ∧ (akV v x).h = v.h := by unfold akV; cases akOk v x <;> exact ⟨rfl, rfl, rfl⟩
theorem own_same {v : PV} {i : Nat} (hi : i < v.n) : ownF v (i : Int) = v.o i ∧ waitF v (i : Int) = (encN (v.s i) : Int) := by
  have : hasF v (i : Int) = true := by simp [hasF]; omega
  unfold ownF waitF
  rw [this]
  exact ⟨rfl, rfl⟩
theorem PV.Ok.res {v : PV} (h : v.Ok) {i : Nat} (hi : i < v.r) : ownF v (i : Int) = -1 ∧ waitF v (i : Int) = 0 := by
  obtain ⟨h1, h2⟩ := own_same (v := v) (i := i) (by have := h.rn; omega)
  have h3 := h.rs i hi
  have h4 : v.s i = 0 := by
    rcases Nat.eq_zero_or_pos (v.s i) with z | z
    · exact z
    · have := (h.li i).2 (by omega); omega
  rw [h1, h2, h3, h4]
  exact ⟨rfl, rfl⟩
theorem aw_take (m : Nat) : tk (v0 m 1 2 4) 1 = (1, 0, (v0 m 1 2 4).own 1 1) := by
  have : ff (v0 m 1 2 4).o 4 = 1 := ff_eq (by decide) rfl (fun j hj => by obtain rfl : j = 0 := (by omega); show (if 0 < 1 then (-1 : Int) else 0) ≠ 0; decide)
  unfold tk
  rw [show (v0 m 1 2 4).n = 4 from rfl, this]
  rfl
def a1 (m : Nat) : PV := (v0 m 1 2 4).own 1 1
def a2 (m : Nat) : PV := (rl (a1 m) 1).2
theorem aw_rel (m : Nat) : rl (a1 m) 1 = (0, a2 m) := by
  unfold a2
  have : (rl (a1 m) 1).1 = 0 := rfl
  rw [← this]
theorem aw_f (v : PV) (k n : Nat) : ackF v k n (fun _ => 0) = fun _ => 0 := by
  funext j; unfold ackF; cases hit v k n (j / 4096) <;> rfl
theorem aw_fk (v : PV) (x : Int) : akF v x (fun _ => 0) = fun _ => 0 := by
  unfold akF; cases akOk v x
  · rfl
  · exact aw_f _ _ _
def a3 (m : Nat) : PV := akV (a2 m) 0
def a4 (m : Nat) : PV := akV (a3 m) 1
theorem aw_1 (m : Nat) : akR (a2 m) 0 = 0 := by kernel_rfl
theorem aw_2 (m : Nat) : akR (a3 m) 1 = 0 := by kernel_rfl
theorem aw_3 (m : Nat) : ackN (a4 m) 8 (a4 m).n = 1 := by kernel_rfl
theorem aw_4 (m : Nat) : ownF (ackP (a4 m) 8 (a4 m).n) 1 = 0 := by kernel_rfl
theorem aw_5 (m : Nat) : ownF (a2 m) 1 = -2 := by kernel_rfl
set_option maxHeartbeats 1000000 in
theorem l_awake9 (w : World) : Calls Try.prog 12 #[] w fun r w' => r = .returned (.bool true) ∧ Below w.heap.size w w' := by
  have T0 : Hid True := hid trivial
  have T1 : Hid True := hid trivial
  go_enter Try.func12, Try.ntmps12
  go_wp2_with (first
    | (go_at_call 9; refine (l_Mem w 4 (by decide) (by decide) 4 rfl).mono ?_; rintro r w1 ⟨m, q, U, rfl, ht, hb, hu⟩; have HT := hid ht; have HB := hid hb; have HU := hid hu; clear ht hb hu)
    | (go_at_call 10; refine (l_New w w w1 4 1 2 m q U _ (Below.refl _ _) HT.out HB.out HU.out (by decide) (by decide) (by decide) 1 2 rfl rfl).mono ?_; rintro r w2 ⟨p, F, rfl, hl⟩; have HL := hid hl; clear hl)
    | (go_at_call 13; refine (l_Take _ _ _ _ _ _ _ _ HL.out 1 1 0 _ (aw_take m)).mono ?_; rintro r w3 ⟨rfl, hl, -⟩; have HL3 := hid hl; clear hl)
    | (go_at_call 15; refine (l_Release _ _ _ _ _ _ _ _ HL3.out 1 0 _ (aw_rel m)).mono ?_; rintro r w4 ⟨rfl, F4, hl, -⟩; have HL4 := hid hl; clear hl)
    | (go_at_call 21; have t := T0; clear t T0; refine (l_Owner _ _ _ _ _ _ _ _ HL4.out 1 (-2) (aw_5 m)).mono ?_; rintro r w5 ⟨rfl, hw⟩; obtain rfl := hw.symm)
    | (go_at_call 17; have t := T1; clear t T1; refine (l_Ack _ _ _ _ _ _ _ _ HL4.out 0 0 (a3 m) _ (aw_1 m) rfl (aw_fk _ _)).mono ?_; rintro r w6 ⟨rfl, F6, hl, -⟩; have HL6 := hid hl; clear hl)
    | (go_at_call 17; refine (l_Ack _ _ _ _ _ _ _ _ HL6.out 1 0 (a4 m) _ (aw_2 m) rfl (aw_fk _ _)).mono ?_; rintro r w7 ⟨rfl, F7, hl, -⟩; have HL7 := hid hl; clear hl)
    | (go_at_call 19; refine (l_AckD _ _ _ _ _ _ _ _ HL7.out 1 _ _ (aw_3 m) rfl (aw_f _ _ _)).mono ?_; rintro r w8 ⟨rfl, F8, hl, -⟩; have HL8 := hid hl; clear hl)
    | (go_at_call 21; refine (l_Owner _ _ _ _ _ _ _ _ HL8.out 1 0 (aw_4 m)).mono ?_; rintro r w9 ⟨rfl, hw⟩; obtain rfl := hw.symm))
  go_ret
  exact ⟨rfl, HL8.out.new⟩
end Go.Proofs.Ytehghhonhfmieaa
namespace Go.Proofs.Ytehghhonhfmieaa
open Go.ChangeShapes Go.WideShapes Go.ChangeAt Go.RowKit Go.Deep
set_option linter.unusedVariables false

theorem cells_i8 : Try.prog.cellsOf 3 = 1 := by kernel_rfl
theorem cells_u8 : Try.prog.cellsOf 30 = 1 := by kernel_rfl
theorem addr_two (a : Addr) (i j : Nat) : (a.add i).add j = a.add (i + j) := by
  unfold Addr.add
  by_cases hi : i = 0
  · subst hi; simp
  · by_cases hj : j = 0
    · subst hj; simp
    · have : ¬ i + j = 0 := by omega
      simp [hi, hj, Nat.add_assoc]
theorem fld8 {T k : Nat} {t : TypeId} {o : Nat} (h : ((Try.prog.fieldsOf T)[k]?).map (fun f => (f.type, f.offset)) = some (t, o)) : ∃ f, (Try.prog.fieldsOf T)[k]? = some f ∧ f.type = t ∧ f.offset = o := by
  cases hq : (Try.prog.fieldsOf T)[k]? with
  | none => rw [hq] at h; cases h
  | some f => rw [hq] at h; simp at h; exact ⟨f, rfl, h.1, h.2⟩
structure FOpV where
  kind : Int
  n : Int
  v : Int
def FOpV.cs (x : FOpV) : List Value := [.int .i64 x.kind, .int .i64 x.n, .int .u64 x.v]
structure FOpB (x : FOpV) : Prop where
  kind : -9223372036854775808 ≤ x.kind ∧ x.kind ≤ 9223372036854775807
  n : -9223372036854775808 ≤ x.n ∧ x.n ≤ 9223372036854775807
  v : 0 ≤ x.v ∧ x.v < 18446744073709551616
structure Fc (w : World) (ad : Option Addr) (la cap ab ao : Nat) (X : Nat → FOpV) : Prop where
  len : la ≤ cap
  cap : cap ≤ 9223372036854775807
  at0 : 0 < la → ad = some ⟨ab, ao, none⟩ ∧ ab < w.heap.size
  cell : ∀ i, i < la → ∀ j, j < 3 → w.cell? ⟨ab, ao + i * 3 + j, none⟩ = (X i).cs[j]?
  num : ∀ i, i < la → FOpB (X i)
theorem Fc.below {w w' : World} {ad : Option Addr} {la cap ab ao : Nat} {X : Nat → FOpV} (h : Fc w ad la cap ab ao X) (hb : Below w.heap.size w w') : Fc w' ad la cap ab ao X :=
  ⟨h.len, h.cap, fun q => ⟨(h.at0 q).1, Nat.lt_of_lt_of_le (h.at0 q).2 hb.size⟩, fun i hi j hj => by
    have hlt := (h.at0 (by omega)).2
    have e : ∀ o, w'.cell? ⟨ab, o, none⟩ = w.cell? ⟨ab, o, none⟩ := fun o => World.cell?_of_block (w := w) (hb.block _ hlt)
    rw [e]; exact h.cell i hi j hj, h.num⟩
theorem under_fop : Try.prog.underlying 40 = some (.struct (Try.prog.fieldsOf 40)) := by kernel_rfl
theorem cells_fop : Try.prog.cellsOf 40 = 3 := by kernel_rfl
theorem u_sFOp : Try.prog.underlying 22 = some (.slice 40) := by kernel_rfl
set_option maxRecDepth 100000 in
theorem open_fop {H : Type} {enc : TypeId × Value → H} {W : World} {base fuel : Nat} {cs : List Value} {x : DataW H × List MemPlace} (h : DataW.trod enc Try.prog W base (fun _ => true) true fuel 40 cs = some x) :
    ∃ X : FOpV, cs = X.cs ∧ FOpB X := by
  obtain ⟨xs, n, _, rfl, hcl, hlen, hfs⟩ := DataW.trod_struct under_fop h
  have hl : xs.length = 3 := by rw [hlen]; kernel_rfl
  rw [cells_fop] at hcl
  obtain ⟨f0, e0, t0, o0⟩ := fld8 (T := 40) (k := 0) (t := 3) (o := 0) (by kernel_rfl)
  have q0 := hfs 0 f0 e0
  rw [t0, o0, cells_i8, List.getElem?_eq_getElem (by omega)] at q0
  obtain ⟨z0, r0, _, w0⟩ := DataW.trod_int Try.underlying3 q0
  obtain ⟨f1, e1, t1, o1⟩ := fld8 (T := 40) (k := 1) (t := 3) (o := 1) (by kernel_rfl)
  have q1 := hfs 1 f1 e1
  rw [t1, o1, cells_i8, List.getElem?_eq_getElem (by omega)] at q1
  obtain ⟨z1, r1, _, w1⟩ := DataW.trod_int Try.underlying3 q1
  obtain ⟨f2, e2, t2, o2⟩ := fld8 (T := 40) (k := 2) (t := 30) (o := 2) (by kernel_rfl)
  have q2 := hfs 2 f2 e2
  rw [t2, o2, cells_u8, List.getElem?_eq_getElem (by omega)] at q2
  obtain ⟨z2, r2, _, w2⟩ := DataW.trod_int Try.underlying30 q2
  obtain ⟨c0, c1, c2, rfl⟩ : ∃ c0 c1 c2, cs = [c0, c1, c2] := by
    match cs, hcl with
    | [c0, c1, c2], _ => exact ⟨c0, c1, c2, rfl⟩
  simp at r0 r1 r2
  subst r0 r1 r2
  have b2 := bounds_u64 w2
  exact ⟨⟨z0, z1, z2⟩, rfl, ⟨bounds_i64 w0, bounds_i64 w1, ⟨b2.1, by show z2 < _; omega⟩⟩⟩
set_option maxRecDepth 100000 in
/-- a script, as it stands -/
theorem open_fops {H : Type} {enc : TypeId × Value → H} {W : World} {base : Nat} {r : Reach} {b : Nat} {v : Value} {d : DataW H} {p : List MemPlace}
    (hv : Value.okWide Try.prog W r b 22 v) (h : DataW.Trod enc Try.prog W base (fun _ => true) true 22 v d p) (hlt : ∀ x ∈ p, x.block < W.heap.size) :
    ∃ (ad : Option Addr) (la cap ab ao : Nat) (X : Nat → FOpV), v = .slice ad la cap ∧ Fc W ad la cap ab ao X := by
  obtain ⟨a0, len, cap, rfl⟩ := okWide_slice u_sFOp hv
  obtain ⟨fuel, hf⟩ := h
  rcases open_slice u_sFOp hf with ⟨hcs, hx⟩ | ⟨a, len', cap', m, n, D, Pl, hcs, _, hl, hm, hmm, hx, hel⟩
  · simp [Value.cells] at hcs
    obtain ⟨rfl, rfl, rfl⟩ := hcs
    exact ⟨none, 0, 0, 0, 0, fun _ => ⟨0, 0, 0⟩, rfl, ⟨Nat.le_refl _, by decide, fun q => absurd q (by decide), fun i hi => absurd hi (Nat.not_lt_zero i), fun i hi => absurd hi (Nat.not_lt_zero i)⟩⟩
  · simp [Value.cells] at hcs
    obtain ⟨rfl, rfl, rfl⟩ := hcs
    simp only [if_true] at hmm
    have each : ∀ i, ∃ X : FOpV, i < len → FOpB X ∧ ∀ j, j < 3 → W.cell? (a.add (i * 3 + j)) = X.cs[j]? := fun i => by
      rcases Nat.lt_or_ge i len with hi | hi
      · obtain ⟨cs', h1, h2⟩ := hel i (by omega)
        obtain ⟨X, rfl, b0⟩ := open_fop h2
        rw [cells_fop] at h1
        obtain ⟨_, hlen, hcell⟩ := World.cells?_some h1
        refine ⟨X, fun _ => ⟨b0, fun j hj => ?_⟩⟩
        have := hcell j hj
        rw [addr_two] at this
        exact this
      · exact ⟨⟨0, 0, 0⟩, fun q => by omega⟩
    obtain ⟨X, hX⟩ := Classical.axiomOfChoice each
    clear each
    have hbl : ∀ h0 : 0 < len, a.spot = none ∧ a.block < W.heap.size := fun h0 => by
      have k0 := (hX 0 h0).2 0 (by decide)
      refine ⟨by simpa [Addr.add] using World.cell?_spot k0, ?_⟩
      obtain ⟨cs', h1, _⟩ := hel 0 (by omega)
      rw [cells_fop] at h1
      have := World.cells?_block h1 (by decide)
      simpa [Addr.add] using this
    obtain ⟨ab, ao, asp⟩ := a
    refine ⟨some ⟨ab, ao, asp⟩, len, cap, ab, ao, X, rfl, ⟨hl, by simpa [maxLen] using hm, fun h0 => ?_, fun i hi j hj => ?_, fun i hi => (hX i hi).1⟩⟩
    · obtain ⟨q1, q2⟩ := hbl h0
      obtain rfl : asp = none := q1
      exact ⟨rfl, q2⟩
    · obtain ⟨q1, q2⟩ := hbl (by omega)
      obtain rfl : asp = none := q1
      have k := (hX i hi).2 j hj
      rw [C.addr_add, ← Nat.add_assoc] at k
      exact k
theorem bytes_fop : Try.prog.bytesOf 40 = 24 := by kernel_rfl
set_option maxRecDepth 100000 in
theorem fops_len {H : Type} {enc : TypeId × Value → H} {W : World} {base : Nat} {ad : Option Addr} {la cap : Nat} {d : DataW H} {p : List MemPlace} (h : DataW.Trod enc Try.prog W base (fun _ => true) true 22 (.slice ad la cap) d p) (hw : ∀ n ∈ d.weights Try.prog 22, n ≤ reachBytes) : la ≤ 8796093022208 := by
  obtain ⟨fuel, hf⟩ := h
  rcases open_slice u_sFOp hf with ⟨hcs, hx⟩ | ⟨a, len', cap', m, n, D, Pl, hcs, _, hl, hm, hmm, hx, hel⟩
  · simp [Value.cells] at hcs
    obtain ⟨rfl, rfl, rfl⟩ := hcs
    exact Nat.zero_le _
  · simp [Value.cells] at hcs
    obtain ⟨rfl, rfl, rfl⟩ := hcs
    simp only [Prod.mk.injEq] at hx
    obtain ⟨rfl, rfl⟩ := hx
    have h2 := hw ((((List.range la).map D).length + ((List.range (m - la)).map fun j => D (la + j)).length) * Try.prog.bytesOf 40) (by simp [DataW.weights])
    rw [bytes_fop] at h2
    simp [reachBytes] at h2
    omega
end Go.Proofs.Ytehghhonhfmieaa
