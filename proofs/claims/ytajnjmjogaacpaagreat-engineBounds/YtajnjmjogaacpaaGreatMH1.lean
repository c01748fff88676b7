/- Halves of words, and their bits. -/
import Derived.Test.YtajnjmjogaacpaaGreatXE
import Derived.Laws.Bits64b
namespace Go.Proofs.YtajnjmjogaacpaaGreat
open Go.RowKit
set_option linter.unusedVariables false

theorem b_and1 (x : Int) (h0 : 0 ≤ x) (h1 : x < 18446744073709551616) : bits .and .u64 x 1 = x % 2 := by
  obtain ⟨n, rfl⟩ := Int.eq_ofNat_of_zero_le h0
  have h := Nat.and_two_pow_sub_one_eq_mod n 1
  rw [show (1 : Int) = ((2 ^ 1 - 1 : Nat) : Int) from rfl, bits_and_u64_nat _ _ (by omega) (by decide), h]
  omega
theorem n_and2 (n : Nat) : n &&& 2 = n / 2 % 2 * 2 := by
  have h := Nat.and_two_pow_sub_one_eq_mod n 2
  have e : n &&& 2 = (n % 4) &&& 2 := by
    rw [show n % 4 = n &&& (2 ^ 2 - 1) from h.symm, Nat.and_assoc]; rfl
  have hz : ∀ x : Fin 4, x.val &&& 2 = x.val / 2 % 2 * 2 := by decide
  have := hz ⟨n % 4, Nat.mod_lt _ (by decide)⟩
  rw [e]
  simp only at this
  rw [this]
  omega
theorem b_and2 (x : Int) (h0 : 0 ≤ x) (h1 : x < 18446744073709551616) : bits .and .u64 x 2 = x / 2 % 2 * 2 := by
  obtain ⟨n, rfl⟩ := Int.eq_ofNat_of_zero_le h0
  rw [show (2 : Int) = ((2 : Nat) : Int) from rfl, bits_and_u64_nat _ _ (by omega) (by decide), n_and2]
  omega
theorem b_lo (x : Int) (h0 : 0 ≤ x) (h1 : x < 18446744073709551616) : bits .and .u64 x 4294967295 = x % 4294967296 := by
  obtain ⟨n, rfl⟩ := Int.eq_ofNat_of_zero_le h0
  have h := Nat.and_two_pow_sub_one_eq_mod n 32
  rw [show (4294967295 : Int) = ((2 ^ 32 - 1 : Nat) : Int) from rfl, bits_and_u64_nat _ _ (by omega) (by decide), h]
  omega
theorem n_hi (n : Nat) (h : n < 18446744073709551616) : n &&& 18446744069414584320 = n / 4294967296 * 4294967296 := by
  have hc : ∀ k : Fin 64, (18446744069414584320 : Nat).testBit k.val = decide (32 ≤ k.val) := by decide
  apply Nat.eq_of_testBit_eq
  intro i
  rw [Nat.testBit_and, show n / 4294967296 * 4294967296 = (n / 2 ^ 32) <<< 32 by rw [Nat.shiftLeft_eq], Nat.testBit_shiftLeft, Nat.testBit_div_two_pow]
  rcases Nat.lt_or_ge i 64 with q | q
  · rw [hc ⟨i, q⟩]
    by_cases z : 32 ≤ i
    · simp [z, show i - 32 + 32 = i by omega]
    · simp [z]
  · have : n.testBit i = false := Nat.testBit_lt_two_pow (Nat.lt_of_lt_of_le h (show 18446744073709551616 ≤ 2 ^ i from Nat.pow_le_pow_right (n := 2) (i := 64) (j := i) (by decide) q))
    have z : 32 ≤ i := by omega
    simp [this, show i - 32 + 32 = i by omega]
theorem b_hi (x : Int) (h0 : 0 ≤ x) (h1 : x < 18446744073709551616) : bits .and .u64 x 18446744069414584320 = x / 4294967296 * 4294967296 := by
  obtain ⟨n, rfl⟩ := Int.eq_ofNat_of_zero_le h0
  rw [show (18446744069414584320 : Int) = ((18446744069414584320 : Nat) : Int) from rfl, bits_and_u64_nat _ _ (by omega) (by decide), n_hi n (by omega)]
  omega
theorem b_all (x : Int) (h0 : 0 ≤ x) (h1 : x < 18446744073709551616) : bits .and .u64 x 18446744073709551615 = x := by
  obtain ⟨n, rfl⟩ := Int.eq_ofNat_of_zero_le h0
  have h := Nat.and_two_pow_sub_one_eq_mod n 64
  rw [show (18446744073709551615 : Int) = ((2 ^ 64 - 1 : Nat) : Int) from rfl, bits_and_u64_nat _ _ (by omega) (by decide), h]
  omega
theorem b_andn (x M M' : Int) (h : ~~~(BitVec.ofInt 64 M) = BitVec.ofInt 64 M') : bits .andNot .u64 x M = bits .and .u64 x M' := by
  show IntKind.u64.wrap ((BitVec.ofInt 64 x &&& ~~~BitVec.ofInt 64 M).toNat : Int) = IntKind.u64.wrap ((BitVec.ofInt 64 x &&& BitVec.ofInt 64 M').toNat : Int)
  rw [h]
theorem b_nall (x : Int) (h0 : 0 ≤ x) (h1 : x < 18446744073709551616) : bits .andNot .u64 x 18446744073709551615 = 0 := by
  obtain ⟨n, rfl⟩ := Int.eq_ofNat_of_zero_le h0
  rw [b_andn _ _ 0 (by decide), show (0 : Int) = ((0 : Nat) : Int) from rfl, bits_and_u64_nat _ _ (by omega) (by decide)]
  simp
theorem b_nlo (x : Int) (h0 : 0 ≤ x) (h1 : x < 18446744073709551616) : bits .andNot .u64 x 4294967295 = x / 4294967296 * 4294967296 := by
  rw [b_andn _ _ 18446744069414584320 (by decide), b_hi x h0 h1]
theorem b_nhi (x : Int) (h0 : 0 ≤ x) (h1 : x < 18446744073709551616) : bits .andNot .u64 x 18446744069414584320 = x % 4294967296 := by
  rw [b_andn _ _ 4294967295 (by decide), b_lo x h0 h1]
theorem b_or0 (y : Int) (h0 : 0 ≤ y) (h1 : y < 18446744073709551616) : bits .or .u64 0 y = y := by
  obtain ⟨n, rfl⟩ := Int.eq_ofNat_of_zero_le h0
  rw [show (0 : Int) = ((0 : Nat) : Int) from rfl, bits_or_u64_nat _ _ (by decide) (by omega)]
  simp
theorem b_orc (a b : Int) (a0 : 0 ≤ a) (a1 : a < 4294967296) (b0 : 0 ≤ b) (b1 : b < 4294967296) : bits .or .u64 (a * 4294967296) b = a * 4294967296 + b := by
  obtain ⟨n, rfl⟩ := Int.eq_ofNat_of_zero_le a0
  obtain ⟨m, rfl⟩ := Int.eq_ofNat_of_zero_le b0
  have h := Nat.two_pow_add_eq_or_of_lt (i := 32) (b := m) (by omega) n
  rw [show ((n : Int) * 4294967296) = ((2 ^ 32 * n : Nat) : Int) by omega, bits_or_u64_nat _ _ (by omega) (by omega), ← h]
  omega
theorem b_ord (a b : Int) (a0 : 0 ≤ a) (a1 : a < 4294967296) (b0 : 0 ≤ b) (b1 : b < 4294967296) : bits .or .u64 b (a * 4294967296) = b + a * 4294967296 := by
  obtain ⟨n, rfl⟩ := Int.eq_ofNat_of_zero_le a0
  obtain ⟨m, rfl⟩ := Int.eq_ofNat_of_zero_le b0
  have h := Nat.two_pow_add_eq_or_of_lt (i := 32) (b := m) (by omega) n
  rw [show ((n : Int) * 4294967296) = ((2 ^ 32 * n : Nat) : Int) by omega, bits_or_u64_nat _ _ (by omega) (by omega), Nat.or_comm, ← h]
  omega
theorem b_or_b (a b : Int) (a0 : 0 ≤ a) (a1 : a < 18446744073709551616) (b0 : 0 ≤ b) (b1 : b < 18446744073709551616) : 0 ≤ bits .or .u64 a b ∧ bits .or .u64 a b < 18446744073709551616 ∧ (bits .or .u64 a b % 8 = 0 ↔ a % 8 = 0 ∧ b % 8 = 0) := by
  obtain ⟨n, rfl⟩ := Int.eq_ofNat_of_zero_le a0
  obtain ⟨m, rfl⟩ := Int.eq_ofNat_of_zero_le b0
  rw [bits_or_u64_nat _ _ (by omega) (by omega)]
  have hx : n ||| m < 2 ^ 64 := Nat.or_lt_two_pow (by omega) (by omega)
  have hm : (n ||| m) % 2 ^ 3 = n % 2 ^ 3 ||| m % 2 ^ 3 := Nat.or_mod_two_pow
  have hz : ∀ x y : Fin 8, (x.val ||| y.val = 0) ↔ (x.val = 0 ∧ y.val = 0) := by decide
  have := hz ⟨n % 2 ^ 3, Nat.mod_lt _ (by decide)⟩ ⟨m % 2 ^ 3, Nat.mod_lt _ (by decide)⟩
  refine ⟨by omega, by omega, ?_⟩
  constructor
  · intro q
    have q' : (n ||| m) % 2 ^ 3 = 0 := by omega
    rw [hm] at q'
    have := this.1 q'
    simp only at this
    omega
  · rintro ⟨p, q⟩
    have : (n ||| m) % 2 ^ 3 = 0 := by rw [hm]; exact this.2 ⟨by show n % 2 ^ 3 = 0; omega, by show m % 2 ^ 3 = 0; omega⟩
    omega
end Go.Proofs.YtajnjmjogaacpaaGreat
namespace Go.Proofs.YtajnjmjogaacpaaGreat
open Go.RowKit Go.ChangeMaps Go.MapKept
open C (Only hid)
set_option linter.unusedVariables false
set_option maxRecDepth 100000

theorem x_tell (w : World) (p : Addr) (x : Int) (h : w.cell? p = some (.int .u64 x)) : Calls Tryz.prog 53 #[.pointer (some p)] w fun r w' => r = .returned (.int .u64 x) ∧ w' = w := by
  go_enter Tryz.func53, Tryz.ntmps53
  go_wp2
  go_ret
  exact ⟨rfl, rfl⟩
theorem x_nothing (w : World) (p : Addr) : Calls Tryz.prog 55 #[.pointer (some p)] w fun r w' => r = .returned (.int .u64 0) ∧ w' = w := by
  go_enter Tryz.func55, Tryz.ntmps55
  go_wp2
  go_ret
  exact ⟨rfl, rfl⟩
theorem x_leave (w : World) (p : Addr) (a b : Int) : Calls Tryz.prog 57 #[.pointer (some p), .int .u64 a, .int .u64 b] w fun r w' => r = .returned (.tuple #[]) ∧ w' = w := by
  go_enter Tryz.func57, Tryz.ntmps57
  go_wp2
  go_end0
  exact ⟨rfl, rfl⟩
theorem x_take (w : World) (p : Addr) (x : Int) (h : w.cell? p = some (.int .u64 x)) (hz : w.frozen? p = false) (b y : Int) : Calls Tryz.prog 54 #[.pointer (some p), .int .u64 b, .int .u64 y] w fun r w' => r = .returned (.tuple #[]) ∧ w' = w.setCell p (.int .u64 (bits .or .u64 (bits .andNot .u64 x b) y)) := by
  go_enter Tryz.func54, Tryz.ntmps54
  go_wp2
  go_end0
  exact ⟨rfl, rfl⟩
/-- numbers within their bounds -/
def RB (r : Nat → Int) : Prop := ∀ k, 0 ≤ r k ∧ r k < 18446744073709551616
theorem RB.eu {r : Nat → Int} (h : RB r) (k : Nat) (x : Int) (h0 : 0 ≤ x) (h1 : x < 18446744073709551616) : RB (eu r k x) := fun j => by
  unfold Go.Proofs.YtajnjmjogaacpaaGreat.eu; split
  · exact ⟨h0, h1⟩
  · exact h j
def EV.wr (v : EV) (r : Nat → Int) : EV := ⟨v.dev, v.m, v.g, r⟩
theorem eu_eu (r : Nat → Int) (k : Nat) (x y : Int) : eu (eu r k x) k y = eu r k y := by funext j; unfold eu; split <;> rfl
/-- what may not be begun -/
def bgB (r : Nat → Int) : Bool := r 2 == 0 || decide (r 2 > 4096) || !(r 0 % 8 == 0 && r 1 % 8 == 0 && r 2 % 8 == 0)
def bgE (r : Nat → Int) : Nat → Int := eu (eu r 6 0) 3 (bif bgB r then 3 else 1)
theorem bgE_b {r : Nat → Int} (h : RB r) : RB (bgE r) := (h.eu 6 0 (by decide) (by decide)).eu 3 _ (by cases bgB r <;> decide) (by cases bgB r <;> decide)
theorem Eg.dn {w : World} {e : Nat} {v : EV} (h : Eg w e v) (n : Nat) : Eg (w.drewN n) e v := h
theorem Only.dnE {S : Nat → Prop} {w w' : World} (h : Only S w w') (n : Nat) : Only S w (w'.drewN n) := ⟨h.os, h.tape, h.output, h.size, h.block⟩
theorem eg_begin1 {w : World} {e : Nat} {v : EV} (h : Eg w e v) (n : Nat) (hb : bgB v.r = false) : Eg (((w.setCell ⟨e, 9, none⟩ (.int .u64 0)).setCell ⟨e, 6, none⟩ (.int .u64 1)).drewN n) e (v.wr (bgE v.r)) := by
  have := ((h.s6 0).s3 1).dn n
  unfold EV.wr bgE; rw [hb]; exact this
theorem eg_begin2 {w : World} {e : Nat} {v : EV} (h : Eg w e v) (n : Nat) (hb : bgB v.r = true) : Eg ((((w.setCell ⟨e, 9, none⟩ (.int .u64 0)).setCell ⟨e, 6, none⟩ (.int .u64 1)).drewN n).setCell ⟨e, 6, none⟩ (.int .u64 3)) e (v.wr (bgE v.r)) := by
  have := (((h.s6 0).s3 1).dn n).s3 3
  unfold EV.wr bgE; rw [hb]
  have e1 : eu (eu (eu v.r 6 0) 3 1) 3 3 = eu (eu v.r 6 0) 3 3 := eu_eu _ _ _ _
  have e2 : ((v.set 6 0).set 3 1).set 3 3 = ⟨v.dev, v.m, v.g, eu (eu v.r 6 0) 3 3⟩ := by unfold EV.set; rw [e1]
  rw [e2] at this
  exact this
theorem x_begin (w : World) (e : Nat) (v : EV) (h : Eg w e v) (hr : RB v.r) : Calls Tryz.prog 71 #[.pointer (some ⟨e, 0, none⟩)] w fun r w' => r = .returned (.tuple #[]) ∧ Eg w' e (v.wr (bgE v.r)) ∧ Only (· = e) w w' := by
  have k3 := h.c3
  have k4 := h.c4
  have k5 := h.c5
  have k6 := h.c6
  have k9 := h.c9
  have kz := h.z
  have HE := hid h
  have o1 := b_or_b (v.r 0) (v.r 1) (hr 0).1 (hr 0).2 (hr 1).1 (hr 1).2
  have o2 := b_or_b (bits .or .u64 (v.r 0) (v.r 1)) (v.r 2) o1.1 o1.2.1 (hr 2).1 (hr 2).2
  have e3 : (bits .or .u64 (bits .or .u64 (v.r 0) (v.r 1)) (v.r 2)).tmod 8 = bits .or .u64 (bits .or .u64 (v.r 0) (v.r 1)) (v.r 2) % 8 := Int.tmod_eq_emod_of_nonneg o2.1
  clear h
  cases h1 : (v.r 2 == 0)
  · cases h2 : decide (v.r 2 > 4096)
    · cases h3 : ((bits .or .u64 (bits .or .u64 (v.r 0) (v.r 1)) (v.r 2)).tmod 8 != 0)
      · have hb : bgB v.r = false := by
          have : bits .or .u64 (bits .or .u64 (v.r 0) (v.r 1)) (v.r 2) % 8 = 0 := by rw [← e3]; simpa using h3
          have q := o2.2.2.1 this
          have p := o1.2.2.1 q.1
          unfold bgB; rw [h1, h2, p.1, p.2, q.2]; rfl
        have HB := hid hb
        clear o1 o2 e3 hb hr
        go_enter Tryz.func71, Tryz.ntmps71
        go_wp2
        go_quiet (fail)
        go_wp2
        go_end0
        exact ⟨rfl, eg_begin1 HE.out _ HB.out, Only.dnE ((only_e _ _ _ _).trans (only_e _ _ _ _)) _⟩
      · have hb : bgB v.r = true := by
          have : ¬ bits .or .u64 (bits .or .u64 (v.r 0) (v.r 1)) (v.r 2) % 8 = 0 := by rw [← e3]; simpa using h3
          unfold bgB; rw [h1, h2]
          cases a0 : (v.r 0 % 8 == 0) <;> cases a1 : (v.r 1 % 8 == 0) <;> cases a2 : (v.r 2 % 8 == 0) <;> try rfl
          exact absurd (o2.2.2.2 ⟨o1.2.2.2 ⟨by simpa using a0, by simpa using a1⟩, by simpa using a2⟩) this
        have HB := hid hb
        clear o1 o2 e3 hb hr
        go_enter Tryz.func71, Tryz.ntmps71
        go_wp2
        go_quiet (fail)
        go_wp2
        go_end0
        exact ⟨rfl, eg_begin2 HE.out _ HB.out, (Only.dnE ((only_e _ _ _ _).trans (only_e _ _ _ _)) _).trans (only_e _ _ _ _)⟩
    · have hb : bgB v.r = true := by unfold bgB; rw [h2]; simp
      have HB := hid hb
      clear o1 o2 e3 hb hr
      go_enter Tryz.func71, Tryz.ntmps71
      go_wp2
      go_quiet (fail)
      go_wp2
      go_end0
      exact ⟨rfl, eg_begin2 HE.out _ HB.out, (Only.dnE ((only_e _ _ _ _).trans (only_e _ _ _ _)) _).trans (only_e _ _ _ _)⟩
  · have hb : bgB v.r = true := by unfold bgB; rw [h1]; simp
    have HB := hid hb
    clear o1 o2 e3 hb hr
    go_enter Tryz.func71, Tryz.ntmps71
    go_wp2
    go_quiet (fail)
    go_wp2
    go_end0
    exact ⟨rfl, eg_begin2 HE.out _ HB.out, (Only.dnE ((only_e _ _ _ _).trans (only_e _ _ _ _)) _).trans (only_e _ _ _ _)⟩
/-- what a command comes to -/
def cmE (r : Nat → Int) (x : Int) : Nat → Int := bif x % 2 != 0 && !(r 3 == 1) then bgE r else bif x / 2 % 2 != 0 then eu r 3 0 else r
theorem cmE_b {r : Nat → Int} (h : RB r) (x : Int) : RB (cmE r x) := by
  unfold cmE
  cases (x % 2 != 0 && !(r 3 == 1))
  · cases (x / 2 % 2 != 0)
    · exact h
    · exact h.eu 3 0 (by decide) (by decide)
  · exact bgE_b h
theorem x_command (w : World) (e : Nat) (v : EV) (h : Eg w e v) (hr : RB v.r) (b x : Int) (x0 : 0 ≤ x) (x1 : x < 18446744073709551616) : Calls Tryz.prog 56 #[.pointer (some ⟨e, 0, none⟩), .int .u64 b, .int .u64 x] w fun r w' => r = .returned (.tuple #[]) ∧ Eg w' e (v.wr (cmE v.r x)) ∧ Only (· = e) w w' := by
  have k6 := h.c6
  have kz := h.z
  have HE := hid h
  have HR := hid hr
  clear h hr
  have c1 : (bits .and .u64 x 1 != 0) = (x % 2 != 0) := by rw [b_and1 x x0 x1]
  have c2 : (bits .and .u64 x 2 != 0) = (x / 2 % 2 != 0) := by
    rw [b_and2 x x0 x1]
    have : x / 2 % 2 = 0 ∨ x / 2 % 2 = 1 := by omega
    rcases this with q | q <;> rw [q] <;> rfl
  cases h1 : (x % 2 != 0)
  · rw [h1] at c1
    cases h2 : (x / 2 % 2 != 0)
    · rw [h2] at c2
      go_enter Tryz.func56, Tryz.ntmps56
      go_wp2
      go_end0
      refine ⟨rfl, ?_, .refl w⟩
      unfold EV.wr cmE; rw [h1, h2]; exact HE.out
    · rw [h2] at c2
      go_enter Tryz.func56, Tryz.ntmps56
      go_wp2
      go_end0
      refine ⟨rfl, ?_, only_e _ _ _ _⟩
      unfold EV.wr cmE; rw [h1, h2]; exact HE.out.s3 0
  · rw [h1] at c1
    cases h3 : (v.r 3 == 1)
    · go_enter Tryz.func56, Tryz.ntmps56
      go_wp2_with (first
        | (go_at_call 11; refine (x_Busy _ e v HE.out).mono ?_; rw [h3]; rintro r w1 ⟨rfl, hw⟩; obtain rfl := hw.symm)
        | (go_at_call 71; refine (x_begin _ e v HE.out HR.out).mono ?_; rintro r w1 ⟨rfl, q1, q2⟩))
      go_end0
      refine ⟨rfl, ?_, q2⟩
      unfold cmE; rw [h1, h3]; exact q1
    · cases h2 : (x / 2 % 2 != 0)
      · rw [h2] at c2
        go_enter Tryz.func56, Tryz.ntmps56
        go_wp2_with (first
          | (go_at_call 11; refine (x_Busy _ e v HE.out).mono ?_; rw [h3]; rintro r w1 ⟨rfl, hw⟩; obtain rfl := hw.symm))
        go_end0
        refine ⟨rfl, ?_, .refl _⟩
        unfold EV.wr cmE; rw [h1, h2, h3]; exact HE.out
      · rw [h2] at c2
        go_enter Tryz.func56, Tryz.ntmps56
        go_wp2_with (first
          | (go_at_call 11; refine (x_Busy _ e v HE.out).mono ?_; rw [h3]; rintro r w1 ⟨rfl, hw⟩; obtain rfl := hw.symm))
        go_end0
        refine ⟨rfl, ?_, only_e _ _ _ _⟩
        unfold EV.wr cmE; rw [h1, h2, h3]; exact HE.out.s3 0
end Go.Proofs.YtajnjmjogaacpaaGreat
namespace Go.Proofs.YtajnjmjogaacpaaGreat
open Go.RowKit Go.ChangeMaps Go.MapKept
open C (Only hid)
set_option linter.unusedVariables false
set_option maxRecDepth 100000

theorem Eg.al2 {w : World} {e : Nat} {v : EV} (h : Eg w e v) (a b : Obj) : Eg ((w.alloc a).alloc b) e v := h.below (by (repeat (first | (with_reducible exact Below.refl _ _) | (with_reducible assumption) | refine Below.setCell ?_ (by first | exact Nat.le_refl _ | simp | (simp; omega)) _ | refine Below.alloc ?_ (by first | exact Nat.le_refl _ | simp | (simp; omega)) _ | refine below_dn ?_ _ | refine below_setRow ?_ (by first | exact Nat.le_refl _ | simp | (simp; omega)) _)))
theorem x_Read_t8 (w : World) (e : Nat) (v : EV) (h : Eg w e v) (off size : Int) (o0 : 0 ≤ off) (o1 : off < 18446744073709551616) (hc : cutF off size = (0, 18446744073709551615, true)) (k : Nat) (hk : k < 7) (x : Int) (hx : x = 8 * (k : Int)) (hxo : off - off % 8 = x) (j : Nat) (y : Int) (hj : ∀ w', Eg w' e v → w'.cell? ⟨e, j, none⟩ = some (.int .u64 y)) (y0 : 0 ≤ y) (y1 : y < 18446744073709551616) (g : FuncId) (q : Addr) (hR : eR e k = .agg #[.func (.func 53) #[.pointer (some ⟨e, j, none⟩)] #[], .func (.func g) #[.pointer (some q)] #[]]) :
    Calls Tryz.prog 10 #[.pointer (some ⟨e, 0, none⟩), .int .u64 off, .int .i64 size] w fun r w' => r = .returned (.tuple #[.int .u64 y, .bool true]) ∧ Eg w' e v ∧ Only (· = e) w w' := by
  have HE := hid h
  clear h
  have h2 := sx_func Tryz.prog
  go_enter Tryz.func10, Tryz.ntmps10
  go_wp2_with (go_at_call 23; refine (x_find _ e v HE.out off size o0 o1 0 18446744073709551615 hc k hk x hx hxo).mono ?_; rw [hR]; rintro r w1 ⟨rfl, q1, q2⟩; have Q1 := hid q1; have Q2 := hid q2; clear q1 q2)
  go_quiet (first | (go_at_call 53; exact Calls.quiet_of_same (x_tell _ ⟨e, j, none⟩ y (hj _ ((Q1.out.al2 _ _).dn _)))))
  go_wp2
  go_ret2
  refine ⟨?_, (Q1.out.al2 _ _).dn _, Only.dnE ((Q2.out.alloc _).alloc _) _⟩
  rw [b_all y y0 y1]
  rfl
theorem x_Read_n8 (w : World) (e : Nat) (v : EV) (h : Eg w e v) (off size : Int) (o0 : 0 ≤ off) (o1 : off < 18446744073709551616) (hc : cutF off size = (0, 18446744073709551615, true)) (k : Nat) (hk : k < 7) (x : Int) (hx : x = 8 * (k : Int)) (hxo : off - off % 8 = x) (g : FuncId) (p q : Addr) (hR : eR e k = .agg #[.func (.func 55) #[.pointer (some p)] #[], .func (.func g) #[.pointer (some q)] #[]]) :
    Calls Tryz.prog 10 #[.pointer (some ⟨e, 0, none⟩), .int .u64 off, .int .i64 size] w fun r w' => r = .returned (.tuple #[.int .u64 0, .bool true]) ∧ Eg w' e v ∧ Only (· = e) w w' := by
  have HE := hid h
  clear h
  have h2 := sx_func Tryz.prog
  go_enter Tryz.func10, Tryz.ntmps10
  go_wp2_with (go_at_call 23; refine (x_find _ e v HE.out off size o0 o1 0 18446744073709551615 hc k hk x hx hxo).mono ?_; rw [hR]; rintro r w1 ⟨rfl, q1, q2⟩; have Q1 := hid q1; have Q2 := hid q2; clear q1 q2)
  go_quiet (first | (go_at_call 55; exact Calls.quiet_of_same (x_nothing _ p)))
  go_wp2
  go_ret2
  exact ⟨by first | rfl | rw [b_all 0 (by decide) (by decide)] | rw [b_lo 0 (by decide) (by decide)]; rfl | rw [b_hi 0 (by decide) (by decide)]; rfl, (Q1.out.al2 _ _).dn _, Only.dnE ((Q2.out.alloc _).alloc _) _⟩
theorem x_Read_tl (w : World) (e : Nat) (v : EV) (h : Eg w e v) (off size : Int) (o0 : 0 ≤ off) (o1 : off < 18446744073709551616) (hc : cutF off size = (0, 4294967295, true)) (k : Nat) (hk : k < 7) (x : Int) (hx : x = 8 * (k : Int)) (hxo : off - off % 8 = x) (j : Nat) (y : Int) (hj : ∀ w', Eg w' e v → w'.cell? ⟨e, j, none⟩ = some (.int .u64 y)) (y0 : 0 ≤ y) (y1 : y < 18446744073709551616) (g : FuncId) (q : Addr) (hR : eR e k = .agg #[.func (.func 53) #[.pointer (some ⟨e, j, none⟩)] #[], .func (.func g) #[.pointer (some q)] #[]]) :
    Calls Tryz.prog 10 #[.pointer (some ⟨e, 0, none⟩), .int .u64 off, .int .i64 size] w fun r w' => r = .returned (.tuple #[.int .u64 (y % 4294967296), .bool true]) ∧ Eg w' e v ∧ Only (· = e) w w' := by
  have HE := hid h
  clear h
  have h2 := sx_func Tryz.prog
  go_enter Tryz.func10, Tryz.ntmps10
  go_wp2_with (go_at_call 23; refine (x_find _ e v HE.out off size o0 o1 0 4294967295 hc k hk x hx hxo).mono ?_; rw [hR]; rintro r w1 ⟨rfl, q1, q2⟩; have Q1 := hid q1; have Q2 := hid q2; clear q1 q2)
  go_quiet (first | (go_at_call 53; exact Calls.quiet_of_same (x_tell _ ⟨e, j, none⟩ y (hj _ ((Q1.out.al2 _ _).dn _)))))
  go_wp2
  go_ret2
  refine ⟨?_, (Q1.out.al2 _ _).dn _, Only.dnE ((Q2.out.alloc _).alloc _) _⟩
  rw [b_lo y y0 y1]
  rfl
theorem x_Read_nl (w : World) (e : Nat) (v : EV) (h : Eg w e v) (off size : Int) (o0 : 0 ≤ off) (o1 : off < 18446744073709551616) (hc : cutF off size = (0, 4294967295, true)) (k : Nat) (hk : k < 7) (x : Int) (hx : x = 8 * (k : Int)) (hxo : off - off % 8 = x) (g : FuncId) (p q : Addr) (hR : eR e k = .agg #[.func (.func 55) #[.pointer (some p)] #[], .func (.func g) #[.pointer (some q)] #[]]) :
    Calls Tryz.prog 10 #[.pointer (some ⟨e, 0, none⟩), .int .u64 off, .int .i64 size] w fun r w' => r = .returned (.tuple #[.int .u64 0, .bool true]) ∧ Eg w' e v ∧ Only (· = e) w w' := by
  have HE := hid h
  clear h
  have h2 := sx_func Tryz.prog
  go_enter Tryz.func10, Tryz.ntmps10
  go_wp2_with (go_at_call 23; refine (x_find _ e v HE.out off size o0 o1 0 4294967295 hc k hk x hx hxo).mono ?_; rw [hR]; rintro r w1 ⟨rfl, q1, q2⟩; have Q1 := hid q1; have Q2 := hid q2; clear q1 q2)
  go_quiet (first | (go_at_call 55; exact Calls.quiet_of_same (x_nothing _ p)))
  go_wp2
  go_ret2
  exact ⟨by first | rfl | rw [b_all 0 (by decide) (by decide)] | rw [b_lo 0 (by decide) (by decide)]; rfl | rw [b_hi 0 (by decide) (by decide)]; rfl, (Q1.out.al2 _ _).dn _, Only.dnE ((Q2.out.alloc _).alloc _) _⟩
theorem x_Read_th (w : World) (e : Nat) (v : EV) (h : Eg w e v) (off size : Int) (o0 : 0 ≤ off) (o1 : off < 18446744073709551616) (hc : cutF off size = (32, 18446744069414584320, true)) (k : Nat) (hk : k < 7) (x : Int) (hx : x = 8 * (k : Int)) (hxo : off - off % 8 = x) (j : Nat) (y : Int) (hj : ∀ w', Eg w' e v → w'.cell? ⟨e, j, none⟩ = some (.int .u64 y)) (y0 : 0 ≤ y) (y1 : y < 18446744073709551616) (g : FuncId) (q : Addr) (hR : eR e k = .agg #[.func (.func 53) #[.pointer (some ⟨e, j, none⟩)] #[], .func (.func g) #[.pointer (some q)] #[]]) :
    Calls Tryz.prog 10 #[.pointer (some ⟨e, 0, none⟩), .int .u64 off, .int .i64 size] w fun r w' => r = .returned (.tuple #[.int .u64 (y / 4294967296), .bool true]) ∧ Eg w' e v ∧ Only (· = e) w w' := by
  have HE := hid h
  clear h
  have h2 := sx_func Tryz.prog
  go_enter Tryz.func10, Tryz.ntmps10
  go_wp2_with (go_at_call 23; refine (x_find _ e v HE.out off size o0 o1 32 18446744069414584320 hc k hk x hx hxo).mono ?_; rw [hR]; rintro r w1 ⟨rfl, q1, q2⟩; have Q1 := hid q1; have Q2 := hid q2; clear q1 q2)
  go_quiet (first | (go_at_call 53; exact Calls.quiet_of_same (x_tell _ ⟨e, j, none⟩ y (hj _ ((Q1.out.al2 _ _).dn _)))))
  go_wp2
  go_ret2
  refine ⟨?_, (Q1.out.al2 _ _).dn _, Only.dnE ((Q2.out.alloc _).alloc _) _⟩
  rw [b_hi y y0 y1]
  rw [Int.mul_ediv_cancel _ (by decide)]; rfl
theorem x_Read_nh (w : World) (e : Nat) (v : EV) (h : Eg w e v) (off size : Int) (o0 : 0 ≤ off) (o1 : off < 18446744073709551616) (hc : cutF off size = (32, 18446744069414584320, true)) (k : Nat) (hk : k < 7) (x : Int) (hx : x = 8 * (k : Int)) (hxo : off - off % 8 = x) (g : FuncId) (p q : Addr) (hR : eR e k = .agg #[.func (.func 55) #[.pointer (some p)] #[], .func (.func g) #[.pointer (some q)] #[]]) :
    Calls Tryz.prog 10 #[.pointer (some ⟨e, 0, none⟩), .int .u64 off, .int .i64 size] w fun r w' => r = .returned (.tuple #[.int .u64 0, .bool true]) ∧ Eg w' e v ∧ Only (· = e) w w' := by
  have HE := hid h
  clear h
  have h2 := sx_func Tryz.prog
  go_enter Tryz.func10, Tryz.ntmps10
  go_wp2_with (go_at_call 23; refine (x_find _ e v HE.out off size o0 o1 32 18446744069414584320 hc k hk x hx hxo).mono ?_; rw [hR]; rintro r w1 ⟨rfl, q1, q2⟩; have Q1 := hid q1; have Q2 := hid q2; clear q1 q2)
  go_quiet (first | (go_at_call 55; exact Calls.quiet_of_same (x_nothing _ p)))
  go_wp2
  go_ret2
  exact ⟨by first | rfl | rw [b_all 0 (by decide) (by decide)] | rw [b_lo 0 (by decide) (by decide)]; rfl | rw [b_hi 0 (by decide) (by decide)]; rfl, (Q1.out.al2 _ _).dn _, Only.dnE ((Q2.out.alloc _).alloc _) _⟩
end Go.Proofs.YtajnjmjogaacpaaGreat
namespace Go.Proofs.YtajnjmjogaacpaaGreat
open Go.RowKit Go.ChangeMaps Go.MapKept
open C (Only hid)
set_option linter.unusedVariables false
set_option maxRecDepth 100000

theorem w_shl (y : Int) (y0 : 0 ≤ y) : y * 4294967296 % 18446744073709551616 / 4294967296 * 4294967296 = y % 4294967296 * 4294967296 := by omega
theorem x_Write_t8 (w : World) (e : Nat) (v : EV) (h : Eg w e v) (off size : Int) (o0 : 0 ≤ off) (o1 : off < 18446744073709551616) (hc : cutF off size = (0, 18446744073709551615, true)) (k : Nat) (hk : k < 7) (x : Int) (hx : x = 8 * (k : Int)) (hxo : off - off % 8 = x) (z : Int) (z0 : 0 ≤ z) (z1 : z < 18446744073709551616) (hb : (v.r 3 == 1) = false) (i j : Nat) (y : Int) (hj : ∀ w', Eg w' e v → w'.cell? ⟨e, j, none⟩ = some (.int .u64 y)) (hs : ∀ w' u, Eg w' e v → Eg (w'.setCell ⟨e, j, none⟩ (.int .u64 u)) e (v.set i u)) (y0 : 0 ≤ y) (y1 : y < 18446744073709551616) (g : FuncId) (q : Addr) (hR : eR e k = .agg #[.func (.func g) #[.pointer (some q)] #[], .func (.func 54) #[.pointer (some ⟨e, j, none⟩)] #[]]) :
    Calls Tryz.prog 9 #[.pointer (some ⟨e, 0, none⟩), .int .u64 off, .int .i64 size, .int .u64 z] w fun r w' => r = .returned (.bool true) ∧ Eg w' e (v.set i z) ∧ Only (· = e) w w' := by
  have HE := hid h
  clear h
  have h2 := sx_func Tryz.prog
  have hm : bits .and .u64 (z) 18446744073709551615 = z := by rw [b_all z z0 z1]
  go_enter Tryz.func9, Tryz.ntmps9
  go_wp2_with (first
    | (go_at_call 23; refine (x_find _ e v HE.out off size o0 o1 0 18446744073709551615 hc k hk x hx hxo).mono ?_; rw [hR]; rintro r w1 ⟨rfl, q1, q2⟩; have Q1 := hid q1; have Q2 := hid q2; clear q1 q2)
    | (go_at_call 11; refine (x_Busy _ e v (Q1.out.al2 _ _)).mono ?_; rw [hb]; rintro r w2 ⟨rfl, hw⟩; obtain rfl := hw.symm)
    | (go_at_call 54; refine (x_take _ ⟨e, j, none⟩ y (hj _ (Q1.out.al2 _ _)) ((Q1.out.al2 _ _).z _) _ _).mono ?_; rintro r w2 ⟨rfl, hw⟩; obtain rfl := hw.symm))
  go_ret
  have := hs _ z (Q1.out.al2 (.cells #[.func (.func g) #[.pointer (some q)] #[], .func (.func 54) #[.pointer (some ⟨e, j, none⟩)] #[]] 106) (.cells #[.int .u64 0, .int .u64 18446744073709551615] 108))
  refine ⟨rfl, ?_, ((Q2.out.alloc _).alloc _).trans (only_e _ _ _ _)⟩
  rw [b_nall y y0 y1, b_or0 z z0 z1]
  exact this
theorem x_Write_l8 (w : World) (e : Nat) (v : EV) (h : Eg w e v) (off size : Int) (o0 : 0 ≤ off) (o1 : off < 18446744073709551616) (hc : cutF off size = (0, 18446744073709551615, true)) (k : Nat) (hk : k < 7) (x : Int) (hx : x = 8 * (k : Int)) (hxo : off - off % 8 = x) (z : Int) (hb : (v.r 3 == 1) = false) (g : FuncId) (p q : Addr) (hR : eR e k = .agg #[.func (.func g) #[.pointer (some q)] #[], .func (.func 57) #[.pointer (some p)] #[]]) :
    Calls Tryz.prog 9 #[.pointer (some ⟨e, 0, none⟩), .int .u64 off, .int .i64 size, .int .u64 z] w fun r w' => r = .returned (.bool true) ∧ Eg w' e v ∧ Only (· = e) w w' := by
  have HE := hid h
  clear h
  have h2 := sx_func Tryz.prog
  go_enter Tryz.func9, Tryz.ntmps9
  go_wp2_with (first
    | (go_at_call 23; refine (x_find _ e v HE.out off size o0 o1 0 18446744073709551615 hc k hk x hx hxo).mono ?_; rw [hR]; rintro r w1 ⟨rfl, q1, q2⟩; have Q1 := hid q1; have Q2 := hid q2; clear q1 q2)
    | (go_at_call 11; refine (x_Busy _ e v (Q1.out.al2 _ _)).mono ?_; rw [hb]; rintro r w2 ⟨rfl, hw⟩; obtain rfl := hw.symm)
    | (go_at_call 57; refine (x_leave _ p _ _).mono ?_; rintro r w2 ⟨rfl, hw⟩; obtain rfl := hw.symm))
  go_ret
  exact ⟨rfl, Q1.out.al2 _ _, (Q2.out.alloc _).alloc _⟩
theorem x_Write_c8f (w : World) (e : Nat) (v : EV) (h : Eg w e v) (off size : Int) (o0 : 0 ≤ off) (o1 : off < 18446744073709551616) (hc : cutF off size = (0, 18446744073709551615, true)) (k : Nat) (hk : k < 7) (x : Int) (hx : x = 8 * (k : Int)) (hxo : off - off % 8 = x) (hr : RB v.r) (z : Int) (z0 : 0 ≤ z) (z1 : z < 18446744073709551616) (hb : (v.r 3 == 1) = false) (g : FuncId) (q : Addr) (hR : eR e k = .agg #[.func (.func g) #[.pointer (some q)] #[], .func (.func 56) #[.pointer (some ⟨e, 0, none⟩)] #[]]) :
    Calls Tryz.prog 9 #[.pointer (some ⟨e, 0, none⟩), .int .u64 off, .int .i64 size, .int .u64 z] w fun r w' => r = .returned (.bool true) ∧ Eg w' e (v.wr (cmE v.r z)) ∧ Only (· = e) w w' := by
  have HE := hid h
  clear h
  have h2 := sx_func Tryz.prog
  have hm : bits .and .u64 (z) 18446744073709551615 = z := by rw [b_all z z0 z1]
  go_enter Tryz.func9, Tryz.ntmps9
  go_wp2_with (first
    | (go_at_call 23; refine (x_find _ e v HE.out off size o0 o1 0 18446744073709551615 hc k hk x hx hxo).mono ?_; rw [hR]; rintro r w1 ⟨rfl, q1, q2⟩; have Q1 := hid q1; have Q2 := hid q2; clear q1 q2)
    | (go_at_call 11; refine (x_Busy _ e v (Q1.out.al2 _ _)).mono ?_; rw [hb]; rintro r w2 ⟨rfl, hw⟩; obtain rfl := hw.symm)
    | (go_at_call 56; refine (x_command _ e v (Q1.out.al2 _ _) hr _ _ (by omega) (by omega)).mono ?_; rintro r w2 ⟨rfl, q3, q4⟩; have Q3 := hid q3; have Q4 := hid q4; clear q3 q4))
  go_ret
  exact ⟨rfl, Q3.out, ((Q2.out.alloc _).alloc _).trans Q4.out⟩
theorem x_Write_c8t (w : World) (e : Nat) (v : EV) (h : Eg w e v) (off size : Int) (o0 : 0 ≤ off) (o1 : off < 18446744073709551616) (hc : cutF off size = (0, 18446744073709551615, true)) (k : Nat) (hk : k < 7) (x : Int) (hx : x = 8 * (k : Int)) (hxo : off - off % 8 = x) (hr : RB v.r) (z : Int) (z0 : 0 ≤ z) (z1 : z < 18446744073709551616) (hb : (v.r 3 == 1) = true) (ho : (off == 24) = true) (g : FuncId) (q : Addr) (hR : eR e k = .agg #[.func (.func g) #[.pointer (some q)] #[], .func (.func 56) #[.pointer (some ⟨e, 0, none⟩)] #[]]) :
    Calls Tryz.prog 9 #[.pointer (some ⟨e, 0, none⟩), .int .u64 off, .int .i64 size, .int .u64 z] w fun r w' => r = .returned (.bool true) ∧ Eg w' e (v.wr (cmE v.r z)) ∧ Only (· = e) w w' := by
  have HE := hid h
  clear h
  have h2 := sx_func Tryz.prog
  have hm : bits .and .u64 (z) 18446744073709551615 = z := by rw [b_all z z0 z1]
  go_enter Tryz.func9, Tryz.ntmps9
  go_wp2_with (first
    | (go_at_call 23; refine (x_find _ e v HE.out off size o0 o1 0 18446744073709551615 hc k hk x hx hxo).mono ?_; rw [hR]; rintro r w1 ⟨rfl, q1, q2⟩; have Q1 := hid q1; have Q2 := hid q2; clear q1 q2)
    | (go_at_call 11; refine (x_Busy _ e v (Q1.out.al2 _ _)).mono ?_; rw [hb]; rintro r w2 ⟨rfl, hw⟩; obtain rfl := hw.symm)
    | (go_at_call 56; refine (x_command _ e v (Q1.out.al2 _ _) hr _ _ (by omega) (by omega)).mono ?_; rintro r w2 ⟨rfl, q3, q4⟩; have Q3 := hid q3; have Q4 := hid q4; clear q3 q4))
  go_ret
  exact ⟨rfl, Q3.out, ((Q2.out.alloc _).alloc _).trans Q4.out⟩
theorem x_Write_b8 (w : World) (e : Nat) (v : EV) (h : Eg w e v) (off size : Int) (o0 : 0 ≤ off) (o1 : off < 18446744073709551616) (hc : cutF off size = (0, 18446744073709551615, true)) (k : Nat) (hk : k < 7) (x : Int) (hx : x = 8 * (k : Int)) (hxo : off - off % 8 = x) (z : Int) (hb : (v.r 3 == 1) = true) (ho : (off == 24) = false) :
    Calls Tryz.prog 9 #[.pointer (some ⟨e, 0, none⟩), .int .u64 off, .int .i64 size, .int .u64 z] w fun r w' => r = .returned (.bool true) ∧ Eg w' e v ∧ Only (· = e) w w' := by
  obtain ⟨f, p, g, q, hR⟩ := eR_form e k
  have HE := hid h
  clear h
  have h2 := sx_func Tryz.prog
  go_enter Tryz.func9, Tryz.ntmps9
  go_wp2_with (first
    | (go_at_call 23; refine (x_find _ e v HE.out off size o0 o1 0 18446744073709551615 hc k hk x hx hxo).mono ?_; rw [hR]; rintro r w1 ⟨rfl, q1, q2⟩; have Q1 := hid q1; have Q2 := hid q2; clear q1 q2)
    | (go_at_call 11; refine (x_Busy _ e v (Q1.out.al2 _ _)).mono ?_; rw [hb]; rintro r w2 ⟨rfl, hw⟩; obtain rfl := hw.symm))
  go_ret
  exact ⟨rfl, Q1.out.al2 _ _, (Q2.out.alloc _).alloc _⟩
theorem x_Write_tl (w : World) (e : Nat) (v : EV) (h : Eg w e v) (off size : Int) (o0 : 0 ≤ off) (o1 : off < 18446744073709551616) (hc : cutF off size = (0, 4294967295, true)) (k : Nat) (hk : k < 7) (x : Int) (hx : x = 8 * (k : Int)) (hxo : off - off % 8 = x) (z : Int) (z0 : 0 ≤ z) (z1 : z < 18446744073709551616) (hb : (v.r 3 == 1) = false) (i j : Nat) (y : Int) (hj : ∀ w', Eg w' e v → w'.cell? ⟨e, j, none⟩ = some (.int .u64 y)) (hs : ∀ w' u, Eg w' e v → Eg (w'.setCell ⟨e, j, none⟩ (.int .u64 u)) e (v.set i u)) (y0 : 0 ≤ y) (y1 : y < 18446744073709551616) (g : FuncId) (q : Addr) (hR : eR e k = .agg #[.func (.func g) #[.pointer (some q)] #[], .func (.func 54) #[.pointer (some ⟨e, j, none⟩)] #[]]) :
    Calls Tryz.prog 9 #[.pointer (some ⟨e, 0, none⟩), .int .u64 off, .int .i64 size, .int .u64 z] w fun r w' => r = .returned (.bool true) ∧ Eg w' e (v.set i (y / 4294967296 * 4294967296 + z % 4294967296)) ∧ Only (· = e) w w' := by
  have HE := hid h
  clear h
  have h2 := sx_func Tryz.prog
  have hm : bits .and .u64 (z) 4294967295 = (z % 4294967296) := by rw [b_lo z z0 z1]
  go_enter Tryz.func9, Tryz.ntmps9
  go_wp2_with (first
    | (go_at_call 23; refine (x_find _ e v HE.out off size o0 o1 0 4294967295 hc k hk x hx hxo).mono ?_; rw [hR]; rintro r w1 ⟨rfl, q1, q2⟩; have Q1 := hid q1; have Q2 := hid q2; clear q1 q2)
    | (go_at_call 11; refine (x_Busy _ e v (Q1.out.al2 _ _)).mono ?_; rw [hb]; rintro r w2 ⟨rfl, hw⟩; obtain rfl := hw.symm)
    | (go_at_call 54; refine (x_take _ ⟨e, j, none⟩ y (hj _ (Q1.out.al2 _ _)) ((Q1.out.al2 _ _).z _) _ _).mono ?_; rintro r w2 ⟨rfl, hw⟩; obtain rfl := hw.symm))
  go_ret
  have := hs _ (y / 4294967296 * 4294967296 + z % 4294967296) (Q1.out.al2 (.cells #[.func (.func g) #[.pointer (some q)] #[], .func (.func 54) #[.pointer (some ⟨e, j, none⟩)] #[]] 106) (.cells #[.int .u64 0, .int .u64 4294967295] 108))
  refine ⟨rfl, ?_, ((Q2.out.alloc _).alloc _).trans (only_e _ _ _ _)⟩
  rw [b_nlo y y0 y1, b_orc _ _ (by omega) (by omega) (by omega) (by omega)]
  exact this
theorem x_Write_ll (w : World) (e : Nat) (v : EV) (h : Eg w e v) (off size : Int) (o0 : 0 ≤ off) (o1 : off < 18446744073709551616) (hc : cutF off size = (0, 4294967295, true)) (k : Nat) (hk : k < 7) (x : Int) (hx : x = 8 * (k : Int)) (hxo : off - off % 8 = x) (z : Int) (hb : (v.r 3 == 1) = false) (g : FuncId) (p q : Addr) (hR : eR e k = .agg #[.func (.func g) #[.pointer (some q)] #[], .func (.func 57) #[.pointer (some p)] #[]]) :
    Calls Tryz.prog 9 #[.pointer (some ⟨e, 0, none⟩), .int .u64 off, .int .i64 size, .int .u64 z] w fun r w' => r = .returned (.bool true) ∧ Eg w' e v ∧ Only (· = e) w w' := by
  have HE := hid h
  clear h
  have h2 := sx_func Tryz.prog
  go_enter Tryz.func9, Tryz.ntmps9
  go_wp2_with (first
    | (go_at_call 23; refine (x_find _ e v HE.out off size o0 o1 0 4294967295 hc k hk x hx hxo).mono ?_; rw [hR]; rintro r w1 ⟨rfl, q1, q2⟩; have Q1 := hid q1; have Q2 := hid q2; clear q1 q2)
    | (go_at_call 11; refine (x_Busy _ e v (Q1.out.al2 _ _)).mono ?_; rw [hb]; rintro r w2 ⟨rfl, hw⟩; obtain rfl := hw.symm)
    | (go_at_call 57; refine (x_leave _ p _ _).mono ?_; rintro r w2 ⟨rfl, hw⟩; obtain rfl := hw.symm))
  go_ret
  exact ⟨rfl, Q1.out.al2 _ _, (Q2.out.alloc _).alloc _⟩
theorem x_Write_clf (w : World) (e : Nat) (v : EV) (h : Eg w e v) (off size : Int) (o0 : 0 ≤ off) (o1 : off < 18446744073709551616) (hc : cutF off size = (0, 4294967295, true)) (k : Nat) (hk : k < 7) (x : Int) (hx : x = 8 * (k : Int)) (hxo : off - off % 8 = x) (hr : RB v.r) (z : Int) (z0 : 0 ≤ z) (z1 : z < 18446744073709551616) (hb : (v.r 3 == 1) = false) (g : FuncId) (q : Addr) (hR : eR e k = .agg #[.func (.func g) #[.pointer (some q)] #[], .func (.func 56) #[.pointer (some ⟨e, 0, none⟩)] #[]]) :
    Calls Tryz.prog 9 #[.pointer (some ⟨e, 0, none⟩), .int .u64 off, .int .i64 size, .int .u64 z] w fun r w' => r = .returned (.bool true) ∧ Eg w' e (v.wr (cmE v.r (z % 4294967296))) ∧ Only (· = e) w w' := by
  have HE := hid h
  clear h
  have h2 := sx_func Tryz.prog
  have hm : bits .and .u64 (z) 4294967295 = (z % 4294967296) := by rw [b_lo z z0 z1]
  go_enter Tryz.func9, Tryz.ntmps9
  go_wp2_with (first
    | (go_at_call 23; refine (x_find _ e v HE.out off size o0 o1 0 4294967295 hc k hk x hx hxo).mono ?_; rw [hR]; rintro r w1 ⟨rfl, q1, q2⟩; have Q1 := hid q1; have Q2 := hid q2; clear q1 q2)
    | (go_at_call 11; refine (x_Busy _ e v (Q1.out.al2 _ _)).mono ?_; rw [hb]; rintro r w2 ⟨rfl, hw⟩; obtain rfl := hw.symm)
    | (go_at_call 56; refine (x_command _ e v (Q1.out.al2 _ _) hr _ _ (by omega) (by omega)).mono ?_; rintro r w2 ⟨rfl, q3, q4⟩; have Q3 := hid q3; have Q4 := hid q4; clear q3 q4))
  go_ret
  exact ⟨rfl, Q3.out, ((Q2.out.alloc _).alloc _).trans Q4.out⟩
theorem x_Write_clt (w : World) (e : Nat) (v : EV) (h : Eg w e v) (off size : Int) (o0 : 0 ≤ off) (o1 : off < 18446744073709551616) (hc : cutF off size = (0, 4294967295, true)) (k : Nat) (hk : k < 7) (x : Int) (hx : x = 8 * (k : Int)) (hxo : off - off % 8 = x) (hr : RB v.r) (z : Int) (z0 : 0 ≤ z) (z1 : z < 18446744073709551616) (hb : (v.r 3 == 1) = true) (ho : (off == 24) = true) (g : FuncId) (q : Addr) (hR : eR e k = .agg #[.func (.func g) #[.pointer (some q)] #[], .func (.func 56) #[.pointer (some ⟨e, 0, none⟩)] #[]]) :
    Calls Tryz.prog 9 #[.pointer (some ⟨e, 0, none⟩), .int .u64 off, .int .i64 size, .int .u64 z] w fun r w' => r = .returned (.bool true) ∧ Eg w' e (v.wr (cmE v.r (z % 4294967296))) ∧ Only (· = e) w w' := by
  have HE := hid h
  clear h
  have h2 := sx_func Tryz.prog
  have hm : bits .and .u64 (z) 4294967295 = (z % 4294967296) := by rw [b_lo z z0 z1]
  go_enter Tryz.func9, Tryz.ntmps9
  go_wp2_with (first
    | (go_at_call 23; refine (x_find _ e v HE.out off size o0 o1 0 4294967295 hc k hk x hx hxo).mono ?_; rw [hR]; rintro r w1 ⟨rfl, q1, q2⟩; have Q1 := hid q1; have Q2 := hid q2; clear q1 q2)
    | (go_at_call 11; refine (x_Busy _ e v (Q1.out.al2 _ _)).mono ?_; rw [hb]; rintro r w2 ⟨rfl, hw⟩; obtain rfl := hw.symm)
    | (go_at_call 56; refine (x_command _ e v (Q1.out.al2 _ _) hr _ _ (by omega) (by omega)).mono ?_; rintro r w2 ⟨rfl, q3, q4⟩; have Q3 := hid q3; have Q4 := hid q4; clear q3 q4))
  go_ret
  exact ⟨rfl, Q3.out, ((Q2.out.alloc _).alloc _).trans Q4.out⟩
theorem x_Write_bl (w : World) (e : Nat) (v : EV) (h : Eg w e v) (off size : Int) (o0 : 0 ≤ off) (o1 : off < 18446744073709551616) (hc : cutF off size = (0, 4294967295, true)) (k : Nat) (hk : k < 7) (x : Int) (hx : x = 8 * (k : Int)) (hxo : off - off % 8 = x) (z : Int) (hb : (v.r 3 == 1) = true) (ho : (off == 24) = false) :
    Calls Tryz.prog 9 #[.pointer (some ⟨e, 0, none⟩), .int .u64 off, .int .i64 size, .int .u64 z] w fun r w' => r = .returned (.bool true) ∧ Eg w' e v ∧ Only (· = e) w w' := by
  obtain ⟨f, p, g, q, hR⟩ := eR_form e k
  have HE := hid h
  clear h
  have h2 := sx_func Tryz.prog
  go_enter Tryz.func9, Tryz.ntmps9
  go_wp2_with (first
    | (go_at_call 23; refine (x_find _ e v HE.out off size o0 o1 0 4294967295 hc k hk x hx hxo).mono ?_; rw [hR]; rintro r w1 ⟨rfl, q1, q2⟩; have Q1 := hid q1; have Q2 := hid q2; clear q1 q2)
    | (go_at_call 11; refine (x_Busy _ e v (Q1.out.al2 _ _)).mono ?_; rw [hb]; rintro r w2 ⟨rfl, hw⟩; obtain rfl := hw.symm))
  go_ret
  exact ⟨rfl, Q1.out.al2 _ _, (Q2.out.alloc _).alloc _⟩
theorem x_Write_th (w : World) (e : Nat) (v : EV) (h : Eg w e v) (off size : Int) (o0 : 0 ≤ off) (o1 : off < 18446744073709551616) (hc : cutF off size = (32, 18446744069414584320, true)) (k : Nat) (hk : k < 7) (x : Int) (hx : x = 8 * (k : Int)) (hxo : off - off % 8 = x) (z : Int) (z0 : 0 ≤ z) (z1 : z < 18446744073709551616) (hb : (v.r 3 == 1) = false) (i j : Nat) (y : Int) (hj : ∀ w', Eg w' e v → w'.cell? ⟨e, j, none⟩ = some (.int .u64 y)) (hs : ∀ w' u, Eg w' e v → Eg (w'.setCell ⟨e, j, none⟩ (.int .u64 u)) e (v.set i u)) (y0 : 0 ≤ y) (y1 : y < 18446744073709551616) (g : FuncId) (q : Addr) (hR : eR e k = .agg #[.func (.func g) #[.pointer (some q)] #[], .func (.func 54) #[.pointer (some ⟨e, j, none⟩)] #[]]) :
    Calls Tryz.prog 9 #[.pointer (some ⟨e, 0, none⟩), .int .u64 off, .int .i64 size, .int .u64 z] w fun r w' => r = .returned (.bool true) ∧ Eg w' e (v.set i (y % 4294967296 + z % 4294967296 * 4294967296)) ∧ Only (· = e) w w' := by
  have HE := hid h
  clear h
  have h2 := sx_func Tryz.prog
  have hm : bits .and .u64 (IntKind.u64.wrap (z * 4294967296)) 18446744069414584320 = (z % 4294967296 * 4294967296) := by rw [IntKind.wrap_u64, b_hi _ (by omega) (by omega), w_shl z z0]
  go_enter Tryz.func9, Tryz.ntmps9
  go_wp2_with (first
    | (go_at_call 23; refine (x_find _ e v HE.out off size o0 o1 32 18446744069414584320 hc k hk x hx hxo).mono ?_; rw [hR]; rintro r w1 ⟨rfl, q1, q2⟩; have Q1 := hid q1; have Q2 := hid q2; clear q1 q2)
    | (go_at_call 11; refine (x_Busy _ e v (Q1.out.al2 _ _)).mono ?_; rw [hb]; rintro r w2 ⟨rfl, hw⟩; obtain rfl := hw.symm)
    | (go_at_call 54; refine (x_take _ ⟨e, j, none⟩ y (hj _ (Q1.out.al2 _ _)) ((Q1.out.al2 _ _).z _) _ _).mono ?_; rintro r w2 ⟨rfl, hw⟩; obtain rfl := hw.symm))
  go_ret
  have := hs _ (y % 4294967296 + z % 4294967296 * 4294967296) (Q1.out.al2 (.cells #[.func (.func g) #[.pointer (some q)] #[], .func (.func 54) #[.pointer (some ⟨e, j, none⟩)] #[]] 106) (.cells #[.int .u64 32, .int .u64 18446744069414584320] 108))
  refine ⟨rfl, ?_, ((Q2.out.alloc _).alloc _).trans (only_e _ _ _ _)⟩
  rw [b_nhi y y0 y1, b_ord _ _ (by omega) (by omega) (by omega) (by omega)]
  exact this
theorem x_Write_lh (w : World) (e : Nat) (v : EV) (h : Eg w e v) (off size : Int) (o0 : 0 ≤ off) (o1 : off < 18446744073709551616) (hc : cutF off size = (32, 18446744069414584320, true)) (k : Nat) (hk : k < 7) (x : Int) (hx : x = 8 * (k : Int)) (hxo : off - off % 8 = x) (z : Int) (hb : (v.r 3 == 1) = false) (g : FuncId) (p q : Addr) (hR : eR e k = .agg #[.func (.func g) #[.pointer (some q)] #[], .func (.func 57) #[.pointer (some p)] #[]]) :
    Calls Tryz.prog 9 #[.pointer (some ⟨e, 0, none⟩), .int .u64 off, .int .i64 size, .int .u64 z] w fun r w' => r = .returned (.bool true) ∧ Eg w' e v ∧ Only (· = e) w w' := by
  have HE := hid h
  clear h
  have h2 := sx_func Tryz.prog
  go_enter Tryz.func9, Tryz.ntmps9
  go_wp2_with (first
    | (go_at_call 23; refine (x_find _ e v HE.out off size o0 o1 32 18446744069414584320 hc k hk x hx hxo).mono ?_; rw [hR]; rintro r w1 ⟨rfl, q1, q2⟩; have Q1 := hid q1; have Q2 := hid q2; clear q1 q2)
    | (go_at_call 11; refine (x_Busy _ e v (Q1.out.al2 _ _)).mono ?_; rw [hb]; rintro r w2 ⟨rfl, hw⟩; obtain rfl := hw.symm)
    | (go_at_call 57; refine (x_leave _ p _ _).mono ?_; rintro r w2 ⟨rfl, hw⟩; obtain rfl := hw.symm))
  go_ret
  exact ⟨rfl, Q1.out.al2 _ _, (Q2.out.alloc _).alloc _⟩
theorem x_Write_chf (w : World) (e : Nat) (v : EV) (h : Eg w e v) (off size : Int) (o0 : 0 ≤ off) (o1 : off < 18446744073709551616) (hc : cutF off size = (32, 18446744069414584320, true)) (k : Nat) (hk : k < 7) (x : Int) (hx : x = 8 * (k : Int)) (hxo : off - off % 8 = x) (hr : RB v.r) (z : Int) (z0 : 0 ≤ z) (z1 : z < 18446744073709551616) (hb : (v.r 3 == 1) = false) (g : FuncId) (q : Addr) (hR : eR e k = .agg #[.func (.func g) #[.pointer (some q)] #[], .func (.func 56) #[.pointer (some ⟨e, 0, none⟩)] #[]]) :
    Calls Tryz.prog 9 #[.pointer (some ⟨e, 0, none⟩), .int .u64 off, .int .i64 size, .int .u64 z] w fun r w' => r = .returned (.bool true) ∧ Eg w' e (v.wr (cmE v.r (z % 4294967296 * 4294967296))) ∧ Only (· = e) w w' := by
  have HE := hid h
  clear h
  have h2 := sx_func Tryz.prog
  have hm : bits .and .u64 (IntKind.u64.wrap (z * 4294967296)) 18446744069414584320 = (z % 4294967296 * 4294967296) := by rw [IntKind.wrap_u64, b_hi _ (by omega) (by omega), w_shl z z0]
  go_enter Tryz.func9, Tryz.ntmps9
  go_wp2_with (first
    | (go_at_call 23; refine (x_find _ e v HE.out off size o0 o1 32 18446744069414584320 hc k hk x hx hxo).mono ?_; rw [hR]; rintro r w1 ⟨rfl, q1, q2⟩; have Q1 := hid q1; have Q2 := hid q2; clear q1 q2)
    | (go_at_call 11; refine (x_Busy _ e v (Q1.out.al2 _ _)).mono ?_; rw [hb]; rintro r w2 ⟨rfl, hw⟩; obtain rfl := hw.symm)
    | (go_at_call 56; refine (x_command _ e v (Q1.out.al2 _ _) hr _ _ (by omega) (by omega)).mono ?_; rintro r w2 ⟨rfl, q3, q4⟩; have Q3 := hid q3; have Q4 := hid q4; clear q3 q4))
  go_ret
  exact ⟨rfl, Q3.out, ((Q2.out.alloc _).alloc _).trans Q4.out⟩
theorem x_Write_bh (w : World) (e : Nat) (v : EV) (h : Eg w e v) (off size : Int) (o0 : 0 ≤ off) (o1 : off < 18446744073709551616) (hc : cutF off size = (32, 18446744069414584320, true)) (k : Nat) (hk : k < 7) (x : Int) (hx : x = 8 * (k : Int)) (hxo : off - off % 8 = x) (z : Int) (hb : (v.r 3 == 1) = true) (ho : (off == 24) = false) :
    Calls Tryz.prog 9 #[.pointer (some ⟨e, 0, none⟩), .int .u64 off, .int .i64 size, .int .u64 z] w fun r w' => r = .returned (.bool true) ∧ Eg w' e v ∧ Only (· = e) w w' := by
  obtain ⟨f, p, g, q, hR⟩ := eR_form e k
  have HE := hid h
  clear h
  have h2 := sx_func Tryz.prog
  go_enter Tryz.func9, Tryz.ntmps9
  go_wp2_with (first
    | (go_at_call 23; refine (x_find _ e v HE.out off size o0 o1 32 18446744069414584320 hc k hk x hx hxo).mono ?_; rw [hR]; rintro r w1 ⟨rfl, q1, q2⟩; have Q1 := hid q1; have Q2 := hid q2; clear q1 q2)
    | (go_at_call 11; refine (x_Busy _ e v (Q1.out.al2 _ _)).mono ?_; rw [hb]; rintro r w2 ⟨rfl, hw⟩; obtain rfl := hw.symm))
  go_ret
  exact ⟨rfl, Q1.out.al2 _ _, (Q2.out.alloc _).alloc _⟩
end Go.Proofs.YtajnjmjogaacpaaGreat
namespace Go.Proofs.YtajnjmjogaacpaaGreat
open Go.RowKit Go.ChangeMaps Go.MapKept
open C (Only hid)
set_option linter.unusedVariables false
set_option maxRecDepth 100000

/-- what a register holds; where it stands among the cells -/
def gE (r : Nat → Int) : Nat → Int
  | 0 => r 0
  | 1 => r 1
  | 2 => r 2
  | 3 => 0
  | 4 => r 3
  | 5 => r 4
  | _ => r 5
def okE (off size : Int) : Bool := (cutF off size).2.2 && decide (off < 56)
def rdE (r : Nat → Int) (off size : Int) : Int := if size = 8 then gE r (off / 8).toNat else if off % 8 = 0 then gE r (off / 8).toNat % 4294967296 else gE r (off / 8).toNat / 4294967296
def vlE (off size z : Int) : Int := if size = 8 then z else if off % 8 = 0 then z % 4294967296 else z % 4294967296 * 4294967296
def mxE (y off size z : Int) : Int := if size = 8 then z else if off % 8 = 0 then y / 4294967296 * 4294967296 + z % 4294967296 else y % 4294967296 + z % 4294967296 * 4294967296
def ptE (r : Nat → Int) (off size z : Int) : Nat → (Nat → Int)
  | 0 => eu r 0 (mxE (r 0) off size z)
  | 1 => eu r 1 (mxE (r 1) off size z)
  | 2 => eu r 2 (mxE (r 2) off size z)
  | 3 => cmE r (vlE off size z)
  | 4 => r
  | 5 => eu r 4 (mxE (r 4) off size z)
  | _ => eu r 5 (mxE (r 5) off size z)
/-- what a write leaves -/
def wrE (r : Nat → Int) (off size z : Int) : Nat → Int := bif r 3 == 1 && !(off == 24) then r else ptE r off size z (off / 8).toNat
theorem mxE_b {y off size z : Int} (y0 : 0 ≤ y) (y1 : y < 18446744073709551616) (z0 : 0 ≤ z) (z1 : z < 18446744073709551616) : 0 ≤ mxE y off size z ∧ mxE y off size z < 18446744073709551616 := by
  unfold mxE; split
  · omega
  · split <;> omega
theorem wrE_b {r : Nat → Int} (h : RB r) {off size z : Int} (z0 : 0 ≤ z) (z1 : z < 18446744073709551616) : RB (wrE r off size z) := by
  have hm : ∀ k, RB (eu r k (mxE (r k) off size z)) := fun k => h.eu k _ (mxE_b (h k).1 (h k).2 z0 z1).1 (mxE_b (h k).1 (h k).2 z0 z1).2
  unfold wrE
  cases (r 3 == 1 && !(off == 24))
  · show RB (ptE r off size z (off / 8).toNat)
    unfold ptE
    split
    · exact hm 0
    · exact hm 1
    · exact hm 2
    · exact cmE_b h _
    · exact h
    · exact hm 4
    · exact hm 5
  · exact h
theorem cut_cases (off size : Int) : (cutF off size = (0, 18446744073709551615, true) ∧ size = 8 ∧ off % 8 = 0) ∨ (cutF off size = (0, 4294967295, true) ∧ size = 4 ∧ off % 8 = 0) ∨ (cutF off size = (32, 18446744069414584320, true) ∧ size = 4 ∧ off % 8 = 4) ∨ cutF off size = (0, 0, false) := by
  unfold cutF
  split
  · rename_i h; exact .inl ⟨rfl, h⟩
  · split
    · rename_i h; exact .inr (.inl ⟨rfl, h⟩)
    · split
      · rename_i h; exact .inr (.inr (.inl ⟨rfl, h⟩))
      · exact .inr (.inr (.inr rfl))
theorem x_Read_bad (w : World) (e : Nat) (off size : Int) (o0 : 0 ≤ off) (o1 : off < 18446744073709551616) (s b : Int) (hc : cutF off size = (s, b, false)) :
    Calls Tryz.prog 10 #[.pointer (some ⟨e, 0, none⟩), .int .u64 off, .int .i64 size] w fun r w' => r = .returned (.tuple #[.int .u64 0, .bool false]) ∧ Below w.heap.size w w' := by
  have h1 := sx_nilFunc Tryz.prog
  go_enter Tryz.func10, Tryz.ntmps10
  go_wp2_with (go_at_call 23; refine (x_find_bad _ e off size o0 o1 s b hc).mono ?_; rintro r w1 ⟨rfl, q1⟩)
  go_ret2
  exact ⟨rfl, (q1.alloc q1.size _).alloc (by have := q1.size; simp; omega) _⟩
theorem x_Read_none (w : World) (e : Nat) (v : EV) (h : Eg w e v) (off size : Int) (o0 : 0 ≤ off) (o1 : off < 18446744073709551616) (s b : Int) (hc : cutF off size = (s, b, true)) (x : Int) (hx : ∀ i : Nat, i < 7 → x ≠ 8 * (i : Int)) (hxo : off - off % 8 = x) :
    Calls Tryz.prog 10 #[.pointer (some ⟨e, 0, none⟩), .int .u64 off, .int .i64 size] w fun r w' => r = .returned (.tuple #[.int .u64 0, .bool false]) ∧ Eg w' e v ∧ Only (· = e) w w' := by
  have h1 := sx_nilFunc Tryz.prog
  have HE := hid h
  have HX := hid hx
  clear h hx
  go_enter Tryz.func10, Tryz.ntmps10
  go_wp2_with (go_at_call 23; refine (x_find_none _ e v HE.out off size o0 o1 s b hc x HX.out hxo).mono ?_; rintro r w1 ⟨rfl, q1, q2⟩; have Q1 := hid q1; have Q2 := hid q2; clear q1 q2)
  go_ret2
  exact ⟨rfl, Q1.out.al2 _ _, (Q2.out.alloc _).alloc _⟩
theorem x_Write_bad (w : World) (e : Nat) (off size z : Int) (o0 : 0 ≤ off) (o1 : off < 18446744073709551616) (s b : Int) (hc : cutF off size = (s, b, false)) :
    Calls Tryz.prog 9 #[.pointer (some ⟨e, 0, none⟩), .int .u64 off, .int .i64 size, .int .u64 z] w fun r w' => r = .returned (.bool false) ∧ Below w.heap.size w w' := by
  have h1 := sx_nilFunc Tryz.prog
  go_enter Tryz.func9, Tryz.ntmps9
  go_wp2_with (go_at_call 23; refine (x_find_bad _ e off size o0 o1 s b hc).mono ?_; rintro r w1 ⟨rfl, q1⟩)
  go_ret
  exact ⟨rfl, (q1.alloc q1.size _).alloc (by have := q1.size; simp; omega) _⟩
theorem x_Write_none (w : World) (e : Nat) (v : EV) (h : Eg w e v) (off size z : Int) (o0 : 0 ≤ off) (o1 : off < 18446744073709551616) (s b : Int) (hc : cutF off size = (s, b, true)) (x : Int) (hx : ∀ i : Nat, i < 7 → x ≠ 8 * (i : Int)) (hxo : off - off % 8 = x) :
    Calls Tryz.prog 9 #[.pointer (some ⟨e, 0, none⟩), .int .u64 off, .int .i64 size, .int .u64 z] w fun r w' => r = .returned (.bool false) ∧ Eg w' e v ∧ Only (· = e) w w' := by
  have h1 := sx_nilFunc Tryz.prog
  have HE := hid h
  have HX := hid hx
  clear h hx
  go_enter Tryz.func9, Tryz.ntmps9
  go_wp2_with (go_at_call 23; refine (x_find_none _ e v HE.out off size o0 o1 s b hc x HX.out hxo).mono ?_; rintro r w1 ⟨rfl, q1, q2⟩; have Q1 := hid q1; have Q2 := hid q2; clear q1 q2)
  go_ret
  exact ⟨rfl, Q1.out.al2 _ _, (Q2.out.alloc _).alloc _⟩
theorem x_Read_p8 (w : World) (e : Nat) (v : EV) (h : Eg w e v) (hr : RB v.r) (off size : Int) (o0 : 0 ≤ off) (o1 : off < 18446744073709551616) (hc : cutF off size = (0, 18446744073709551615, true)) (hs : size = 8 ∧ off % 8 = 0) (k : Nat) (hk : k < 7) (hxo : off - off % 8 = 8 * (k : Int)) :
    Calls Tryz.prog 10 #[.pointer (some ⟨e, 0, none⟩), .int .u64 off, .int .i64 size] w fun r w' => r = .returned (.tuple #[.int .u64 (rdE v.r off size), .bool true]) ∧ Eg w' e v ∧ Only (· = e) w w' := by
  obtain ⟨rfl, hm⟩ := hs
  have hkk : (off / 8).toNat = k := by omega
  unfold rdE
  rw [if_pos rfl, hkk]
  match k, hk with
  | 0, _ => exact x_Read_t8 w e v h off _ o0 o1 hc 0 (by decide) _ rfl hxo 3 (v.r 0) (fun _ h => h.c3) (hr 0).1 (hr 0).2 _ _ rfl
  | 1, _ => exact x_Read_t8 w e v h off _ o0 o1 hc 1 (by decide) _ rfl hxo 4 (v.r 1) (fun _ h => h.c4) (hr 1).1 (hr 1).2 _ _ rfl
  | 2, _ => exact x_Read_t8 w e v h off _ o0 o1 hc 2 (by decide) _ rfl hxo 5 (v.r 2) (fun _ h => h.c5) (hr 2).1 (hr 2).2 _ _ rfl
  | 3, _ => exact x_Read_n8 w e v h off _ o0 o1 hc 3 (by decide) _ rfl hxo _ _ _ rfl
  | 4, _ => exact x_Read_t8 w e v h off _ o0 o1 hc 4 (by decide) _ rfl hxo 6 (v.r 3) (fun _ h => h.c6) (hr 3).1 (hr 3).2 _ _ rfl
  | 5, _ => exact x_Read_t8 w e v h off _ o0 o1 hc 5 (by decide) _ rfl hxo 7 (v.r 4) (fun _ h => h.c7) (hr 4).1 (hr 4).2 _ _ rfl
  | 6, _ => exact x_Read_t8 w e v h off _ o0 o1 hc 6 (by decide) _ rfl hxo 8 (v.r 5) (fun _ h => h.c8) (hr 5).1 (hr 5).2 _ _ rfl
  | n + 7, q => exact absurd q (by omega)
theorem x_Write_p8 (w : World) (e : Nat) (v : EV) (h : Eg w e v) (hr : RB v.r) (off size z : Int) (z0 : 0 ≤ z) (z1 : z < 18446744073709551616) (o0 : 0 ≤ off) (o1 : off < 18446744073709551616) (hc : cutF off size = (0, 18446744073709551615, true)) (hs : size = 8 ∧ off % 8 = 0) (k : Nat) (hk : k < 7) (hxo : off - off % 8 = 8 * (k : Int)) :
    Calls Tryz.prog 9 #[.pointer (some ⟨e, 0, none⟩), .int .u64 off, .int .i64 size, .int .u64 z] w fun r w' => r = .returned (.bool true) ∧ Eg w' e (v.wr (wrE v.r off size z)) ∧ Only (· = e) w w' := by
  obtain ⟨rfl, hm⟩ := hs
  have hkk : (off / 8).toNat = k := by omega
  have hmx : ∀ y, mxE y off 8 z = z := fun y => by unfold mxE; rw [if_pos rfl]
  have hvl : vlE off 8 z = z := by unfold vlE; rw [if_pos rfl]
  unfold wrE
  cases hb : (v.r 3 == 1)
  · rw [hkk]
    show Calls _ _ _ _ fun r w' => r = .returned (.bool true) ∧ Eg w' e (v.wr (ptE v.r off 8 z k)) ∧ Only (· = e) w w'
    match k, hk with
    | 0, _ => rw [show ptE v.r off 8 z 0 = eu v.r 0 (mxE (v.r 0) off 8 z) from rfl, hmx]; exact x_Write_t8 w e v h off _ o0 o1 hc 0 (by decide) _ rfl hxo z z0 z1 hb 0 3 (v.r 0) (fun _ h => h.c3) (fun _ _ h => h.s0 _) (hr 0).1 (hr 0).2 _ _ rfl
    | 1, _ => rw [show ptE v.r off 8 z 1 = eu v.r 1 (mxE (v.r 1) off 8 z) from rfl, hmx]; exact x_Write_t8 w e v h off _ o0 o1 hc 1 (by decide) _ rfl hxo z z0 z1 hb 1 4 (v.r 1) (fun _ h => h.c4) (fun _ _ h => h.s1 _) (hr 1).1 (hr 1).2 _ _ rfl
    | 2, _ => rw [show ptE v.r off 8 z 2 = eu v.r 2 (mxE (v.r 2) off 8 z) from rfl, hmx]; exact x_Write_t8 w e v h off _ o0 o1 hc 2 (by decide) _ rfl hxo z z0 z1 hb 2 5 (v.r 2) (fun _ h => h.c5) (fun _ _ h => h.s2 _) (hr 2).1 (hr 2).2 _ _ rfl
    | 3, _ => unfold ptE; rw [hvl]; exact x_Write_c8f w e v h off _ o0 o1 hc 3 (by decide) _ rfl hxo hr z z0 z1 hb _ _ rfl
    | 4, _ => exact x_Write_l8 w e v h off _ o0 o1 hc 4 (by decide) _ rfl hxo z hb _ _ _ rfl
    | 5, _ => rw [show ptE v.r off 8 z 5 = eu v.r 4 (mxE (v.r 4) off 8 z) from rfl, hmx]; exact x_Write_t8 w e v h off _ o0 o1 hc 5 (by decide) _ rfl hxo z z0 z1 hb 4 7 (v.r 4) (fun _ h => h.c7) (fun _ _ h => h.s4 _) (hr 4).1 (hr 4).2 _ _ rfl
    | 6, _ => rw [show ptE v.r off 8 z 6 = eu v.r 5 (mxE (v.r 5) off 8 z) from rfl, hmx]; exact x_Write_t8 w e v h off _ o0 o1 hc 6 (by decide) _ rfl hxo z z0 z1 hb 5 8 (v.r 5) (fun _ h => h.c8) (fun _ _ h => h.s5 _) (hr 5).1 (hr 5).2 _ _ rfl
    | n + 7, q => exact absurd q (by omega)
  · cases ho : (off == 24)
    · exact x_Write_b8 w e v h off _ o0 o1 hc k hk _ rfl hxo z hb ho
    · obtain rfl : off = 24 := by simpa using ho
      obtain rfl : k = 3 := by omega
      rw [hkk]
      show Calls _ _ _ _ fun r w' => r = .returned (.bool true) ∧ Eg w' e (v.wr (ptE v.r 24 8 z 3)) ∧ Only (· = e) w w'
      unfold ptE; rw [hvl]
      exact x_Write_c8t w e v h 24 _ o0 o1 hc 3 (by decide) _ rfl hxo hr z z0 z1 hb rfl _ _ rfl
theorem x_Read_pl (w : World) (e : Nat) (v : EV) (h : Eg w e v) (hr : RB v.r) (off size : Int) (o0 : 0 ≤ off) (o1 : off < 18446744073709551616) (hc : cutF off size = (0, 4294967295, true)) (hs : size = 4 ∧ off % 8 = 0) (k : Nat) (hk : k < 7) (hxo : off - off % 8 = 8 * (k : Int)) :
    Calls Tryz.prog 10 #[.pointer (some ⟨e, 0, none⟩), .int .u64 off, .int .i64 size] w fun r w' => r = .returned (.tuple #[.int .u64 (rdE v.r off size), .bool true]) ∧ Eg w' e v ∧ Only (· = e) w w' := by
  obtain ⟨rfl, hm⟩ := hs
  have hkk : (off / 8).toNat = k := by omega
  unfold rdE
  rw [if_neg (by decide), if_pos hm, hkk]
  match k, hk with
  | 0, _ => exact x_Read_tl w e v h off _ o0 o1 hc 0 (by decide) _ rfl hxo 3 (v.r 0) (fun _ h => h.c3) (hr 0).1 (hr 0).2 _ _ rfl
  | 1, _ => exact x_Read_tl w e v h off _ o0 o1 hc 1 (by decide) _ rfl hxo 4 (v.r 1) (fun _ h => h.c4) (hr 1).1 (hr 1).2 _ _ rfl
  | 2, _ => exact x_Read_tl w e v h off _ o0 o1 hc 2 (by decide) _ rfl hxo 5 (v.r 2) (fun _ h => h.c5) (hr 2).1 (hr 2).2 _ _ rfl
  | 3, _ => exact x_Read_nl w e v h off _ o0 o1 hc 3 (by decide) _ rfl hxo _ _ _ rfl
  | 4, _ => exact x_Read_tl w e v h off _ o0 o1 hc 4 (by decide) _ rfl hxo 6 (v.r 3) (fun _ h => h.c6) (hr 3).1 (hr 3).2 _ _ rfl
  | 5, _ => exact x_Read_tl w e v h off _ o0 o1 hc 5 (by decide) _ rfl hxo 7 (v.r 4) (fun _ h => h.c7) (hr 4).1 (hr 4).2 _ _ rfl
  | 6, _ => exact x_Read_tl w e v h off _ o0 o1 hc 6 (by decide) _ rfl hxo 8 (v.r 5) (fun _ h => h.c8) (hr 5).1 (hr 5).2 _ _ rfl
  | n + 7, q => exact absurd q (by omega)
theorem x_Write_pl (w : World) (e : Nat) (v : EV) (h : Eg w e v) (hr : RB v.r) (off size z : Int) (z0 : 0 ≤ z) (z1 : z < 18446744073709551616) (o0 : 0 ≤ off) (o1 : off < 18446744073709551616) (hc : cutF off size = (0, 4294967295, true)) (hs : size = 4 ∧ off % 8 = 0) (k : Nat) (hk : k < 7) (hxo : off - off % 8 = 8 * (k : Int)) :
    Calls Tryz.prog 9 #[.pointer (some ⟨e, 0, none⟩), .int .u64 off, .int .i64 size, .int .u64 z] w fun r w' => r = .returned (.bool true) ∧ Eg w' e (v.wr (wrE v.r off size z)) ∧ Only (· = e) w w' := by
  obtain ⟨rfl, hm⟩ := hs
  have hkk : (off / 8).toNat = k := by omega
  have hmx : ∀ y, mxE y off 4 z = y / 4294967296 * 4294967296 + z % 4294967296 := fun y => by unfold mxE; rw [if_neg (by decide), if_pos hm]
  have hvl : vlE off 4 z = z % 4294967296 := by unfold vlE; rw [if_neg (by decide), if_pos hm]
  unfold wrE
  cases hb : (v.r 3 == 1)
  · rw [hkk]
    show Calls _ _ _ _ fun r w' => r = .returned (.bool true) ∧ Eg w' e (v.wr (ptE v.r off 4 z k)) ∧ Only (· = e) w w'
    match k, hk with
    | 0, _ => rw [show ptE v.r off 4 z 0 = eu v.r 0 (mxE (v.r 0) off 4 z) from rfl, hmx]; exact x_Write_tl w e v h off _ o0 o1 hc 0 (by decide) _ rfl hxo z z0 z1 hb 0 3 (v.r 0) (fun _ h => h.c3) (fun _ _ h => h.s0 _) (hr 0).1 (hr 0).2 _ _ rfl
    | 1, _ => rw [show ptE v.r off 4 z 1 = eu v.r 1 (mxE (v.r 1) off 4 z) from rfl, hmx]; exact x_Write_tl w e v h off _ o0 o1 hc 1 (by decide) _ rfl hxo z z0 z1 hb 1 4 (v.r 1) (fun _ h => h.c4) (fun _ _ h => h.s1 _) (hr 1).1 (hr 1).2 _ _ rfl
    | 2, _ => rw [show ptE v.r off 4 z 2 = eu v.r 2 (mxE (v.r 2) off 4 z) from rfl, hmx]; exact x_Write_tl w e v h off _ o0 o1 hc 2 (by decide) _ rfl hxo z z0 z1 hb 2 5 (v.r 2) (fun _ h => h.c5) (fun _ _ h => h.s2 _) (hr 2).1 (hr 2).2 _ _ rfl
    | 3, _ => unfold ptE; rw [hvl]; exact x_Write_clf w e v h off _ o0 o1 hc 3 (by decide) _ rfl hxo hr z z0 z1 hb _ _ rfl
    | 4, _ => exact x_Write_ll w e v h off _ o0 o1 hc 4 (by decide) _ rfl hxo z hb _ _ _ rfl
    | 5, _ => rw [show ptE v.r off 4 z 5 = eu v.r 4 (mxE (v.r 4) off 4 z) from rfl, hmx]; exact x_Write_tl w e v h off _ o0 o1 hc 5 (by decide) _ rfl hxo z z0 z1 hb 4 7 (v.r 4) (fun _ h => h.c7) (fun _ _ h => h.s4 _) (hr 4).1 (hr 4).2 _ _ rfl
    | 6, _ => rw [show ptE v.r off 4 z 6 = eu v.r 5 (mxE (v.r 5) off 4 z) from rfl, hmx]; exact x_Write_tl w e v h off _ o0 o1 hc 6 (by decide) _ rfl hxo z z0 z1 hb 5 8 (v.r 5) (fun _ h => h.c8) (fun _ _ h => h.s5 _) (hr 5).1 (hr 5).2 _ _ rfl
    | n + 7, q => exact absurd q (by omega)
  · cases ho : (off == 24)
    · exact x_Write_bl w e v h off _ o0 o1 hc k hk _ rfl hxo z hb ho
    · obtain rfl : off = 24 := by simpa using ho
      obtain rfl : k = 3 := by omega
      rw [hkk]
      show Calls _ _ _ _ fun r w' => r = .returned (.bool true) ∧ Eg w' e (v.wr (ptE v.r 24 4 z 3)) ∧ Only (· = e) w w'
      unfold ptE; rw [hvl]
      exact x_Write_clt w e v h 24 _ o0 o1 hc 3 (by decide) _ rfl hxo hr z z0 z1 hb rfl _ _ rfl
theorem x_Read_ph (w : World) (e : Nat) (v : EV) (h : Eg w e v) (hr : RB v.r) (off size : Int) (o0 : 0 ≤ off) (o1 : off < 18446744073709551616) (hc : cutF off size = (32, 18446744069414584320, true)) (hs : size = 4 ∧ off % 8 = 4) (k : Nat) (hk : k < 7) (hxo : off - off % 8 = 8 * (k : Int)) :
    Calls Tryz.prog 10 #[.pointer (some ⟨e, 0, none⟩), .int .u64 off, .int .i64 size] w fun r w' => r = .returned (.tuple #[.int .u64 (rdE v.r off size), .bool true]) ∧ Eg w' e v ∧ Only (· = e) w w' := by
  obtain ⟨rfl, hm⟩ := hs
  have hkk : (off / 8).toNat = k := by omega
  unfold rdE
  rw [if_neg (by decide), if_neg (by rw [hm]; decide), hkk]
  match k, hk with
  | 0, _ => exact x_Read_th w e v h off _ o0 o1 hc 0 (by decide) _ rfl hxo 3 (v.r 0) (fun _ h => h.c3) (hr 0).1 (hr 0).2 _ _ rfl
  | 1, _ => exact x_Read_th w e v h off _ o0 o1 hc 1 (by decide) _ rfl hxo 4 (v.r 1) (fun _ h => h.c4) (hr 1).1 (hr 1).2 _ _ rfl
  | 2, _ => exact x_Read_th w e v h off _ o0 o1 hc 2 (by decide) _ rfl hxo 5 (v.r 2) (fun _ h => h.c5) (hr 2).1 (hr 2).2 _ _ rfl
  | 3, _ => exact x_Read_nh w e v h off _ o0 o1 hc 3 (by decide) _ rfl hxo _ _ _ rfl
  | 4, _ => exact x_Read_th w e v h off _ o0 o1 hc 4 (by decide) _ rfl hxo 6 (v.r 3) (fun _ h => h.c6) (hr 3).1 (hr 3).2 _ _ rfl
  | 5, _ => exact x_Read_th w e v h off _ o0 o1 hc 5 (by decide) _ rfl hxo 7 (v.r 4) (fun _ h => h.c7) (hr 4).1 (hr 4).2 _ _ rfl
  | 6, _ => exact x_Read_th w e v h off _ o0 o1 hc 6 (by decide) _ rfl hxo 8 (v.r 5) (fun _ h => h.c8) (hr 5).1 (hr 5).2 _ _ rfl
  | n + 7, q => exact absurd q (by omega)
theorem x_Write_ph (w : World) (e : Nat) (v : EV) (h : Eg w e v) (hr : RB v.r) (off size z : Int) (z0 : 0 ≤ z) (z1 : z < 18446744073709551616) (o0 : 0 ≤ off) (o1 : off < 18446744073709551616) (hc : cutF off size = (32, 18446744069414584320, true)) (hs : size = 4 ∧ off % 8 = 4) (k : Nat) (hk : k < 7) (hxo : off - off % 8 = 8 * (k : Int)) :
    Calls Tryz.prog 9 #[.pointer (some ⟨e, 0, none⟩), .int .u64 off, .int .i64 size, .int .u64 z] w fun r w' => r = .returned (.bool true) ∧ Eg w' e (v.wr (wrE v.r off size z)) ∧ Only (· = e) w w' := by
  obtain ⟨rfl, hm⟩ := hs
  have hkk : (off / 8).toNat = k := by omega
  have hmx : ∀ y, mxE y off 4 z = y % 4294967296 + z % 4294967296 * 4294967296 := fun y => by unfold mxE; rw [if_neg (by decide), if_neg (by rw [hm]; decide)]
  have hvl : vlE off 4 z = z % 4294967296 * 4294967296 := by unfold vlE; rw [if_neg (by decide), if_neg (by rw [hm]; decide)]
  unfold wrE
  cases hb : (v.r 3 == 1)
  · rw [hkk]
    show Calls _ _ _ _ fun r w' => r = .returned (.bool true) ∧ Eg w' e (v.wr (ptE v.r off 4 z k)) ∧ Only (· = e) w w'
    match k, hk with
    | 0, _ => rw [show ptE v.r off 4 z 0 = eu v.r 0 (mxE (v.r 0) off 4 z) from rfl, hmx]; exact x_Write_th w e v h off _ o0 o1 hc 0 (by decide) _ rfl hxo z z0 z1 hb 0 3 (v.r 0) (fun _ h => h.c3) (fun _ _ h => h.s0 _) (hr 0).1 (hr 0).2 _ _ rfl
    | 1, _ => rw [show ptE v.r off 4 z 1 = eu v.r 1 (mxE (v.r 1) off 4 z) from rfl, hmx]; exact x_Write_th w e v h off _ o0 o1 hc 1 (by decide) _ rfl hxo z z0 z1 hb 1 4 (v.r 1) (fun _ h => h.c4) (fun _ _ h => h.s1 _) (hr 1).1 (hr 1).2 _ _ rfl
    | 2, _ => rw [show ptE v.r off 4 z 2 = eu v.r 2 (mxE (v.r 2) off 4 z) from rfl, hmx]; exact x_Write_th w e v h off _ o0 o1 hc 2 (by decide) _ rfl hxo z z0 z1 hb 2 5 (v.r 2) (fun _ h => h.c5) (fun _ _ h => h.s2 _) (hr 2).1 (hr 2).2 _ _ rfl
    | 3, _ => unfold ptE; rw [hvl]; exact x_Write_chf w e v h off _ o0 o1 hc 3 (by decide) _ rfl hxo hr z z0 z1 hb _ _ rfl
    | 4, _ => exact x_Write_lh w e v h off _ o0 o1 hc 4 (by decide) _ rfl hxo z hb _ _ _ rfl
    | 5, _ => rw [show ptE v.r off 4 z 5 = eu v.r 4 (mxE (v.r 4) off 4 z) from rfl, hmx]; exact x_Write_th w e v h off _ o0 o1 hc 5 (by decide) _ rfl hxo z z0 z1 hb 4 7 (v.r 4) (fun _ h => h.c7) (fun _ _ h => h.s4 _) (hr 4).1 (hr 4).2 _ _ rfl
    | 6, _ => rw [show ptE v.r off 4 z 6 = eu v.r 5 (mxE (v.r 5) off 4 z) from rfl, hmx]; exact x_Write_th w e v h off _ o0 o1 hc 6 (by decide) _ rfl hxo z z0 z1 hb 5 8 (v.r 5) (fun _ h => h.c8) (fun _ _ h => h.s5 _) (hr 5).1 (hr 5).2 _ _ rfl
    | n + 7, q => exact absurd q (by omega)
  · cases ho : (off == 24)
    · exact x_Write_bh w e v h off _ o0 o1 hc k hk _ rfl hxo z hb ho
    · obtain rfl : off = 24 := by simpa using ho
      omega
/-- a register is read -/
theorem x_Read (w : World) (e : Nat) (v : EV) (h : Eg w e v) (hr : RB v.r) (off size : Int) (o0 : 0 ≤ off) (o1 : off < 18446744073709551616) :
    Calls Tryz.prog 10 #[.pointer (some ⟨e, 0, none⟩), .int .u64 off, .int .i64 size] w fun r w' => r = .returned (.tuple #[.int .u64 (bif okE off size then rdE v.r off size else 0), .bool (okE off size)]) ∧ Eg w' e v ∧ Only (· = e) w w' := by
  have hn : ∀ s b, cutF off size = (s, b, true) → ¬ off < 56 → Calls Tryz.prog 10 #[.pointer (some ⟨e, 0, none⟩), .int .u64 off, .int .i64 size] w fun r w' => r = .returned (.tuple #[.int .u64 (bif okE off size then rdE v.r off size else 0), .bool (okE off size)]) ∧ Eg w' e v ∧ Only (· = e) w w' := fun s b hc hl => by
    have : okE off size = false := by unfold okE; rw [hc]; simpa using hl
    rw [this]
    exact x_Read_none w e v h off size o0 o1 s b hc _ (fun i hi => by omega) rfl
  have hok : ∀ s b, cutF off size = (s, b, true) → off < 56 → okE off size = true := fun s b hc hl => by unfold okE; rw [hc]; simpa using hl
  rcases cut_cases off size with ⟨hc, hs⟩ | ⟨hc, hs⟩ | ⟨hc, hs⟩ | hc
  · by_cases hl : off < 56
    · rw [hok _ _ hc hl]; exact x_Read_p8 w e v h hr off size o0 o1 hc hs (off / 8).toNat (by omega) (by omega)
    · exact hn _ _ hc hl
  · by_cases hl : off < 56
    · rw [hok _ _ hc hl]; exact x_Read_pl w e v h hr off size o0 o1 hc hs (off / 8).toNat (by omega) (by omega)
    · exact hn _ _ hc hl
  · by_cases hl : off < 56
    · rw [hok _ _ hc hl]; exact x_Read_ph w e v h hr off size o0 o1 hc hs (off / 8).toNat (by omega) (by omega)
    · exact hn _ _ hc hl
  · have : okE off size = false := by unfold okE; rw [hc]; rfl
    rw [this]
    refine (x_Read_bad w e off size o0 o1 _ _ hc).mono ?_
    rintro r w' ⟨rfl, hb⟩
    exact ⟨rfl, h.below hb, .ofBelow hb⟩
/-- a register is written -/
theorem x_Write (w : World) (e : Nat) (v : EV) (h : Eg w e v) (hr : RB v.r) (off size z : Int) (z0 : 0 ≤ z) (z1 : z < 18446744073709551616) (o0 : 0 ≤ off) (o1 : off < 18446744073709551616) :
    Calls Tryz.prog 9 #[.pointer (some ⟨e, 0, none⟩), .int .u64 off, .int .i64 size, .int .u64 z] w fun r w' => r = .returned (.bool (okE off size)) ∧ Eg w' e (v.wr (bif okE off size then wrE v.r off size z else v.r)) ∧ Only (· = e) w w' := by
  have hn : ∀ s b, cutF off size = (s, b, true) → ¬ off < 56 → Calls Tryz.prog 9 #[.pointer (some ⟨e, 0, none⟩), .int .u64 off, .int .i64 size, .int .u64 z] w fun r w' => r = .returned (.bool (okE off size)) ∧ Eg w' e (v.wr (bif okE off size then wrE v.r off size z else v.r)) ∧ Only (· = e) w w' := fun s b hc hl => by
    have : okE off size = false := by unfold okE; rw [hc]; simpa using hl
    rw [this]
    exact x_Write_none w e v h off size z o0 o1 s b hc _ (fun i hi => by omega) rfl
  have hok : ∀ s b, cutF off size = (s, b, true) → off < 56 → okE off size = true := fun s b hc hl => by unfold okE; rw [hc]; simpa using hl
  rcases cut_cases off size with ⟨hc, hs⟩ | ⟨hc, hs⟩ | ⟨hc, hs⟩ | hc
  · by_cases hl : off < 56
    · rw [hok _ _ hc hl]; exact x_Write_p8 w e v h hr off size z z0 z1 o0 o1 hc hs (off / 8).toNat (by omega) (by omega)
    · exact hn _ _ hc hl
  · by_cases hl : off < 56
    · rw [hok _ _ hc hl]; exact x_Write_pl w e v h hr off size z z0 z1 o0 o1 hc hs (off / 8).toNat (by omega) (by omega)
    · exact hn _ _ hc hl
  · by_cases hl : off < 56
    · rw [hok _ _ hc hl]; exact x_Write_ph w e v h hr off size z z0 z1 o0 o1 hc hs (off / 8).toNat (by omega) (by omega)
    · exact hn _ _ hc hl
  · have : okE off size = false := by unfold okE; rw [hc]; rfl
    rw [this]
    refine (x_Write_bad w e off size z o0 o1 _ _ hc).mono ?_
    rintro r w' ⟨rfl, hb⟩
    exact ⟨rfl, h.below hb, .ofBelow hb⟩
end Go.Proofs.YtajnjmjogaacpaaGreat
