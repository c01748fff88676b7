/- The plain arithmetic of walks through tables. Nothing here speaks of the program. -/
import Derived.Test.YtlfdokkopgmfjaaGreatDoorMC1
import Derived.Laws.Bits64b
import Derived.Deep.QuietTactic
import Derived.BigQuiet
namespace Go.Proofs.YtlfdokkopgmfjaaGreatDoor.C
open Go.RowKit
set_option linter.unusedVariables false
set_option maxRecDepth 100000
/-- the low byte of an entry -/
def lo (e : Int) : Nat := (e % 256).toNat
theorem lo_lt (e : Int) : lo e < 256 := by unfold lo; omega
theorem land_low (n m : Nat) (hm : m < 256) : n &&& m = n % 256 &&& m := by
  apply Nat.eq_of_testBit_eq
  intro i
  simp only [Nat.testBit_and]
  rcases Nat.lt_or_ge i 8 with h | h
  · rw [show (256 : Nat) = 2 ^ 8 from rfl, Nat.testBit_mod_two_pow]; simp [h]
  · have : m.testBit i = false := Nat.testBit_lt_two_pow (Nat.lt_of_lt_of_le hm (show 256 ≤ 2 ^ i from Nat.pow_le_pow_right (n := 2) (by decide) h))
    simp [this]
theorem and_lo (e : Int) (h0 : 0 ≤ e) (h1 : e < 18446744073709551616) (m : Nat) (hm : m < 256) : bits .and .u64 e (m : Int) = ((lo e &&& m : Nat) : Int) := by
  obtain ⟨n, rfl⟩ := Int.eq_ofNat_of_zero_le h0
  rw [bits_and_u64_nat _ _ (by omega) (by omega), land_low n m hm]
  have : lo (n : Int) = n % 256 := by unfold lo; omega
  rw [this]
/-- all of these bits are 1 -/
def hs (e : Int) (m : Nat) : Bool := decide (lo e &&& m = m)
def wr (e : Int) : Bool := !hs e 1 || (hs e 4 && !hs e 2) || decide (18014398509481984 ≤ e)
def lf (e : Int) : Bool := decide (lo e &&& 10 ≠ 0)
def pm (e : Int) : Int := if hs e 128 = true then ((lo e &&& 14 : Nat) : Int) else ((lo e &&& 10 : Nat) : Int)
def num (e : Int) : Int := e / 1024
def pw (k : Nat) : Int := 512 ^ k
theorem pw0 : pw 0 = 1 := rfl
theorem pw1 : pw 1 = 512 := rfl
theorem pw2 : pw 2 = 262144 := rfl
/-- where the entry lies -/
def atF (addr : Int) (k : Nat) (t : Int) : Int := t * 4096 + addr / 4096 / pw k % 512 * 8
theorem atF_b (addr : Int) (k : Nat) (t : Int) (t0 : 0 ≤ t) (t1 : t ≤ 4503599627370495) : 0 ≤ atF addr k t ∧ atF addr k t < 18446744073709551616 := by unfold atF; omega
theorem wr_lt {e : Int} (h : wr e = false) : e < 18014398509481984 := by
  have := h
  simp [wr] at this
  omega
structure DR where
  fault : Int
  table : Int
  level : Nat
  leaf : Int
/-- what a walk comes to, from a table of a level on -/
def D (R : Int → Int × Int) (addr wrong : Int) : Nat → Int → DR
  | 0, t => if 4503599627370495 < t then ⟨3, t, 0, 0⟩ else if (R (atF addr 0 t)).2 ≠ 0 then ⟨(R (atF addr 0 t)).2, t, 0, 0⟩ else if wr (R (atF addr 0 t)).1 = true then ⟨wrong, t, 0, 0⟩ else
      if lf (R (atF addr 0 t)).1 = true then (if num (R (atF addr 0 t)).1 % pw 0 ≠ 0 then ⟨wrong, t, 0, 0⟩ else ⟨0, t, 0, (R (atF addr 0 t)).1⟩) else ⟨wrong, t, 0, 0⟩
  | k + 1, t => if 4503599627370495 < t then ⟨3, t, k + 1, 0⟩ else if (R (atF addr (k + 1) t)).2 ≠ 0 then ⟨(R (atF addr (k + 1) t)).2, t, k + 1, 0⟩ else if wr (R (atF addr (k + 1) t)).1 = true then ⟨wrong, t, k + 1, 0⟩ else
      if lf (R (atF addr (k + 1) t)).1 = true then (if num (R (atF addr (k + 1) t)).1 % pw (k + 1) ≠ 0 then ⟨wrong, t, k + 1, 0⟩ else ⟨0, t, k + 1, (R (atF addr (k + 1) t)).1⟩) else D R addr wrong k (num (R (atF addr (k + 1) t)).1)
theorem D_high {R : Int → Int × Int} {addr wrong : Int} {k : Nat} {t : Int} (h : 4503599627370495 < t) : D R addr wrong k t = ⟨3, t, k, 0⟩ := by
  cases k <;> (unfold D; rw [if_pos h])
theorem D_fault {R : Int → Int × Int} {addr wrong : Int} {k : Nat} {t : Int} (h : t ≤ 4503599627370495) (h1 : (R (atF addr k t)).2 ≠ 0) : D R addr wrong k t = ⟨(R (atF addr k t)).2, t, k, 0⟩ := by
  cases k <;> (unfold D; rw [if_neg (Int.not_lt.2 h), if_pos h1])
theorem D_wrong {R : Int → Int × Int} {addr wrong : Int} {k : Nat} {t : Int} (h : t ≤ 4503599627370495) (h1 : (R (atF addr k t)).2 = 0) (h2 : wr (R (atF addr k t)).1 = true) : D R addr wrong k t = ⟨wrong, t, k, 0⟩ := by
  cases k <;> (unfold D; rw [if_neg (Int.not_lt.2 h), if_neg (by rw [h1]; decide), if_pos h2])
theorem D_mis {R : Int → Int × Int} {addr wrong : Int} {k : Nat} {t : Int} (h : t ≤ 4503599627370495) (h1 : (R (atF addr k t)).2 = 0) (h2 : wr (R (atF addr k t)).1 = false) (h3 : lf (R (atF addr k t)).1 = true) (h4 : num (R (atF addr k t)).1 % pw k ≠ 0) : D R addr wrong k t = ⟨wrong, t, k, 0⟩ := by
  cases k <;> (unfold D; rw [if_neg (Int.not_lt.2 h), if_neg (by rw [h1]; decide), if_neg (by rw [h2]; decide), if_pos h3, if_pos h4])
theorem D_leaf {R : Int → Int × Int} {addr wrong : Int} {k : Nat} {t : Int} (h : t ≤ 4503599627370495) (h1 : (R (atF addr k t)).2 = 0) (h2 : wr (R (atF addr k t)).1 = false) (h3 : lf (R (atF addr k t)).1 = true) (h4 : num (R (atF addr k t)).1 % pw k = 0) : D R addr wrong k t = ⟨0, t, k, (R (atF addr k t)).1⟩ := by
  cases k <;> (unfold D; rw [if_neg (Int.not_lt.2 h), if_neg (by rw [h1]; decide), if_neg (by rw [h2]; decide), if_pos h3, if_neg (by rw [h4]; decide)])
theorem D_end {R : Int → Int × Int} {addr wrong : Int} {t : Int} (h : t ≤ 4503599627370495) (h1 : (R (atF addr 0 t)).2 = 0) (h2 : wr (R (atF addr 0 t)).1 = false) (h3 : lf (R (atF addr 0 t)).1 = false) : D R addr wrong 0 t = ⟨wrong, t, 0, 0⟩ := by
  unfold D; rw [if_neg (Int.not_lt.2 h), if_neg (by rw [h1]; decide), if_neg (by rw [h2]; decide), if_neg (by rw [h3]; decide)]
theorem D_next {R : Int → Int × Int} {addr wrong : Int} {k : Nat} {t : Int} (h : t ≤ 4503599627370495) (h1 : (R (atF addr (k + 1) t)).2 = 0) (h2 : wr (R (atF addr (k + 1) t)).1 = false) (h3 : lf (R (atF addr (k + 1) t)).1 = false) : D R addr wrong (k + 1) t = D R addr wrong k (num (R (atF addr (k + 1) t)).1) := by
  rw [D, if_neg (Int.not_lt.2 h), if_neg (by rw [h1]; decide), if_neg (by rw [h2]; decide), if_neg (by rw [h3]; decide)]
/-- the access that a leaf of the second stage allows -/
def al (e acc : Int) : Bool := hs e 80 && (if acc = 1 then hs e 8 else if acc = 2 then hs e 2 else if acc = 3 then hs e 132 else false)
/-- where an address comes to -/
def plc (r : DR) (addr : Int) : Int := (num r.leaf + addr / 4096 % pw r.level) * 4096 + addr % 4096
/-- the second stage -/
def gst (R : Int → Int × Int) (root gpa acc : Int) : Int × Int × Int :=
  if root = 0 then (gpa, 14, 0) else if 549755813888 ≤ gpa then (0, 0, 2) else
  if (D R gpa 2 2 root).fault ≠ 0 then (0, 0, (D R gpa 2 2 root).fault) else
  if al (D R gpa 2 2 root).leaf acc = true then (plc (D R gpa 2 2 root) gpa, pm (D R gpa 2 2 root).leaf, 0) else (0, 0, 2)
/-- entries as they are read in a memory of n frames from 0 on -/
def rdm (bs : Int) (n : Nat) (f : Nat → Int) (a : Int) : Int × Int := if bs ≤ a ∧ a + 8 ≤ bs + 4096 * n then (nu (fun j => f ((a - bs).toNat + j)) 8, 0) else (0, 3)
/-- entries as the first stage reads them -/
def rdg (R : Int → Int × Int) (root a : Int) : Int × Int := if (gst R root a 2).2.2 ≠ 0 then (0, (gst R root a 2).2.2) else R (gst R root a 2).1
structure EnvV where
  satp : Int
  root : Int
  user : Bool
  sum : Bool
  mxr : Bool
/-- what a leaf of the first stage allows -/
def bel (e : Int) (v : EnvV) (acc : Int) : Bool := if v.user = true then hs e 16 else !hs e 16 || (v.sum && decide (acc ≠ 1))
def alf (e : Int) (v : EnvV) (acc : Int) : Bool := if acc = 1 then hs e 8 else if acc = 2 then hs e 2 || (v.mxr && hs e 8) else if acc = 3 then hs e 132 else false
def fa (e : Int) (v : EnvV) (acc : Int) : Bool := hs e 64 && bel e v acc && alf e v acc
def ext (va : Int) : Bool := decide (va < 274877906944 ∨ 18446743798831644672 ≤ va)
structure PlV where
  pa : Int
  gpa : Int
  fault : Int
  walk : Bool
def plOf (R : Int → Int × Int) (root gpa acc : Int) : PlV := ⟨(gst R root gpa acc).1, gpa, (gst R root gpa acc).2.2, false⟩
def thr (R : Int → Int × Int) (v : EnvV) (va acc : Int) : PlV :=
  if ext va = false then ⟨0, 0, 1, false⟩ else
  if (D (rdg R v.root) va 1 2 (v.satp % 17592186044416)).fault = 1 then ⟨0, 0, 1, false⟩ else
  if (D (rdg R v.root) va 1 2 (v.satp % 17592186044416)).fault ≠ 0 then ⟨0, atF va (D (rdg R v.root) va 1 2 (v.satp % 17592186044416)).level (D (rdg R v.root) va 1 2 (v.satp % 17592186044416)).table, (D (rdg R v.root) va 1 2 (v.satp % 17592186044416)).fault, true⟩ else
  if fa (D (rdg R v.root) va 1 2 (v.satp % 17592186044416)).leaf v acc = true then plOf R v.root (plc (D (rdg R v.root) va 1 2 (v.satp % 17592186044416)) va) acc else ⟨0, 0, 1, false⟩
def tr (R : Int → Int × Int) (v : EnvV) (va acc : Int) : PlV :=
  if v.satp / 1152921504606846976 = 0 then plOf R v.root va acc else if v.satp / 1152921504606846976 = 8 then thr R v va acc else ⟨0, 0, 1, false⟩
end Go.Proofs.YtlfdokkopgmfjaaGreatDoor.C
namespace Go.Proofs.YtlfdokkopgmfjaaGreatDoor.C
open Go.RowKit
set_option linter.unusedVariables false
set_option maxRecDepth 100000
theorem c_has (e : Int) (h0 : 0 ≤ e) (h1 : e < 18446744073709551616) (m : Nat) (mi : Int) (hm : m < 256) (hmi : mi = m) (w : World) :
    Calls Tryz.prog 178 #[.int .u64 e, .int .u64 mi] w fun r w' => r = .returned (.bool (hs e m)) ∧ w' = w := by
  subst hmi
  have ha := and_lo e h0 h1 m hm
  go_enter Tryz.func178, Tryz.ntmps178
  go_wp2
  go_ret
  refine ⟨ret_bool ?_, rfl⟩
  rw [Bool.eq_iff_iff]; simp [hs]; omega
theorem c_has1 (e : Int) (h0 : 0 ≤ e) (h1 : e < 18446744073709551616) (b : Bool) (hb : hs e 1 = b) (w : World) :
    Calls Tryz.prog 178 #[.int .u64 e, .int .u64 1] w fun r w' => r = .returned (.bool b) ∧ w' = w := by
  subst hb; exact c_has e h0 h1 1 _ (by decide) rfl w
theorem c_has2 (e : Int) (h0 : 0 ≤ e) (h1 : e < 18446744073709551616) (b : Bool) (hb : hs e 2 = b) (w : World) :
    Calls Tryz.prog 178 #[.int .u64 e, .int .u64 2] w fun r w' => r = .returned (.bool b) ∧ w' = w := by
  subst hb; exact c_has e h0 h1 2 _ (by decide) rfl w
theorem c_has4 (e : Int) (h0 : 0 ≤ e) (h1 : e < 18446744073709551616) (b : Bool) (hb : hs e 4 = b) (w : World) :
    Calls Tryz.prog 178 #[.int .u64 e, .int .u64 4] w fun r w' => r = .returned (.bool b) ∧ w' = w := by
  subst hb; exact c_has e h0 h1 4 _ (by decide) rfl w
theorem c_has8 (e : Int) (h0 : 0 ≤ e) (h1 : e < 18446744073709551616) (b : Bool) (hb : hs e 8 = b) (w : World) :
    Calls Tryz.prog 178 #[.int .u64 e, .int .u64 8] w fun r w' => r = .returned (.bool b) ∧ w' = w := by
  subst hb; exact c_has e h0 h1 8 _ (by decide) rfl w
theorem c_has16 (e : Int) (h0 : 0 ≤ e) (h1 : e < 18446744073709551616) (b : Bool) (hb : hs e 16 = b) (w : World) :
    Calls Tryz.prog 178 #[.int .u64 e, .int .u64 16] w fun r w' => r = .returned (.bool b) ∧ w' = w := by
  subst hb; exact c_has e h0 h1 16 _ (by decide) rfl w
theorem c_has64 (e : Int) (h0 : 0 ≤ e) (h1 : e < 18446744073709551616) (b : Bool) (hb : hs e 64 = b) (w : World) :
    Calls Tryz.prog 178 #[.int .u64 e, .int .u64 64] w fun r w' => r = .returned (.bool b) ∧ w' = w := by
  subst hb; exact c_has e h0 h1 64 _ (by decide) rfl w
theorem c_has80 (e : Int) (h0 : 0 ≤ e) (h1 : e < 18446744073709551616) (b : Bool) (hb : hs e 80 = b) (w : World) :
    Calls Tryz.prog 178 #[.int .u64 e, .int .u64 80] w fun r w' => r = .returned (.bool b) ∧ w' = w := by
  subst hb; exact c_has e h0 h1 80 _ (by decide) rfl w
theorem c_has128 (e : Int) (h0 : 0 ≤ e) (h1 : e < 18446744073709551616) (b : Bool) (hb : hs e 128 = b) (w : World) :
    Calls Tryz.prog 178 #[.int .u64 e, .int .u64 128] w fun r w' => r = .returned (.bool b) ∧ w' = w := by
  subst hb; exact c_has e h0 h1 128 _ (by decide) rfl w
theorem c_has132 (e : Int) (h0 : 0 ≤ e) (h1 : e < 18446744073709551616) (b : Bool) (hb : hs e 132 = b) (w : World) :
    Calls Tryz.prog 178 #[.int .u64 e, .int .u64 132] w fun r w' => r = .returned (.bool b) ∧ w' = w := by
  subst hb; exact c_has e h0 h1 132 _ (by decide) rfl w
theorem c_num (e : Int) (h0 : 0 ≤ e) (h1 : e < 18446744073709551616) (w : World) :
    Calls Tryz.prog 181 #[.int .u64 e] w fun r w' => r = .returned (.int .u64 (num e)) ∧ w' = w := by
  go_enter Tryz.func181, Tryz.ntmps181
  go_wp2
  go_ret
  exact ⟨rfl, rfl⟩
theorem c_isLeaf (e : Int) (h0 : 0 ≤ e) (h1 : e < 18446744073709551616) (w : World) :
    Calls Tryz.prog 199 #[.int .u64 e] w fun r w' => r = .returned (.bool (lf e)) ∧ w' = w := by
  have ha : bits .and .u64 e 10 = _ := and_lo e h0 h1 10 (by decide)
  go_enter Tryz.func199, Tryz.ntmps199
  go_wp2
  go_ret
  refine ⟨ret_bool ?_, rfl⟩
  rw [Bool.eq_iff_iff]; simp [lf]
theorem c_perm (e : Int) (h0 : 0 ≤ e) (h1 : e < 18446744073709551616) (w : World) :
    Calls Tryz.prog 116 #[.int .u64 e] w fun r w' => r = .returned (.int .i64 (pm e)) ∧ w' = w := by
  have ha : bits .and .u64 e 10 = _ := and_lo e h0 h1 10 (by decide)
  have hb : bits .and .u64 e 14 = _ := and_lo e h0 h1 14 (by decide)
  have hl : lo e &&& 10 ≤ 10 := Nat.and_le_right
  have hl2 : lo e &&& 14 ≤ 14 := Nat.and_le_right
  go_enter Tryz.func116, Tryz.ntmps116
  cases hd : hs e 128
  · go_wp2_with (go_at_call 178; refine (c_has128 e h0 h1 _ hd _).mono ?_; rintro r w2 ⟨rfl, rfl⟩)
    go_ret
    refine ⟨ret_int ?_, rfl⟩
    unfold pm; rw [hd]; simp only [Bool.false_eq_true, if_false]
  · go_wp2_with (go_at_call 178; refine (c_has128 e h0 h1 _ hd _).mono ?_; rintro r w2 ⟨rfl, rfl⟩)
    go_ret
    refine ⟨ret_int ?_, rfl⟩
    unfold pm; rw [hd]; simp only [if_true]
theorem c_isWrong (e : Int) (h0 : 0 ≤ e) (h1 : e < 18446744073709551616) (w : World) :
    Calls Tryz.prog 198 #[.int .u64 e] w fun r w' => r = .returned (.bool (wr e)) ∧ w' = w := by
  go_enter Tryz.func198, Tryz.ntmps198
  cases b1 : hs e 1
  · go_wp2_with (first
      | (go_at_call 178; (with_reducible refine (c_has1 e h0 h1 _ b1 _).mono ?_); rintro r w2 ⟨rfl, rfl⟩))
    go_ret
    exact ⟨ret_bool (by simp [wr, b1]), rfl⟩
  · cases b4 : hs e 4
    · go_wp2_with (first
        | (go_at_call 178; (with_reducible refine (c_has1 e h0 h1 _ b1 _).mono ?_); rintro r w2 ⟨rfl, rfl⟩)
        | (go_at_call 178; (with_reducible refine (c_has4 e h0 h1 _ b4 _).mono ?_); rintro r w2 ⟨rfl, rfl⟩))
      go_ret
      exact ⟨ret_bool (by rw [Bool.eq_iff_iff]; simp [wr, b1, b4]; omega), rfl⟩
    · cases b2 : hs e 2
      · go_wp2_with (first
          | (go_at_call 178; (with_reducible refine (c_has1 e h0 h1 _ b1 _).mono ?_); rintro r w2 ⟨rfl, rfl⟩)
          | (go_at_call 178; (with_reducible refine (c_has4 e h0 h1 _ b4 _).mono ?_); rintro r w2 ⟨rfl, rfl⟩)
          | (go_at_call 178; (with_reducible refine (c_has2 e h0 h1 _ b2 _).mono ?_); rintro r w2 ⟨rfl, rfl⟩))
        go_ret
        exact ⟨ret_bool (by simp [wr, b1, b4, b2]), rfl⟩
      · go_wp2_with (first
          | (go_at_call 178; (with_reducible refine (c_has1 e h0 h1 _ b1 _).mono ?_); rintro r w2 ⟨rfl, rfl⟩)
          | (go_at_call 178; (with_reducible refine (c_has4 e h0 h1 _ b4 _).mono ?_); rintro r w2 ⟨rfl, rfl⟩)
          | (go_at_call 178; (with_reducible refine (c_has2 e h0 h1 _ b2 _).mono ?_); rintro r w2 ⟨rfl, rfl⟩))
        go_ret
        exact ⟨ret_bool (by rw [Bool.eq_iff_iff]; simp [wr, b1, b4, b2]; omega), rfl⟩
end Go.Proofs.YtlfdokkopgmfjaaGreatDoor.C
namespace Go.Proofs.YtlfdokkopgmfjaaGreatDoor.C
open Go.RowKit
set_option linter.unusedVariables false
set_option maxRecDepth 100000
theorem tmod_place (z n : Int) (hn : 0 < n) : (z.tmod n < 0 → z.tmod n + n = z % n) ∧ (¬ z.tmod n < 0 → z.tmod n = z % n) := by
  have h0 := Int.emod_nonneg z (by omega : n ≠ 0)
  have h1 := Int.emod_lt_of_pos z hn
  rw [Int.tmod_eq_emod]
  split
  · omega
  · have : ((n.natAbs : Nat) : Int) = n := by omega
    constructor
    · intro _; omega
    · intro q; exfalso; omega
theorem c_Place (z n : Int) (n0 : 0 < n) (n1 : n ≤ 4611686018427387904) (z0 : -9223372036854775808 ≤ z) (z1 : z ≤ 9223372036854775807) (w : World) :
    Calls Tryz.prog 10 #[.int .i64 z, .int .i64 n] w fun e w' => e = .returned (.int .i64 (z % n)) ∧ w' = w := by
  obtain ⟨ht, hf⟩ := tmod_place z n n0
  have HT := hid (ht)
  have HF := hid (hf)
  have hlo := Int.lt_tmod_of_pos z n0
  have hhi := Int.tmod_lt_of_pos z n0
  clear ht hf
  have hnz : n ≠ 0 := by omega
  have hnm : n ≠ -1 := by omega
  go_enter Tryz.func10, Tryz.ntmps10
  by_cases q : z.tmod n < 0
  · go_wp2
    go_ret
    exact ⟨ret_int (HT.out q), rfl⟩
  · go_wp2
    go_ret
    exact ⟨ret_int (HF.out q), rfl⟩
/-- a slice of bytes as it stands: n of them, f 0 and so on -/
def Sl (w : World) (v : Value) (n : Nat) (f : Nat → Int) : Prop := ∃ ad cap, v = .slice ad n cap ∧ n ≤ cap ∧ ∃ a : Addr, 0 < n → ad = some a ∧ a.block < w.heap.size ∧ ∀ j, j < n → w.cell? (a.add j) = some (.int .u8 (f j))
theorem add_block (a : Addr) (j : Nat) : (a.add j).block = a.block := by unfold Addr.add; split <;> rfl
theorem Sl.row {w : World} {b n : Nat} {f : Nat → Int} {t : TypeId} (h : w.heap[b]? = some (.cells (row f 0 n).toArray t (0, 0))) : Sl w (.slice (some ⟨b, 0, none⟩) n n) n f :=
  ⟨_, n, rfl, Nat.le_refl _, ⟨b, 0, none⟩, fun _ => ⟨rfl, lt_of_block h, fun j hj => by rw [addr_add, Nat.zero_add, row_cell h j hj, Nat.zero_add]⟩⟩
theorem c_SameBytes (w : World) (n : Nat) (hn : n ≤ 9223372036854775807) (u v : Value) (f g : Nat → Int) (hu : Sl w u n f) (hv : Sl w v n g) (hfg : ∀ j, j < n → f j = g j) :
    Calls Tryz.prog 21 #[u, v] w fun e w' => e = .returned (.bool true) ∧ Still w w' := by
  obtain ⟨ad, cap, rfl, hc, a, hh⟩ := hu
  obtain ⟨ad', cap', rfl, hc', a', hh'⟩ := hv
  have H1 := hid (hh)
  have H2 := hid (hh')
  have H3 := hid (hfg)
  clear hh hh' hfg
  go_enter Tryz.func21, Tryz.ntmps21
  go_wp2
  go_loopw [5] (fun i wr => ∃ k : Nat, k ≤ n ∧ i = .int .i64 k ∧ Still w wr) (fun i _ => n - (intOf i).toNat)
  case atStart => exact ⟨0, by omega, rfl, .refl w⟩
  case round =>
    obtain ⟨k, hk, rfl, hst⟩ := hrel
    by_cases hlt : k < n
    · obtain ⟨rfl, _, c1⟩ := H1.out (by omega)
      obtain ⟨rfl, _, c2⟩ := H2.out (by omega)
      have k1 : wr.cell? (a.add k) = some (.int .u8 (g k)) := by rw [hst.cell, c1 k hlt, H3.out k hlt]
      have k2 : wr.cell? (a'.add k) = some (.int .u8 (g k)) := by rw [hst.cell, c2 k hlt]
      have HS := hid (hst)
      clear c1 c2 hst
      go_wp2
      go_region
      go_wp2
      go_roundw
      case rel => exact ⟨k + 1, by omega, by go_num, HS.out.drew⟩
      case measure => simp [intOf]; omega
    · obtain rfl : k = n := by omega
      go_wp2
      go_ret
      exact ⟨rfl, hst⟩
end Go.Proofs.YtlfdokkopgmfjaaGreatDoor.C
namespace Go.Proofs.YtlfdokkopgmfjaaGreatDoor.C
open Go.RowKit
set_option linter.unusedVariables false
set_option maxRecDepth 100000
theorem c_Read_bad (w : World) (S : Nat → Prop) (p : Nat) (base : Int) (n : Nat) (f : Nat → Int) (h : Mem w S p base n f) (addr size : Int) (a0 : 0 ≤ addr) (a1 : addr < 18446744073709551616) (s0 : -9223372036854775808 ≤ size) (s1 : size ≤ 9223372036854775807) (hb : hasB base n addr size = false) :
    Calls Tryz.prog 54 #[.pointer (some ⟨p, 0, none⟩), .int .u64 addr, .int .i64 size] w fun e w' => e = .returned (.tuple #[.int .u64 0, .bool false]) ∧ Still w w' := by
  obtain ⟨g, hs, hr, rfl, hS⟩ := h
  go_enter Tryz.func54, Tryz.ntmps54
  cases hwd : decide (size = 1 ∨ size = 2 ∨ size = 4 ∨ size = 8) with
  | false =>
    go_wp2_with (first
      | (go_at_call 68; refine (c_isWidth _ w).mono ?_; rintro e w1 ⟨rfl, hw1⟩; obtain rfl := hw1.symm; rw [hwd]))
    go_ret2
    exact ⟨rfl, .refl w⟩
  | true =>
    go_wp2_with (first
      | (go_at_call 68; refine (c_isWidth _ w).mono ?_; rintro e w1 ⟨rfl, hw1⟩; obtain rfl := hw1.symm; rw [hwd])
      | (go_at_call 40; refine (c_Has w p g base hs f hr _ _ a0 a1 s0 s1).mono ?_; rintro e w1 ⟨rfl, hst⟩; rw [hb]))
    go_ret2
    exact ⟨rfl, hst⟩
end Go.Proofs.YtlfdokkopgmfjaaGreatDoor.C
namespace Go.Proofs.YtlfdokkopgmfjaaGreatDoor.C
open Go.RowKit
set_option linter.unusedVariables false
set_option maxRecDepth 100000
/-- a walk, as it stands: its six cells, and what stands behind them -/
def wkL (p : Nat) (addr table level wrong leaf : Int) (tail : List Value) : List Value :=
  .pointer (some ⟨p, 0, none⟩) :: .int .u64 addr :: .int .u64 table :: .int .i64 level :: .int .i64 wrong :: .int .u64 leaf :: tail
def WK (w : World) (b : Nat) (ty : TypeId) (tail : List Value) (p : Nat) (addr table level wrong leaf : Int) : Prop :=
  w.heap[b]? = some (.cells (wkL p addr table level wrong leaf tail).toArray ty (0, 0))
section
variable {w : World} {b : Nat} {ty : TypeId} {tail : List Value} {p : Nat} {addr table level wrong leaf : Int}
theorem WK.c0 (h : WK w b ty tail p addr table level wrong leaf) : w.cell? ⟨b, 0, none⟩ = some (.pointer (some ⟨p, 0, none⟩)) := by rw [cell_of_row w b 0 _ _ _ h]; rfl
theorem WK.c1 (h : WK w b ty tail p addr table level wrong leaf) : w.cell? ⟨b, 1, none⟩ = some (.int .u64 addr) := by rw [cell_of_row w b 1 _ _ _ h]; rfl
theorem WK.c2 (h : WK w b ty tail p addr table level wrong leaf) : w.cell? ⟨b, 2, none⟩ = some (.int .u64 table) := by rw [cell_of_row w b 2 _ _ _ h]; rfl
theorem WK.c3 (h : WK w b ty tail p addr table level wrong leaf) : w.cell? ⟨b, 3, none⟩ = some (.int .i64 level) := by rw [cell_of_row w b 3 _ _ _ h]; rfl
theorem WK.c4 (h : WK w b ty tail p addr table level wrong leaf) : w.cell? ⟨b, 4, none⟩ = some (.int .i64 wrong) := by rw [cell_of_row w b 4 _ _ _ h]; rfl
theorem WK.c5 (h : WK w b ty tail p addr table level wrong leaf) : w.cell? ⟨b, 5, none⟩ = some (.int .u64 leaf) := by rw [cell_of_row w b 5 _ _ _ h]; rfl
theorem WK.fz (h : WK w b ty tail p addr table level wrong leaf) (j : Nat) : w.frozen? ⟨b, j, none⟩ = false := frozen_of_row w b j _ _ h
theorem WK.s2 (h : WK w b ty tail p addr table level wrong leaf) (x : Int) : WK (w.setCell ⟨b, 2, none⟩ (.int .u64 x)) b ty tail p addr x level wrong leaf := by
  unfold WK; rw [heap_setCell_same _ _ 2 _ _ _ h]; simp [wkL]
theorem WK.s3 (h : WK w b ty tail p addr table level wrong leaf) (x : Int) : WK (w.setCell ⟨b, 3, none⟩ (.int .i64 x)) b ty tail p addr table x wrong leaf := by
  unfold WK; rw [heap_setCell_same _ _ 3 _ _ _ h]; simp [wkL]
theorem WK.s5 (h : WK w b ty tail p addr table level wrong leaf) (x : Int) : WK (w.setCell ⟨b, 5, none⟩ (.int .u64 x)) b ty tail p addr table level wrong x := by
  unfold WK; rw [heap_setCell_same _ _ 5 _ _ _ h]; simp [wkL]
theorem WK.below {w' : World} (h : WK w b ty tail p addr table level wrong leaf) (hb : Below w.heap.size w w') : WK w' b ty tail p addr table level wrong leaf := (hb.block b (lt_of_block h)).trans h
theorem WK.drewN (h : WK w b ty tail p addr table level wrong leaf) (m : Nat) : WK (w.drewN m) b ty tail p addr table level wrong leaf := h
end
theorem c_at (w : World) (b : Nat) (ty : TypeId) (tail : List Value) (p : Nat) (addr table wrong leaf : Int) (k : Nat) (hk : k ≤ 2) (a0 : 0 ≤ addr) (a1 : addr < 18446744073709551616) (t0 : 0 ≤ table) (t1 : table ≤ 4503599627370495)
    (h : WK w b ty tail p addr table k wrong leaf) :
    Calls Tryz.prog 113 #[.pointer (some ⟨b, 0, none⟩)] w fun r w' => r = .returned (.int .u64 (atF addr k table)) ∧ ∃ m, w' = w.drewN m := by
  have c1 := h.c1
  have c2 := h.c2
  have c3 := h.c3
  clear h
  go_enter Tryz.func113, Tryz.ntmps113
  rcases (show k = 0 ∨ k = 1 ∨ k = 2 by omega) with rfl | rfl | rfl
  · go_wp2
    go_quiet (fail)
    go_wp2
    go_ret
    refine ⟨ret_int ?_, _, rfl⟩
    unfold atF; rw [pw0]; omega
  · go_wp2
    go_quiet (fail)
    go_wp2
    go_ret
    refine ⟨ret_int ?_, _, rfl⟩
    unfold atF; rw [pw1]
  · go_wp2
    go_quiet (fail)
    go_wp2
    go_ret
    refine ⟨ret_int ?_, _, rfl⟩
    unfold atF; rw [pw2]
theorem c_pages (w : World) (b : Nat) (ty : TypeId) (tail : List Value) (p : Nat) (addr table wrong leaf : Int) (k : Nat) (hk : k ≤ 2)
    (h : WK w b ty tail p addr table k wrong leaf) (pk : Int) (hpk : pw k = pk) :
    Calls Tryz.prog 182 #[.pointer (some ⟨b, 0, none⟩)] w fun r w' => r = .returned (.int .u64 pk) ∧ w' = w := by
  have c3 := h.c3
  clear h
  subst hpk
  go_enter Tryz.func182, Tryz.ntmps182
  rcases (show k = 0 ∨ k = 1 ∨ k = 2 by omega) with rfl | rfl | rfl
  · go_wp2
    go_ret
    exact ⟨rfl, rfl⟩
  · go_wp2
    go_ret
    exact ⟨rfl, rfl⟩
  · go_wp2
    go_ret
    exact ⟨rfl, rfl⟩
theorem c_Read8 (w : World) (S : Nat → Prop) (p n : Nat) {bs : Int} (f : Nat → Int) (h : Mem w S p bs n f) (a : Int) (a0 : 0 ≤ a) (a1 : a < 18446744073709551616) (v : Int) (ok : Bool) (hv : (rdm bs n f a).1 = v) (ho : decide ((rdm bs n f a).2 = 0) = ok) :
    Calls Tryz.prog 54 #[.pointer (some ⟨p, 0, none⟩), .int .u64 a, .int .i64 8] w fun e w' => e = .returned (.tuple #[.int .u64 v, .bool ok]) ∧ Below w.heap.size w w' := by
  subst hv ho
  by_cases q : bs ≤ a ∧ a + 8 ≤ bs + 4096 * n
  · have hr : rdm bs n f a = (nu (fun j => f ((a - bs).toNat + j)) 8, 0) := by unfold rdm; rw [if_pos q]
    rw [hr]
    exact c_Read w S p bs n f h (a - bs).toNat 8 (by omega) (by decide) a (by omega)
  · have hr : rdm bs n f a = (0, 3) := by unfold rdm; rw [if_neg q]
    rw [hr]
    exact (c_Read_bad w S p bs n f h a 8 a0 a1 (by decide) (by decide) (by simp [hasB]; omega)).mono fun e w' hh => ⟨hh.1, hh.2.below _⟩
theorem c_loadW (w : World) (b : Nat) (ty : TypeId) (tail : List Value) (p : Nat) (addr table level wrong leaf : Int) (h : WK w b ty tail p addr table level wrong leaf)
    (S : Nat → Prop) (n : Nat) {bs : Int} (f : Nat → Int) (hm : Mem w S p bs n f) (a : Int) (a0 : 0 ≤ a) (a1 : a < 18446744073709551616) :
    Calls Tryz.prog 183 #[.pointer (some ⟨b, 0, none⟩), .int .u64 a] w fun e w' => e = .returned (.tuple #[.int .u64 (rdm bs n f a).1, .int .i64 (rdm bs n f a).2]) ∧ Below w.heap.size w w' := by
  have c0 := h.c0
  have HM := hid hm
  clear h hm
  go_enter Tryz.func183, Tryz.ntmps183
  by_cases q : bs ≤ a ∧ a + 8 ≤ bs + 4096 * n
  · have hr : rdm bs n f a = (nu (fun j => f ((a - bs).toNat + j)) 8, 0) := by unfold rdm; rw [if_pos q]
    go_wp2_with (go_at_call 54; refine (c_Read8 w S p n f HM.out a a0 a1 (rdm bs n f a).1 true rfl (by rw [hr]; rfl)).mono ?_; rintro e w1 ⟨rfl, hb⟩; have HB := hid hb; clear hb)
    go_ret2
    rw [hr]
    exact ⟨rfl, HB.out⟩
  · have hr : rdm bs n f a = (0, 3) := by unfold rdm; rw [if_neg q]
    go_wp2_with (go_at_call 54; refine (c_Read8 w S p n f HM.out a a0 a1 (rdm bs n f a).1 false rfl (by rw [hr]; rfl)).mono ?_; rintro e w1 ⟨rfl, hb⟩; have HB := hid hb; clear hb)
    go_ret2
    rw [hr]
    exact ⟨rfl, HB.out⟩
theorem c_stop (w : World) (b : Nat) (ty : TypeId) (tail : List Value) (p : Nat) (addr table wrong leaf : Int) (k : Nat) (hk : k ≤ 2) (h : WK w b ty tail p addr table k wrong leaf) (e : Int) (h0 : 0 ≤ e) (h1 : e < 18446744073709551616) (hz : num e % pw k = 0) :
    Calls Tryz.prog 200 #[.pointer (some ⟨b, 0, none⟩), .int .u64 e] w fun r w' => r = .returned (.int .i64 0) ∧ WK w' b ty tail p addr table k wrong e ∧ Only (· = b) w w' := by
  have c5 := h.c5
  have z5 := h.fz 5
  have HW := hid h
  clear h
  go_enter Tryz.func200, Tryz.ntmps200
  rcases (show k = 0 ∨ k = 1 ∨ k = 2 by omega) with rfl | rfl | rfl
  · rw [pw0] at hz
    go_wp2_with (first
      | (go_at_call 181; refine (c_num e h0 h1 _).mono ?_; rintro r w2 ⟨rfl, rfl⟩)
      | (go_at_call 182; refine (c_pages _ b ty tail p addr table wrong leaf 0 hk HW.out _ pw0).mono ?_; rintro r w2 ⟨rfl, rfl⟩))
    go_ret
    exact ⟨rfl, HW.out.s5 _, (Only.refl (S := (· = b)) _).setCell (.inl rfl) _⟩
  · rw [pw1] at hz
    have hn : 0 ≤ num e := by unfold num; omega
    go_wp2_with (first
      | (go_at_call 181; refine (c_num e h0 h1 _).mono ?_; rintro r w2 ⟨rfl, rfl⟩)
      | (go_at_call 182; refine (c_pages _ b ty tail p addr table wrong leaf 1 hk HW.out _ pw1).mono ?_; rintro r w2 ⟨rfl, rfl⟩))
    go_ret
    exact ⟨rfl, HW.out.s5 _, (Only.refl (S := (· = b)) _).setCell (.inl rfl) _⟩
  · rw [pw2] at hz
    have hn : 0 ≤ num e := by unfold num; omega
    go_wp2_with (first
      | (go_at_call 181; refine (c_num e h0 h1 _).mono ?_; rintro r w2 ⟨rfl, rfl⟩)
      | (go_at_call 182; refine (c_pages _ b ty tail p addr table wrong leaf 2 hk HW.out _ pw2).mono ?_; rintro r w2 ⟨rfl, rfl⟩))
    go_ret
    exact ⟨rfl, HW.out.s5 _, (Only.refl (S := (· = b)) _).setCell (.inl rfl) _⟩
theorem c_stop_bad (w : World) (b : Nat) (ty : TypeId) (tail : List Value) (p : Nat) (addr table wrong leaf : Int) (k : Nat) (hk : k ≤ 2) (h : WK w b ty tail p addr table k wrong leaf) (e : Int) (h0 : 0 ≤ e) (h1 : e < 18446744073709551616) (hz : num e % pw k ≠ 0) :
    Calls Tryz.prog 200 #[.pointer (some ⟨b, 0, none⟩), .int .u64 e] w fun r w' => r = .returned (.int .i64 wrong) ∧ w' = w := by
  have c4 := h.c4
  have HW := hid h
  clear h
  go_enter Tryz.func200, Tryz.ntmps200
  rcases (show k = 0 ∨ k = 1 ∨ k = 2 by omega) with rfl | rfl | rfl
  · rw [pw0] at hz; omega
  · rw [pw1] at hz
    have hn : 0 ≤ num e := by unfold num; omega
    go_wp2_with (first
      | (go_at_call 181; refine (c_num e h0 h1 _).mono ?_; rintro r w2 ⟨rfl, rfl⟩)
      | (go_at_call 182; refine (c_pages _ b ty tail p addr table wrong leaf 1 hk HW.out _ pw1).mono ?_; rintro r w2 ⟨rfl, rfl⟩))
    go_ret
    exact ⟨rfl, rfl⟩
  · rw [pw2] at hz
    have hn : 0 ≤ num e := by unfold num; omega
    go_wp2_with (first
      | (go_at_call 181; refine (c_num e h0 h1 _).mono ?_; rintro r w2 ⟨rfl, rfl⟩)
      | (go_at_call 182; refine (c_pages _ b ty tail p addr table wrong leaf 2 hk HW.out _ pw2).mono ?_; rintro r w2 ⟨rfl, rfl⟩))
    go_ret
    exact ⟨rfl, rfl⟩
/-- what stop says, and the leaf that it keeps -/
def stF (k : Nat) (e wrong : Int) : Int := if num e % pw k ≠ 0 then wrong else 0
def stL (k : Nat) (e : Int) : Int := if num e % pw k ≠ 0 then 0 else e
theorem c_stopC (w : World) (b : Nat) (ty : TypeId) (tail : List Value) (p : Nat) (addr table wrong : Int) (k : Nat) (hk : k ≤ 2) (h : WK w b ty tail p addr table k wrong 0) (e : Int) (h0 : 0 ≤ e) (h1 : e < 18446744073709551616) :
    Calls Tryz.prog 200 #[.pointer (some ⟨b, 0, none⟩), .int .u64 e] w fun r w' => r = .returned (.int .i64 (stF k e wrong)) ∧ WK w' b ty tail p addr table k wrong (stL k e) ∧ Only (· = b) w w' := by
  by_cases hz : num e % pw k = 0
  · have q := c_stop w b ty tail p addr table wrong 0 k hk h e h0 h1 hz
    unfold stF stL; rw [if_neg (by rw [hz]; decide), if_neg (by rw [hz]; decide)]; exact q
  · unfold stF stL; rw [if_pos hz, if_pos hz]
    exact (c_stop_bad w b ty tail p addr table wrong 0 k hk h e h0 h1 hz).mono fun r w' q => ⟨q.1, by rw [q.2]; exact h, by rw [q.2]; exact .refl w⟩
theorem num_b {e : Int} (h0 : 0 ≤ e) (h1 : e < 18014398509481984) : 0 ≤ num e ∧ num e < 17592186044416 := by unfold num; omega
theorem c_place4 (w : World) (b : Nat) (ty : TypeId) (tail : List Value) (p : Nat) (addr table wrong leaf : Int) (k : Nat) (hk : k ≤ 2) (h : WK w b ty tail p addr table k wrong leaf) (h0 : 0 ≤ leaf) (h1 : leaf < 18014398509481984) (a0 : 0 ≤ addr) (a1 : addr < 18446744073709551616) :
    Calls Tryz.prog 112 #[.pointer (some ⟨b, 0, none⟩)] w fun r w' => r = .returned (.int .u64 ((num leaf + addr / 4096 % pw k) * 4096 + addr % 4096)) ∧ ∃ m, w' = w.drewN m := by
  have c1 := h.c1
  have c5 := h.c5
  have HW := hid h
  obtain ⟨n0, n1⟩ := num_b h0 h1
  clear h
  go_enter Tryz.func112, Tryz.ntmps112
  rcases (show k = 0 ∨ k = 1 ∨ k = 2 by omega) with rfl | rfl | rfl
  · rw [pw0]
    go_wp2_with fail
    go_quiet (first
      | (go_at_call 181; exact Calls.quiet_of_same (c_num leaf h0 (by omega) _))
      | (go_at_call 182; exact Calls.quiet_of_same (c_pages _ b ty tail p addr table wrong leaf 0 hk (HW.out.drewN _) _ pw0)))
    go_wp2
    go_ret
    refine ⟨ret_int ?_, _, rfl⟩
    omega
  · rw [pw1]
    go_wp2_with fail
    go_quiet (first
      | (go_at_call 181; exact Calls.quiet_of_same (c_num leaf h0 (by omega) _))
      | (go_at_call 182; exact Calls.quiet_of_same (c_pages _ b ty tail p addr table wrong leaf 1 hk (HW.out.drewN _) _ pw1)))
    go_wp2
    go_ret
    refine ⟨ret_int ?_, _, rfl⟩
    omega
  · rw [pw2]
    go_wp2_with fail
    go_quiet (first
      | (go_at_call 181; exact Calls.quiet_of_same (c_num leaf h0 (by omega) _))
      | (go_at_call 182; exact Calls.quiet_of_same (c_pages _ b ty tail p addr table wrong leaf 2 hk (HW.out.drewN _) _ pw2)))
    go_wp2
    go_ret
    refine ⟨ret_int ?_, _, rfl⟩
    omega
end Go.Proofs.YtlfdokkopgmfjaaGreatDoor.C
