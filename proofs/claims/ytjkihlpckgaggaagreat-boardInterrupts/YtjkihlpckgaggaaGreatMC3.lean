/- Same: a memory and the reference's hold the same bytes. -/
import Derived.Test.YtjkihlpckgaggaaGreatMC2
import Derived.Test.YtjkihlpckgaggaaGreatMC1
import Derived.Laws.Bits64b
import Derived.Deep.QuietTactic
import Derived.BigQuiet
namespace Go.Proofs.YtjkihlpckgaggaaGreat.C
open Go.RowKit
set_option linter.unusedVariables false
set_option maxRecDepth 100000

theorem put1_b {B : Nat → Int} (hB : ∀ j, 0 ≤ B j ∧ B j < 256) (k : Nat) (x : Int) (hx : 0 ≤ x ∧ x < 256) (j : Nat) : 0 ≤ put B k 1 (fun _ => x) j ∧ put B k 1 (fun _ => x) j < 256 := by
  unfold put
  split
  · exact hx
  · exact hB j
/-- a call of a function of three arguments, as one step of a region that draws its order; its guard, if it has one, says yes -/
theorem step_call3 {P : Program} {ops : Array Oper} {o : Oper} {a : Act} {w : World} {K : Act → World → Prop} {Q : Exit → Act → World → Prop} {E : Prop} (hw : Region.wanted o (yielded ops a.tmps) = true) (f : FuncId) (x y z : Operand) (ts : Array TypeId)
    (ho : o.op = .call { callee := .value (.func f), args := #[x, y, z], argTypes := ts }) (vx vy vz : Value) (hx : a.eval x = vx) (hy : a.eval y = vy) (hz : a.eval z = vz) (hnf : (callFunc f #[vx, vy, vz]).run P w = .ok (.enter f #[vx, vy, vz]) w) {R : Ending → World → Prop} (hc : Calls P f #[vx, vy, vz] w R)
    (h : ∀ e w', R e w' → ∃ v, e = .returned v ∧ K (a.put o.dst v) w') :
    if Region.wanted o (yielded ops a.tmps) = true then Oper.wp P o a w K Q else E := by
  rw [if_pos hw]
  have he : (execOp a.eval o).run P w = .ok (.enter f #[vx, vy, vz]) w := by
    have hf : a.eval (.func f) = .func (.func f) #[] #[] := rfl
    simp [execOp, ho, resolve, invoke, Deferred.ofValue, hf, hx, hy, hz, hnf]
  unfold Oper.wp
  rw [he, Oper.upon_enter]
  refine hc.mono fun e w' hR => ?_
  obtain ⟨v, rfl, hk⟩ := h e w' hR
  exact hk
end Go.Proofs.YtjkihlpckgaggaaGreat.C
namespace Go.Proofs.YtjkihlpckgaggaaGreat.C
open Go.RowKit
set_option linter.unusedVariables false
set_option maxRecDepth 100000

theorem hasB_off {base : Int} {n : Nat} {addr size : Int} (h : hasB base n addr size = true) : ∃ off len : Nat, addr = base + off ∧ size = len ∧ off + len ≤ 4096 * n := by
  simp [hasB] at h
  exact ⟨(addr - base).toNat, size.toNat, by omega, by omega, by omega⟩
theorem wid_of {z : Nat} (h : wid (z : Int) = true) : z = 1 ∨ z = 2 ∨ z = 4 ∨ z = 8 := by
  simp [wid] at h; omega
def okN (base : Int) (n : Nat) (addr size : Int) : Bool := wid size && hasB base n addr size
/-- the bytes behind a write -/
def wrF (base : Int) (n : Nat) (f : Nat → Int) (addr size v : Int) : Nat → Int := if okN base n addr size = true then put f (addr - base).toNat size.toNat (byt v) else f
def rdF (base : Int) (n : Nat) (f : Nat → Int) (addr size : Int) : Int := if okN base n addr size = true then nu (fun j => f ((addr - base).toNat + j)) size.toNat else 0
def fiF (base : Int) (n : Nat) (f : Nat → Int) (addr : Int) (len : Nat) (s : Nat → Int) : Nat → Int := if hasB base n addr len = true then put f (addr - base).toNat len s else f
def clF (n : Nat) (f : Nat → Int) (i : Int) : Nat → Int := if 0 ≤ i ∧ i < n then put f (4096 * i.toNat) 4096 (fun _ => 0) else f
section RPAs1
variable (w : World) (S : Nat → Prop) (p : Nat) (base : Int) (n : Nat) (f : Nat → Int)
theorem c_WriteA (h : Mem w S p base n f) (addr size v : Int) (a0 : 0 ≤ addr) (a1 : addr < 18446744073709551616) (s0 : -9223372036854775808 ≤ size) (s1 : size ≤ 9223372036854775807) (v0 : 0 ≤ v) (v1 : v < 18446744073709551616) :
    Calls Tryz.prog 45 #[.pointer (some ⟨p, 0, none⟩), .int .u64 addr, .int .i64 size, .int .u64 v] w fun e w' => ∃ S', e = .returned (.bool (okN base n addr size)) ∧ Mem w' S' p base n (wrF base n f addr size v) ∧ Only S w w' ∧ ∀ k, S' k → S k ∨ w.heap.size ≤ k := by
  unfold wrF
  cases hk : okN base n addr size with
  | false =>
    refine (c_Write_bad2 w S p base n f h addr size v a0 a1 s0 s1 hk).mono ?_
    rintro e w' ⟨rfl, hs⟩
    exact ⟨S, rfl, h.below (hs.below _), hs.only, fun k z => .inl z⟩
  | true =>
    have hk' := hk
    simp only [okN, Bool.and_eq_true] at hk'
    obtain ⟨off, len, rfl, rfl, hl⟩ := hasB_off hk'.2
    refine (c_Write w S p base n f h off len hl (wid_of hk'.1) _ rfl v v0 v1).mono ?_
    rintro e w' ⟨S', rfl, h1, h2, h3⟩
    have e1 : (base + (off : Int) - base).toNat = off := by omega
    exact ⟨S', rfl, by rw [if_pos rfl, e1]; exact h1, h2, h3⟩
theorem q_WriteA (h : RMem w S p base n f) (addr size v : Int) (a0 : 0 ≤ addr) (a1 : addr < 18446744073709551616) (s0 : -9223372036854775808 ≤ size) (s1 : size ≤ 9223372036854775807) (v0 : 0 ≤ v) (v1 : v < 18446744073709551616) :
    Calls Tryz.prog 46 #[.pointer (some ⟨p, 0, none⟩), .int .u64 addr, .int .i64 size, .int .u64 v] w fun e w' => ∃ S', e = .returned (.bool (okN base n addr size)) ∧ RMem w' S' p base n (wrF base n f addr size v) ∧ Only S w w' ∧ ∀ k, S' k → S k ∨ w.heap.size ≤ k := by
  unfold wrF
  cases hk : okN base n addr size with
  | false =>
    refine (q_Write_bad w S p base n f h addr size v a0 a1 s0 s1 hk).mono ?_
    rintro e w' ⟨rfl, hs⟩
    exact ⟨S, rfl, h.below (hs.below _), hs.only, fun k z => .inl z⟩
  | true =>
    have hk' := hk
    simp only [okN, Bool.and_eq_true] at hk'
    obtain ⟨off, len, rfl, rfl, hl⟩ := hasB_off hk'.2
    refine (q_Write w S p base n f h off len hl (wid_of hk'.1) _ rfl v v0 v1).mono ?_
    rintro e w' ⟨S', rfl, h1, h2, h3⟩
    have e1 : (base + (off : Int) - base).toNat = off := by omega
    exact ⟨S', rfl, by rw [if_pos rfl, e1]; exact h1, h2, h3⟩
theorem c_ReadA (h : Mem w S p base n f) (addr size : Int) (a0 : 0 ≤ addr) (a1 : addr < 18446744073709551616) (s0 : -9223372036854775808 ≤ size) (s1 : size ≤ 9223372036854775807) :
    Calls Tryz.prog 192 #[.pointer (some ⟨p, 0, none⟩), .int .u64 addr, .int .i64 size] w fun e w' => e = .returned (.tuple #[.int .u64 (rdF base n f addr size), .bool (okN base n addr size)]) ∧ Below w.heap.size w w' := by
  unfold rdF
  cases hk : okN base n addr size with
  | false =>
    refine (c_Read_bad2 w S p base n f h addr size a0 a1 s0 s1 hk).mono ?_
    rintro e w' ⟨rfl, hs⟩
    exact ⟨rfl, hs.below _⟩
  | true =>
    have hk' := hk
    simp only [okN, Bool.and_eq_true] at hk'
    obtain ⟨off, len, rfl, rfl, hl⟩ := hasB_off hk'.2
    refine (c_Read w S p base n f h off len hl (wid_of hk'.1) _ rfl).mono ?_
    rintro e w' ⟨rfl, h1⟩
    have e1 : (base + (off : Int) - base).toNat = off := by omega
    exact ⟨by rw [if_pos rfl, e1]; rfl, h1⟩
theorem q_ReadA (h : RMem w S p base n f) (addr size : Int) (a0 : 0 ≤ addr) (a1 : addr < 18446744073709551616) (s0 : -9223372036854775808 ≤ size) (s1 : size ≤ 9223372036854775807) :
    Calls Tryz.prog 182 #[.pointer (some ⟨p, 0, none⟩), .int .u64 addr, .int .i64 size] w fun e w' => e = .returned (.tuple #[.int .u64 (rdF base n f addr size), .bool (okN base n addr size)]) ∧ Below w.heap.size w w' := by
  unfold rdF
  cases hk : okN base n addr size with
  | false =>
    refine (q_Read_bad w S p base n f h addr size a0 a1 s0 s1 hk).mono ?_
    rintro e w' ⟨rfl, hs⟩
    exact ⟨rfl, hs.below _⟩
  | true =>
    have hk' := hk
    simp only [okN, Bool.and_eq_true] at hk'
    obtain ⟨off, len, rfl, rfl, hl⟩ := hasB_off hk'.2
    refine (q_Read w S p base n f h off len hl (wid_of hk'.1) _ rfl).mono ?_
    rintro e w' ⟨rfl, h1⟩
    have e1 : (base + (off : Int) - base).toNat = off := by omega
    exact ⟨by rw [if_pos rfl, e1]; rfl, h1.below _⟩
end RPAs1
end Go.Proofs.YtjkihlpckgaggaaGreat.C
namespace Go.Proofs.YtjkihlpckgaggaaGreat.C
open Go.RowKit
set_option linter.unusedVariables false
set_option maxRecDepth 100000

/-- the low byte of an entry -/
def lo (e : Int) : Nat := (e % 256).toNat
theorem lo_lt (e : Int) : lo e < 256 := by unfold lo; omega
theorem land_low (n m : Nat) (hm : m < 256) : n &&& m = n % 256 &&& m := by
  apply Nat.eq_of_testBit_eq
  intro i
  simp only [Nat.testBit_and]
  rcases Nat.lt_or_ge i 8 with h | h
  · rw [show (256 : Nat) = 2 ^ 8 from rfl, Nat.testBit_mod_two_pow]; simp [h]
  · have : m.testBit i = false := Nat.testBit_lt_two_pow (Nat.lt_of_lt_of_le hm (show 256 ≤ 2 ^ i from Nat.pow_le_pow_right (n := 2) (by decide) h))
    simp [this]
theorem and_lo (e : Int) (h0 : 0 ≤ e) (h1 : e < 18446744073709551616) (m : Nat) (hm : m < 256) : bits .and .u64 e (m : Int) = ((lo e &&& m : Nat) : Int) := by
  obtain ⟨n, rfl⟩ := Int.eq_ofNat_of_zero_le h0
  rw [bits_and_u64_nat _ _ (by omega) (by omega), land_low n m hm]
  have : lo (n : Int) = n % 256 := by unfold lo; omega
  rw [this]
/-- all of these bits are 1 -/
def hs (e : Int) (m : Nat) : Bool := decide (lo e &&& m = m)
def wr (e : Int) : Bool := !hs e 1 || (hs e 4 && !hs e 2) || decide (18014398509481984 ≤ e)
def lf (e : Int) : Bool := decide (lo e &&& 10 ≠ 0)
def pm (e : Int) : Int := if hs e 128 = true then ((lo e &&& 14 : Nat) : Int) else ((lo e &&& 10 : Nat) : Int)
def num (e : Int) : Int := e / 1024
def pw (k : Nat) : Int := 512 ^ k
theorem pw0 : pw 0 = 1 := rfl
theorem pw1 : pw 1 = 512 := rfl
theorem pw2 : pw 2 = 262144 := rfl
/-- where the entry lies -/
def atF (addr : Int) (k : Nat) (t : Int) : Int := t * 4096 + addr / 4096 / pw k % 512 * 8
theorem atF_b (addr : Int) (k : Nat) (t : Int) (t0 : 0 ≤ t) (t1 : t ≤ 4503599627370495) : 0 ≤ atF addr k t ∧ atF addr k t < 18446744073709551616 := by unfold atF; omega
theorem wr_lt {e : Int} (h : wr e = false) : e < 18014398509481984 := by
  have := h
  simp [wr] at this
  omega
structure DR where
  fault : Int
  table : Int
  level : Nat
  leaf : Int
/-- what a walk comes to, from a table of a level on -/
def D (R : Int → Int × Int) (addr wrong : Int) : Nat → Int → DR
  | 0, t => if 4503599627370495 < t then ⟨3, t, 0, 0⟩ else if (R (atF addr 0 t)).2 ≠ 0 then ⟨(R (atF addr 0 t)).2, t, 0, 0⟩ else if wr (R (atF addr 0 t)).1 = true then ⟨wrong, t, 0, 0⟩ else
      if lf (R (atF addr 0 t)).1 = true then (if num (R (atF addr 0 t)).1 % pw 0 ≠ 0 then ⟨wrong, t, 0, 0⟩ else ⟨0, t, 0, (R (atF addr 0 t)).1⟩) else ⟨wrong, t, 0, 0⟩
  | k + 1, t => if 4503599627370495 < t then ⟨3, t, k + 1, 0⟩ else if (R (atF addr (k + 1) t)).2 ≠ 0 then ⟨(R (atF addr (k + 1) t)).2, t, k + 1, 0⟩ else if wr (R (atF addr (k + 1) t)).1 = true then ⟨wrong, t, k + 1, 0⟩ else
      if lf (R (atF addr (k + 1) t)).1 = true then (if num (R (atF addr (k + 1) t)).1 % pw (k + 1) ≠ 0 then ⟨wrong, t, k + 1, 0⟩ else ⟨0, t, k + 1, (R (atF addr (k + 1) t)).1⟩) else D R addr wrong k (num (R (atF addr (k + 1) t)).1)
theorem D_high {R : Int → Int × Int} {addr wrong : Int} {k : Nat} {t : Int} (h : 4503599627370495 < t) : D R addr wrong k t = ⟨3, t, k, 0⟩ := by
  cases k <;> (unfold D; rw [if_pos h])
theorem D_fault {R : Int → Int × Int} {addr wrong : Int} {k : Nat} {t : Int} (h : t ≤ 4503599627370495) (h1 : (R (atF addr k t)).2 ≠ 0) : D R addr wrong k t = ⟨(R (atF addr k t)).2, t, k, 0⟩ := by
  cases k <;> (unfold D; rw [if_neg (Int.not_lt.2 h), if_pos h1])
theorem D_wrong {R : Int → Int × Int} {addr wrong : Int} {k : Nat} {t : Int} (h : t ≤ 4503599627370495) (h1 : (R (atF addr k t)).2 = 0) (h2 : wr (R (atF addr k t)).1 = true) : D R addr wrong k t = ⟨wrong, t, k, 0⟩ := by
  cases k <;> (unfold D; rw [if_neg (Int.not_lt.2 h), if_neg (by rw [h1]; decide), if_pos h2])
theorem D_mis {R : Int → Int × Int} {addr wrong : Int} {k : Nat} {t : Int} (h : t ≤ 4503599627370495) (h1 : (R (atF addr k t)).2 = 0) (h2 : wr (R (atF addr k t)).1 = false) (h3 : lf (R (atF addr k t)).1 = true) (h4 : num (R (atF addr k t)).1 % pw k ≠ 0) : D R addr wrong k t = ⟨wrong, t, k, 0⟩ := by
  cases k <;> (unfold D; rw [if_neg (Int.not_lt.2 h), if_neg (by rw [h1]; decide), if_neg (by rw [h2]; decide), if_pos h3, if_pos h4])
theorem D_leaf {R : Int → Int × Int} {addr wrong : Int} {k : Nat} {t : Int} (h : t ≤ 4503599627370495) (h1 : (R (atF addr k t)).2 = 0) (h2 : wr (R (atF addr k t)).1 = false) (h3 : lf (R (atF addr k t)).1 = true) (h4 : num (R (atF addr k t)).1 % pw k = 0) : D R addr wrong k t = ⟨0, t, k, (R (atF addr k t)).1⟩ := by
  cases k <;> (unfold D; rw [if_neg (Int.not_lt.2 h), if_neg (by rw [h1]; decide), if_neg (by rw [h2]; decide), if_pos h3, if_neg (by rw [h4]; decide)])
theorem D_end {R : Int → Int × Int} {addr wrong : Int} {t : Int} (h : t ≤ 4503599627370495) (h1 : (R (atF addr 0 t)).2 = 0) (h2 : wr (R (atF addr 0 t)).1 = false) (h3 : lf (R (atF addr 0 t)).1 = false) : D R addr wrong 0 t = ⟨wrong, t, 0, 0⟩ := by
  unfold D; rw [if_neg (Int.not_lt.2 h), if_neg (by rw [h1]; decide), if_neg (by rw [h2]; decide), if_neg (by rw [h3]; decide)]
theorem D_next {R : Int → Int × Int} {addr wrong : Int} {k : Nat} {t : Int} (h : t ≤ 4503599627370495) (h1 : (R (atF addr (k + 1) t)).2 = 0) (h2 : wr (R (atF addr (k + 1) t)).1 = false) (h3 : lf (R (atF addr (k + 1) t)).1 = false) : D R addr wrong (k + 1) t = D R addr wrong k (num (R (atF addr (k + 1) t)).1) := by
  rw [D, if_neg (Int.not_lt.2 h), if_neg (by rw [h1]; decide), if_neg (by rw [h2]; decide), if_neg (by rw [h3]; decide)]
/-- the access that a leaf of the second stage allows -/
def al (e acc : Int) : Bool := hs e 80 && (if acc = 1 then hs e 8 else if acc = 2 then hs e 2 else if acc = 3 then hs e 132 else false)
/-- where an address comes to -/
def plc (r : DR) (addr : Int) : Int := (num r.leaf + addr / 4096 % pw r.level) * 4096 + addr % 4096
/-- the second stage -/
def gst (R : Int → Int × Int) (root gpa acc : Int) : Int × Int × Int :=
  if root = 0 then (gpa, 14, 0) else if 549755813888 ≤ gpa then (0, 0, 2) else
  if (D R gpa 2 2 root).fault ≠ 0 then (0, 0, (D R gpa 2 2 root).fault) else
  if al (D R gpa 2 2 root).leaf acc = true then (plc (D R gpa 2 2 root) gpa, pm (D R gpa 2 2 root).leaf, 0) else (0, 0, 2)
/-- entries as they are read in a memory of n frames from 0 on -/
def rdm (n : Nat) (f : Nat → Int) (a : Int) : Int × Int := if a + 8 ≤ 4096 * n then (nu (fun j => f (a.toNat + j)) 8, 0) else (0, 3)
/-- entries as the first stage reads them -/
def rdg (R : Int → Int × Int) (root a : Int) : Int × Int := if (gst R root a 2).2.2 ≠ 0 then (0, (gst R root a 2).2.2) else R (gst R root a 2).1
structure EnvV where
  satp : Int
  root : Int
  user : Bool
  sum : Bool
  mxr : Bool
/-- what a leaf of the first stage allows -/
def bel (e : Int) (v : EnvV) (acc : Int) : Bool := if v.user = true then hs e 16 else !hs e 16 || (v.sum && decide (acc ≠ 1))
def alf (e : Int) (v : EnvV) (acc : Int) : Bool := if acc = 1 then hs e 8 else if acc = 2 then hs e 2 || (v.mxr && hs e 8) else if acc = 3 then hs e 132 else false
def fa (e : Int) (v : EnvV) (acc : Int) : Bool := hs e 64 && bel e v acc && alf e v acc
def ext (va : Int) : Bool := decide (va < 274877906944 ∨ 18446743798831644672 ≤ va)
structure PlV where
  pa : Int
  gpa : Int
  fault : Int
  walk : Bool
def plOf (R : Int → Int × Int) (root gpa acc : Int) : PlV := ⟨(gst R root gpa acc).1, gpa, (gst R root gpa acc).2.2, false⟩
def thr (R : Int → Int × Int) (v : EnvV) (va acc : Int) : PlV :=
  if ext va = false then ⟨0, 0, 1, false⟩ else
  if (D (rdg R v.root) va 1 2 (v.satp % 17592186044416)).fault = 1 then ⟨0, 0, 1, false⟩ else
  if (D (rdg R v.root) va 1 2 (v.satp % 17592186044416)).fault ≠ 0 then ⟨0, atF va (D (rdg R v.root) va 1 2 (v.satp % 17592186044416)).level (D (rdg R v.root) va 1 2 (v.satp % 17592186044416)).table, (D (rdg R v.root) va 1 2 (v.satp % 17592186044416)).fault, true⟩ else
  if fa (D (rdg R v.root) va 1 2 (v.satp % 17592186044416)).leaf v acc = true then plOf R v.root (plc (D (rdg R v.root) va 1 2 (v.satp % 17592186044416)) va) acc else ⟨0, 0, 1, false⟩
def tr (R : Int → Int × Int) (v : EnvV) (va acc : Int) : PlV :=
  if v.satp / 1152921504606846976 = 0 then plOf R v.root va acc else if v.satp / 1152921504606846976 = 8 then thr R v va acc else ⟨0, 0, 1, false⟩
end Go.Proofs.YtjkihlpckgaggaaGreat.C
namespace Go.Proofs.YtjkihlpckgaggaaGreat.C
open Go.RowKit
set_option linter.unusedVariables false
set_option maxRecDepth 100000

end Go.Proofs.YtjkihlpckgaggaaGreat.C
namespace Go.Proofs.YtjkihlpckgaggaaGreat.C
open Go.RowKit
set_option linter.unusedVariables false
set_option maxRecDepth 100000

/-- a walk, as it stands: its six cells, and what stands behind them -/
def wkL (p : Nat) (addr table level wrong leaf : Int) (tail : List Value) : List Value :=
  .pointer (some ⟨p, 0, none⟩) :: .int .u64 addr :: .int .u64 table :: .int .i64 level :: .int .i64 wrong :: .int .u64 leaf :: tail
def WK (w : World) (b : Nat) (ty : TypeId) (tail : List Value) (p : Nat) (addr table level wrong leaf : Int) : Prop :=
  w.heap[b]? = some (.cells (wkL p addr table level wrong leaf tail).toArray ty (0, 0))
section
variable {w : World} {b : Nat} {ty : TypeId} {tail : List Value} {p : Nat} {addr table level wrong leaf : Int}
theorem WK.c0 (h : WK w b ty tail p addr table level wrong leaf) : w.cell? ⟨b, 0, none⟩ = some (.pointer (some ⟨p, 0, none⟩)) := by rw [cell_of_row w b 0 _ _ _ h]; rfl
theorem WK.c1 (h : WK w b ty tail p addr table level wrong leaf) : w.cell? ⟨b, 1, none⟩ = some (.int .u64 addr) := by rw [cell_of_row w b 1 _ _ _ h]; rfl
theorem WK.c2 (h : WK w b ty tail p addr table level wrong leaf) : w.cell? ⟨b, 2, none⟩ = some (.int .u64 table) := by rw [cell_of_row w b 2 _ _ _ h]; rfl
theorem WK.c3 (h : WK w b ty tail p addr table level wrong leaf) : w.cell? ⟨b, 3, none⟩ = some (.int .i64 level) := by rw [cell_of_row w b 3 _ _ _ h]; rfl
theorem WK.c4 (h : WK w b ty tail p addr table level wrong leaf) : w.cell? ⟨b, 4, none⟩ = some (.int .i64 wrong) := by rw [cell_of_row w b 4 _ _ _ h]; rfl
theorem WK.c5 (h : WK w b ty tail p addr table level wrong leaf) : w.cell? ⟨b, 5, none⟩ = some (.int .u64 leaf) := by rw [cell_of_row w b 5 _ _ _ h]; rfl
theorem WK.fz (h : WK w b ty tail p addr table level wrong leaf) (j : Nat) : w.frozen? ⟨b, j, none⟩ = false := frozen_of_row w b j _ _ h
theorem WK.s2 (h : WK w b ty tail p addr table level wrong leaf) (x : Int) : WK (w.setCell ⟨b, 2, none⟩ (.int .u64 x)) b ty tail p addr x level wrong leaf := by
  unfold WK; rw [heap_setCell_same _ _ 2 _ _ _ h]; simp [wkL]
theorem WK.s3 (h : WK w b ty tail p addr table level wrong leaf) (x : Int) : WK (w.setCell ⟨b, 3, none⟩ (.int .i64 x)) b ty tail p addr table x wrong leaf := by
  unfold WK; rw [heap_setCell_same _ _ 3 _ _ _ h]; simp [wkL]
theorem WK.s5 (h : WK w b ty tail p addr table level wrong leaf) (x : Int) : WK (w.setCell ⟨b, 5, none⟩ (.int .u64 x)) b ty tail p addr table level wrong x := by
  unfold WK; rw [heap_setCell_same _ _ 5 _ _ _ h]; simp [wkL]
theorem WK.below {w' : World} (h : WK w b ty tail p addr table level wrong leaf) (hb : Below w.heap.size w w') : WK w' b ty tail p addr table level wrong leaf := (hb.block b (lt_of_block h)).trans h
theorem WK.drewN (h : WK w b ty tail p addr table level wrong leaf) (m : Nat) : WK (w.drewN m) b ty tail p addr table level wrong leaf := h
theorem WK.lt (h : WK w b ty tail p addr table level wrong leaf) : b < w.heap.size := lt_of_block h
end

theorem c_Read8 (w : World) (S : Nat → Prop) (p n : Nat) (f : Nat → Int) (h : Mem w S p 0 n f) (a : Int) (a0 : 0 ≤ a) (a1 : a < 18446744073709551616) (v : Int) (ok : Bool) (hv : (rdm n f a).1 = v) (ho : decide ((rdm n f a).2 = 0) = ok) :
    Calls Tryz.prog 192 #[.pointer (some ⟨p, 0, none⟩), .int .u64 a, .int .i64 8] w fun e w' => e = .returned (.tuple #[.int .u64 v, .bool ok]) ∧ Below w.heap.size w w' := by
  subst hv ho
  by_cases q : a + 8 ≤ 4096 * n
  · have hr : rdm n f a = (nu (fun j => f (a.toNat + j)) 8, 0) := by unfold rdm; rw [if_pos q]
    rw [hr]
    exact c_Read w S p 0 n f h a.toNat 8 (by omega) (by decide) a (by omega)
  · have hr : rdm n f a = (0, 3) := by unfold rdm; rw [if_neg q]
    rw [hr]
    exact (c_Read_bad w S p 0 n f h a 8 a0 a1 (by decide) (by decide) (by simp [hasB]; omega)).mono fun e w' hh => ⟨hh.1, hh.2.below _⟩
/-- what stop says, and the leaf that it keeps -/
def stF (k : Nat) (e wrong : Int) : Int := if num e % pw k ≠ 0 then wrong else 0
def stL (k : Nat) (e : Int) : Int := if num e % pw k ≠ 0 then 0 else e
theorem num_b {e : Int} (h0 : 0 ≤ e) (h1 : e < 18014398509481984) : 0 ≤ num e ∧ num e < 17592186044416 := by unfold num; omega
end Go.Proofs.YtjkihlpckgaggaaGreat.C
