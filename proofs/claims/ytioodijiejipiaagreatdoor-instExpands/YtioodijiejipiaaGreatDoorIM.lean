/- The plain arithmetic of instructions as words, over Int: what each field of a word is, what each name is, what a word reads as. Nothing here speaks of the program. -/
import Derived.WalkKit
import Derived.Laws.MathBits
import Derived.Laws.BitsAllLaws
namespace Go.Proofs.YtioodijiejipiaaGreatDoor
open Go.RowKit
set_option linter.unusedVariables false

/-- an instruction -/
structure I where
  kind : Int
  fn : Int
  rd : Int
  rs1 : Int
  rs2 : Int
  imm : Int
  size : Int
  sg : Bool
def I.zero : I := ⟨0, 0, 0, 0, 0, 0, 0, false⟩
@[reducible] def I.v (i : I) : Value := .agg #[.int .i64 i.kind, .int .i64 i.fn, .int .i64 i.rd, .int .i64 i.rs1, .int .i64 i.rs2, .int .i64 i.imm, .int .i64 i.size, .bool i.sg]

/-! fields of a word -/
def fOp (a : Int) : Int := a % 128
def fRd (a : Int) : Int := a / 128 % 32
def fF3 (a : Int) : Int := a / 4096 % 8
def fRs1 (a : Int) : Int := a / 32768 % 32
def fRs2 (a : Int) : Int := a / 1048576 % 32
def fF7 (a : Int) : Int := a / 33554432 % 128
def fF6 (a : Int) : Int := a / 67108864 % 64
def fF5 (a : Int) : Int := a / 134217728 % 32
def fSh (a : Int) : Int := a / 1048576 % 64
def fCs (a : Int) : Int := a / 1048576 % 4096
/-- the word with its sign -/
def s32 (a : Int) : Int := if a < 2147483648 then a else a - 4294967296
def iI (a : Int) : Int := s32 a / 1048576
def iS (a : Int) : Int := s32 a / 33554432 * 32 + a / 128 % 32
def iB (a : Int) : Int := s32 a / 2147483648 * 4096 + a / 128 % 2 * 2048 + a / 33554432 % 64 * 32 + a / 256 % 16 * 2
def iU (a : Int) : Int := s32 a / 4096 * 4096
def iJ (a : Int) : Int := s32 a / 2147483648 * 1048576 + a / 4096 % 256 * 4096 + a / 1048576 % 2 * 2048 + a / 2097152 % 1024 * 2
def shf (a : Int) : Bool := fF3 a == 1 || fF3 a == 5
def iOpnd (a : Int) : Int := if shf a = true then fSh a else iI a
def iOpndW (a : Int) : Int := if shf a = true then fRs2 a else iI a
def iCsr (a : Int) : Int := if fF3 a = 0 then 0 else fCs a
def rSpace (a : Int) : Int := if fF3 a = 0 ∧ fF7 a = 9 then fRs2 a else 0

/-! the tables -/
def tCond (n : Int) : Int := [1, 2, 0, 0, 3, 4, 5, 6].getD n.toNat 0
def tLoad (n : Int) : Int := [1, 2, 4, 8, 1, 2, 4, 0].getD n.toNat 0
def tStore (n : Int) : Int := [1, 2, 4, 8, 0, 0, 0, 0].getD n.toNat 0
def tWid (n : Int) : Int := [0, 0, 4, 8, 0, 0, 0, 0].getD n.toNat 0
def tBas (n : Int) : Int := [1, 3, 4, 5, 6, 7, 9, 10].getD n.toNat 0
def tAlt (n : Int) : Int := [2, 0, 0, 0, 0, 8, 0, 0].getD n.toNat 0
def tPro (n : Int) : Int := [11, 12, 13, 14, 15, 16, 17, 18].getD n.toNat 0
def tBasW (n : Int) : Int := [19, 21, 0, 0, 0, 22, 0, 0].getD n.toNat 0
def tAltW (n : Int) : Int := [20, 0, 0, 0, 0, 23, 0, 0].getD n.toNat 0
def tProW (n : Int) : Int := [24, 0, 0, 0, 25, 26, 27, 28].getD n.toNat 0
def tAto (n : Int) : Int := [2, 1, 0, 0, 3, 0, 0, 0, 5, 0, 0, 0, 4, 0, 0, 0, 6, 0, 0, 0, 7, 0, 0, 0, 8, 0, 0, 0, 9, 0, 0, 0].getD n.toNat 0

/-! names -/
def onl (i : I) (n : Int) : I × Bool := if n = 0 then (I.zero, false) else (i, true)
def no : I × Bool := (I.zero, false)
def named0 (k : Int) : I × Bool := (⟨k, 0, 0, 0, 0, 0, 0, false⟩, true)
def nLui (a : Int) : I × Bool := named0 1
def nAuipc (a : Int) : I × Bool := named0 2
def nJal (a : Int) : I × Bool := named0 3
def nJalr (a : Int) : I × Bool := if fF3 a = 0 then named0 4 else no
def nBranch (a : Int) : I × Bool := onl ⟨5, tCond (fF3 a), 0, 0, 0, 0, 0, false⟩ (tCond (fF3 a))
def lt4 (a : Int) : Bool := decide (a < 4)
def nLoad (a : Int) : I × Bool := onl ⟨6, 0, 0, 0, 0, 0, tLoad (fF3 a), lt4 (fF3 a)⟩ (tLoad (fF3 a))
def nStore (a : Int) : I × Bool := onl ⟨7, 0, 0, 0, 0, 0, tStore (fF3 a), false⟩ (tStore (fF3 a))
def chos (f p o t : Int) : Int := if f = 0 then p else if f = 32 then o else if f = 1 then t else 0
def fnImm (a : Int) : Int := if shf a = true then chos (fF6 a * 2) (tBas (fF3 a)) (tAlt (fF3 a)) 0 else tBas (fF3 a)
def nImm (a : Int) : I × Bool := onl ⟨9, fnImm a, 0, 0, 0, 0, 0, false⟩ (fnImm a)
def fnImmW (a : Int) : Int := if shf a = true then chos (fF7 a) (tBasW (fF3 a)) (tAltW (fF3 a)) 0 else tBasW (fF3 a)
def nImmW (a : Int) : I × Bool := onl ⟨9, fnImmW a, 0, 0, 0, 0, 0, false⟩ (fnImmW a)
def fnAlu (a : Int) : Int := chos (fF7 a) (tBas (fF3 a)) (tAlt (fF3 a)) (tPro (fF3 a))
def nAlu (a : Int) : I × Bool := onl ⟨8, fnAlu a, 0, 0, 0, 0, 0, false⟩ (fnAlu a)
def fnAluW (a : Int) : Int := chos (fF7 a) (tBasW (fF3 a)) (tAltW (fF3 a)) (tProW (fF3 a))
def nAluW (a : Int) : I × Bool := onl ⟨8, fnAluW a, 0, 0, 0, 0, 0, false⟩ (fnAluW a)
def nFence (a : Int) : I × Bool := if fF3 a ≤ 1 then named0 10 else no
def nPriv (a : Int) : I × Bool :=
  if a = 115 then named0 11 else if a = 1048691 then named0 12 else if a = 270532723 then named0 18 else if a = 273678451 then named0 19
  else if fF7 a = 9 ∧ fRd a = 0 then named0 20 else no
def nSys (a : Int) : I × Bool :=
  if fF3 a = 0 then nPriv a else if fF3 a < 4 then (⟨13, fF3 a, 0, 0, 0, 0, 0, false⟩, true) else if 4 < fF3 a then (⟨14, fF3 a - 4, 0, 0, 0, 0, 0, false⟩, true) else no
def nAto (a : Int) : I × Bool :=
  if tAto (fF5 a) = 0 then
    (if fF5 a = 2 ∧ fRs2 a = 0 then onl ⟨15, 0, 0, 0, 0, 0, tWid (fF3 a), false⟩ (tWid (fF3 a))
     else if fF5 a = 3 then onl ⟨16, 0, 0, 0, 0, 0, tWid (fF3 a), false⟩ (tWid (fF3 a)) else no)
  else onl ⟨17, tAto (fF5 a), 0, 0, 0, 0, tWid (fF3 a), false⟩ (tWid (fF3 a))

/-! what a word reads as -/
def withF (n : I × Bool) (rd r1 r2 im : Int) : I × Bool := if n.2 = true then (⟨n.1.kind, n.1.fn, rd, r1, r2, im, n.1.size, n.1.sg⟩, true) else no
def D (a : Int) : I × Bool :=
  if fOp a = 55 then withF (nLui a) (fRd a) 0 0 (iU a)
  else if fOp a = 23 then withF (nAuipc a) (fRd a) 0 0 (iU a)
  else if fOp a = 19 then withF (nImm a) (fRd a) (fRs1 a) 0 (iOpnd a)
  else if fOp a = 27 then withF (nImmW a) (fRd a) (fRs1 a) 0 (iOpndW a)
  else if fOp a = 51 then withF (nAlu a) (fRd a) (fRs1 a) (fRs2 a) 0
  else if fOp a = 59 then withF (nAluW a) (fRd a) (fRs1 a) (fRs2 a) 0
  else if fOp a = 115 then withF (nSys a) (fRd a) (fRs1 a) (rSpace a) (iCsr a)
  else if fOp a = 111 then withF (nJal a) (fRd a) 0 0 (iJ a)
  else if fOp a = 103 then withF (nJalr a) (fRd a) (fRs1 a) 0 (iI a)
  else if fOp a = 99 then withF (nBranch a) 0 (fRs1 a) (fRs2 a) (iB a)
  else if fOp a = 3 then withF (nLoad a) (fRd a) (fRs1 a) 0 (iI a)
  else if fOp a = 35 then withF (nStore a) 0 (fRs1 a) (fRs2 a) (iS a)
  else if fOp a = 15 then withF (nFence a) 0 0 0 0
  else if fOp a = 47 then withF (nAto a) (fRd a) (fRs1 a) (fRs2 a) 0
  else no

/-! or, where the bits do not meet -/
theorem or64_gen (n : Nat) (x y : Int) (hx : (x % 18446744073709551616).toNat % 2 ^ n = 0) (h0 : 0 ≤ y) (hy : y.toNat < 2 ^ n) (hy' : y < 18446744073709551616) :
    bits .or .i64 x y = wrap64 (x % 18446744073709551616 + y) := by
  have e1 : (BitVec.ofInt 64 x).toNat = (x % 18446744073709551616).toNat := by rw [BitVec.toNat_ofInt]; rfl
  have e2 : (BitVec.ofInt 64 y).toNat = y.toNat := by rw [BitVec.toNat_ofInt]; show (y % 18446744073709551616).toNat = _; rw [Int.emod_eq_of_lt h0 hy']
  show IntKind.i64.wrap (((BitVec.ofInt 64 x ||| BitVec.ofInt 64 y).toNat : Nat) : Int) = _
  rw [BitVec.toNat_or, e1, e2, nat_join n _ _ hx hy]
  have e3 : (((x % 18446744073709551616).toNat + y.toNat : Nat) : Int) = x % 18446744073709551616 + y := by omega
  rw [e3, IntKind.wrap_i64]
  unfold wrap64
  omega
theorem wrap64_id (x : Int) (h : -9223372036854775808 ≤ x) (h' : x < 9223372036854775808) : wrap64 x = x := by unfold wrap64; omega
theorem or64_1 (x y : Int) (h : x % 2 = 0) (h1 : 0 ≤ y) (h2 : y < 2) (h3 : -9223372036854775808 ≤ x) (h4 : x < 9223372036854775808) : bits .or .i64 x y = x + y := by
  rw [or64_gen 1 x y (by omega) h1 (by omega) (by omega)]; unfold wrap64; omega
theorem or64_2 (x y : Int) (h : x % 4 = 0) (h1 : 0 ≤ y) (h2 : y < 4) (h3 : -9223372036854775808 ≤ x) (h4 : x < 9223372036854775808) : bits .or .i64 x y = x + y := by
  rw [or64_gen 2 x y (by omega) h1 (by omega) (by omega)]; unfold wrap64; omega
theorem or64_3 (x y : Int) (h : x % 8 = 0) (h1 : 0 ≤ y) (h2 : y < 8) (h3 : -9223372036854775808 ≤ x) (h4 : x < 9223372036854775808) : bits .or .i64 x y = x + y := by
  rw [or64_gen 3 x y (by omega) h1 (by omega) (by omega)]; unfold wrap64; omega
theorem or64_4 (x y : Int) (h : x % 16 = 0) (h1 : 0 ≤ y) (h2 : y < 16) (h3 : -9223372036854775808 ≤ x) (h4 : x < 9223372036854775808) : bits .or .i64 x y = x + y := by
  rw [or64_gen 4 x y (by omega) h1 (by omega) (by omega)]; unfold wrap64; omega
theorem or64_5 (x y : Int) (h : x % 32 = 0) (h1 : 0 ≤ y) (h2 : y < 32) (h3 : -9223372036854775808 ≤ x) (h4 : x < 9223372036854775808) : bits .or .i64 x y = x + y := by
  rw [or64_gen 5 x y (by omega) h1 (by omega) (by omega)]; unfold wrap64; omega
theorem or64_6 (x y : Int) (h : x % 64 = 0) (h1 : 0 ≤ y) (h2 : y < 64) (h3 : -9223372036854775808 ≤ x) (h4 : x < 9223372036854775808) : bits .or .i64 x y = x + y := by
  rw [or64_gen 6 x y (by omega) h1 (by omega) (by omega)]; unfold wrap64; omega
theorem or64_7 (x y : Int) (h : x % 128 = 0) (h1 : 0 ≤ y) (h2 : y < 128) (h3 : -9223372036854775808 ≤ x) (h4 : x < 9223372036854775808) : bits .or .i64 x y = x + y := by
  rw [or64_gen 7 x y (by omega) h1 (by omega) (by omega)]; unfold wrap64; omega
theorem or64_8 (x y : Int) (h : x % 256 = 0) (h1 : 0 ≤ y) (h2 : y < 256) (h3 : -9223372036854775808 ≤ x) (h4 : x < 9223372036854775808) : bits .or .i64 x y = x + y := by
  rw [or64_gen 8 x y (by omega) h1 (by omega) (by omega)]; unfold wrap64; omega
theorem or64_9 (x y : Int) (h : x % 512 = 0) (h1 : 0 ≤ y) (h2 : y < 512) (h3 : -9223372036854775808 ≤ x) (h4 : x < 9223372036854775808) : bits .or .i64 x y = x + y := by
  rw [or64_gen 9 x y (by omega) h1 (by omega) (by omega)]; unfold wrap64; omega
theorem or64_10 (x y : Int) (h : x % 1024 = 0) (h1 : 0 ≤ y) (h2 : y < 1024) (h3 : -9223372036854775808 ≤ x) (h4 : x < 9223372036854775808) : bits .or .i64 x y = x + y := by
  rw [or64_gen 10 x y (by omega) h1 (by omega) (by omega)]; unfold wrap64; omega
theorem or64_11 (x y : Int) (h : x % 2048 = 0) (h1 : 0 ≤ y) (h2 : y < 2048) (h3 : -9223372036854775808 ≤ x) (h4 : x < 9223372036854775808) : bits .or .i64 x y = x + y := by
  rw [or64_gen 11 x y (by omega) h1 (by omega) (by omega)]; unfold wrap64; omega
theorem or64_12 (x y : Int) (h : x % 4096 = 0) (h1 : 0 ≤ y) (h2 : y < 4096) (h3 : -9223372036854775808 ≤ x) (h4 : x < 9223372036854775808) : bits .or .i64 x y = x + y := by
  rw [or64_gen 12 x y (by omega) h1 (by omega) (by omega)]; unfold wrap64; omega
theorem or64_13 (x y : Int) (h : x % 8192 = 0) (h1 : 0 ≤ y) (h2 : y < 8192) (h3 : -9223372036854775808 ≤ x) (h4 : x < 9223372036854775808) : bits .or .i64 x y = x + y := by
  rw [or64_gen 13 x y (by omega) h1 (by omega) (by omega)]; unfold wrap64; omega
theorem or64_14 (x y : Int) (h : x % 16384 = 0) (h1 : 0 ≤ y) (h2 : y < 16384) (h3 : -9223372036854775808 ≤ x) (h4 : x < 9223372036854775808) : bits .or .i64 x y = x + y := by
  rw [or64_gen 14 x y (by omega) h1 (by omega) (by omega)]; unfold wrap64; omega
theorem or64_15 (x y : Int) (h : x % 32768 = 0) (h1 : 0 ≤ y) (h2 : y < 32768) (h3 : -9223372036854775808 ≤ x) (h4 : x < 9223372036854775808) : bits .or .i64 x y = x + y := by
  rw [or64_gen 15 x y (by omega) h1 (by omega) (by omega)]; unfold wrap64; omega
theorem or64_16 (x y : Int) (h : x % 65536 = 0) (h1 : 0 ≤ y) (h2 : y < 65536) (h3 : -9223372036854775808 ≤ x) (h4 : x < 9223372036854775808) : bits .or .i64 x y = x + y := by
  rw [or64_gen 16 x y (by omega) h1 (by omega) (by omega)]; unfold wrap64; omega
theorem or64_17 (x y : Int) (h : x % 131072 = 0) (h1 : 0 ≤ y) (h2 : y < 131072) (h3 : -9223372036854775808 ≤ x) (h4 : x < 9223372036854775808) : bits .or .i64 x y = x + y := by
  rw [or64_gen 17 x y (by omega) h1 (by omega) (by omega)]; unfold wrap64; omega
theorem or64_18 (x y : Int) (h : x % 262144 = 0) (h1 : 0 ≤ y) (h2 : y < 262144) (h3 : -9223372036854775808 ≤ x) (h4 : x < 9223372036854775808) : bits .or .i64 x y = x + y := by
  rw [or64_gen 18 x y (by omega) h1 (by omega) (by omega)]; unfold wrap64; omega
theorem or64_19 (x y : Int) (h : x % 524288 = 0) (h1 : 0 ≤ y) (h2 : y < 524288) (h3 : -9223372036854775808 ≤ x) (h4 : x < 9223372036854775808) : bits .or .i64 x y = x + y := by
  rw [or64_gen 19 x y (by omega) h1 (by omega) (by omega)]; unfold wrap64; omega
theorem or64_20 (x y : Int) (h : x % 1048576 = 0) (h1 : 0 ≤ y) (h2 : y < 1048576) (h3 : -9223372036854775808 ≤ x) (h4 : x < 9223372036854775808) : bits .or .i64 x y = x + y := by
  rw [or64_gen 20 x y (by omega) h1 (by omega) (by omega)]; unfold wrap64; omega
theorem nat_and_or (n : Nat) : ∀ x y : Nat, x ≤ n → (x &&& y) + (x ||| y) = x + y := by
  induction n using Nat.strongRecOn with
  | ind n ih =>
    intro x y hx
    by_cases h0 : x = 0
    · subst h0; simp
    · have e := ih (x / 2) (by omega) (x / 2) (y / 2) (Nat.le_refl _)
      rw [← Nat.and_div_two, ← Nat.or_div_two] at e
      have m1 : (x &&& y) % 2 = x % 2 &&& y % 2 := by have := Nat.and_mod_two_pow (a := x) (b := y) (n := 1); simpa using this
      have m2 : (x ||| y) % 2 = x % 2 ||| y % 2 := by have := Nat.or_mod_two_pow (a := x) (b := y) (n := 1); simpa using this
      have c : (x % 2 &&& y % 2) + (x % 2 ||| y % 2) = x % 2 + y % 2 := by
        rcases Nat.mod_two_eq_zero_or_one x with p | p <;> rcases Nat.mod_two_eq_zero_or_one y with q | q <;> rw [p, q] <;> rfl
      omega
/-- two numbers whose bits lie in masks that do not meet -/
theorem or_apart {x y m n : Nat} (hx : x &&& m = x) (hy : y &&& n = y) (h : m &&& n = 0) : x ||| y = x + y ∧ (x ||| y) &&& (m ||| n) = x ||| y := by
  have hz : x &&& y = 0 := by
    rw [← hx, ← hy]
    apply Nat.eq_of_testBit_eq
    intro i
    have := congrArg (fun z => z.testBit i) h
    simp only [Nat.testBit_and, Nat.zero_testBit] at this ⊢
    revert this
    cases x.testBit i <;> cases y.testBit i <;> cases m.testBit i <;> cases n.testBit i <;> simp
  refine ⟨?_, ?_⟩
  · have := nat_and_or x x y (Nat.le_refl _)
    omega
  · apply Nat.eq_of_testBit_eq
    intro i
    have h1 := congrArg (fun z => z.testBit i) hx
    have h2 := congrArg (fun z => z.testBit i) hy
    simp only [Nat.testBit_and, Nat.testBit_or] at h1 h2 ⊢
    revert h1 h2
    cases x.testBit i <;> cases y.testBit i <;> cases m.testBit i <;> cases n.testBit i <;> simp
theorem in_mask (k j x : Nat) (h : x < 2 ^ k) : (x * 2 ^ j) &&& ((2 ^ k - 1) * 2 ^ j) = x * 2 ^ j := by
  rw [← Nat.shiftLeft_eq, ← Nat.shiftLeft_eq, ← Nat.shiftLeft_and_distrib, Nat.and_two_pow_sub_one_eq_mod, Nat.mod_eq_of_lt h]
/-! bounds of the fields -/
theorem fOp_b (a : Int) : 0 ≤ fOp a ∧ fOp a < 128 := by unfold fOp; omega
theorem fRd_b (a : Int) : 0 ≤ fRd a ∧ fRd a < 32 := by unfold fRd; omega
theorem fF3_b (a : Int) : 0 ≤ fF3 a ∧ fF3 a < 8 := by unfold fF3; omega
theorem fRs1_b (a : Int) : 0 ≤ fRs1 a ∧ fRs1 a < 32 := by unfold fRs1; omega
theorem fRs2_b (a : Int) : 0 ≤ fRs2 a ∧ fRs2 a < 32 := by unfold fRs2; omega
theorem fF7_b (a : Int) : 0 ≤ fF7 a ∧ fF7 a < 128 := by unfold fF7; omega
theorem fF6_b (a : Int) : 0 ≤ fF6 a ∧ fF6 a < 64 := by unfold fF6; omega
theorem fF5_b (a : Int) : 0 ≤ fF5 a ∧ fF5 a < 32 := by unfold fF5; omega
theorem fSh_b (a : Int) : 0 ≤ fSh a ∧ fSh a < 64 := by unfold fSh; omega
theorem fCs_b (a : Int) : 0 ≤ fCs a ∧ fCs a < 4096 := by unfold fCs; omega
theorem or_B (A B C E : Int) (a : A % 4096 = 0) (a1 : -9223372036854775808 ≤ A) (a2 : A < 9223372036854775808) (b : B % 2048 = 0) (b1 : 0 ≤ B) (b2 : B < 4096) (c : C % 32 = 0) (c1 : 0 ≤ C) (c2 : C < 2048) (e1 : 0 ≤ E) (e2 : E < 32) :
    bits .or .i64 (bits .or .i64 (bits .or .i64 A B) C) E = A + B + C + E := by
  rw [or64_12 A B a b1 b2 a1 a2, or64_11 (A + B) C (by omega) c1 c2 (by omega) (by omega), or64_5 (A + B + C) E (by omega) e1 e2 (by omega) (by omega)]
theorem or_J (A B C E : Int) (a : A % 1048576 = 0) (a1 : -9223372036854775808 ≤ A) (a2 : A < 9223372036854775808) (b : B % 4096 = 0) (b1 : 0 ≤ B) (b2 : B < 1048576) (c : C % 2048 = 0) (c1 : 0 ≤ C) (c2 : C < 4096) (e1 : 0 ≤ E) (e2 : E < 2048) :
    bits .or .i64 (bits .or .i64 (bits .or .i64 A B) C) E = A + B + C + E := by
  rw [or64_20 A B a b1 b2 a1 a2, or64_12 (A + B) C (by omega) c1 c2 (by omega) (by omega), or64_11 (A + B + C) E (by omega) e1 e2 (by omega) (by omega)]
theorem wrap32_s (a : Int) (h0 : 0 ≤ a) (h1 : a < 4294967296) : wrap32 a = s32 a := by
  unfold wrap32 s32; split <;> omega
theorem s32_b (a : Int) (h0 : 0 ≤ a) (h1 : a < 4294967296) : -2147483648 ≤ s32 a ∧ s32 a < 2147483648 := by unfold s32; split <;> omega
end Go.Proofs.YtioodijiejipiaaGreatDoor
