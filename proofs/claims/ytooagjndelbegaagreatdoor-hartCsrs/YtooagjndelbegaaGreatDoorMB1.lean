/- The plain arithmetic of instructions as words, over Int: what each field of a word is, what each name is, what a word reads as. Nothing here speaks of the program. -/
import Derived.WalkKit
import Derived.Laws.MathBits
import Derived.Laws.BitsAllLaws
import Derived.Test.YtooagjndelbegaaGreatDoorProg
import Derived.ProofKit
import Derived.Outline
import Derived.Maps.OwnOps
import Derived.Deep.RegionWith
import Derived.Deep.QuietTactic
import Derived.BigQuiet
namespace Go.Proofs.YtooagjndelbegaaGreatDoor.B
open Go.RowKit
set_option linter.unusedVariables false

/-- an instruction -/
structure I where
  kind : Int
  fn : Int
  rd : Int
  rs1 : Int
  rs2 : Int
  imm : Int
  size : Int
  sg : Bool
def I.zero : I := ⟨0, 0, 0, 0, 0, 0, 0, false⟩
@[reducible] def I.v (i : I) : Value := .agg #[.int .i64 i.kind, .int .i64 i.fn, .int .i64 i.rd, .int .i64 i.rs1, .int .i64 i.rs2, .int .i64 i.imm, .int .i64 i.size, .bool i.sg]

/-! fields of a word -/
def fOp (a : Int) : Int := a % 128
def fRd (a : Int) : Int := a / 128 % 32
def fF3 (a : Int) : Int := a / 4096 % 8
def fRs1 (a : Int) : Int := a / 32768 % 32
def fRs2 (a : Int) : Int := a / 1048576 % 32
def fF7 (a : Int) : Int := a / 33554432 % 128
def fF6 (a : Int) : Int := a / 67108864 % 64
def fF5 (a : Int) : Int := a / 134217728 % 32
def fSh (a : Int) : Int := a / 1048576 % 64
def fCs (a : Int) : Int := a / 1048576 % 4096
/-- the word with its sign -/
def s32 (a : Int) : Int := if a < 2147483648 then a else a - 4294967296
def iI (a : Int) : Int := s32 a / 1048576
def iS (a : Int) : Int := s32 a / 33554432 * 32 + a / 128 % 32
def iB (a : Int) : Int := s32 a / 2147483648 * 4096 + a / 128 % 2 * 2048 + a / 33554432 % 64 * 32 + a / 256 % 16 * 2
def iU (a : Int) : Int := s32 a / 4096 * 4096
def iJ (a : Int) : Int := s32 a / 2147483648 * 1048576 + a / 4096 % 256 * 4096 + a / 1048576 % 2 * 2048 + a / 2097152 % 1024 * 2
def shf (a : Int) : Bool := fF3 a == 1 || fF3 a == 5
def iOpnd (a : Int) : Int := if shf a = true then fSh a else iI a
def iOpndW (a : Int) : Int := if shf a = true then fRs2 a else iI a
def iCsr (a : Int) : Int := if fF3 a = 0 then 0 else fCs a
def rSpace (a : Int) : Int := if fF3 a = 0 ∧ fF7 a = 9 then fRs2 a else 0

/-! the tables -/
def tCond (n : Int) : Int := [1, 2, 0, 0, 3, 4, 5, 6].getD n.toNat 0
def tLoad (n : Int) : Int := [1, 2, 4, 8, 1, 2, 4, 0].getD n.toNat 0
def tStore (n : Int) : Int := [1, 2, 4, 8, 0, 0, 0, 0].getD n.toNat 0
def tWid (n : Int) : Int := [0, 0, 4, 8, 0, 0, 0, 0].getD n.toNat 0
def tBas (n : Int) : Int := [1, 3, 4, 5, 6, 7, 9, 10].getD n.toNat 0
def tAlt (n : Int) : Int := [2, 0, 0, 0, 0, 8, 0, 0].getD n.toNat 0
def tPro (n : Int) : Int := [11, 12, 13, 14, 15, 16, 17, 18].getD n.toNat 0
def tBasW (n : Int) : Int := [19, 21, 0, 0, 0, 22, 0, 0].getD n.toNat 0
def tAltW (n : Int) : Int := [20, 0, 0, 0, 0, 23, 0, 0].getD n.toNat 0
def tProW (n : Int) : Int := [24, 0, 0, 0, 25, 26, 27, 28].getD n.toNat 0
def tAto (n : Int) : Int := [2, 1, 0, 0, 3, 0, 0, 0, 5, 0, 0, 0, 4, 0, 0, 0, 6, 0, 0, 0, 7, 0, 0, 0, 8, 0, 0, 0, 9, 0, 0, 0].getD n.toNat 0

/-! names -/
def onl (i : I) (n : Int) : I × Bool := if n = 0 then (I.zero, false) else (i, true)
def no : I × Bool := (I.zero, false)
def named0 (k : Int) : I × Bool := (⟨k, 0, 0, 0, 0, 0, 0, false⟩, true)
def nLui (a : Int) : I × Bool := named0 1
def nAuipc (a : Int) : I × Bool := named0 2
def nJal (a : Int) : I × Bool := named0 3
def nJalr (a : Int) : I × Bool := if fF3 a = 0 then named0 4 else no
def nBranch (a : Int) : I × Bool := onl ⟨5, tCond (fF3 a), 0, 0, 0, 0, 0, false⟩ (tCond (fF3 a))
def lt4 (a : Int) : Bool := decide (a < 4)
def nLoad (a : Int) : I × Bool := onl ⟨6, 0, 0, 0, 0, 0, tLoad (fF3 a), lt4 (fF3 a)⟩ (tLoad (fF3 a))
def nStore (a : Int) : I × Bool := onl ⟨7, 0, 0, 0, 0, 0, tStore (fF3 a), false⟩ (tStore (fF3 a))
def chos (f p o t : Int) : Int := if f = 0 then p else if f = 32 then o else if f = 1 then t else 0
def fnImm (a : Int) : Int := if shf a = true then chos (fF6 a * 2) (tBas (fF3 a)) (tAlt (fF3 a)) 0 else tBas (fF3 a)
def nImm (a : Int) : I × Bool := onl ⟨9, fnImm a, 0, 0, 0, 0, 0, false⟩ (fnImm a)
def fnImmW (a : Int) : Int := if shf a = true then chos (fF7 a) (tBasW (fF3 a)) (tAltW (fF3 a)) 0 else tBasW (fF3 a)
def nImmW (a : Int) : I × Bool := onl ⟨9, fnImmW a, 0, 0, 0, 0, 0, false⟩ (fnImmW a)
def fnAlu (a : Int) : Int := chos (fF7 a) (tBas (fF3 a)) (tAlt (fF3 a)) (tPro (fF3 a))
def nAlu (a : Int) : I × Bool := onl ⟨8, fnAlu a, 0, 0, 0, 0, 0, false⟩ (fnAlu a)
def fnAluW (a : Int) : Int := chos (fF7 a) (tBasW (fF3 a)) (tAltW (fF3 a)) (tProW (fF3 a))
def nAluW (a : Int) : I × Bool := onl ⟨8, fnAluW a, 0, 0, 0, 0, 0, false⟩ (fnAluW a)
def nFence (a : Int) : I × Bool := if fF3 a ≤ 1 then named0 10 else no
def nPriv (a : Int) : I × Bool :=
  if a = 115 then named0 11 else if a = 1048691 then named0 12 else if a = 270532723 then named0 18 else if a = 273678451 then named0 19
  else if fF7 a = 9 ∧ fRd a = 0 then named0 20 else no
def nSys (a : Int) : I × Bool :=
  if fF3 a = 0 then nPriv a else if fF3 a < 4 then (⟨13, fF3 a, 0, 0, 0, 0, 0, false⟩, true) else if 4 < fF3 a then (⟨14, fF3 a - 4, 0, 0, 0, 0, 0, false⟩, true) else no
def nAto (a : Int) : I × Bool :=
  if tAto (fF5 a) = 0 then
    (if fF5 a = 2 ∧ fRs2 a = 0 then onl ⟨15, 0, 0, 0, 0, 0, tWid (fF3 a), false⟩ (tWid (fF3 a))
     else if fF5 a = 3 then onl ⟨16, 0, 0, 0, 0, 0, tWid (fF3 a), false⟩ (tWid (fF3 a)) else no)
  else onl ⟨17, tAto (fF5 a), 0, 0, 0, 0, tWid (fF3 a), false⟩ (tWid (fF3 a))

/-! what a word reads as -/
def withF (n : I × Bool) (rd r1 r2 im : Int) : I × Bool := if n.2 = true then (⟨n.1.kind, n.1.fn, rd, r1, r2, im, n.1.size, n.1.sg⟩, true) else no
def D (a : Int) : I × Bool :=
  if fOp a = 55 then withF (nLui a) (fRd a) 0 0 (iU a)
  else if fOp a = 23 then withF (nAuipc a) (fRd a) 0 0 (iU a)
  else if fOp a = 19 then withF (nImm a) (fRd a) (fRs1 a) 0 (iOpnd a)
  else if fOp a = 27 then withF (nImmW a) (fRd a) (fRs1 a) 0 (iOpndW a)
  else if fOp a = 51 then withF (nAlu a) (fRd a) (fRs1 a) (fRs2 a) 0
  else if fOp a = 59 then withF (nAluW a) (fRd a) (fRs1 a) (fRs2 a) 0
  else if fOp a = 115 then withF (nSys a) (fRd a) (fRs1 a) (rSpace a) (iCsr a)
  else if fOp a = 111 then withF (nJal a) (fRd a) 0 0 (iJ a)
  else if fOp a = 103 then withF (nJalr a) (fRd a) (fRs1 a) 0 (iI a)
  else if fOp a = 99 then withF (nBranch a) 0 (fRs1 a) (fRs2 a) (iB a)
  else if fOp a = 3 then withF (nLoad a) (fRd a) (fRs1 a) 0 (iI a)
  else if fOp a = 35 then withF (nStore a) 0 (fRs1 a) (fRs2 a) (iS a)
  else if fOp a = 15 then withF (nFence a) 0 0 0 0
  else if fOp a = 47 then withF (nAto a) (fRd a) (fRs1 a) (fRs2 a) 0
  else no

/-! or, where the bits do not meet -/
theorem or64_gen (n : Nat) (x y : Int) (hx : (x % 18446744073709551616).toNat % 2 ^ n = 0) (h0 : 0 ≤ y) (hy : y.toNat < 2 ^ n) (hy' : y < 18446744073709551616) :
    bits .or .i64 x y = wrap64 (x % 18446744073709551616 + y) := by
  have e1 : (BitVec.ofInt 64 x).toNat = (x % 18446744073709551616).toNat := by rw [BitVec.toNat_ofInt]; rfl
  have e2 : (BitVec.ofInt 64 y).toNat = y.toNat := by rw [BitVec.toNat_ofInt]; show (y % 18446744073709551616).toNat = _; rw [Int.emod_eq_of_lt h0 hy']
  show IntKind.i64.wrap (((BitVec.ofInt 64 x ||| BitVec.ofInt 64 y).toNat : Nat) : Int) = _
  rw [BitVec.toNat_or, e1, e2, nat_join n _ _ hx hy]
  have e3 : (((x % 18446744073709551616).toNat + y.toNat : Nat) : Int) = x % 18446744073709551616 + y := by omega
  rw [e3, IntKind.wrap_i64]
  unfold wrap64
  omega
theorem wrap64_id (x : Int) (h : -9223372036854775808 ≤ x) (h' : x < 9223372036854775808) : wrap64 x = x := by unfold wrap64; omega
theorem or64_1 (x y : Int) (h : x % 2 = 0) (h1 : 0 ≤ y) (h2 : y < 2) (h3 : -9223372036854775808 ≤ x) (h4 : x < 9223372036854775808) : bits .or .i64 x y = x + y := by
  rw [or64_gen 1 x y (by omega) h1 (by omega) (by omega)]; unfold wrap64; omega
theorem or64_2 (x y : Int) (h : x % 4 = 0) (h1 : 0 ≤ y) (h2 : y < 4) (h3 : -9223372036854775808 ≤ x) (h4 : x < 9223372036854775808) : bits .or .i64 x y = x + y := by
  rw [or64_gen 2 x y (by omega) h1 (by omega) (by omega)]; unfold wrap64; omega
theorem or64_3 (x y : Int) (h : x % 8 = 0) (h1 : 0 ≤ y) (h2 : y < 8) (h3 : -9223372036854775808 ≤ x) (h4 : x < 9223372036854775808) : bits .or .i64 x y = x + y := by
  rw [or64_gen 3 x y (by omega) h1 (by omega) (by omega)]; unfold wrap64; omega
theorem or64_4 (x y : Int) (h : x % 16 = 0) (h1 : 0 ≤ y) (h2 : y < 16) (h3 : -9223372036854775808 ≤ x) (h4 : x < 9223372036854775808) : bits .or .i64 x y = x + y := by
  rw [or64_gen 4 x y (by omega) h1 (by omega) (by omega)]; unfold wrap64; omega
theorem or64_5 (x y : Int) (h : x % 32 = 0) (h1 : 0 ≤ y) (h2 : y < 32) (h3 : -9223372036854775808 ≤ x) (h4 : x < 9223372036854775808) : bits .or .i64 x y = x + y := by
  rw [or64_gen 5 x y (by omega) h1 (by omega) (by omega)]; unfold wrap64; omega
theorem or64_6 (x y : Int) (h : x % 64 = 0) (h1 : 0 ≤ y) (h2 : y < 64) (h3 : -9223372036854775808 ≤ x) (h4 : x < 9223372036854775808) : bits .or .i64 x y = x + y := by
  rw [or64_gen 6 x y (by omega) h1 (by omega) (by omega)]; unfold wrap64; omega
theorem or64_7 (x y : Int) (h : x % 128 = 0) (h1 : 0 ≤ y) (h2 : y < 128) (h3 : -9223372036854775808 ≤ x) (h4 : x < 9223372036854775808) : bits .or .i64 x y = x + y := by
  rw [or64_gen 7 x y (by omega) h1 (by omega) (by omega)]; unfold wrap64; omega
theorem or64_8 (x y : Int) (h : x % 256 = 0) (h1 : 0 ≤ y) (h2 : y < 256) (h3 : -9223372036854775808 ≤ x) (h4 : x < 9223372036854775808) : bits .or .i64 x y = x + y := by
  rw [or64_gen 8 x y (by omega) h1 (by omega) (by omega)]; unfold wrap64; omega
theorem or64_9 (x y : Int) (h : x % 512 = 0) (h1 : 0 ≤ y) (h2 : y < 512) (h3 : -9223372036854775808 ≤ x) (h4 : x < 9223372036854775808) : bits .or .i64 x y = x + y := by
  rw [or64_gen 9 x y (by omega) h1 (by omega) (by omega)]; unfold wrap64; omega
theorem or64_10 (x y : Int) (h : x % 1024 = 0) (h1 : 0 ≤ y) (h2 : y < 1024) (h3 : -9223372036854775808 ≤ x) (h4 : x < 9223372036854775808) : bits .or .i64 x y = x + y := by
  rw [or64_gen 10 x y (by omega) h1 (by omega) (by omega)]; unfold wrap64; omega
theorem or64_11 (x y : Int) (h : x % 2048 = 0) (h1 : 0 ≤ y) (h2 : y < 2048) (h3 : -9223372036854775808 ≤ x) (h4 : x < 9223372036854775808) : bits .or .i64 x y = x + y := by
  rw [or64_gen 11 x y (by omega) h1 (by omega) (by omega)]; unfold wrap64; omega
theorem or64_12 (x y : Int) (h : x % 4096 = 0) (h1 : 0 ≤ y) (h2 : y < 4096) (h3 : -9223372036854775808 ≤ x) (h4 : x < 9223372036854775808) : bits .or .i64 x y = x + y := by
  rw [or64_gen 12 x y (by omega) h1 (by omega) (by omega)]; unfold wrap64; omega
theorem or64_13 (x y : Int) (h : x % 8192 = 0) (h1 : 0 ≤ y) (h2 : y < 8192) (h3 : -9223372036854775808 ≤ x) (h4 : x < 9223372036854775808) : bits .or .i64 x y = x + y := by
  rw [or64_gen 13 x y (by omega) h1 (by omega) (by omega)]; unfold wrap64; omega
theorem or64_14 (x y : Int) (h : x % 16384 = 0) (h1 : 0 ≤ y) (h2 : y < 16384) (h3 : -9223372036854775808 ≤ x) (h4 : x < 9223372036854775808) : bits .or .i64 x y = x + y := by
  rw [or64_gen 14 x y (by omega) h1 (by omega) (by omega)]; unfold wrap64; omega
theorem or64_15 (x y : Int) (h : x % 32768 = 0) (h1 : 0 ≤ y) (h2 : y < 32768) (h3 : -9223372036854775808 ≤ x) (h4 : x < 9223372036854775808) : bits .or .i64 x y = x + y := by
  rw [or64_gen 15 x y (by omega) h1 (by omega) (by omega)]; unfold wrap64; omega
theorem or64_16 (x y : Int) (h : x % 65536 = 0) (h1 : 0 ≤ y) (h2 : y < 65536) (h3 : -9223372036854775808 ≤ x) (h4 : x < 9223372036854775808) : bits .or .i64 x y = x + y := by
  rw [or64_gen 16 x y (by omega) h1 (by omega) (by omega)]; unfold wrap64; omega
theorem or64_17 (x y : Int) (h : x % 131072 = 0) (h1 : 0 ≤ y) (h2 : y < 131072) (h3 : -9223372036854775808 ≤ x) (h4 : x < 9223372036854775808) : bits .or .i64 x y = x + y := by
  rw [or64_gen 17 x y (by omega) h1 (by omega) (by omega)]; unfold wrap64; omega
theorem or64_18 (x y : Int) (h : x % 262144 = 0) (h1 : 0 ≤ y) (h2 : y < 262144) (h3 : -9223372036854775808 ≤ x) (h4 : x < 9223372036854775808) : bits .or .i64 x y = x + y := by
  rw [or64_gen 18 x y (by omega) h1 (by omega) (by omega)]; unfold wrap64; omega
theorem or64_19 (x y : Int) (h : x % 524288 = 0) (h1 : 0 ≤ y) (h2 : y < 524288) (h3 : -9223372036854775808 ≤ x) (h4 : x < 9223372036854775808) : bits .or .i64 x y = x + y := by
  rw [or64_gen 19 x y (by omega) h1 (by omega) (by omega)]; unfold wrap64; omega
theorem or64_20 (x y : Int) (h : x % 1048576 = 0) (h1 : 0 ≤ y) (h2 : y < 1048576) (h3 : -9223372036854775808 ≤ x) (h4 : x < 9223372036854775808) : bits .or .i64 x y = x + y := by
  rw [or64_gen 20 x y (by omega) h1 (by omega) (by omega)]; unfold wrap64; omega
theorem nat_and_or (n : Nat) : ∀ x y : Nat, x ≤ n → (x &&& y) + (x ||| y) = x + y := by
  induction n using Nat.strongRecOn with
  | ind n ih =>
    intro x y hx
    by_cases h0 : x = 0
    · subst h0; simp
    · have e := ih (x / 2) (by omega) (x / 2) (y / 2) (Nat.le_refl _)
      rw [← Nat.and_div_two, ← Nat.or_div_two] at e
      have m1 : (x &&& y) % 2 = x % 2 &&& y % 2 := by have := Nat.and_mod_two_pow (a := x) (b := y) (n := 1); simpa using this
      have m2 : (x ||| y) % 2 = x % 2 ||| y % 2 := by have := Nat.or_mod_two_pow (a := x) (b := y) (n := 1); simpa using this
      have c : (x % 2 &&& y % 2) + (x % 2 ||| y % 2) = x % 2 + y % 2 := by
        rcases Nat.mod_two_eq_zero_or_one x with p | p <;> rcases Nat.mod_two_eq_zero_or_one y with q | q <;> rw [p, q] <;> rfl
      omega
/-- two numbers whose bits lie in masks that do not meet -/
theorem or_apart {x y m n : Nat} (hx : x &&& m = x) (hy : y &&& n = y) (h : m &&& n = 0) : x ||| y = x + y ∧ (x ||| y) &&& (m ||| n) = x ||| y := by
  have hz : x &&& y = 0 := by
    rw [← hx, ← hy]
    apply Nat.eq_of_testBit_eq
    intro i
    have := congrArg (fun z => z.testBit i) h
    simp only [Nat.testBit_and, Nat.zero_testBit] at this ⊢
    revert this
    cases x.testBit i <;> cases y.testBit i <;> cases m.testBit i <;> cases n.testBit i <;> simp
  refine ⟨?_, ?_⟩
  · have := nat_and_or x x y (Nat.le_refl _)
    omega
  · apply Nat.eq_of_testBit_eq
    intro i
    have h1 := congrArg (fun z => z.testBit i) hx
    have h2 := congrArg (fun z => z.testBit i) hy
    simp only [Nat.testBit_and, Nat.testBit_or] at h1 h2 ⊢
    revert h1 h2
    cases x.testBit i <;> cases y.testBit i <;> cases m.testBit i <;> cases n.testBit i <;> simp
theorem in_mask (k j x : Nat) (h : x < 2 ^ k) : (x * 2 ^ j) &&& ((2 ^ k - 1) * 2 ^ j) = x * 2 ^ j := by
  rw [← Nat.shiftLeft_eq, ← Nat.shiftLeft_eq, ← Nat.shiftLeft_and_distrib, Nat.and_two_pow_sub_one_eq_mod, Nat.mod_eq_of_lt h]
/-! bounds of the fields -/
theorem fOp_b (a : Int) : 0 ≤ fOp a ∧ fOp a < 128 := by unfold fOp; omega
theorem fRd_b (a : Int) : 0 ≤ fRd a ∧ fRd a < 32 := by unfold fRd; omega
theorem fF3_b (a : Int) : 0 ≤ fF3 a ∧ fF3 a < 8 := by unfold fF3; omega
theorem fRs1_b (a : Int) : 0 ≤ fRs1 a ∧ fRs1 a < 32 := by unfold fRs1; omega
theorem fRs2_b (a : Int) : 0 ≤ fRs2 a ∧ fRs2 a < 32 := by unfold fRs2; omega
theorem fF7_b (a : Int) : 0 ≤ fF7 a ∧ fF7 a < 128 := by unfold fF7; omega
theorem fF6_b (a : Int) : 0 ≤ fF6 a ∧ fF6 a < 64 := by unfold fF6; omega
theorem fF5_b (a : Int) : 0 ≤ fF5 a ∧ fF5 a < 32 := by unfold fF5; omega
theorem fSh_b (a : Int) : 0 ≤ fSh a ∧ fSh a < 64 := by unfold fSh; omega
theorem fCs_b (a : Int) : 0 ≤ fCs a ∧ fCs a < 4096 := by unfold fCs; omega
theorem or_B (A B C E : Int) (a : A % 4096 = 0) (a1 : -9223372036854775808 ≤ A) (a2 : A < 9223372036854775808) (b : B % 2048 = 0) (b1 : 0 ≤ B) (b2 : B < 4096) (c : C % 32 = 0) (c1 : 0 ≤ C) (c2 : C < 2048) (e1 : 0 ≤ E) (e2 : E < 32) :
    bits .or .i64 (bits .or .i64 (bits .or .i64 A B) C) E = A + B + C + E := by
  rw [or64_12 A B a b1 b2 a1 a2, or64_11 (A + B) C (by omega) c1 c2 (by omega) (by omega), or64_5 (A + B + C) E (by omega) e1 e2 (by omega) (by omega)]
theorem or_J (A B C E : Int) (a : A % 1048576 = 0) (a1 : -9223372036854775808 ≤ A) (a2 : A < 9223372036854775808) (b : B % 4096 = 0) (b1 : 0 ≤ B) (b2 : B < 1048576) (c : C % 2048 = 0) (c1 : 0 ≤ C) (c2 : C < 4096) (e1 : 0 ≤ E) (e2 : E < 2048) :
    bits .or .i64 (bits .or .i64 (bits .or .i64 A B) C) E = A + B + C + E := by
  rw [or64_20 A B a b1 b2 a1 a2, or64_12 (A + B) C (by omega) c1 c2 (by omega) (by omega), or64_11 (A + B + C) E (by omega) e1 e2 (by omega) (by omega)]
theorem wrap32_s (a : Int) (h0 : 0 ≤ a) (h1 : a < 4294967296) : wrap32 a = s32 a := by
  unfold wrap32 s32; split <;> omega
theorem s32_b (a : Int) (h0 : 0 ≤ a) (h1 : a < 4294967296) : -2147483648 ≤ s32 a ∧ s32 a < 2147483648 := by unfold s32; split <;> omega
end Go.Proofs.YtooagjndelbegaaGreatDoor.B
namespace Go.Proofs.YtooagjndelbegaaGreatDoor.B
open Go.RowKit
set_option linter.unusedVariables false

theorem ret_int {k : IntKind} {a b : Int} (h : a = b) : Ending.returned (.int k a) = .returned (.int k b) := by rw [h]
theorem ret_bool {a b : Bool} (h : a = b) : Ending.returned (.bool a) = .returned (.bool b) := by rw [h]
theorem m_op (a : Int) (h0 : 0 ≤ a) (h1 : a < 4294967296) (w : World) :
    Calls Tryz.prog 200 #[.int .u32 a] w fun e w' => e = .returned (.int .i64 (fOp a)) ∧ w' = w := by
  go_enter Tryz.func200, Tryz.ntmps200
  go_wp2
  go_ret
  exact ⟨ret_int (by unfold fOp; omega), rfl⟩
theorem m_f3 (a : Int) (h0 : 0 ≤ a) (h1 : a < 4294967296) (w : World) :
    Calls Tryz.prog 336 #[.int .u32 a] w fun e w' => e = .returned (.int .i64 (fF3 a)) ∧ w' = w := by
  go_enter Tryz.func336, Tryz.ntmps336
  go_wp2
  go_ret
  exact ⟨ret_int (by unfold fF3; omega), rfl⟩
theorem m_f5 (a : Int) (h0 : 0 ≤ a) (h1 : a < 4294967296) (w : World) :
    Calls Tryz.prog 337 #[.int .u32 a] w fun e w' => e = .returned (.int .i64 (fF5 a)) ∧ w' = w := by
  go_enter Tryz.func337, Tryz.ntmps337
  go_wp2
  go_ret
  exact ⟨ret_int (by unfold fF5; omega), rfl⟩
theorem m_f6 (a : Int) (h0 : 0 ≤ a) (h1 : a < 4294967296) (w : World) :
    Calls Tryz.prog 374 #[.int .u32 a] w fun e w' => e = .returned (.int .i64 (fF6 a)) ∧ w' = w := by
  go_enter Tryz.func374, Tryz.ntmps374
  go_wp2
  go_ret
  exact ⟨ret_int (by unfold fF6; omega), rfl⟩
theorem m_f7 (a : Int) (h0 : 0 ≤ a) (h1 : a < 4294967296) (w : World) :
    Calls Tryz.prog 375 #[.int .u32 a] w fun e w' => e = .returned (.int .i64 (fF7 a)) ∧ w' = w := by
  go_enter Tryz.func375, Tryz.ntmps375
  go_wp2
  go_ret
  exact ⟨ret_int (by unfold fF7; omega), rfl⟩
theorem m_rd (a : Int) (h0 : 0 ≤ a) (h1 : a < 4294967296) (w : World) :
    Calls Tryz.prog 309 #[.int .u32 a] w fun e w' => e = .returned (.int .i64 (fRd a)) ∧ w' = w := by
  go_enter Tryz.func309, Tryz.ntmps309
  go_wp2
  go_ret
  exact ⟨ret_int (by unfold fRd; omega), rfl⟩
theorem m_rs1 (a : Int) (h0 : 0 ≤ a) (h1 : a < 4294967296) (w : World) :
    Calls Tryz.prog 314 #[.int .u32 a] w fun e w' => e = .returned (.int .i64 (fRs1 a)) ∧ w' = w := by
  go_enter Tryz.func314, Tryz.ntmps314
  go_wp2
  go_ret
  exact ⟨ret_int (by unfold fRs1; omega), rfl⟩
theorem m_rs2 (a : Int) (h0 : 0 ≤ a) (h1 : a < 4294967296) (w : World) :
    Calls Tryz.prog 319 #[.int .u32 a] w fun e w' => e = .returned (.int .i64 (fRs2 a)) ∧ w' = w := by
  go_enter Tryz.func319, Tryz.ntmps319
  go_wp2
  go_ret
  exact ⟨ret_int (by unfold fRs2; omega), rfl⟩
theorem m_none (a : Int) (h0 : 0 ≤ a) (h1 : a < 4294967296) (w : World) :
    Calls Tryz.prog 310 #[.int .u32 a] w fun e w' => e = .returned (.int .i64 0) ∧ w' = w := by
  go_enter Tryz.func310, Tryz.ntmps310
  go_wp2
  go_ret
  exact ⟨rfl, rfl⟩
theorem m_immI (a : Int) (h0 : 0 ≤ a) (h1 : a < 4294967296) (w : World) :
    Calls Tryz.prog 327 #[.int .u32 a] w fun e w' => e = .returned (.int .i64 (iI a)) ∧ w' = w := by
  have hs := s32_b a h0 h1
  have hw := wrap32_s a h0 h1
  go_enter Tryz.func327, Tryz.ntmps327
  go_wp2
  go_ret
  exact ⟨ret_int (by first | rfl | (unfold iI; omega)), rfl⟩
theorem m_immU (a : Int) (h0 : 0 ≤ a) (h1 : a < 4294967296) (w : World) :
    Calls Tryz.prog 311 #[.int .u32 a] w fun e w' => e = .returned (.int .i64 (iU a)) ∧ w' = w := by
  have hs := s32_b a h0 h1
  have hw := wrap32_s a h0 h1
  go_enter Tryz.func311, Tryz.ntmps311
  go_wp2
  go_ret
  exact ⟨ret_int (by first | rfl | (unfold iU; omega)), rfl⟩
theorem m_immS (a : Int) (h0 : 0 ≤ a) (h1 : a < 4294967296) (w : World) :
    Calls Tryz.prog 329 #[.int .u32 a] w fun e w' => e = .returned (.int .i64 (iS a)) ∧ w' = w := by
  have hs := s32_b a h0 h1
  have hw := wrap32_s a h0 h1
  go_enter Tryz.func329, Tryz.ntmps329
  go_wp2
  go_ret
  refine ⟨ret_int ?_, rfl⟩
  rw [or64_5 _ _ (by omega) (by omega) (by omega) (by omega) (by omega)]
  unfold iS; omega
theorem m_immB (a : Int) (h0 : 0 ≤ a) (h1 : a < 4294967296) (w : World) :
    Calls Tryz.prog 328 #[.int .u32 a] w fun e w' => e = .returned (.int .i64 (iB a)) ∧ w' = w := by
  have hs := s32_b a h0 h1
  have hw := wrap32_s a h0 h1
  go_enter Tryz.func328, Tryz.ntmps328
  go_wp2
  go_ret
  refine ⟨ret_int ?_, rfl⟩
  rw [or_B _ _ _ _ (by omega) (by omega) (by omega) (by omega) (by omega) (by omega) (by omega) (by omega) (by omega) (by omega) (by omega)]
  unfold iB; omega
theorem m_immJ (a : Int) (h0 : 0 ≤ a) (h1 : a < 4294967296) (w : World) :
    Calls Tryz.prog 325 #[.int .u32 a] w fun e w' => e = .returned (.int .i64 (iJ a)) ∧ w' = w := by
  have hs := s32_b a h0 h1
  have hw := wrap32_s a h0 h1
  go_enter Tryz.func325, Tryz.ntmps325
  go_wp2
  go_ret
  refine ⟨ret_int ?_, rfl⟩
  rw [or_J _ _ _ _ (by omega) (by omega) (by omega) (by omega) (by omega) (by omega) (by omega) (by omega) (by omega) (by omega) (by omega)]
  unfold iJ; omega
theorem m_shifts (a : Int) (h0 : 0 ≤ a) (h1 : a < 4294967296) (w : World) :
    Calls Tryz.prog 372 #[.int .u32 a] w fun e w' => e = .returned (.bool (shf a)) ∧ w' = w := by
  go_enter Tryz.func372, Tryz.ntmps372
  go_wp2_with (go_at_call 336; refine (m_f3 _ h0 h1 _).mono ?_; rintro e w' ⟨rfl, rfl⟩)
  all_goals
    go_ret
    exact ⟨ret_bool (by simp_all [shf]), rfl⟩
theorem m_operand (a : Int) (h0 : 0 ≤ a) (h1 : a < 4294967296) (w : World) :
    Calls Tryz.prog 315 #[.int .u32 a] w fun e w' => e = .returned (.int .i64 (iOpnd a)) ∧ w' = w := by
  cases hh : shf a
  · have e1 : iOpnd a = iI a := by unfold iOpnd; rw [hh]; rfl
    rw [e1]
    go_enter Tryz.func315, Tryz.ntmps315
    go_wp2_with (first | (go_at_call 372; refine (m_shifts _ h0 h1 _).mono ?_; rintro e w' ⟨rfl, rfl⟩) | (go_at_call 327; refine (m_immI _ h0 h1 _).mono ?_; rintro e w' ⟨rfl, rfl⟩))
    go_ret
    exact ⟨rfl, rfl⟩
  · have e1 : iOpnd a = fSh a := by unfold iOpnd; rw [hh]; rfl
    rw [e1]
    go_enter Tryz.func315, Tryz.ntmps315
    go_wp2_with (first | (go_at_call 372; refine (m_shifts _ h0 h1 _).mono ?_; rintro e w' ⟨rfl, rfl⟩) | (go_at_call 207; go_in))
    go_ret
    exact ⟨ret_int (by unfold fSh; omega), rfl⟩
theorem m_operandW (a : Int) (h0 : 0 ≤ a) (h1 : a < 4294967296) (w : World) :
    Calls Tryz.prog 317 #[.int .u32 a] w fun e w' => e = .returned (.int .i64 (iOpndW a)) ∧ w' = w := by
  cases hh : shf a
  · have e1 : iOpndW a = iI a := by unfold iOpndW; rw [hh]; rfl
    rw [e1]
    go_enter Tryz.func317, Tryz.ntmps317
    go_wp2_with (first | (go_at_call 372; refine (m_shifts _ h0 h1 _).mono ?_; rintro e w' ⟨rfl, rfl⟩) | (go_at_call 327; refine (m_immI _ h0 h1 _).mono ?_; rintro e w' ⟨rfl, rfl⟩))
    go_ret
    exact ⟨rfl, rfl⟩
  · have e1 : iOpndW a = fRs2 a := by unfold iOpndW; rw [hh]; rfl
    rw [e1]
    go_enter Tryz.func317, Tryz.ntmps317
    go_wp2_with (first | (go_at_call 372; refine (m_shifts _ h0 h1 _).mono ?_; rintro e w' ⟨rfl, rfl⟩) | (go_at_call 207; go_in))
    go_ret
    exact ⟨ret_int (by unfold fRs2; omega), rfl⟩
theorem m_csr (a : Int) (h0 : 0 ≤ a) (h1 : a < 4294967296) (w : World) :
    Calls Tryz.prog 323 #[.int .u32 a] w fun e w' => e = .returned (.int .i64 (iCsr a)) ∧ w' = w := by
  by_cases h : fF3 a = 0
  · have e1 : iCsr a = 0 := if_pos h
    rw [e1]
    go_enter Tryz.func323, Tryz.ntmps323
    go_wp2_with (first | (go_at_call 336; refine (m_f3 _ h0 h1 _).mono ?_; rintro e w' ⟨rfl, rfl⟩))
    go_ret
    exact ⟨rfl, rfl⟩
  · have e1 : iCsr a = fCs a := if_neg h
    rw [e1]
    go_enter Tryz.func323, Tryz.ntmps323
    go_wp2_with (first | (go_at_call 336; refine (m_f3 _ h0 h1 _).mono ?_; rintro e w' ⟨rfl, rfl⟩) | (go_at_call 207; go_in))
    go_ret
    exact ⟨ret_int (by unfold fCs; omega), rfl⟩
theorem m_space (a : Int) (h0 : 0 ≤ a) (h1 : a < 4294967296) (w : World) :
    Calls Tryz.prog 322 #[.int .u32 a] w fun e w' => e = .returned (.int .i64 (rSpace a)) ∧ w' = w := by
  by_cases h : fF3 a = 0
  · by_cases h7 : fF7 a = 9
    · have e1 : rSpace a = fRs2 a := if_pos ⟨h, h7⟩
      rw [e1]
      go_enter Tryz.func322, Tryz.ntmps322
      go_wp2_with (first | (go_at_call 336; refine (m_f3 _ h0 h1 _).mono ?_; rintro e w' ⟨rfl, rfl⟩) | (go_at_call 375; refine (m_f7 _ h0 h1 _).mono ?_; rintro e w' ⟨rfl, rfl⟩) | (go_at_call 319; refine (m_rs2 _ h0 h1 _).mono ?_; rintro e w' ⟨rfl, rfl⟩))
      go_ret
      exact ⟨rfl, rfl⟩
    · have e1 : rSpace a = 0 := if_neg (fun x => h7 x.2)
      rw [e1]
      go_enter Tryz.func322, Tryz.ntmps322
      go_wp2_with (first | (go_at_call 336; refine (m_f3 _ h0 h1 _).mono ?_; rintro e w' ⟨rfl, rfl⟩) | (go_at_call 375; refine (m_f7 _ h0 h1 _).mono ?_; rintro e w' ⟨rfl, rfl⟩) | (go_at_call 319; refine (m_rs2 _ h0 h1 _).mono ?_; rintro e w' ⟨rfl, rfl⟩))
      go_ret
      exact ⟨rfl, rfl⟩
  · have e1 : rSpace a = 0 := if_neg (fun x => h x.1)
    rw [e1]
    go_enter Tryz.func322, Tryz.ntmps322
    go_wp2_with (first | (go_at_call 336; refine (m_f3 _ h0 h1 _).mono ?_; rintro e w' ⟨rfl, rfl⟩))
    go_ret
    exact ⟨rfl, rfl⟩
end Go.Proofs.YtooagjndelbegaaGreatDoor.B
namespace Go.Proofs.YtooagjndelbegaaGreatDoor.B
open Go.RowKit Go.ChangeMaps Go.MapKept
set_option linter.unusedVariables false

theorem bcell {W w1 : World} (hb : Below W.heap.size W w1) : (∀ b o, b < W.heap.size → w1.cell? ⟨b, o, none⟩ = W.cell? ⟨b, o, none⟩) ∧ (∀ b o, b < W.heap.size → w1.frozen? ⟨b, o, none⟩ = W.frozen? ⟨b, o, none⟩) :=
  ⟨fun b o h => hb.cell (p := ⟨b, o, none⟩) h, fun b o h => hb.frozen (p := ⟨b, o, none⟩) h⟩
theorem belowA {w w' : World} {o : Obj} (h : Below (w.alloc o).heap.size (w.alloc o) w') : Below w.heap.size w w' :=
  ((Below.refl _ _).alloc (Nat.le_refl _) _).trans (h.mono (by simp))
theorem belowS {w w' : World} {o : Obj} (h : Below (w.alloc o).heap.size (w.alloc o) w') : w.heap.size < w'.heap.size := by
  have := h.size; simp at this; omega
theorem below1 {w : World} (o : Obj) : Below w.heap.size w (w.alloc o) := (Below.refl _ _).alloc (Nat.le_refl _) _
theorem belowT {a b c : World} (h : Below a.heap.size a b) (k : Below b.heap.size b c) : Below a.heap.size a c := h.trans (k.mono h.size)
theorem below8 {B : Nat} {w w' : World} (h : Below B w w') {b : Nat} (hb : B ≤ b) (v0 v1 v2 v3 v4 v5 v6 v7 : Value) :
    Below B w ((((((((w'.setCell ⟨b, 0, none⟩ v0).setCell ⟨b, 1, none⟩ v1).setCell ⟨b, 2, none⟩ v2).setCell ⟨b, 3, none⟩ v3).setCell ⟨b, 4, none⟩ v4).setCell ⟨b, 5, none⟩ v5).setCell ⟨b, 6, none⟩ v6).setCell ⟨b, 7, none⟩ v7) :=
  (((((((h.setCell hb _).setCell hb _).setCell hb _).setCell hb _).setCell hb _).setCell hb _).setCell hb _).setCell hb _
theorem below5 {B : Nat} {w w' : World} (h : Below B w w') {b : Nat} (hb : B ≤ b) (v0 v1 v2 v3 v4 : Value) :
    Below B w (((((w'.setCell ⟨b, 0, none⟩ v0).setCell ⟨b, 1, none⟩ v1).setCell ⟨b, 2, none⟩ v2).setCell ⟨b, 3, none⟩ v3).setCell ⟨b, 4, none⟩ v4) :=
  ((((h.setCell hb _).setCell hb _).setCell hb _).setCell hb _).setCell hb _

/-- a table of the package, as it stands in memory -/
def Tb (w : World) (g : Nat) (t : Int → Int) (len : Int) : Prop := g < w.heap.size ∧ ∀ n : Int, 0 ≤ n → n < len → w.cell? ⟨g, n.toNat, none⟩ = some (.int .i64 (t n))
theorem Tb.below {w w' : World} {g : Nat} {t : Int → Int} {len : Int} (h : Tb w g t len) (hb : Below w.heap.size w w') : Tb w' g t len :=
  ⟨Nat.lt_of_lt_of_le h.1 hb.size, fun n h0 h1 => by rw [(bcell hb).1 _ _ h.1]; exact h.2 n h0 h1⟩
/-- the eleven tables -/
structure G (w : World) : Prop where
  cond : Tb w 0 tCond 8
  load : Tb w 1 tLoad 8
  store : Tb w 2 tStore 8
  wid : Tb w 3 tWid 8
  ato : Tb w 4 tAto 32
  bas : Tb w 5 tBas 8
  alt : Tb w 6 tAlt 8
  pro : Tb w 9 tPro 8
  basW : Tb w 7 tBasW 8
  altW : Tb w 8 tAltW 8
  proW : Tb w 10 tProW 8
theorem G.below {w w' : World} (h : G w) (hb : Below w.heap.size w w') : G w' :=
  ⟨h.cond.below hb, h.load.below hb, h.store.below hb, h.wid.below hb, h.ato.below hb, h.bas.below hb, h.alt.below hb, h.pro.below hb, h.basW.below hb, h.altW.below hb, h.proW.below hb⟩
theorem G.alloc {w : World} (h : G w) (o : Obj) : G (w.alloc o) := h.below (below1 o)

/-! a map that is made of a list, and looked into -/
theorem ins_run {P : Program} {t ke e : TypeId} (hU : P.underlying t = some (.map ke e)) (hK : P.underlying ke = some (.int .i64)) (W : World) (es : Array MapEntry) (c : Nat) (k : Int) (v : Value)
    (hn : Instr.findNow (.int .i64) (.int .i64 k) es.toList 0 = some none) :
    (Instr.mapUpdate t (.map (some W.heap.size)) (.int .i64 k) v).run P (W.alloc (.map es c)) = .ok () (W.alloc (.map (es.push ⟨.int .i64 k, v, c⟩) (c + 1))) := by
  have hb : (W.alloc (.map es c)).heap[W.heap.size]? = some (.map es c) := by show (W.heap.push _)[W.heap.size]? = _; simp
  have hkey : IsKey (.int .i64) (.int .i64 k) := by simp [IsKey]
  simp [Instr.mapUpdate, run_underlying hU, MapKept.run_getObj_map hb, run_checkKey hK hkey, run_findKey hK hn, MapKept.run_setObj_map _ hb, Result.andThen]
  have e : (W.heap.push (Obj.map es c)).setIfInBounds W.heap.size (.map (es.push ⟨.int .i64 k, v, c⟩) (c+1)) = W.heap.push (.map (es.push ⟨.int .i64 k, v, c⟩) (c+1)) := by
    apply Array.ext'
    simp
  show ({ W.alloc (.map es c) with heap := (W.heap.push (Obj.map es c)).setIfInBounds W.heap.size (.map (es.push ⟨.int .i64 k, v, c⟩) (c+1)) } : World) = _
  rw [e]
  rfl
theorem look_run {P : Program} {t ke e : TypeId} (hU : P.underlying t = some (.map ke e)) (hK : P.underlying ke = some (.int .i64)) (W : World) (es : Array MapEntry) (c : Nat) (k : Int) (i : Nat) (v : Value)
    (hn : Instr.findNow (.int .i64) (.int .i64 k) es.toList 0 = some (some (i, v))) :
    (Instr.lookup t (.map (some W.heap.size)) (.int .i64 k) true).run P (W.alloc (.map es c)) = .ok (.tuple #[v, .bool true]) (W.alloc (.map es c)) := by
  have hb : (W.alloc (.map es c)).heap[W.heap.size]? = some (.map es c) := by show (W.heap.push _)[W.heap.size]? = _; simp
  have hkey : IsKey (.int .i64) (.int .i64 k) := by simp [IsKey]
  simp [Instr.lookup, run_underlying hU, MapKept.run_getObj_map hb, run_checkKey hK hkey, run_findKey hK hn, Result.andThen]
theorem look_none {P : Program} {t ke e : TypeId} (hU : P.underlying t = some (.map ke e)) (hK : P.underlying ke = some (.int .i64)) (W : World) (es : Array MapEntry) (c : Nat) (k : Int) (z : Value) (hz : ∀ w, (zeroValue e).run P w = .ok z w)
    (hn : Instr.findNow (.int .i64) (.int .i64 k) es.toList 0 = some none) :
    (Instr.lookup t (.map (some W.heap.size)) (.int .i64 k) true).run P (W.alloc (.map es c)) = .ok (.tuple #[z, .bool false]) (W.alloc (.map es c)) := by
  have hb : (W.alloc (.map es c)).heap[W.heap.size]? = some (.map es c) := by show (W.heap.push _)[W.heap.size]? = _; simp
  have hkey : IsKey (.int .i64) (.int .i64 k) := by simp [IsKey]
  simp [Instr.lookup, run_underlying hU, MapKept.run_getObj_map hb, run_checkKey hK hkey, run_findKey hK hn, hz, Result.andThen]
theorem ins_at {P : Program} {t ke e : TypeId} (hU : P.underlying t = some (.map ke e)) (hK : P.underlying ke = some (.int .i64)) (W : World) (es es' : Array MapEntry) (c b : Nat) (k : Int) (v : Value) (hb : W.heap.size = b)
    (hn : Instr.findNow (.int .i64) (.int .i64 k) es.toList 0 = some none) (hes : es.push ⟨.int .i64 k, v, c⟩ = es') :
    (Instr.mapUpdate t (.map (some b)) (.int .i64 k) v).run P (W.alloc (.map es c)) = .ok () (W.alloc (.map es' (c + 1))) := by
  subst hb; subst hes; exact ins_run hU hK W es c k v hn
theorem look_at {P : Program} {t ke e : TypeId} (hU : P.underlying t = some (.map ke e)) (hK : P.underlying ke = some (.int .i64)) (W : World) (es : Array MapEntry) (c b : Nat) (k : Int) (i : Nat) (v : Value) (hb : W.heap.size = b)
    (hn : Instr.findNow (.int .i64) (.int .i64 k) es.toList 0 = some (some (i, v))) :
    (Instr.lookup t (.map (some b)) (.int .i64 k) true).run P (W.alloc (.map es c)) = .ok (.tuple #[v, .bool true]) (W.alloc (.map es c)) := by
  subst hb; exact look_run hU hK W es c k i v hn
theorem none_at {P : Program} {t ke e : TypeId} (hU : P.underlying t = some (.map ke e)) (hK : P.underlying ke = some (.int .i64)) (W : World) (es : Array MapEntry) (c b : Nat) (k : Int) (z : Value) (hz : ∀ w, (zeroValue e).run P w = .ok z w) (hb : W.heap.size = b)
    (hn : Instr.findNow (.int .i64) (.int .i64 k) es.toList 0 = some none) :
    (Instr.lookup t (.map (some b)) (.int .i64 k) true).run P (W.alloc (.map es c)) = .ok (.tuple #[z, .bool false]) (W.alloc (.map es c)) := by
  subst hb; exact look_none hU hK W es c k z hz hn
theorem st_func (P : Program) (w : World) (a : Addr) (m : Mode) (fn : Fn) (x y : Array Value) : (store a (.func fn x y) m).run P w = stored P w a (.func fn x y) m := run_store P w a _ m rfl
theorem st_nilFunc (P : Program) (w : World) (a : Addr) (m : Mode) : (store a .nilFunc m).run P w = stored P w a .nilFunc m := run_store P w a _ m rfl

/-! a region that draws its order, by what holds in whatever order -/
theorem wpAny_inv {P : Program} {md : Region.Mode} {ops : Array Oper} {Q : Exit → Act → World → Prop} (J : Array Bool → Act → World → Prop)
    (step : ∀ listed a w, J listed a w → ∀ i ∈ Region.ready md ops listed, wpOp P ops Q i (J (listed.setIfInBounds i true)) a w)
    (fin : ∀ listed a w, J listed a w → Region.ready md ops listed = [] → Q .normal a w) :
    ∀ (fuel : Nat) (listed : Array Bool) (a : Act) (w : World), listed.toList.count false ≤ fuel → J listed a w → wpAny P md ops Q fuel listed a w := by
  intro fuel
  have key : ∀ (listed : Array Bool) (i : Nat), i ∈ Region.ready md ops listed → (listed.setIfInBounds i true).toList.count false + 1 = listed.toList.count false := by
    intro listed i hi
    have h0 := (mem_ready.1 hi).1
    have hlt : i < listed.size := by
      rcases Nat.lt_or_ge i listed.size with h | h
      · exact h
      · simp [Array.getElem?_eq_none h] at h0
    have hv : listed.toList[i]'(by simpa using hlt) = false := by simpa [hlt] using h0
    have hpos : 0 < listed.toList.count false := List.count_pos_iff.2 (by rw [← hv]; exact List.getElem_mem _)
    rw [Array.toList_setIfInBounds, List.count_set (by simpa using hlt), hv]
    have : ∀ c : Nat, 0 < c → c - (if (false == false) = true then 1 else 0) + (if (true == false) = true then 1 else 0) + 1 = c := by intro c hc; simp; omega
    exact this _ hpos
  induction fuel with
  | zero =>
    intro listed a w hc hJ
    have hr : Region.ready md ops listed = [] := by
      cases h : Region.ready md ops listed with
      | nil => rfl
      | cons i r => have := key listed i (by rw [h]; simp); omega
    exact ⟨hr, fin _ _ _ hJ hr⟩
  | succ fuel ih =>
    intro listed a w hc hJ
    refine ⟨fun h => fin _ _ _ hJ h, fun i hi => ?_⟩
    have := key listed i hi
    exact wpOp_mono (fun a' w' h' => ih _ a' w' (by omega) h') (step _ _ _ hJ i hi)
theorem ready_no {md : Region.Mode} {ops : Array Oper} {listed : Array Bool} (hr : Region.ready md ops listed = []) {j : Nat} {o : Oper} (ho : ops[j]? = some o) (hl : listed.getD j true = false)
    (he : (o.after.all fun e => !Region.binds md e || listed.getD e.on false) = true) : False := by
  have : j ∈ Region.ready md ops listed := by
    refine mem_ready.2 ⟨hl, o, ho, fun e h hb => ?_⟩
    have := Array.all_eq_true_iff_forall_mem.1 he e h
    simpa [hb] using this
  rw [hr] at this
  cases this
def sv : Bool → Value → Value
  | true, v => v
  | false, _ => undef
def ci : Bool → Int → Int → Int
  | true, x, _ => x
  | false, _, y => y
end Go.Proofs.YtooagjndelbegaaGreatDoor.B
namespace Go.Proofs.YtooagjndelbegaaGreatDoor.B
open Go.RowKit
set_option linter.unusedVariables false

theorem m_only (k f rd r1 r2 im sz : Int) (sg : Bool) (n : Int) (w : World) :
    Calls Tryz.prog 229 #[.agg #[.int .i64 k, .int .i64 f, .int .i64 rd, .int .i64 r1, .int .i64 r2, .int .i64 im, .int .i64 sz, .bool sg], .int .i64 n] w
      fun e w' => e = .returned (.tuple #[(onl ⟨k, f, rd, r1, r2, im, sz, sg⟩ n).1.v, .bool (onl ⟨k, f, rd, r1, r2, im, sz, sg⟩ n).2]) ∧ Below w.heap.size w w' := by
  by_cases hn : n = 0
  · subst hn
    go_enter Tryz.func229, Tryz.ntmps229
    go_wp2
    exact bodyPost_ret (v := .tuple #[I.zero.v, .bool false]) (by simp [results, Tryz.results229, go_sem, I.zero]) rfl ⟨rfl, (below1 _).alloc (by simp) _⟩
  · have e : onl ⟨k, f, rd, r1, r2, im, sz, sg⟩ n = (⟨k, f, rd, r1, r2, im, sz, sg⟩, true) := if_neg hn
    rw [e]
    go_enter Tryz.func229, Tryz.ntmps229
    go_wp2
    exact bodyPost_ret (v := .tuple #[.agg #[.int .i64 k, .int .i64 f, .int .i64 rd, .int .i64 r1, .int .i64 r2, .int .i64 im, .int .i64 sz, .bool sg], .bool true]) (by simp [results, Tryz.results229, go_sem]) rfl ⟨rfl, (below1 _).alloc (by simp) _⟩
theorem m_chosen (f p o t : Int) (w : World) :
    Calls Tryz.prog 373 #[.int .i64 f, .int .i64 p, .int .i64 o, .int .i64 t] w fun e w' => e = .returned (.int .i64 (chos f p o t)) ∧ w' = w := by
  unfold chos
  by_cases h1 : f = 0
  · subst h1
    go_enter Tryz.func373, Tryz.ntmps373
    go_wp2
    go_ret
    exact ⟨rfl, rfl⟩
  · rw [if_neg h1]
    by_cases h2 : f = 32
    · subst h2
      go_enter Tryz.func373, Tryz.ntmps373
      go_wp2
      go_ret
      exact ⟨rfl, rfl⟩
    · rw [if_neg h2]
      by_cases h3 : f = 1
      · subst h3
        go_enter Tryz.func373, Tryz.ntmps373
        go_wp2
        go_ret
        exact ⟨rfl, rfl⟩
      · rw [if_neg h3]
        go_enter Tryz.func373, Tryz.ntmps373
        go_wp2
        go_ret
        exact ⟨rfl, rfl⟩
theorem n_lui (a : Int) (h0 : 0 ≤ a) (h1 : a < 4294967296) (w : World) (hG : G w) :
    Calls Tryz.prog 308 #[.int .u32 a] w fun e w' => e = .returned (.tuple #[(nLui a).1.v, .bool (nLui a).2]) ∧ Below w.heap.size w w' := by
  go_enter Tryz.func308, Tryz.ntmps308
  go_wp2
  exact bodyPost_ret (v := .tuple #[I.v ⟨1, 0, 0, 0, 0, 0, 0, false⟩, .bool true]) (by simp [results, Tryz.results308, go_sem]) rfl ⟨rfl, below1 _⟩
theorem n_auipc (a : Int) (h0 : 0 ≤ a) (h1 : a < 4294967296) (w : World) (hG : G w) :
    Calls Tryz.prog 312 #[.int .u32 a] w fun e w' => e = .returned (.tuple #[(nAuipc a).1.v, .bool (nAuipc a).2]) ∧ Below w.heap.size w w' := by
  go_enter Tryz.func312, Tryz.ntmps312
  go_wp2
  exact bodyPost_ret (v := .tuple #[I.v ⟨2, 0, 0, 0, 0, 0, 0, false⟩, .bool true]) (by simp [results, Tryz.results312, go_sem]) rfl ⟨rfl, below1 _⟩
theorem n_jal (a : Int) (h0 : 0 ≤ a) (h1 : a < 4294967296) (w : World) (hG : G w) :
    Calls Tryz.prog 324 #[.int .u32 a] w fun e w' => e = .returned (.tuple #[(nJal a).1.v, .bool (nJal a).2]) ∧ Below w.heap.size w w' := by
  go_enter Tryz.func324, Tryz.ntmps324
  go_wp2
  exact bodyPost_ret (v := .tuple #[I.v ⟨3, 0, 0, 0, 0, 0, 0, false⟩, .bool true]) (by simp [results, Tryz.results324, go_sem]) rfl ⟨rfl, below1 _⟩
theorem n_jalr (a : Int) (h0 : 0 ≤ a) (h1 : a < 4294967296) (w : World) (hG : G w) :
    Calls Tryz.prog 326 #[.int .u32 a] w fun e w' => e = .returned (.tuple #[(nJalr a).1.v, .bool (nJalr a).2]) ∧ Below w.heap.size w w' := by
  by_cases h : fF3 a = 0
  · have e1 : nJalr a = named0 4 := if_pos h
    rw [e1]
    go_enter Tryz.func326, Tryz.ntmps326
    go_wp2_with (first | (go_at_call 336; refine (m_f3 _ h0 h1 _).mono ?_; rintro e w' ⟨rfl, rfl⟩))
    exact bodyPost_ret (v := .tuple #[I.v ⟨4, 0, 0, 0, 0, 0, 0, false⟩, .bool true]) (by simp [results, Tryz.results326, go_sem]) rfl ⟨rfl, below1 _⟩
  · have e1 : nJalr a = no := if_neg h
    rw [e1]
    go_enter Tryz.func326, Tryz.ntmps326
    go_wp2_with (first | (go_at_call 336; refine (m_f3 _ h0 h1 _).mono ?_; rintro e w' ⟨rfl, rfl⟩))
    exact bodyPost_ret (v := .tuple #[I.v ⟨0, 0, 0, 0, 0, 0, 0, false⟩, .bool false]) (by simp [results, Tryz.results326, go_sem]) rfl ⟨rfl, below1 _⟩
theorem n_fence (a : Int) (h0 : 0 ≤ a) (h1 : a < 4294967296) (w : World) (hG : G w) :
    Calls Tryz.prog 330 #[.int .u32 a] w fun e w' => e = .returned (.tuple #[(nFence a).1.v, .bool (nFence a).2]) ∧ Below w.heap.size w w' := by
  by_cases h : fF3 a ≤ 1
  · have e1 : nFence a = named0 10 := if_pos h
    rw [e1]
    go_enter Tryz.func330, Tryz.ntmps330
    go_wp2_with (first | (go_at_call 336; refine (m_f3 _ h0 h1 _).mono ?_; rintro e w' ⟨rfl, rfl⟩))
    exact bodyPost_ret (v := .tuple #[I.v ⟨10, 0, 0, 0, 0, 0, 0, false⟩, .bool true]) (by simp [results, Tryz.results330, go_sem]) rfl ⟨rfl, below1 _⟩
  · have e1 : nFence a = no := if_neg h
    rw [e1]
    have h' : 1 < fF3 a := by omega
    go_enter Tryz.func330, Tryz.ntmps330
    go_wp2_with (first | (go_at_call 336; refine (m_f3 _ h0 h1 _).mono ?_; rintro e w' ⟨rfl, rfl⟩))
    exact bodyPost_ret (v := .tuple #[I.v ⟨0, 0, 0, 0, 0, 0, 0, false⟩, .bool false]) (by simp [results, Tryz.results330, go_sem]) rfl ⟨rfl, below1 _⟩
theorem n_branch (a : Int) (h0 : 0 ≤ a) (h1 : a < 4294967296) (w : World) (hG : G w) :
    Calls Tryz.prog 254 #[.int .u32 a] w fun e w' => e = .returned (.tuple #[(nBranch a).1.v, .bool (nBranch a).2]) ∧ Below w.heap.size w w' := by
  have e1 : nBranch a = (onl ⟨5, tCond (fF3 a), 0, 0, 0, 0, 0, false⟩ (tCond (fF3 a))) := rfl
  rw [e1]
  obtain ⟨gs_x, gc_x⟩ := hG.cond
  have hc_x := gc_x (fF3 a) (fF3_b a).1 (fF3_b a).2
  clear gc_x
  obtain ⟨bl_fF3, bu_fF3⟩ := fF3_b a
  go_enter Tryz.func254, Tryz.ntmps254
  go_wp2_with (first | (go_at_call 336; refine (m_f3 _ h0 h1 _).mono ?_; rintro e w' ⟨rfl, rfl⟩) | (go_at_call 229; refine (m_only _ _ _ _ _ _ _ _ _ _).mono ?_; rintro e w1 ⟨rfl, hb⟩; obtain ⟨hc1, hf1⟩ := bcell hb))
  exact bodyPost_ret (v := .tuple #[(onl ⟨5, tCond (fF3 a), 0, 0, 0, 0, 0, false⟩ (tCond (fF3 a))).1.v, .bool (onl ⟨5, tCond (fF3 a), 0, 0, 0, 0, 0, false⟩ (tCond (fF3 a))).2]) (by simp [results, Tryz.results254, go_sem, hc1]) rfl ⟨rfl, below8 (belowA hb) (Nat.le_refl _) _ _ _ _ _ _ _ _⟩
theorem n_store (a : Int) (h0 : 0 ≤ a) (h1 : a < 4294967296) (w : World) (hG : G w) :
    Calls Tryz.prog 256 #[.int .u32 a] w fun e w' => e = .returned (.tuple #[(nStore a).1.v, .bool (nStore a).2]) ∧ Below w.heap.size w w' := by
  have e1 : nStore a = (onl ⟨7, 0, 0, 0, 0, 0, tStore (fF3 a), false⟩ (tStore (fF3 a))) := rfl
  rw [e1]
  obtain ⟨gs_x, gc_x⟩ := hG.store
  have hc_x := gc_x (fF3 a) (fF3_b a).1 (fF3_b a).2
  clear gc_x
  obtain ⟨bl_fF3, bu_fF3⟩ := fF3_b a
  go_enter Tryz.func256, Tryz.ntmps256
  go_wp2_with (first | (go_at_call 336; refine (m_f3 _ h0 h1 _).mono ?_; rintro e w' ⟨rfl, rfl⟩) | (go_at_call 229; refine (m_only _ _ _ _ _ _ _ _ _ _).mono ?_; rintro e w1 ⟨rfl, hb⟩; obtain ⟨hc1, hf1⟩ := bcell hb))
  exact bodyPost_ret (v := .tuple #[(onl ⟨7, 0, 0, 0, 0, 0, tStore (fF3 a), false⟩ (tStore (fF3 a))).1.v, .bool (onl ⟨7, 0, 0, 0, 0, 0, tStore (fF3 a), false⟩ (tStore (fF3 a))).2]) (by simp [results, Tryz.results256, go_sem, hc1]) rfl ⟨rfl, below8 (belowA hb) (Nat.le_refl _) _ _ _ _ _ _ _ _⟩
theorem n_load (a : Int) (h0 : 0 ≤ a) (h1 : a < 4294967296) (w : World) (hG : G w) :
    Calls Tryz.prog 255 #[.int .u32 a] w fun e w' => e = .returned (.tuple #[(nLoad a).1.v, .bool (nLoad a).2]) ∧ Below w.heap.size w w' := by
  have e1 : nLoad a = (onl ⟨6, 0, 0, 0, 0, 0, tLoad (fF3 a), decide (fF3 a < 4)⟩ (tLoad (fF3 a))) := rfl
  rw [e1]
  obtain ⟨gs_x, gc_x⟩ := hG.load
  have hc_x := gc_x (fF3 a) (fF3_b a).1 (fF3_b a).2
  clear gc_x
  obtain ⟨bl_fF3, bu_fF3⟩ := fF3_b a
  go_enter Tryz.func255, Tryz.ntmps255
  go_wp2_with (first | (go_at_call 336; refine (m_f3 _ h0 h1 _).mono ?_; rintro e w' ⟨rfl, rfl⟩) | (go_at_call 229; refine (m_only _ _ _ _ _ _ _ _ _ _).mono ?_; rintro e w1 ⟨rfl, hb⟩; obtain ⟨hc1, hf1⟩ := bcell hb))
  exact bodyPost_ret (v := .tuple #[(onl ⟨6, 0, 0, 0, 0, 0, tLoad (fF3 a), decide (fF3 a < 4)⟩ (tLoad (fF3 a))).1.v, .bool (onl ⟨6, 0, 0, 0, 0, 0, tLoad (fF3 a), decide (fF3 a < 4)⟩ (tLoad (fF3 a))).2]) (by simp [results, Tryz.results255, go_sem, hc1]) rfl ⟨rfl, below8 (belowA hb) (Nat.le_refl _) _ _ _ _ _ _ _ _⟩
theorem n_privileged (a : Int) (h0 : 0 ≤ a) (h1 : a < 4294967296) (w : World) (hG : G w) :
    Calls Tryz.prog 376 #[.int .u32 a] w fun e w' => e = .returned (.tuple #[(nPriv a).1.v, .bool (nPriv a).2]) ∧ Below w.heap.size w w' := by
  unfold nPriv
  by_cases h11 : a = 115
  · subst h11
    simp only [if_true]
    go_enter Tryz.func376, Tryz.ntmps376
    go_wp2
    exact bodyPost_ret (v := .tuple #[I.v ⟨11, 0, 0, 0, 0, 0, 0, false⟩, .bool true]) (by simp [results, Tryz.results376, go_sem]) rfl ⟨rfl, below1 _⟩
  · rw [if_neg h11]
    by_cases h12 : a = 1048691
    · subst h12
      simp only [if_true]
      go_enter Tryz.func376, Tryz.ntmps376
      go_wp2
      exact bodyPost_ret (v := .tuple #[I.v ⟨12, 0, 0, 0, 0, 0, 0, false⟩, .bool true]) (by simp [results, Tryz.results376, go_sem]) rfl ⟨rfl, below1 _⟩
    · rw [if_neg h12]
      by_cases h18 : a = 270532723
      · subst h18
        simp only [if_true]
        go_enter Tryz.func376, Tryz.ntmps376
        go_wp2
        exact bodyPost_ret (v := .tuple #[I.v ⟨18, 0, 0, 0, 0, 0, 0, false⟩, .bool true]) (by simp [results, Tryz.results376, go_sem]) rfl ⟨rfl, below1 _⟩
      · rw [if_neg h18]
        by_cases h19 : a = 273678451
        · subst h19
          simp only [if_true]
          go_enter Tryz.func376, Tryz.ntmps376
          go_wp2
          exact bodyPost_ret (v := .tuple #[I.v ⟨19, 0, 0, 0, 0, 0, 0, false⟩, .bool true]) (by simp [results, Tryz.results376, go_sem]) rfl ⟨rfl, below1 _⟩
        · rw [if_neg h19]
          by_cases h7 : fF7 a = 9
          · by_cases hd : fRd a = 0
            · rw [if_pos ⟨h7, hd⟩]
              go_enter Tryz.func376, Tryz.ntmps376
              go_wp2_with (first | (go_at_call 375; refine (m_f7 _ h0 h1 _).mono ?_; rintro e w' ⟨rfl, rfl⟩) | (go_at_call 309; refine (m_rd _ h0 h1 _).mono ?_; rintro e w' ⟨rfl, rfl⟩))
              exact bodyPost_ret (v := .tuple #[I.v ⟨20, 0, 0, 0, 0, 0, 0, false⟩, .bool true]) (by simp [results, Tryz.results376, go_sem]) rfl ⟨rfl, below1 _⟩
            · rw [if_neg (fun x => hd x.2)]
              go_enter Tryz.func376, Tryz.ntmps376
              go_wp2_with (first | (go_at_call 375; refine (m_f7 _ h0 h1 _).mono ?_; rintro e w' ⟨rfl, rfl⟩) | (go_at_call 309; refine (m_rd _ h0 h1 _).mono ?_; rintro e w' ⟨rfl, rfl⟩))
              exact bodyPost_ret (v := .tuple #[I.v ⟨0, 0, 0, 0, 0, 0, 0, false⟩, .bool false]) (by simp [results, Tryz.results376, go_sem]) rfl ⟨rfl, below1 _⟩
          · rw [if_neg (fun x => h7 x.1)]
            go_enter Tryz.func376, Tryz.ntmps376
            go_wp2_with (first | (go_at_call 375; refine (m_f7 _ h0 h1 _).mono ?_; rintro e w' ⟨rfl, rfl⟩) | (go_at_call 309; refine (m_rd _ h0 h1 _).mono ?_; rintro e w' ⟨rfl, rfl⟩))
            exact bodyPost_ret (v := .tuple #[I.v ⟨0, 0, 0, 0, 0, 0, 0, false⟩, .bool false]) (by simp [results, Tryz.results376, go_sem]) rfl ⟨rfl, below1 _⟩
theorem n_system (a : Int) (h0 : 0 ≤ a) (h1 : a < 4294967296) (w : World) (hG : G w) :
    Calls Tryz.prog 321 #[.int .u32 a] w fun e w' => e = .returned (.tuple #[(nSys a).1.v, .bool (nSys a).2]) ∧ Below w.heap.size w w' := by
  obtain ⟨bl, bu⟩ := fF3_b a
  unfold nSys
  by_cases h : fF3 a = 0
  · rw [if_pos h]
    go_enter Tryz.func321, Tryz.ntmps321
    go_wp2_with (first | (go_at_call 336; refine (m_f3 _ h0 h1 _).mono ?_; rintro e w' ⟨rfl, rfl⟩) | (go_at_call 376; refine (n_privileged _ h0 h1 _ (hG.alloc _)).mono ?_; rintro e w1 ⟨rfl, hb⟩; obtain ⟨hc1, hf1⟩ := bcell hb))
    exact bodyPost_ret (v := .tuple #[(nPriv a).1.v, .bool (nPriv a).2]) (by simp [results, Tryz.results321, go_sem, hc1]) rfl ⟨rfl, below8 (belowA hb) (Nat.le_refl _) _ _ _ _ _ _ _ _⟩
  · rw [if_neg h]
    by_cases h4 : fF3 a < 4
    · rw [if_pos h4]
      go_enter Tryz.func321, Tryz.ntmps321
      go_wp2_with (first | (go_at_call 336; refine (m_f3 _ h0 h1 _).mono ?_; rintro e w' ⟨rfl, rfl⟩))
      exact bodyPost_ret (v := .tuple #[I.v ⟨13, fF3 a, 0, 0, 0, 0, 0, false⟩, .bool true]) (by simp [results, Tryz.results321, go_sem]) rfl ⟨rfl, below1 _⟩
    · rw [if_neg h4]
      have h4' : 4 ≤ fF3 a := by omega
      by_cases h5 : 4 < fF3 a
      · rw [if_pos h5]
        go_enter Tryz.func321, Tryz.ntmps321
        go_wp2_with (first | (go_at_call 336; refine (m_f3 _ h0 h1 _).mono ?_; rintro e w' ⟨rfl, rfl⟩))
        exact bodyPost_ret (v := .tuple #[I.v ⟨14, fF3 a - 4, 0, 0, 0, 0, 0, false⟩, .bool true]) (by simp [results, Tryz.results321, go_sem]) rfl ⟨rfl, below1 _⟩
      · rw [if_neg h5]
        have h5' : fF3 a ≤ 4 := by omega
        go_enter Tryz.func321, Tryz.ntmps321
        go_wp2_with (first | (go_at_call 336; refine (m_f3 _ h0 h1 _).mono ?_; rintro e w' ⟨rfl, rfl⟩))
        exact bodyPost_ret (v := .tuple #[I.v ⟨0, 0, 0, 0, 0, 0, 0, false⟩, .bool false]) (by simp [results, Tryz.results321, go_sem]) rfl ⟨rfl, below1 _⟩
theorem n_atomic (a : Int) (h0 : 0 ≤ a) (h1 : a < 4294967296) (w : World) (hG : G w) :
    Calls Tryz.prog 259 #[.int .u32 a] w fun e w' => e = .returned (.tuple #[(nAto a).1.v, .bool (nAto a).2]) ∧ Below w.heap.size w w' := by
  obtain ⟨gs_x, gc_x⟩ := hG.wid
  have hc_x := gc_x (fF3 a) (fF3_b a).1 (fF3_b a).2
  clear gc_x
  obtain ⟨bl_fF3, bu_fF3⟩ := fF3_b a
  obtain ⟨gs_y, gc_y⟩ := hG.ato
  have hc_y := gc_y (fF5 a) (fF5_b a).1 (fF5_b a).2
  clear gc_y
  obtain ⟨bl_fF5, bu_fF5⟩ := fF5_b a
  unfold nAto
  by_cases h : tAto (fF5 a) = 0
  · rw [if_pos h]
    by_cases h2 : fF5 a = 2
    · have hy2 : w.cell? ⟨4, 2, none⟩ = some (.int .i64 0) := by have q := hc_y; rw [h2] at q; exact q
      clear hc_y
      by_cases hr : fRs2 a = 0
      · rw [if_pos ⟨h2, hr⟩]
        go_enter Tryz.func259, Tryz.ntmps259
        go_wp2_with (first | (go_at_call 336; refine (m_f3 _ h0 h1 _).mono ?_; rintro e w' ⟨rfl, rfl⟩) | (go_at_call 337; refine (m_f5 _ h0 h1 _).mono ?_; rintro e w' ⟨rfl, rfl⟩) | (go_at_call 319; refine (m_rs2 _ h0 h1 _).mono ?_; rintro e w' ⟨rfl, rfl⟩) | (go_at_call 229; refine (m_only _ _ _ _ _ _ _ _ _ _).mono ?_; rintro e w1 ⟨rfl, hb⟩; obtain ⟨hc1, hf1⟩ := bcell hb))
        exact bodyPost_ret (v := .tuple #[(onl ⟨15, 0, 0, 0, 0, 0, tWid (fF3 a), false⟩ (tWid (fF3 a))).1.v, .bool (onl ⟨15, 0, 0, 0, 0, 0, tWid (fF3 a), false⟩ (tWid (fF3 a))).2]) (by simp [results, Tryz.results259, go_sem, hc1]) rfl ⟨rfl, below8 (belowA hb) (Nat.le_refl _) _ _ _ _ _ _ _ _⟩
      · rw [if_neg (fun x => hr x.2), if_neg (by omega)]
        go_enter Tryz.func259, Tryz.ntmps259
        go_wp2_with (first | (go_at_call 336; refine (m_f3 _ h0 h1 _).mono ?_; rintro e w' ⟨rfl, rfl⟩) | (go_at_call 337; refine (m_f5 _ h0 h1 _).mono ?_; rintro e w' ⟨rfl, rfl⟩) | (go_at_call 319; refine (m_rs2 _ h0 h1 _).mono ?_; rintro e w' ⟨rfl, rfl⟩) | (go_at_call 229; refine (m_only _ _ _ _ _ _ _ _ _ _).mono ?_; rintro e w1 ⟨rfl, hb⟩; obtain ⟨hc1, hf1⟩ := bcell hb))
        exact bodyPost_ret (v := .tuple #[I.v ⟨0, 0, 0, 0, 0, 0, 0, false⟩, .bool false]) (by simp [results, Tryz.results259, go_sem]) rfl ⟨rfl, below1 _⟩
    · rw [if_neg (fun x => h2 x.1)]
      by_cases h3 : fF5 a = 3
      · rw [if_pos h3]
        have hy2 : w.cell? ⟨4, 3, none⟩ = some (.int .i64 0) := by have q := hc_y; rw [h3] at q; exact q
        clear hc_y
        go_enter Tryz.func259, Tryz.ntmps259
        go_wp2_with (first | (go_at_call 336; refine (m_f3 _ h0 h1 _).mono ?_; rintro e w' ⟨rfl, rfl⟩) | (go_at_call 337; refine (m_f5 _ h0 h1 _).mono ?_; rintro e w' ⟨rfl, rfl⟩) | (go_at_call 319; refine (m_rs2 _ h0 h1 _).mono ?_; rintro e w' ⟨rfl, rfl⟩) | (go_at_call 229; refine (m_only _ _ _ _ _ _ _ _ _ _).mono ?_; rintro e w1 ⟨rfl, hb⟩; obtain ⟨hc1, hf1⟩ := bcell hb))
        exact bodyPost_ret (v := .tuple #[(onl ⟨16, 0, 0, 0, 0, 0, tWid (fF3 a), false⟩ (tWid (fF3 a))).1.v, .bool (onl ⟨16, 0, 0, 0, 0, 0, tWid (fF3 a), false⟩ (tWid (fF3 a))).2]) (by simp [results, Tryz.results259, go_sem, hc1]) rfl ⟨rfl, below8 (belowA hb) (Nat.le_refl _) _ _ _ _ _ _ _ _⟩
      · rw [if_neg h3]
        go_enter Tryz.func259, Tryz.ntmps259
        go_wp2_with (first | (go_at_call 336; refine (m_f3 _ h0 h1 _).mono ?_; rintro e w' ⟨rfl, rfl⟩) | (go_at_call 337; refine (m_f5 _ h0 h1 _).mono ?_; rintro e w' ⟨rfl, rfl⟩) | (go_at_call 319; refine (m_rs2 _ h0 h1 _).mono ?_; rintro e w' ⟨rfl, rfl⟩) | (go_at_call 229; refine (m_only _ _ _ _ _ _ _ _ _ _).mono ?_; rintro e w1 ⟨rfl, hb⟩; obtain ⟨hc1, hf1⟩ := bcell hb))
        exact bodyPost_ret (v := .tuple #[I.v ⟨0, 0, 0, 0, 0, 0, 0, false⟩, .bool false]) (by simp [results, Tryz.results259, go_sem]) rfl ⟨rfl, below1 _⟩
  · rw [if_neg h]
    go_enter Tryz.func259, Tryz.ntmps259
    go_wp2_with (first | (go_at_call 336; refine (m_f3 _ h0 h1 _).mono ?_; rintro e w' ⟨rfl, rfl⟩) | (go_at_call 337; refine (m_f5 _ h0 h1 _).mono ?_; rintro e w' ⟨rfl, rfl⟩) | (go_at_call 319; refine (m_rs2 _ h0 h1 _).mono ?_; rintro e w' ⟨rfl, rfl⟩) | (go_at_call 229; refine (m_only _ _ _ _ _ _ _ _ _ _).mono ?_; rintro e w1 ⟨rfl, hb⟩; obtain ⟨hc1, hf1⟩ := bcell hb))
    exact bodyPost_ret (v := .tuple #[(onl ⟨17, tAto (fF5 a), 0, 0, 0, 0, tWid (fF3 a), false⟩ (tWid (fF3 a))).1.v, .bool (onl ⟨17, tAto (fF5 a), 0, 0, 0, 0, tWid (fF3 a), false⟩ (tWid (fF3 a))).2]) (by simp [results, Tryz.results259, go_sem, hc1]) rfl ⟨rfl, below8 (belowA hb) (Nat.le_refl _) _ _ _ _ _ _ _ _⟩
end Go.Proofs.YtooagjndelbegaaGreatDoor.B
namespace Go.Proofs.YtooagjndelbegaaGreatDoor.B
open Go.RowKit
set_option linter.unusedVariables false

theorem belowN (w : World) (n : Nat) : Below w.heap.size w (w.drewN n) := ⟨rfl, rfl, rfl, Nat.le_refl _, fun _ _ => rfl⟩
theorem belowAN {w w' : World} {o : Obj} {n : Nat} (h : Below ((w.alloc o).drewN n).heap.size ((w.alloc o).drewN n) w') : Below w.heap.size w w' := belowT (below1 o) (belowT (belowN _ n) h)
theorem n_alu (a : Int) (h0 : 0 ≤ a) (h1 : a < 4294967296) (w : World) (hG : G w) :
    Calls Tryz.prog 318 #[.int .u32 a] w fun e w' => e = .returned (.tuple #[(nAlu a).1.v, .bool (nAlu a).2]) ∧ Below w.heap.size w w' := by
  have e1 : nAlu a = (onl ⟨8, chos (fF7 a) (tBas (fF3 a)) (tAlt (fF3 a)) (tPro (fF3 a)), 0, 0, 0, 0, 0, false⟩ (chos (fF7 a) (tBas (fF3 a)) (tAlt (fF3 a)) (tPro (fF3 a)))) := rfl
  rw [e1]
  obtain ⟨gs_bas, gc_bas⟩ := hG.bas
  have hc_bas := gc_bas (fF3 a) (fF3_b a).1 (fF3_b a).2
  clear gc_bas
  obtain ⟨gs_alt, gc_alt⟩ := hG.alt
  have hc_alt := gc_alt (fF3 a) (fF3_b a).1 (fF3_b a).2
  clear gc_alt
  obtain ⟨gs_pro, gc_pro⟩ := hG.pro
  have hc_pro := gc_pro (fF3 a) (fF3_b a).1 (fF3_b a).2
  clear gc_pro
  obtain ⟨bl_fF3, bu_fF3⟩ := fF3_b a
  obtain ⟨bl_fF7, bu_fF7⟩ := fF7_b a
  go_enter Tryz.func318, Tryz.ntmps318
  go_wp2
  go_quiet (first | (go_at_call 375; exact Calls.quiet_of_same (m_f7 _ h0 h1 _)) | (go_at_call 336; exact Calls.quiet_of_same (m_f3 _ h0 h1 _)) | (go_at_call 373; exact Calls.quiet_of_same (m_chosen _ _ _ _ _)))
  go_wp2_with (first | (go_at_call 229; refine (m_only _ _ _ _ _ _ _ _ _ _).mono ?_; rintro e w1 ⟨rfl, hb⟩; obtain ⟨hc1, hf1⟩ := bcell hb))
  exact bodyPost_ret (v := .tuple #[(onl ⟨8, chos (fF7 a) (tBas (fF3 a)) (tAlt (fF3 a)) (tPro (fF3 a)), 0, 0, 0, 0, 0, false⟩ (chos (fF7 a) (tBas (fF3 a)) (tAlt (fF3 a)) (tPro (fF3 a)))).1.v, .bool (onl ⟨8, chos (fF7 a) (tBas (fF3 a)) (tAlt (fF3 a)) (tPro (fF3 a)), 0, 0, 0, 0, 0, false⟩ (chos (fF7 a) (tBas (fF3 a)) (tAlt (fF3 a)) (tPro (fF3 a)))).2]) (by simp [results, Tryz.results318, go_sem, hc1]) rfl ⟨rfl, below8 (belowAN hb) (Nat.le_refl _) _ _ _ _ _ _ _ _⟩
theorem n_aluW (a : Int) (h0 : 0 ≤ a) (h1 : a < 4294967296) (w : World) (hG : G w) :
    Calls Tryz.prog 320 #[.int .u32 a] w fun e w' => e = .returned (.tuple #[(nAluW a).1.v, .bool (nAluW a).2]) ∧ Below w.heap.size w w' := by
  have e1 : nAluW a = (onl ⟨8, chos (fF7 a) (tBasW (fF3 a)) (tAltW (fF3 a)) (tProW (fF3 a)), 0, 0, 0, 0, 0, false⟩ (chos (fF7 a) (tBasW (fF3 a)) (tAltW (fF3 a)) (tProW (fF3 a)))) := rfl
  rw [e1]
  obtain ⟨gs_bas, gc_bas⟩ := hG.basW
  have hc_bas := gc_bas (fF3 a) (fF3_b a).1 (fF3_b a).2
  clear gc_bas
  obtain ⟨gs_alt, gc_alt⟩ := hG.altW
  have hc_alt := gc_alt (fF3 a) (fF3_b a).1 (fF3_b a).2
  clear gc_alt
  obtain ⟨gs_pro, gc_pro⟩ := hG.proW
  have hc_pro := gc_pro (fF3 a) (fF3_b a).1 (fF3_b a).2
  clear gc_pro
  obtain ⟨bl_fF3, bu_fF3⟩ := fF3_b a
  obtain ⟨bl_fF7, bu_fF7⟩ := fF7_b a
  go_enter Tryz.func320, Tryz.ntmps320
  go_wp2
  go_quiet (first | (go_at_call 375; exact Calls.quiet_of_same (m_f7 _ h0 h1 _)) | (go_at_call 336; exact Calls.quiet_of_same (m_f3 _ h0 h1 _)) | (go_at_call 373; exact Calls.quiet_of_same (m_chosen _ _ _ _ _)))
  go_wp2_with (first | (go_at_call 229; refine (m_only _ _ _ _ _ _ _ _ _ _).mono ?_; rintro e w1 ⟨rfl, hb⟩; obtain ⟨hc1, hf1⟩ := bcell hb))
  exact bodyPost_ret (v := .tuple #[(onl ⟨8, chos (fF7 a) (tBasW (fF3 a)) (tAltW (fF3 a)) (tProW (fF3 a)), 0, 0, 0, 0, 0, false⟩ (chos (fF7 a) (tBasW (fF3 a)) (tAltW (fF3 a)) (tProW (fF3 a)))).1.v, .bool (onl ⟨8, chos (fF7 a) (tBasW (fF3 a)) (tAltW (fF3 a)) (tProW (fF3 a)), 0, 0, 0, 0, 0, false⟩ (chos (fF7 a) (tBasW (fF3 a)) (tAltW (fF3 a)) (tProW (fF3 a)))).2]) (by simp [results, Tryz.results320, go_sem, hc1]) rfl ⟨rfl, below8 (belowAN hb) (Nat.le_refl _) _ _ _ _ _ _ _ _⟩
theorem n_aluImm (a : Int) (h0 : 0 ≤ a) (h1 : a < 4294967296) (w : World) (hG : G w) :
    Calls Tryz.prog 313 #[.int .u32 a] w fun e w' => e = .returned (.tuple #[(nImm a).1.v, .bool (nImm a).2]) ∧ Below w.heap.size w w' := by
  obtain ⟨gs_bas, gc_bas⟩ := hG.bas
  have hc_bas := gc_bas (fF3 a) (fF3_b a).1 (fF3_b a).2
  clear gc_bas
  obtain ⟨gs_alt, gc_alt⟩ := hG.alt
  have hc_alt := gc_alt (fF3 a) (fF3_b a).1 (fF3_b a).2
  clear gc_alt
  obtain ⟨bl_fF3, bu_fF3⟩ := fF3_b a
  obtain ⟨bl_fF6, bu_fF6⟩ := fF6_b a
  obtain ⟨bl_fF7, bu_fF7⟩ := fF7_b a
  have hw : IntKind.i64.wrap (fF6 a * 2) = fF6 a * 2 := by rw [IntKind.wrap_i64]; omega
  have hw2 : wrap64 (fF6 a * 2) = fF6 a * 2 := by unfold wrap64; omega
  cases hh : shf a
  · have e1 : nImm a = (onl ⟨9, tBas (fF3 a), 0, 0, 0, 0, 0, false⟩ (tBas (fF3 a))) := by unfold nImm fnImm; rw [hh]; rfl
    rw [e1]
    go_enter Tryz.func313, Tryz.ntmps313
    go_wp2_with (first | (go_at_call 336; refine (m_f3 _ h0 h1 _).mono ?_; rintro e w' ⟨rfl, rfl⟩) | (go_at_call 372; refine (m_shifts _ h0 h1 _).mono ?_; rintro e w' ⟨rfl, rfl⟩) | (go_at_call 229; refine (m_only _ _ _ _ _ _ _ _ _ _).mono ?_; rintro e w1 ⟨rfl, hb⟩; obtain ⟨hc1, hf1⟩ := bcell hb))
    exact bodyPost_ret (v := .tuple #[(onl ⟨9, tBas (fF3 a), 0, 0, 0, 0, 0, false⟩ (tBas (fF3 a))).1.v, .bool (onl ⟨9, tBas (fF3 a), 0, 0, 0, 0, 0, false⟩ (tBas (fF3 a))).2]) (by simp [results, Tryz.results313, go_sem, hc1]) rfl ⟨rfl, below8 (belowA hb) (Nat.le_refl _) _ _ _ _ _ _ _ _⟩
  · have e1 : nImm a = (onl ⟨9, chos (fF6 a * 2) (tBas (fF3 a)) (tAlt (fF3 a)) 0, 0, 0, 0, 0, 0, false⟩ (chos (fF6 a * 2) (tBas (fF3 a)) (tAlt (fF3 a)) 0)) := by unfold nImm fnImm; rw [hh]; rfl
    rw [e1]
    go_enter Tryz.func313, Tryz.ntmps313
    go_wp2_with (first | (go_at_call 336; refine (m_f3 _ h0 h1 _).mono ?_; rintro e w' ⟨rfl, rfl⟩) | (go_at_call 372; refine (m_shifts _ h0 h1 _).mono ?_; rintro e w' ⟨rfl, rfl⟩) | (go_at_call 229; refine (m_only _ _ _ _ _ _ _ _ _ _).mono ?_; rintro e w1 ⟨rfl, hb⟩; obtain ⟨hc1, hf1⟩ := bcell hb))
    go_quiet (first | (go_at_call 374; exact Calls.quiet_of_same (m_f6 _ h0 h1 _)) | (go_at_call 336; exact Calls.quiet_of_same (m_f3 _ h0 h1 _)) | (go_at_call 373; exact Calls.quiet_of_same (m_chosen _ _ _ _ _)))
    go_wp2_with (first | (go_at_call 229; refine (m_only _ _ _ _ _ _ _ _ _ _).mono ?_; rintro e w1 ⟨rfl, hb⟩; obtain ⟨hc1, hf1⟩ := bcell hb))
    exact bodyPost_ret (v := .tuple #[(onl ⟨9, chos (fF6 a * 2) (tBas (fF3 a)) (tAlt (fF3 a)) 0, 0, 0, 0, 0, 0, false⟩ (chos (fF6 a * 2) (tBas (fF3 a)) (tAlt (fF3 a)) 0)).1.v, .bool (onl ⟨9, chos (fF6 a * 2) (tBas (fF3 a)) (tAlt (fF3 a)) 0, 0, 0, 0, 0, 0, false⟩ (chos (fF6 a * 2) (tBas (fF3 a)) (tAlt (fF3 a)) 0)).2]) (by simp [results, Tryz.results313, go_sem, hc1]) rfl ⟨rfl, below8 (belowAN hb) (Nat.le_refl _) _ _ _ _ _ _ _ _⟩
theorem n_aluImmW (a : Int) (h0 : 0 ≤ a) (h1 : a < 4294967296) (w : World) (hG : G w) :
    Calls Tryz.prog 316 #[.int .u32 a] w fun e w' => e = .returned (.tuple #[(nImmW a).1.v, .bool (nImmW a).2]) ∧ Below w.heap.size w w' := by
  obtain ⟨gs_bas, gc_bas⟩ := hG.basW
  have hc_bas := gc_bas (fF3 a) (fF3_b a).1 (fF3_b a).2
  clear gc_bas
  obtain ⟨gs_alt, gc_alt⟩ := hG.altW
  have hc_alt := gc_alt (fF3 a) (fF3_b a).1 (fF3_b a).2
  clear gc_alt
  obtain ⟨bl_fF3, bu_fF3⟩ := fF3_b a
  obtain ⟨bl_fF6, bu_fF6⟩ := fF6_b a
  obtain ⟨bl_fF7, bu_fF7⟩ := fF7_b a
  have hw : IntKind.i64.wrap (fF6 a * 2) = fF6 a * 2 := by rw [IntKind.wrap_i64]; omega
  have hw2 : wrap64 (fF6 a * 2) = fF6 a * 2 := by unfold wrap64; omega
  cases hh : shf a
  · have e1 : nImmW a = (onl ⟨9, tBasW (fF3 a), 0, 0, 0, 0, 0, false⟩ (tBasW (fF3 a))) := by unfold nImmW fnImmW; rw [hh]; rfl
    rw [e1]
    go_enter Tryz.func316, Tryz.ntmps316
    go_wp2_with (first | (go_at_call 336; refine (m_f3 _ h0 h1 _).mono ?_; rintro e w' ⟨rfl, rfl⟩) | (go_at_call 372; refine (m_shifts _ h0 h1 _).mono ?_; rintro e w' ⟨rfl, rfl⟩) | (go_at_call 229; refine (m_only _ _ _ _ _ _ _ _ _ _).mono ?_; rintro e w1 ⟨rfl, hb⟩; obtain ⟨hc1, hf1⟩ := bcell hb))
    exact bodyPost_ret (v := .tuple #[(onl ⟨9, tBasW (fF3 a), 0, 0, 0, 0, 0, false⟩ (tBasW (fF3 a))).1.v, .bool (onl ⟨9, tBasW (fF3 a), 0, 0, 0, 0, 0, false⟩ (tBasW (fF3 a))).2]) (by simp [results, Tryz.results316, go_sem, hc1]) rfl ⟨rfl, below8 (belowA hb) (Nat.le_refl _) _ _ _ _ _ _ _ _⟩
  · have e1 : nImmW a = (onl ⟨9, chos (fF7 a) (tBasW (fF3 a)) (tAltW (fF3 a)) 0, 0, 0, 0, 0, 0, false⟩ (chos (fF7 a) (tBasW (fF3 a)) (tAltW (fF3 a)) 0)) := by unfold nImmW fnImmW; rw [hh]; rfl
    rw [e1]
    go_enter Tryz.func316, Tryz.ntmps316
    go_wp2_with (first | (go_at_call 336; refine (m_f3 _ h0 h1 _).mono ?_; rintro e w' ⟨rfl, rfl⟩) | (go_at_call 372; refine (m_shifts _ h0 h1 _).mono ?_; rintro e w' ⟨rfl, rfl⟩) | (go_at_call 229; refine (m_only _ _ _ _ _ _ _ _ _ _).mono ?_; rintro e w1 ⟨rfl, hb⟩; obtain ⟨hc1, hf1⟩ := bcell hb))
    go_quiet (first | (go_at_call 375; exact Calls.quiet_of_same (m_f7 _ h0 h1 _)) | (go_at_call 336; exact Calls.quiet_of_same (m_f3 _ h0 h1 _)) | (go_at_call 373; exact Calls.quiet_of_same (m_chosen _ _ _ _ _)))
    go_wp2_with (first | (go_at_call 229; refine (m_only _ _ _ _ _ _ _ _ _ _).mono ?_; rintro e w1 ⟨rfl, hb⟩; obtain ⟨hc1, hf1⟩ := bcell hb))
    exact bodyPost_ret (v := .tuple #[(onl ⟨9, chos (fF7 a) (tBasW (fF3 a)) (tAltW (fF3 a)) 0, 0, 0, 0, 0, 0, false⟩ (chos (fF7 a) (tBasW (fF3 a)) (tAltW (fF3 a)) 0)).1.v, .bool (onl ⟨9, chos (fF7 a) (tBasW (fF3 a)) (tAltW (fF3 a)) 0, 0, 0, 0, 0, 0, false⟩ (chos (fF7 a) (tBasW (fF3 a)) (tAltW (fF3 a)) 0)).2]) (by simp [results, Tryz.results316, go_sem, hc1]) rfl ⟨rfl, below8 (belowAN hb) (Nat.le_refl _) _ _ _ _ _ _ _ _⟩
end Go.Proofs.YtooagjndelbegaaGreatDoor.B
