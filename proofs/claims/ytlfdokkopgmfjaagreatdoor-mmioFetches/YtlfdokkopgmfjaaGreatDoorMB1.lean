/- The plain arithmetic of instructions as words, over Int: what each field of a word is, what each name is, what a word reads as. Nothing here speaks of the program. -/
import Derived.WalkKit
import Derived.Laws.MathBits
import Derived.Laws.BitsAllLaws
import Derived.Test.YtlfdokkopgmfjaaGreatDoorProg
import Derived.ProofKit
import Derived.Outline
import Derived.Maps.OwnOps
import Derived.Deep.RegionWith
namespace Go.Proofs.YtlfdokkopgmfjaaGreatDoor.B
open Go.RowKit
set_option linter.unusedVariables false
set_option maxRecDepth 100000
/-- an instruction -/
structure I where
  kind : Int
  fn : Int
  rd : Int
  rs1 : Int
  rs2 : Int
  imm : Int
  size : Int
  sg : Bool
def I.zero : I := ⟨0, 0, 0, 0, 0, 0, 0, false⟩
@[reducible] def I.v (i : I) : Value := .agg #[.int .i64 i.kind, .int .i64 i.fn, .int .i64 i.rd, .int .i64 i.rs1, .int .i64 i.rs2, .int .i64 i.imm, .int .i64 i.size, .bool i.sg]
/-! fields of a word -/
def fOp (a : Int) : Int := a % 128
def fRd (a : Int) : Int := a / 128 % 32
def fF3 (a : Int) : Int := a / 4096 % 8
def fRs1 (a : Int) : Int := a / 32768 % 32
def fRs2 (a : Int) : Int := a / 1048576 % 32
def fF7 (a : Int) : Int := a / 33554432 % 128
def fF6 (a : Int) : Int := a / 67108864 % 64
def fF5 (a : Int) : Int := a / 134217728 % 32
def fSh (a : Int) : Int := a / 1048576 % 64
def fCs (a : Int) : Int := a / 1048576 % 4096
/-- the word with its sign -/
def s32 (a : Int) : Int := if a < 2147483648 then a else a - 4294967296
def iI (a : Int) : Int := s32 a / 1048576
def iS (a : Int) : Int := s32 a / 33554432 * 32 + a / 128 % 32
def iB (a : Int) : Int := s32 a / 2147483648 * 4096 + a / 128 % 2 * 2048 + a / 33554432 % 64 * 32 + a / 256 % 16 * 2
def iU (a : Int) : Int := s32 a / 4096 * 4096
def iJ (a : Int) : Int := s32 a / 2147483648 * 1048576 + a / 4096 % 256 * 4096 + a / 1048576 % 2 * 2048 + a / 2097152 % 1024 * 2
def shf (a : Int) : Bool := fF3 a == 1 || fF3 a == 5
def iOpnd (a : Int) : Int := if shf a = true then fSh a else iI a
def iOpndW (a : Int) : Int := if shf a = true then fRs2 a else iI a
def iCsr (a : Int) : Int := if fF3 a = 0 then 0 else fCs a
def rSpace (a : Int) : Int := if fF3 a = 0 ∧ fF7 a = 9 then fRs2 a else 0
/-! the tables -/
def tCond (n : Int) : Int := [1, 2, 0, 0, 3, 4, 5, 6].getD n.toNat 0
def tLoad (n : Int) : Int := [1, 2, 4, 8, 1, 2, 4, 0].getD n.toNat 0
def tStore (n : Int) : Int := [1, 2, 4, 8, 0, 0, 0, 0].getD n.toNat 0
def tWid (n : Int) : Int := [0, 0, 4, 8, 0, 0, 0, 0].getD n.toNat 0
def tBas (n : Int) : Int := [1, 3, 4, 5, 6, 7, 9, 10].getD n.toNat 0
def tAlt (n : Int) : Int := [2, 0, 0, 0, 0, 8, 0, 0].getD n.toNat 0
def tPro (n : Int) : Int := [11, 12, 13, 14, 15, 16, 17, 18].getD n.toNat 0
def tBasW (n : Int) : Int := [19, 21, 0, 0, 0, 22, 0, 0].getD n.toNat 0
def tAltW (n : Int) : Int := [20, 0, 0, 0, 0, 23, 0, 0].getD n.toNat 0
def tProW (n : Int) : Int := [24, 0, 0, 0, 25, 26, 27, 28].getD n.toNat 0
def tAto (n : Int) : Int := [2, 1, 0, 0, 3, 0, 0, 0, 5, 0, 0, 0, 4, 0, 0, 0, 6, 0, 0, 0, 7, 0, 0, 0, 8, 0, 0, 0, 9, 0, 0, 0].getD n.toNat 0
/-! names -/
def onl (i : I) (n : Int) : I × Bool := if n = 0 then (I.zero, false) else (i, true)
def no : I × Bool := (I.zero, false)
def named0 (k : Int) : I × Bool := (⟨k, 0, 0, 0, 0, 0, 0, false⟩, true)
def nLui (a : Int) : I × Bool := named0 1
def nAuipc (a : Int) : I × Bool := named0 2
def nJal (a : Int) : I × Bool := named0 3
def nJalr (a : Int) : I × Bool := if fF3 a = 0 then named0 4 else no
def nBranch (a : Int) : I × Bool := onl ⟨5, tCond (fF3 a), 0, 0, 0, 0, 0, false⟩ (tCond (fF3 a))
def lt4 (a : Int) : Bool := decide (a < 4)
def nLoad (a : Int) : I × Bool := onl ⟨6, 0, 0, 0, 0, 0, tLoad (fF3 a), lt4 (fF3 a)⟩ (tLoad (fF3 a))
def nStore (a : Int) : I × Bool := onl ⟨7, 0, 0, 0, 0, 0, tStore (fF3 a), false⟩ (tStore (fF3 a))
def chos (f p o t : Int) : Int := if f = 0 then p else if f = 32 then o else if f = 1 then t else 0
def fnImm (a : Int) : Int := if shf a = true then chos (fF6 a * 2) (tBas (fF3 a)) (tAlt (fF3 a)) 0 else tBas (fF3 a)
def nImm (a : Int) : I × Bool := onl ⟨9, fnImm a, 0, 0, 0, 0, 0, false⟩ (fnImm a)
def fnImmW (a : Int) : Int := if shf a = true then chos (fF7 a) (tBasW (fF3 a)) (tAltW (fF3 a)) 0 else tBasW (fF3 a)
def nImmW (a : Int) : I × Bool := onl ⟨9, fnImmW a, 0, 0, 0, 0, 0, false⟩ (fnImmW a)
def fnAlu (a : Int) : Int := chos (fF7 a) (tBas (fF3 a)) (tAlt (fF3 a)) (tPro (fF3 a))
def nAlu (a : Int) : I × Bool := onl ⟨8, fnAlu a, 0, 0, 0, 0, 0, false⟩ (fnAlu a)
def fnAluW (a : Int) : Int := chos (fF7 a) (tBasW (fF3 a)) (tAltW (fF3 a)) (tProW (fF3 a))
def nAluW (a : Int) : I × Bool := onl ⟨8, fnAluW a, 0, 0, 0, 0, 0, false⟩ (fnAluW a)
def nFence (a : Int) : I × Bool := if fF3 a ≤ 1 then named0 10 else no
def nPriv (a : Int) : I × Bool :=
  if a = 115 then named0 11 else if a = 1048691 then named0 12 else if a = 270532723 then named0 18 else if a = 273678451 then named0 19
  else if fF7 a = 9 ∧ fRd a = 0 then named0 20 else no
def nSys (a : Int) : I × Bool :=
  if fF3 a = 0 then nPriv a else if fF3 a < 4 then (⟨13, fF3 a, 0, 0, 0, 0, 0, false⟩, true) else if 4 < fF3 a then (⟨14, fF3 a - 4, 0, 0, 0, 0, 0, false⟩, true) else no
def nAto (a : Int) : I × Bool :=
  if tAto (fF5 a) = 0 then
    (if fF5 a = 2 ∧ fRs2 a = 0 then onl ⟨15, 0, 0, 0, 0, 0, tWid (fF3 a), false⟩ (tWid (fF3 a))
     else if fF5 a = 3 then onl ⟨16, 0, 0, 0, 0, 0, tWid (fF3 a), false⟩ (tWid (fF3 a)) else no)
  else onl ⟨17, tAto (fF5 a), 0, 0, 0, 0, tWid (fF3 a), false⟩ (tWid (fF3 a))
/-! what a word reads as -/
def withF (n : I × Bool) (rd r1 r2 im : Int) : I × Bool := if n.2 = true then (⟨n.1.kind, n.1.fn, rd, r1, r2, im, n.1.size, n.1.sg⟩, true) else no
def D (a : Int) : I × Bool :=
  if fOp a = 55 then withF (nLui a) (fRd a) 0 0 (iU a)
  else if fOp a = 23 then withF (nAuipc a) (fRd a) 0 0 (iU a)
  else if fOp a = 19 then withF (nImm a) (fRd a) (fRs1 a) 0 (iOpnd a)
  else if fOp a = 27 then withF (nImmW a) (fRd a) (fRs1 a) 0 (iOpndW a)
  else if fOp a = 51 then withF (nAlu a) (fRd a) (fRs1 a) (fRs2 a) 0
  else if fOp a = 59 then withF (nAluW a) (fRd a) (fRs1 a) (fRs2 a) 0
  else if fOp a = 115 then withF (nSys a) (fRd a) (fRs1 a) (rSpace a) (iCsr a)
  else if fOp a = 111 then withF (nJal a) (fRd a) 0 0 (iJ a)
  else if fOp a = 103 then withF (nJalr a) (fRd a) (fRs1 a) 0 (iI a)
  else if fOp a = 99 then withF (nBranch a) 0 (fRs1 a) (fRs2 a) (iB a)
  else if fOp a = 3 then withF (nLoad a) (fRd a) (fRs1 a) 0 (iI a)
  else if fOp a = 35 then withF (nStore a) 0 (fRs1 a) (fRs2 a) (iS a)
  else if fOp a = 15 then withF (nFence a) 0 0 0 0
  else if fOp a = 47 then withF (nAto a) (fRd a) (fRs1 a) (fRs2 a) 0
  else no
/-! or, where the bits do not meet -/
theorem or64_gen (n : Nat) (x y : Int) (hx : (x % 18446744073709551616).toNat % 2 ^ n = 0) (h0 : 0 ≤ y) (hy : y.toNat < 2 ^ n) (hy' : y < 18446744073709551616) :
    bits .or .i64 x y = wrap64 (x % 18446744073709551616 + y) := by
  have e1 : (BitVec.ofInt 64 x).toNat = (x % 18446744073709551616).toNat := by rw [BitVec.toNat_ofInt]; rfl
  have e2 : (BitVec.ofInt 64 y).toNat = y.toNat := by rw [BitVec.toNat_ofInt]; show (y % 18446744073709551616).toNat = _; rw [Int.emod_eq_of_lt h0 hy']
  show IntKind.i64.wrap (((BitVec.ofInt 64 x ||| BitVec.ofInt 64 y).toNat : Nat) : Int) = _
  rw [BitVec.toNat_or, e1, e2, nat_join n _ _ hx hy]
  have e3 : (((x % 18446744073709551616).toNat + y.toNat : Nat) : Int) = x % 18446744073709551616 + y := by omega
  rw [e3, IntKind.wrap_i64]
  unfold wrap64
  omega
theorem or64_2 (x y : Int) (h : x % 4 = 0) (h1 : 0 ≤ y) (h2 : y < 4) (h3 : -9223372036854775808 ≤ x) (h4 : x < 9223372036854775808) : bits .or .i64 x y = x + y := by
  rw [or64_gen 2 x y (by omega) h1 (by omega) (by omega)]; unfold wrap64; omega
theorem or64_3 (x y : Int) (h : x % 8 = 0) (h1 : 0 ≤ y) (h2 : y < 8) (h3 : -9223372036854775808 ≤ x) (h4 : x < 9223372036854775808) : bits .or .i64 x y = x + y := by
  rw [or64_gen 3 x y (by omega) h1 (by omega) (by omega)]; unfold wrap64; omega
theorem or64_4 (x y : Int) (h : x % 16 = 0) (h1 : 0 ≤ y) (h2 : y < 16) (h3 : -9223372036854775808 ≤ x) (h4 : x < 9223372036854775808) : bits .or .i64 x y = x + y := by
  rw [or64_gen 4 x y (by omega) h1 (by omega) (by omega)]; unfold wrap64; omega
theorem or64_5 (x y : Int) (h : x % 32 = 0) (h1 : 0 ≤ y) (h2 : y < 32) (h3 : -9223372036854775808 ≤ x) (h4 : x < 9223372036854775808) : bits .or .i64 x y = x + y := by
  rw [or64_gen 5 x y (by omega) h1 (by omega) (by omega)]; unfold wrap64; omega
theorem or64_6 (x y : Int) (h : x % 64 = 0) (h1 : 0 ≤ y) (h2 : y < 64) (h3 : -9223372036854775808 ≤ x) (h4 : x < 9223372036854775808) : bits .or .i64 x y = x + y := by
  rw [or64_gen 6 x y (by omega) h1 (by omega) (by omega)]; unfold wrap64; omega
theorem or64_7 (x y : Int) (h : x % 128 = 0) (h1 : 0 ≤ y) (h2 : y < 128) (h3 : -9223372036854775808 ≤ x) (h4 : x < 9223372036854775808) : bits .or .i64 x y = x + y := by
  rw [or64_gen 7 x y (by omega) h1 (by omega) (by omega)]; unfold wrap64; omega
theorem or64_8 (x y : Int) (h : x % 256 = 0) (h1 : 0 ≤ y) (h2 : y < 256) (h3 : -9223372036854775808 ≤ x) (h4 : x < 9223372036854775808) : bits .or .i64 x y = x + y := by
  rw [or64_gen 8 x y (by omega) h1 (by omega) (by omega)]; unfold wrap64; omega
theorem or64_9 (x y : Int) (h : x % 512 = 0) (h1 : 0 ≤ y) (h2 : y < 512) (h3 : -9223372036854775808 ≤ x) (h4 : x < 9223372036854775808) : bits .or .i64 x y = x + y := by
  rw [or64_gen 9 x y (by omega) h1 (by omega) (by omega)]; unfold wrap64; omega
theorem or64_10 (x y : Int) (h : x % 1024 = 0) (h1 : 0 ≤ y) (h2 : y < 1024) (h3 : -9223372036854775808 ≤ x) (h4 : x < 9223372036854775808) : bits .or .i64 x y = x + y := by
  rw [or64_gen 10 x y (by omega) h1 (by omega) (by omega)]; unfold wrap64; omega
theorem or64_11 (x y : Int) (h : x % 2048 = 0) (h1 : 0 ≤ y) (h2 : y < 2048) (h3 : -9223372036854775808 ≤ x) (h4 : x < 9223372036854775808) : bits .or .i64 x y = x + y := by
  rw [or64_gen 11 x y (by omega) h1 (by omega) (by omega)]; unfold wrap64; omega
theorem or64_12 (x y : Int) (h : x % 4096 = 0) (h1 : 0 ≤ y) (h2 : y < 4096) (h3 : -9223372036854775808 ≤ x) (h4 : x < 9223372036854775808) : bits .or .i64 x y = x + y := by
  rw [or64_gen 12 x y (by omega) h1 (by omega) (by omega)]; unfold wrap64; omega
theorem or64_20 (x y : Int) (h : x % 1048576 = 0) (h1 : 0 ≤ y) (h2 : y < 1048576) (h3 : -9223372036854775808 ≤ x) (h4 : x < 9223372036854775808) : bits .or .i64 x y = x + y := by
  rw [or64_gen 20 x y (by omega) h1 (by omega) (by omega)]; unfold wrap64; omega
theorem nat_and_or (n : Nat) : ∀ x y : Nat, x ≤ n → (x &&& y) + (x ||| y) = x + y := by
  induction n using Nat.strongRecOn with
  | ind n ih =>
    intro x y hx
    by_cases h0 : x = 0
    · subst h0; simp
    · have e := ih (x / 2) (by omega) (x / 2) (y / 2) (Nat.le_refl _)
      rw [← Nat.and_div_two, ← Nat.or_div_two] at e
      have m1 : (x &&& y) % 2 = x % 2 &&& y % 2 := by have := Nat.and_mod_two_pow (a := x) (b := y) (n := 1); simpa using this
      have m2 : (x ||| y) % 2 = x % 2 ||| y % 2 := by have := Nat.or_mod_two_pow (a := x) (b := y) (n := 1); simpa using this
      have c : (x % 2 &&& y % 2) + (x % 2 ||| y % 2) = x % 2 + y % 2 := by
        rcases Nat.mod_two_eq_zero_or_one x with p | p <;> rcases Nat.mod_two_eq_zero_or_one y with q | q <;> rw [p, q] <;> rfl
      omega
/-- two numbers whose bits lie in masks that do not meet -/
theorem or_apart {x y m n : Nat} (hx : x &&& m = x) (hy : y &&& n = y) (h : m &&& n = 0) : x ||| y = x + y ∧ (x ||| y) &&& (m ||| n) = x ||| y := by
  have hz : x &&& y = 0 := by
    rw [← hx, ← hy]
    apply Nat.eq_of_testBit_eq
    intro i
    have := congrArg (fun z => z.testBit i) h
    simp only [Nat.testBit_and, Nat.zero_testBit] at this ⊢
    revert this
    cases x.testBit i <;> cases y.testBit i <;> cases m.testBit i <;> cases n.testBit i <;> simp
  refine ⟨?_, ?_⟩
  · have := nat_and_or x x y (Nat.le_refl _)
    omega
  · apply Nat.eq_of_testBit_eq
    intro i
    have h1 := congrArg (fun z => z.testBit i) hx
    have h2 := congrArg (fun z => z.testBit i) hy
    simp only [Nat.testBit_and, Nat.testBit_or] at h1 h2 ⊢
    revert h1 h2
    cases x.testBit i <;> cases y.testBit i <;> cases m.testBit i <;> cases n.testBit i <;> simp
theorem in_mask (k j x : Nat) (h : x < 2 ^ k) : (x * 2 ^ j) &&& ((2 ^ k - 1) * 2 ^ j) = x * 2 ^ j := by
  rw [← Nat.shiftLeft_eq, ← Nat.shiftLeft_eq, ← Nat.shiftLeft_and_distrib, Nat.and_two_pow_sub_one_eq_mod, Nat.mod_eq_of_lt h]
/-! bounds of the fields -/
theorem fRd_b (a : Int) : 0 ≤ fRd a ∧ fRd a < 32 := by unfold fRd; omega
theorem fF3_b (a : Int) : 0 ≤ fF3 a ∧ fF3 a < 8 := by unfold fF3; omega
theorem fRs1_b (a : Int) : 0 ≤ fRs1 a ∧ fRs1 a < 32 := by unfold fRs1; omega
theorem fRs2_b (a : Int) : 0 ≤ fRs2 a ∧ fRs2 a < 32 := by unfold fRs2; omega
theorem fF7_b (a : Int) : 0 ≤ fF7 a ∧ fF7 a < 128 := by unfold fF7; omega
theorem fF6_b (a : Int) : 0 ≤ fF6 a ∧ fF6 a < 64 := by unfold fF6; omega
theorem fF5_b (a : Int) : 0 ≤ fF5 a ∧ fF5 a < 32 := by unfold fF5; omega
theorem fSh_b (a : Int) : 0 ≤ fSh a ∧ fSh a < 64 := by unfold fSh; omega
theorem fCs_b (a : Int) : 0 ≤ fCs a ∧ fCs a < 4096 := by unfold fCs; omega
theorem or_B (A B C E : Int) (a : A % 4096 = 0) (a1 : -9223372036854775808 ≤ A) (a2 : A < 9223372036854775808) (b : B % 2048 = 0) (b1 : 0 ≤ B) (b2 : B < 4096) (c : C % 32 = 0) (c1 : 0 ≤ C) (c2 : C < 2048) (e1 : 0 ≤ E) (e2 : E < 32) :
    bits .or .i64 (bits .or .i64 (bits .or .i64 A B) C) E = A + B + C + E := by
  rw [or64_12 A B a b1 b2 a1 a2, or64_11 (A + B) C (by omega) c1 c2 (by omega) (by omega), or64_5 (A + B + C) E (by omega) e1 e2 (by omega) (by omega)]
theorem or_J (A B C E : Int) (a : A % 1048576 = 0) (a1 : -9223372036854775808 ≤ A) (a2 : A < 9223372036854775808) (b : B % 4096 = 0) (b1 : 0 ≤ B) (b2 : B < 1048576) (c : C % 2048 = 0) (c1 : 0 ≤ C) (c2 : C < 4096) (e1 : 0 ≤ E) (e2 : E < 2048) :
    bits .or .i64 (bits .or .i64 (bits .or .i64 A B) C) E = A + B + C + E := by
  rw [or64_20 A B a b1 b2 a1 a2, or64_12 (A + B) C (by omega) c1 c2 (by omega) (by omega), or64_11 (A + B + C) E (by omega) e1 e2 (by omega) (by omega)]
theorem wrap32_s (a : Int) (h0 : 0 ≤ a) (h1 : a < 4294967296) : wrap32 a = s32 a := by
  unfold wrap32 s32; split <;> omega
theorem s32_b (a : Int) (h0 : 0 ≤ a) (h1 : a < 4294967296) : -2147483648 ≤ s32 a ∧ s32 a < 2147483648 := by unfold s32; split <;> omega
end Go.Proofs.YtlfdokkopgmfjaaGreatDoor.B
namespace Go.Proofs.YtlfdokkopgmfjaaGreatDoor.B
open Go.RowKit
set_option linter.unusedVariables false
set_option maxRecDepth 100000
theorem ret_int {k : IntKind} {a b : Int} (h : a = b) : Ending.returned (.int k a) = .returned (.int k b) := by rw [h]
theorem ret_bool {a b : Bool} (h : a = b) : Ending.returned (.bool a) = .returned (.bool b) := by rw [h]
theorem m_op (a : Int) (h0 : 0 ≤ a) (h1 : a < 4294967296) (w : World) :
    Calls Tryz.prog 88 #[.int .u32 a] w fun e w' => e = .returned (.int .i64 (fOp a)) ∧ w' = w := by
  go_enter Tryz.func88, Tryz.ntmps88
  go_wp2
  go_ret
  exact ⟨ret_int (by unfold fOp; omega), rfl⟩
theorem m_f3 (a : Int) (h0 : 0 ≤ a) (h1 : a < 4294967296) (w : World) :
    Calls Tryz.prog 190 #[.int .u32 a] w fun e w' => e = .returned (.int .i64 (fF3 a)) ∧ w' = w := by
  go_enter Tryz.func190, Tryz.ntmps190
  go_wp2
  go_ret
  exact ⟨ret_int (by unfold fF3; omega), rfl⟩
theorem m_f5 (a : Int) (h0 : 0 ≤ a) (h1 : a < 4294967296) (w : World) :
    Calls Tryz.prog 191 #[.int .u32 a] w fun e w' => e = .returned (.int .i64 (fF5 a)) ∧ w' = w := by
  go_enter Tryz.func191, Tryz.ntmps191
  go_wp2
  go_ret
  exact ⟨ret_int (by unfold fF5; omega), rfl⟩
theorem m_f6 (a : Int) (h0 : 0 ≤ a) (h1 : a < 4294967296) (w : World) :
    Calls Tryz.prog 195 #[.int .u32 a] w fun e w' => e = .returned (.int .i64 (fF6 a)) ∧ w' = w := by
  go_enter Tryz.func195, Tryz.ntmps195
  go_wp2
  go_ret
  exact ⟨ret_int (by unfold fF6; omega), rfl⟩
theorem m_f7 (a : Int) (h0 : 0 ≤ a) (h1 : a < 4294967296) (w : World) :
    Calls Tryz.prog 196 #[.int .u32 a] w fun e w' => e = .returned (.int .i64 (fF7 a)) ∧ w' = w := by
  go_enter Tryz.func196, Tryz.ntmps196
  go_wp2
  go_ret
  exact ⟨ret_int (by unfold fF7; omega), rfl⟩
theorem m_rd (a : Int) (h0 : 0 ≤ a) (h1 : a < 4294967296) (w : World) :
    Calls Tryz.prog 153 #[.int .u32 a] w fun e w' => e = .returned (.int .i64 (fRd a)) ∧ w' = w := by
  go_enter Tryz.func153, Tryz.ntmps153
  go_wp2
  go_ret
  exact ⟨ret_int (by unfold fRd; omega), rfl⟩
theorem m_rs1 (a : Int) (h0 : 0 ≤ a) (h1 : a < 4294967296) (w : World) :
    Calls Tryz.prog 158 #[.int .u32 a] w fun e w' => e = .returned (.int .i64 (fRs1 a)) ∧ w' = w := by
  go_enter Tryz.func158, Tryz.ntmps158
  go_wp2
  go_ret
  exact ⟨ret_int (by unfold fRs1; omega), rfl⟩
theorem m_rs2 (a : Int) (h0 : 0 ≤ a) (h1 : a < 4294967296) (w : World) :
    Calls Tryz.prog 163 #[.int .u32 a] w fun e w' => e = .returned (.int .i64 (fRs2 a)) ∧ w' = w := by
  go_enter Tryz.func163, Tryz.ntmps163
  go_wp2
  go_ret
  exact ⟨ret_int (by unfold fRs2; omega), rfl⟩
theorem m_none (a : Int) (h0 : 0 ≤ a) (h1 : a < 4294967296) (w : World) :
    Calls Tryz.prog 154 #[.int .u32 a] w fun e w' => e = .returned (.int .i64 0) ∧ w' = w := by
  go_enter Tryz.func154, Tryz.ntmps154
  go_wp2
  go_ret
  exact ⟨rfl, rfl⟩
theorem m_immI (a : Int) (h0 : 0 ≤ a) (h1 : a < 4294967296) (w : World) :
    Calls Tryz.prog 171 #[.int .u32 a] w fun e w' => e = .returned (.int .i64 (iI a)) ∧ w' = w := by
  have hs := s32_b a h0 h1
  have hw := wrap32_s a h0 h1
  go_enter Tryz.func171, Tryz.ntmps171
  go_wp2
  go_ret
  exact ⟨ret_int (by first | rfl | (unfold iI; omega)), rfl⟩
theorem m_immU (a : Int) (h0 : 0 ≤ a) (h1 : a < 4294967296) (w : World) :
    Calls Tryz.prog 155 #[.int .u32 a] w fun e w' => e = .returned (.int .i64 (iU a)) ∧ w' = w := by
  have hs := s32_b a h0 h1
  have hw := wrap32_s a h0 h1
  go_enter Tryz.func155, Tryz.ntmps155
  go_wp2
  go_ret
  exact ⟨ret_int (by first | rfl | (unfold iU; omega)), rfl⟩
theorem m_immS (a : Int) (h0 : 0 ≤ a) (h1 : a < 4294967296) (w : World) :
    Calls Tryz.prog 173 #[.int .u32 a] w fun e w' => e = .returned (.int .i64 (iS a)) ∧ w' = w := by
  have hs := s32_b a h0 h1
  have hw := wrap32_s a h0 h1
  go_enter Tryz.func173, Tryz.ntmps173
  go_wp2
  go_ret
  refine ⟨ret_int ?_, rfl⟩
  rw [or64_5 _ _ (by omega) (by omega) (by omega) (by omega) (by omega)]
  unfold iS; omega
theorem m_immB (a : Int) (h0 : 0 ≤ a) (h1 : a < 4294967296) (w : World) :
    Calls Tryz.prog 172 #[.int .u32 a] w fun e w' => e = .returned (.int .i64 (iB a)) ∧ w' = w := by
  have hs := s32_b a h0 h1
  have hw := wrap32_s a h0 h1
  go_enter Tryz.func172, Tryz.ntmps172
  go_wp2
  go_ret
  refine ⟨ret_int ?_, rfl⟩
  rw [or_B _ _ _ _ (by omega) (by omega) (by omega) (by omega) (by omega) (by omega) (by omega) (by omega) (by omega) (by omega) (by omega)]
  unfold iB; omega
theorem m_immJ (a : Int) (h0 : 0 ≤ a) (h1 : a < 4294967296) (w : World) :
    Calls Tryz.prog 169 #[.int .u32 a] w fun e w' => e = .returned (.int .i64 (iJ a)) ∧ w' = w := by
  have hs := s32_b a h0 h1
  have hw := wrap32_s a h0 h1
  go_enter Tryz.func169, Tryz.ntmps169
  go_wp2
  go_ret
  refine ⟨ret_int ?_, rfl⟩
  rw [or_J _ _ _ _ (by omega) (by omega) (by omega) (by omega) (by omega) (by omega) (by omega) (by omega) (by omega) (by omega) (by omega)]
  unfold iJ; omega
theorem m_shifts (a : Int) (h0 : 0 ≤ a) (h1 : a < 4294967296) (w : World) :
    Calls Tryz.prog 193 #[.int .u32 a] w fun e w' => e = .returned (.bool (shf a)) ∧ w' = w := by
  go_enter Tryz.func193, Tryz.ntmps193
  go_wp2_with (go_at_call 190; refine (m_f3 _ h0 h1 _).mono ?_; rintro e w' ⟨rfl, rfl⟩)
  all_goals
    go_ret
    exact ⟨ret_bool (by simp_all [shf]), rfl⟩
theorem m_operand (a : Int) (h0 : 0 ≤ a) (h1 : a < 4294967296) (w : World) :
    Calls Tryz.prog 159 #[.int .u32 a] w fun e w' => e = .returned (.int .i64 (iOpnd a)) ∧ w' = w := by
  cases hh : shf a
  · have e1 : iOpnd a = iI a := by unfold iOpnd; rw [hh]; rfl
    rw [e1]
    go_enter Tryz.func159, Tryz.ntmps159
    go_wp2_with (first | (go_at_call 193; refine (m_shifts _ h0 h1 _).mono ?_; rintro e w' ⟨rfl, rfl⟩) | (go_at_call 171; refine (m_immI _ h0 h1 _).mono ?_; rintro e w' ⟨rfl, rfl⟩))
    go_ret
    exact ⟨rfl, rfl⟩
  · have e1 : iOpnd a = fSh a := by unfold iOpnd; rw [hh]; rfl
    rw [e1]
    go_enter Tryz.func159, Tryz.ntmps159
    go_wp2_with (first | (go_at_call 193; refine (m_shifts _ h0 h1 _).mono ?_; rintro e w' ⟨rfl, rfl⟩) | (go_at_call 92; go_in))
    go_ret
    exact ⟨ret_int (by unfold fSh; omega), rfl⟩
theorem m_operandW (a : Int) (h0 : 0 ≤ a) (h1 : a < 4294967296) (w : World) :
    Calls Tryz.prog 161 #[.int .u32 a] w fun e w' => e = .returned (.int .i64 (iOpndW a)) ∧ w' = w := by
  cases hh : shf a
  · have e1 : iOpndW a = iI a := by unfold iOpndW; rw [hh]; rfl
    rw [e1]
    go_enter Tryz.func161, Tryz.ntmps161
    go_wp2_with (first | (go_at_call 193; refine (m_shifts _ h0 h1 _).mono ?_; rintro e w' ⟨rfl, rfl⟩) | (go_at_call 171; refine (m_immI _ h0 h1 _).mono ?_; rintro e w' ⟨rfl, rfl⟩))
    go_ret
    exact ⟨rfl, rfl⟩
  · have e1 : iOpndW a = fRs2 a := by unfold iOpndW; rw [hh]; rfl
    rw [e1]
    go_enter Tryz.func161, Tryz.ntmps161
    go_wp2_with (first | (go_at_call 193; refine (m_shifts _ h0 h1 _).mono ?_; rintro e w' ⟨rfl, rfl⟩) | (go_at_call 92; go_in))
    go_ret
    exact ⟨ret_int (by unfold fRs2; omega), rfl⟩
theorem m_csr (a : Int) (h0 : 0 ≤ a) (h1 : a < 4294967296) (w : World) :
    Calls Tryz.prog 167 #[.int .u32 a] w fun e w' => e = .returned (.int .i64 (iCsr a)) ∧ w' = w := by
  by_cases h : fF3 a = 0
  · have e1 : iCsr a = 0 := if_pos h
    rw [e1]
    go_enter Tryz.func167, Tryz.ntmps167
    go_wp2_with (first | (go_at_call 190; refine (m_f3 _ h0 h1 _).mono ?_; rintro e w' ⟨rfl, rfl⟩))
    go_ret
    exact ⟨rfl, rfl⟩
  · have e1 : iCsr a = fCs a := if_neg h
    rw [e1]
    go_enter Tryz.func167, Tryz.ntmps167
    go_wp2_with (first | (go_at_call 190; refine (m_f3 _ h0 h1 _).mono ?_; rintro e w' ⟨rfl, rfl⟩) | (go_at_call 92; go_in))
    go_ret
    exact ⟨ret_int (by unfold fCs; omega), rfl⟩
theorem m_space (a : Int) (h0 : 0 ≤ a) (h1 : a < 4294967296) (w : World) :
    Calls Tryz.prog 166 #[.int .u32 a] w fun e w' => e = .returned (.int .i64 (rSpace a)) ∧ w' = w := by
  by_cases h : fF3 a = 0
  · by_cases h7 : fF7 a = 9
    · have e1 : rSpace a = fRs2 a := if_pos ⟨h, h7⟩
      rw [e1]
      go_enter Tryz.func166, Tryz.ntmps166
      go_wp2_with (first | (go_at_call 190; refine (m_f3 _ h0 h1 _).mono ?_; rintro e w' ⟨rfl, rfl⟩) | (go_at_call 196; refine (m_f7 _ h0 h1 _).mono ?_; rintro e w' ⟨rfl, rfl⟩) | (go_at_call 163; refine (m_rs2 _ h0 h1 _).mono ?_; rintro e w' ⟨rfl, rfl⟩))
      go_ret
      exact ⟨rfl, rfl⟩
    · have e1 : rSpace a = 0 := if_neg (fun x => h7 x.2)
      rw [e1]
      go_enter Tryz.func166, Tryz.ntmps166
      go_wp2_with (first | (go_at_call 190; refine (m_f3 _ h0 h1 _).mono ?_; rintro e w' ⟨rfl, rfl⟩) | (go_at_call 196; refine (m_f7 _ h0 h1 _).mono ?_; rintro e w' ⟨rfl, rfl⟩) | (go_at_call 163; refine (m_rs2 _ h0 h1 _).mono ?_; rintro e w' ⟨rfl, rfl⟩))
      go_ret
      exact ⟨rfl, rfl⟩
  · have e1 : rSpace a = 0 := if_neg (fun x => h x.1)
    rw [e1]
    go_enter Tryz.func166, Tryz.ntmps166
    go_wp2_with (first | (go_at_call 190; refine (m_f3 _ h0 h1 _).mono ?_; rintro e w' ⟨rfl, rfl⟩))
    go_ret
    exact ⟨rfl, rfl⟩
end Go.Proofs.YtlfdokkopgmfjaaGreatDoor.B
namespace Go.Proofs.YtlfdokkopgmfjaaGreatDoor.B
open Go.RowKit
set_option linter.unusedVariables false
set_option maxRecDepth 100000
theorem r_I (a : Int) (h0 : 0 ≤ a) (h1 : a < 4294967296) (w : World) :
    Calls Tryz.prog 103 #[.int .u32 a] w fun e w' => e = .returned (.int .i64 (iI a)) ∧ w' = w := by
  go_enter Tryz.func103, Tryz.ntmps103
  go_wp2
  all_goals
    go_ret
    exact ⟨ret_int (by unfold iI s32; split <;> omega), rfl⟩
theorem r_S (a : Int) (h0 : 0 ≤ a) (h1 : a < 4294967296) (w : World) :
    Calls Tryz.prog 105 #[.int .u32 a] w fun e w' => e = .returned (.int .i64 (iS a)) ∧ w' = w := by
  go_enter Tryz.func105, Tryz.ntmps105
  go_wp2
  all_goals
    go_ret
    exact ⟨ret_int (by unfold iS s32; split <;> omega), rfl⟩
theorem r_U (a : Int) (h0 : 0 ≤ a) (h1 : a < 4294967296) (w : World) :
    Calls Tryz.prog 101 #[.int .u32 a] w fun e w' => e = .returned (.int .i64 (iU a)) ∧ w' = w := by
  go_enter Tryz.func101, Tryz.ntmps101
  go_wp2
  all_goals
    go_ret
    exact ⟨ret_int (by unfold iU s32; split <;> omega), rfl⟩
theorem r_B (a : Int) (h0 : 0 ≤ a) (h1 : a < 4294967296) (w : World) :
    Calls Tryz.prog 104 #[.int .u32 a] w fun e w' => e = .returned (.int .i64 (iB a)) ∧ w' = w := by
  go_enter Tryz.func104, Tryz.ntmps104
  go_wp2
  all_goals
    go_ret
    exact ⟨ret_int (by unfold iB s32; split <;> omega), rfl⟩
theorem r_J (a : Int) (h0 : 0 ≤ a) (h1 : a < 4294967296) (w : World) :
    Calls Tryz.prog 102 #[.int .u32 a] w fun e w' => e = .returned (.int .i64 (iJ a)) ∧ w' = w := by
  go_enter Tryz.func102, Tryz.ntmps102
  go_wp2
  all_goals
    go_ret
    exact ⟨ret_int (by unfold iJ s32; split <;> omega), rfl⟩
end Go.Proofs.YtlfdokkopgmfjaaGreatDoor.B
namespace Go.Proofs.YtlfdokkopgmfjaaGreatDoor.B
open Go.RowKit Go.ChangeMaps Go.MapKept
set_option linter.unusedVariables false
set_option maxRecDepth 100000
theorem bcell {W w1 : World} (hb : Below W.heap.size W w1) : (∀ b o, b < W.heap.size → w1.cell? ⟨b, o, none⟩ = W.cell? ⟨b, o, none⟩) ∧ (∀ b o, b < W.heap.size → w1.frozen? ⟨b, o, none⟩ = W.frozen? ⟨b, o, none⟩) :=
  ⟨fun b o h => hb.cell (p := ⟨b, o, none⟩) h, fun b o h => hb.frozen (p := ⟨b, o, none⟩) h⟩
theorem belowA {w w' : World} {o : Obj} (h : Below (w.alloc o).heap.size (w.alloc o) w') : Below w.heap.size w w' :=
  ((Below.refl _ _).alloc (Nat.le_refl _) _).trans (h.mono (by simp))
theorem belowS {w w' : World} {o : Obj} (h : Below (w.alloc o).heap.size (w.alloc o) w') : w.heap.size < w'.heap.size := by
  have := h.size; simp at this; omega
theorem below1 {w : World} (o : Obj) : Below w.heap.size w (w.alloc o) := (Below.refl _ _).alloc (Nat.le_refl _) _
theorem belowT {a b c : World} (h : Below a.heap.size a b) (k : Below b.heap.size b c) : Below a.heap.size a c := h.trans (k.mono h.size)
theorem below8 {B : Nat} {w w' : World} (h : Below B w w') {b : Nat} (hb : B ≤ b) (v0 v1 v2 v3 v4 v5 v6 v7 : Value) :
    Below B w ((((((((w'.setCell ⟨b, 0, none⟩ v0).setCell ⟨b, 1, none⟩ v1).setCell ⟨b, 2, none⟩ v2).setCell ⟨b, 3, none⟩ v3).setCell ⟨b, 4, none⟩ v4).setCell ⟨b, 5, none⟩ v5).setCell ⟨b, 6, none⟩ v6).setCell ⟨b, 7, none⟩ v7) :=
  (((((((h.setCell hb _).setCell hb _).setCell hb _).setCell hb _).setCell hb _).setCell hb _).setCell hb _).setCell hb _
theorem below5 {B : Nat} {w w' : World} (h : Below B w w') {b : Nat} (hb : B ≤ b) (v0 v1 v2 v3 v4 : Value) :
    Below B w (((((w'.setCell ⟨b, 0, none⟩ v0).setCell ⟨b, 1, none⟩ v1).setCell ⟨b, 2, none⟩ v2).setCell ⟨b, 3, none⟩ v3).setCell ⟨b, 4, none⟩ v4) :=
  ((((h.setCell hb _).setCell hb _).setCell hb _).setCell hb _).setCell hb _
/-- a table of the package, as it stands in memory -/
def Tb (w : World) (g : Nat) (t : Int → Int) (len : Int) : Prop := g < w.heap.size ∧ ∀ n : Int, 0 ≤ n → n < len → w.cell? ⟨g, n.toNat, none⟩ = some (.int .i64 (t n))
theorem Tb.below {w w' : World} {g : Nat} {t : Int → Int} {len : Int} (h : Tb w g t len) (hb : Below w.heap.size w w') : Tb w' g t len :=
  ⟨Nat.lt_of_lt_of_le h.1 hb.size, fun n h0 h1 => by rw [(bcell hb).1 _ _ h.1]; exact h.2 n h0 h1⟩
/-- the eleven tables -/
structure G (w : World) : Prop where
  cond : Tb w 0 tCond 8
  load : Tb w 1 tLoad 8
  store : Tb w 2 tStore 8
  wid : Tb w 3 tWid 8
  ato : Tb w 4 tAto 32
  bas : Tb w 5 tBas 8
  alt : Tb w 6 tAlt 8
  pro : Tb w 9 tPro 8
  basW : Tb w 7 tBasW 8
  altW : Tb w 8 tAltW 8
  proW : Tb w 10 tProW 8
theorem G.below {w w' : World} (h : G w) (hb : Below w.heap.size w w') : G w' :=
  ⟨h.cond.below hb, h.load.below hb, h.store.below hb, h.wid.below hb, h.ato.below hb, h.bas.below hb, h.alt.below hb, h.pro.below hb, h.basW.below hb, h.altW.below hb, h.proW.below hb⟩
theorem G.alloc {w : World} (h : G w) (o : Obj) : G (w.alloc o) := h.below (below1 o)
/-! a map that is made of a list, and looked into -/
theorem ins_run {P : Program} {t ke e : TypeId} (hU : P.underlying t = some (.map ke e)) (hK : P.underlying ke = some (.int .i64)) (W : World) (es : Array MapEntry) (c : Nat) (k : Int) (v : Value)
    (hn : Instr.findNow (.int .i64) (.int .i64 k) es.toList 0 = some none) :
    (Instr.mapUpdate t (.map (some W.heap.size)) (.int .i64 k) v).run P (W.alloc (.map es c)) = .ok () (W.alloc (.map (es.push ⟨.int .i64 k, v, c⟩) (c + 1))) := by
  have hb : (W.alloc (.map es c)).heap[W.heap.size]? = some (.map es c) := by show (W.heap.push _)[W.heap.size]? = _; simp
  have hkey : IsKey (.int .i64) (.int .i64 k) := by simp [IsKey]
  simp [Instr.mapUpdate, run_underlying hU, MapKept.run_getObj_map hb, run_checkKey hK hkey, run_findKey hK hn, MapKept.run_setObj_map _ hb, Result.andThen]
  have e : (W.heap.push (Obj.map es c)).setIfInBounds W.heap.size (.map (es.push ⟨.int .i64 k, v, c⟩) (c+1)) = W.heap.push (.map (es.push ⟨.int .i64 k, v, c⟩) (c+1)) := by
    apply Array.ext'
    simp
  show ({ W.alloc (.map es c) with heap := (W.heap.push (Obj.map es c)).setIfInBounds W.heap.size (.map (es.push ⟨.int .i64 k, v, c⟩) (c+1)) } : World) = _
  rw [e]
  rfl
theorem look_run {P : Program} {t ke e : TypeId} (hU : P.underlying t = some (.map ke e)) (hK : P.underlying ke = some (.int .i64)) (W : World) (es : Array MapEntry) (c : Nat) (k : Int) (i : Nat) (v : Value)
    (hn : Instr.findNow (.int .i64) (.int .i64 k) es.toList 0 = some (some (i, v))) :
    (Instr.lookup t (.map (some W.heap.size)) (.int .i64 k) true).run P (W.alloc (.map es c)) = .ok (.tuple #[v, .bool true]) (W.alloc (.map es c)) := by
  have hb : (W.alloc (.map es c)).heap[W.heap.size]? = some (.map es c) := by show (W.heap.push _)[W.heap.size]? = _; simp
  have hkey : IsKey (.int .i64) (.int .i64 k) := by simp [IsKey]
  simp [Instr.lookup, run_underlying hU, MapKept.run_getObj_map hb, run_checkKey hK hkey, run_findKey hK hn, Result.andThen]
theorem look_none {P : Program} {t ke e : TypeId} (hU : P.underlying t = some (.map ke e)) (hK : P.underlying ke = some (.int .i64)) (W : World) (es : Array MapEntry) (c : Nat) (k : Int) (z : Value) (hz : ∀ w, (zeroValue e).run P w = .ok z w)
    (hn : Instr.findNow (.int .i64) (.int .i64 k) es.toList 0 = some none) :
    (Instr.lookup t (.map (some W.heap.size)) (.int .i64 k) true).run P (W.alloc (.map es c)) = .ok (.tuple #[z, .bool false]) (W.alloc (.map es c)) := by
  have hb : (W.alloc (.map es c)).heap[W.heap.size]? = some (.map es c) := by show (W.heap.push _)[W.heap.size]? = _; simp
  have hkey : IsKey (.int .i64) (.int .i64 k) := by simp [IsKey]
  simp [Instr.lookup, run_underlying hU, MapKept.run_getObj_map hb, run_checkKey hK hkey, run_findKey hK hn, hz, Result.andThen]
theorem ins_at {P : Program} {t ke e : TypeId} (hU : P.underlying t = some (.map ke e)) (hK : P.underlying ke = some (.int .i64)) (W : World) (es es' : Array MapEntry) (c b : Nat) (k : Int) (v : Value) (hb : W.heap.size = b)
    (hn : Instr.findNow (.int .i64) (.int .i64 k) es.toList 0 = some none) (hes : es.push ⟨.int .i64 k, v, c⟩ = es') :
    (Instr.mapUpdate t (.map (some b)) (.int .i64 k) v).run P (W.alloc (.map es c)) = .ok () (W.alloc (.map es' (c + 1))) := by
  subst hb; subst hes; exact ins_run hU hK W es c k v hn
theorem look_at {P : Program} {t ke e : TypeId} (hU : P.underlying t = some (.map ke e)) (hK : P.underlying ke = some (.int .i64)) (W : World) (es : Array MapEntry) (c b : Nat) (k : Int) (i : Nat) (v : Value) (hb : W.heap.size = b)
    (hn : Instr.findNow (.int .i64) (.int .i64 k) es.toList 0 = some (some (i, v))) :
    (Instr.lookup t (.map (some b)) (.int .i64 k) true).run P (W.alloc (.map es c)) = .ok (.tuple #[v, .bool true]) (W.alloc (.map es c)) := by
  subst hb; exact look_run hU hK W es c k i v hn
theorem none_at {P : Program} {t ke e : TypeId} (hU : P.underlying t = some (.map ke e)) (hK : P.underlying ke = some (.int .i64)) (W : World) (es : Array MapEntry) (c b : Nat) (k : Int) (z : Value) (hz : ∀ w, (zeroValue e).run P w = .ok z w) (hb : W.heap.size = b)
    (hn : Instr.findNow (.int .i64) (.int .i64 k) es.toList 0 = some none) :
    (Instr.lookup t (.map (some b)) (.int .i64 k) true).run P (W.alloc (.map es c)) = .ok (.tuple #[z, .bool false]) (W.alloc (.map es c)) := by
  subst hb; exact look_none hU hK W es c k z hz hn
theorem st_func (P : Program) (w : World) (a : Addr) (m : Mode) (fn : Fn) (x y : Array Value) : (store a (.func fn x y) m).run P w = stored P w a (.func fn x y) m := run_store P w a _ m rfl
theorem st_nilFunc (P : Program) (w : World) (a : Addr) (m : Mode) : (store a .nilFunc m).run P w = stored P w a .nilFunc m := run_store P w a _ m rfl
/-! a region that draws its order, by what holds in whatever order -/
theorem wpAny_inv {P : Program} {md : Region.Mode} {ops : Array Oper} {Q : Exit → Act → World → Prop} (J : Array Bool → Act → World → Prop)
    (step : ∀ listed a w, J listed a w → ∀ i ∈ Region.ready md ops listed, wpOp P ops Q i (J (listed.setIfInBounds i true)) a w)
    (fin : ∀ listed a w, J listed a w → Region.ready md ops listed = [] → Q .normal a w) :
    ∀ (fuel : Nat) (listed : Array Bool) (a : Act) (w : World), listed.toList.count false ≤ fuel → J listed a w → wpAny P md ops Q fuel listed a w := by
  intro fuel
  have key : ∀ (listed : Array Bool) (i : Nat), i ∈ Region.ready md ops listed → (listed.setIfInBounds i true).toList.count false + 1 = listed.toList.count false := by
    intro listed i hi
    have h0 := (mem_ready.1 hi).1
    have hlt : i < listed.size := by
      rcases Nat.lt_or_ge i listed.size with h | h
      · exact h
      · simp [Array.getElem?_eq_none h] at h0
    have hv : listed.toList[i]'(by simpa using hlt) = false := by simpa [hlt] using h0
    have hpos : 0 < listed.toList.count false := List.count_pos_iff.2 (by rw [← hv]; exact List.getElem_mem _)
    rw [Array.toList_setIfInBounds, List.count_set (by simpa using hlt), hv]
    have : ∀ c : Nat, 0 < c → c - (if (false == false) = true then 1 else 0) + (if (true == false) = true then 1 else 0) + 1 = c := by intro c hc; simp; omega
    exact this _ hpos
  induction fuel with
  | zero =>
    intro listed a w hc hJ
    have hr : Region.ready md ops listed = [] := by
      cases h : Region.ready md ops listed with
      | nil => rfl
      | cons i r => have := key listed i (by rw [h]; simp); omega
    exact ⟨hr, fin _ _ _ hJ hr⟩
  | succ fuel ih =>
    intro listed a w hc hJ
    refine ⟨fun h => fin _ _ _ hJ h, fun i hi => ?_⟩
    have := key listed i hi
    exact wpOp_mono (fun a' w' h' => ih _ a' w' (by omega) h') (step _ _ _ hJ i hi)
theorem ready_no {md : Region.Mode} {ops : Array Oper} {listed : Array Bool} (hr : Region.ready md ops listed = []) {j : Nat} {o : Oper} (ho : ops[j]? = some o) (hl : listed.getD j true = false)
    (he : (o.after.all fun e => !Region.binds md e || listed.getD e.on false) = true) : False := by
  have : j ∈ Region.ready md ops listed := by
    refine mem_ready.2 ⟨hl, o, ho, fun e h hb => ?_⟩
    have := Array.all_eq_true_iff_forall_mem.1 he e h
    simpa [hb] using this
  rw [hr] at this
  cases this
def sv : Bool → Value → Value
  | true, v => v
  | false, _ => undef
def ci : Bool → Int → Int → Int
  | true, x, _ => x
  | false, _, y => y
end Go.Proofs.YtlfdokkopgmfjaaGreatDoor.B
namespace Go.Proofs.YtlfdokkopgmfjaaGreatDoor.B
open Go.RowKit
set_option linter.unusedVariables false
set_option maxRecDepth 100000
theorem g_op (a : Int) (h0 : 0 ≤ a) (h1 : a < 4294967296) (w : World) : Calls Tryz.prog 61 #[.int .u32 a, .int .i64 6, .int .i64 0] w fun e w' => e = .returned (.int .i64 (fOp a)) ∧ w' = w := by
  go_enter Tryz.func61, Tryz.ntmps61
  go_wp2
  go_ret
  exact ⟨ret_int (by unfold fOp; omega), rfl⟩
theorem g_f3 (a : Int) (h0 : 0 ≤ a) (h1 : a < 4294967296) (w : World) : Calls Tryz.prog 61 #[.int .u32 a, .int .i64 14, .int .i64 12] w fun e w' => e = .returned (.int .i64 (fF3 a)) ∧ w' = w := by
  go_enter Tryz.func61, Tryz.ntmps61
  go_wp2
  go_ret
  exact ⟨ret_int (by unfold fF3; omega), rfl⟩
theorem g_f7 (a : Int) (h0 : 0 ≤ a) (h1 : a < 4294967296) (w : World) : Calls Tryz.prog 61 #[.int .u32 a, .int .i64 31, .int .i64 25] w fun e w' => e = .returned (.int .i64 (fF7 a)) ∧ w' = w := by
  go_enter Tryz.func61, Tryz.ntmps61
  go_wp2
  go_ret
  exact ⟨ret_int (by unfold fF7; omega), rfl⟩
theorem g_rd (a : Int) (h0 : 0 ≤ a) (h1 : a < 4294967296) (w : World) : Calls Tryz.prog 61 #[.int .u32 a, .int .i64 11, .int .i64 7] w fun e w' => e = .returned (.int .i64 (fRd a)) ∧ w' = w := by
  go_enter Tryz.func61, Tryz.ntmps61
  go_wp2
  go_ret
  exact ⟨ret_int (by unfold fRd; omega), rfl⟩
theorem g_rs1 (a : Int) (h0 : 0 ≤ a) (h1 : a < 4294967296) (w : World) : Calls Tryz.prog 61 #[.int .u32 a, .int .i64 19, .int .i64 15] w fun e w' => e = .returned (.int .i64 (fRs1 a)) ∧ w' = w := by
  go_enter Tryz.func61, Tryz.ntmps61
  go_wp2
  go_ret
  exact ⟨ret_int (by unfold fRs1; omega), rfl⟩
theorem g_rs2 (a : Int) (h0 : 0 ≤ a) (h1 : a < 4294967296) (w : World) : Calls Tryz.prog 61 #[.int .u32 a, .int .i64 24, .int .i64 20] w fun e w' => e = .returned (.int .i64 (fRs2 a)) ∧ w' = w := by
  go_enter Tryz.func61, Tryz.ntmps61
  go_wp2
  go_ret
  exact ⟨ret_int (by unfold fRs2; omega), rfl⟩
theorem g_f6 (a : Int) (h0 : 0 ≤ a) (h1 : a < 4294967296) (w : World) : Calls Tryz.prog 61 #[.int .u32 a, .int .i64 31, .int .i64 26] w fun e w' => e = .returned (.int .i64 (fF6 a)) ∧ w' = w := by
  go_enter Tryz.func61, Tryz.ntmps61
  go_wp2
  go_ret
  exact ⟨ret_int (by unfold fF6; omega), rfl⟩
theorem g_f5 (a : Int) (h0 : 0 ≤ a) (h1 : a < 4294967296) (w : World) : Calls Tryz.prog 61 #[.int .u32 a, .int .i64 31, .int .i64 27] w fun e w' => e = .returned (.int .i64 (fF5 a)) ∧ w' = w := by
  go_enter Tryz.func61, Tryz.ntmps61
  go_wp2
  go_ret
  exact ⟨ret_int (by unfold fF5; omega), rfl⟩
theorem g_sh (a : Int) (h0 : 0 ≤ a) (h1 : a < 4294967296) (w : World) : Calls Tryz.prog 61 #[.int .u32 a, .int .i64 25, .int .i64 20] w fun e w' => e = .returned (.int .i64 (fSh a)) ∧ w' = w := by
  go_enter Tryz.func61, Tryz.ntmps61
  go_wp2
  go_ret
  exact ⟨ret_int (by unfold fSh; omega), rfl⟩
theorem g_cs (a : Int) (h0 : 0 ≤ a) (h1 : a < 4294967296) (w : World) : Calls Tryz.prog 61 #[.int .u32 a, .int .i64 31, .int .i64 20] w fun e w' => e = .returned (.int .i64 (fCs a)) ∧ w' = w := by
  go_enter Tryz.func61, Tryz.ntmps61
  go_wp2
  go_ret
  exact ⟨ret_int (by unfold fCs; omega), rfl⟩
/-- the element of a list, or 0 -/
def pk (L : List Int) (i : Int) : Int := if 0 ≤ i ∧ i < L.length then L.getD i.toNat 0 else 0
theorem r_pick (b n : Nat) (L : List Int) (hn : L.length = n) (i : Int) (w : World) (hc : ∀ k : Nat, k < n → w.cell? ⟨b, k, none⟩ = some (.int .i64 (L.getD k 0))) (i0 : -9223372036854775808 ≤ i) (i1 : i < 9223372036854775808) (hn' : n < 100) :
    Calls Tryz.prog 63 #[.slice (some ⟨b, 0, none⟩) n n, .int .i64 i] w fun e w' => e = .returned (.int .i64 (pk L i)) ∧ w' = w := by
  by_cases p : i < 0
  · have e : pk L i = 0 := if_neg (by omega)
    rw [e]
    go_enter Tryz.func63, Tryz.ntmps63
    go_wp2
    go_ret
    exact ⟨rfl, rfl⟩
  by_cases q : (n : Int) ≤ i
  · have e : pk L i = 0 := if_neg (by omega)
    rw [e]
    go_enter Tryz.func63, Tryz.ntmps63
    go_wp2
    go_ret
    exact ⟨rfl, rfl⟩
  · have e : pk L i = L.getD i.toNat 0 := if_pos (by omega)
    rw [e]
    have hk := hc i.toNat (by omega)
    have hlt : i.toNat < n := by omega
    go_enter Tryz.func63, Tryz.ntmps63
    go_wp2
    go_ret
    exact ⟨rfl, rfl⟩
end Go.Proofs.YtlfdokkopgmfjaaGreatDoor.B
namespace Go.Proofs.YtlfdokkopgmfjaaGreatDoor.B
open Go.RowKit
set_option linter.unusedVariables false
set_option maxRecDepth 100000
/-- a number whose bits lie in a mask -/
def In (x : Int) (m : Nat) : Prop := 0 ≤ x ∧ x.toNat &&& m = x.toNat
theorem In.mk' (k j : Nat) (X x : Int) (h0 : 0 ≤ X) (h1 : X < 2 ^ k) (e : x = X * 2 ^ j) : In x ((2 ^ k - 1) * 2 ^ j) := by
  subst e
  refine ⟨Int.mul_nonneg h0 (by exact_mod_cast Nat.zero_le (2 ^ j)), ?_⟩
  obtain ⟨n, rfl⟩ := Int.eq_ofNat_of_zero_le h0
  have hn : n < 2 ^ k := by exact_mod_cast h1
  have : ((n : Int) * 2 ^ j).toNat = n * 2 ^ j := by
    have : ((n : Int) * 2 ^ j) = ((n * 2 ^ j : Nat) : Int) := by simp
    rw [this]; rfl
  rw [this, in_mask k j n hn]
theorem In.lit (c : Nat) : In (c : Int) c := ⟨Int.natCast_nonneg c, by simp⟩
theorem In.zero (m : Nat) : In 0 m := ⟨Int.le_refl 0, by simp⟩
theorem In.le {x : Int} {m : Nat} (h : In x m) : x ≤ m := by
  have := h.2
  have h2 : x.toNat ≤ m := by rw [← this]; exact Nat.and_le_right
  have := h.1
  omega
theorem In.or {x y : Int} {m n : Nat} (hx : In x m) (hy : In y n) (h : m &&& n = 0) (hm : m < 4294967296) (hn : n < 4294967296) : bits .or .u32 x y = x + y ∧ In (x + y) (m ||| n) := by
  have lx := hx.le
  have ly := hy.le
  have x0 := hx.1
  have y0 := hy.1
  have ha := or_apart hx.2 hy.2 h
  rw [u32_or x y hx.1 (by omega) hy.1 (by omega)]
  have e : ((x.toNat ||| y.toNat : Nat) : Int) = x + y := by rw [ha.1]; omega
  refine ⟨e, by omega, ?_⟩
  have e2 : (x + y).toNat = x.toNat ||| y.toNat := by rw [ha.1]; omega
  rw [e2]; exact ha.2
theorem or32_b (x y : Int) : 0 ≤ bits .or .u32 x y ∧ bits .or .u32 x y < 4294967296 := by
  unfold bits
  rw [IntKind.wrap_u32']
  omega
theorem and31 (a : Int) : bits .and .u32 (a % 4294967296) 31 = a % 32 := by
  have := u32_and (a % 4294967296) 31 (by omega) (by omega) (by omega) (by omega)
  rw [this]
  have : (31 : Int).toNat = 31 := rfl
  rw [this, nat_mask5]
  omega
def reg (n : Int) : Int := n % 32
def imU (n : Int) : Int := n / 4096 % 1048576 * 4096
def imJ (n : Int) : Int := n / 1048576 % 2 * 2147483648 + n / 4096 % 256 * 4096 + n / 2048 % 2 * 1048576 + n / 2 % 1024 * 2097152
def imB (n : Int) : Int := n / 4096 % 2 * 2147483648 + n / 2048 % 2 * 128 + n / 32 % 64 * 33554432 + n / 2 % 16 * 256
def imS (n : Int) : Int := n / 32 % 128 * 33554432 + n % 32 * 128
def imI (n : Int) : Int := n % 4096 * 1048576
def imm (k n : Int) : Int := if k = 1 ∨ k = 2 then imU n else if k = 3 then imJ n else if k = 5 then imB n else if k = 7 then imS n else imI n
theorem or_imJ (n : Int) : bits .or .u32 (bits .or .u32 (bits .or .u32 (n / 1048576 % 2 * 2147483648) (n / 4096 % 256 * 4096)) (n / 2048 % 2 * 1048576)) (n / 2 % 1024 * 2097152) = imJ n := by
  have a1 := In.mk' 1 31 (n / 1048576 % 2) _ (by omega) (by omega) rfl
  have a2 := In.mk' 8 12 (n / 4096 % 256) _ (by omega) (by omega) rfl
  have a3 := In.mk' 1 20 (n / 2048 % 2) _ (by omega) (by omega) rfl
  have a4 := In.mk' 10 21 (n / 2 % 1024) _ (by omega) (by omega) rfl
  have b1 := a1.or a2 (by decide) (by decide) (by decide)
  have b2 := b1.2.or a3 (by decide) (by decide) (by decide)
  have b3 := b2.2.or a4 (by decide) (by decide) (by decide)
  have c1 := b1.1; have c2 := b2.1; have c3 := b3.1
  simp only [Int.reducePow] at c1 c2 c3
  rw [c1, c2, c3]; rfl
theorem or_imB (n : Int) : bits .or .u32 (bits .or .u32 (bits .or .u32 (n / 4096 % 2 * 2147483648) (n / 2048 % 2 * 128)) (n / 32 % 64 * 33554432)) (n / 2 % 16 * 256) = imB n := by
  have a1 := In.mk' 1 31 (n / 4096 % 2) _ (by omega) (by omega) rfl
  have a2 := In.mk' 1 7 (n / 2048 % 2) _ (by omega) (by omega) rfl
  have a3 := In.mk' 6 25 (n / 32 % 64) _ (by omega) (by omega) rfl
  have a4 := In.mk' 4 8 (n / 2 % 16) _ (by omega) (by omega) rfl
  have b1 := a1.or a2 (by decide) (by decide) (by decide)
  have b2 := b1.2.or a3 (by decide) (by decide) (by decide)
  have b3 := b2.2.or a4 (by decide) (by decide) (by decide)
  have c1 := b1.1; have c2 := b2.1; have c3 := b3.1
  simp only [Int.reducePow] at c1 c2 c3
  rw [c1, c2, c3]; rfl
theorem or_imS (n : Int) : bits .or .u32 (n / 32 % 128 * 33554432) (n % 32 * 128) = imS n := by
  have a1 := In.mk' 7 25 (n / 32 % 128) _ (by omega) (by omega) rfl
  have a2 := In.mk' 5 7 (n % 32) _ (by omega) (by omega) rfl
  have c1 := (a1.or a2 (by decide) (by decide) (by decide)).1
  simp only [Int.reducePow] at c1
  rw [c1]; rfl
/-- two instructions are the same -/
def eqI (a b : I) : Bool := a.kind == b.kind && a.fn == b.fn && a.rd == b.rd && a.rs1 == b.rs1 && a.rs2 == b.rs2 && a.imm == b.imm && a.size == b.size && a.sg == b.sg
theorem eqI_iff (a b : I) : eqI a b = true ↔ a = b := by
  cases a; cases b
  simp [eqI, and_assoc]
theorem eqI_self (a : I) : eqI a a = true := (eqI_iff a a).2 rfl
/-- an instruction's name alone -/
def want (i : I) : I := ⟨i.kind, i.fn, 0, 0, 0, 0, i.size, i.sg⟩
def hit (p : I × Bool) (i : I) : Bool := p.2 && eqI p.1 (want i)
/-- the f3 by which a word has an instruction's name: from k on, so many tries -/
def namedL (nm : Int → I × Bool) (start : Int) (i : I) : Nat → Nat → Int
  | _, 0 => 0
  | k, f + 1 => if hit (nm (bits .or .u32 start ((k : Int) * 4096))) i = true then bits .or .u32 start ((k : Int) * 4096) else namedL nm start i (k + 1) f
def namedF (nm : Int → I × Bool) (start : Int) (i : I) : Int := namedL nm start i 0 8
def orE (x y : Int) : Int := if x = 0 then y else x
def aluF (i : I) : Int :=
  orE (namedF nAlu 51 i) (orE (namedF nAluW 59 i) (orE (namedF nAlu 1073741875 i) (orE (namedF nAluW 1073741883 i) (orE (namedF nAlu 33554483 i) (orE (namedF nAluW 33554491 i) 0)))))
def aluImmF (i : I) : Int :=
  orE (namedF nImm 19 i) (orE (namedF nImmW 27 i) (orE (namedF nImm 1073741843 i) (orE (namedF nImmW 1073741851 i) 0)))
def amoL (fn : Int) : Nat → Nat → Int
  | _, 0 => 0
  | k, f + 1 => if tAto k = fn then (k : Int) * 134217728 else amoL fn (k + 1) f
def amoF (fn : Int) : Int := amoL fn 0 32
def sysF (i : I) : Int :=
  if i.kind = 10 then 15 else if i.kind = 11 then 115 else if i.kind = 12 then 1048691 else if i.kind = 18 then 270532723 else if i.kind = 19 then 273678451
  else if i.kind = 20 then 301990003 else if i.kind = 13 ∨ i.kind = 14 then namedF nSys 115 i else 0
def baseF (i : I) : Int :=
  if i.kind = 1 then 55 else if i.kind = 2 then 23 else if i.kind = 3 then 111 else if i.kind = 4 then 103
  else if i.kind = 5 then namedF nBranch 99 i else if i.kind = 6 then namedF nLoad 3 i else if i.kind = 7 then namedF nStore 35 i
  else if i.kind = 8 then aluF i else if i.kind = 9 then aluImmF i
  else if i.kind = 15 then namedF nAto 268435503 i else if i.kind = 16 then namedF nAto 402653231 i else if i.kind = 17 then namedF nAto (bits .or .u32 47 (amoF i.fn)) i
  else sysF i
def draftF (i : I) : Int := bits .or .u32 (bits .or .u32 (bits .or .u32 (bits .or .u32 (baseF i) (reg i.rd * 128)) (reg i.rs1 * 32768)) (reg i.rs2 * 1048576)) (imm i.kind i.imm)
theorem draftF_b (i : I) : 0 ≤ draftF i ∧ draftF i < 4294967296 := or32_b _ _
/-- what Encode answers -/
def encF (i : I) : Int × Bool := if (D (draftF i)).2 = true ∧ eqI (D (draftF i)).1 i = true then (draftF i, true) else (0, false)
end Go.Proofs.YtlfdokkopgmfjaaGreatDoor.B
namespace Go.Proofs.YtlfdokkopgmfjaaGreatDoor.B
open Go.RowKit
set_option linter.unusedVariables false
set_option maxRecDepth 100000
theorem onl_ok {i : I} {n : Int} (h : (onl i n).2 = true) : n ≠ 0 ∧ (onl i n).1 = i := by
  unfold onl at *
  by_cases q : n = 0
  · rw [if_pos q] at h; cases h
  · rw [if_neg q]; exact ⟨q, rfl⟩
theorem withF_ok {p : I × Bool} {rd r1 r2 im : Int} (h : (withF p rd r1 r2 im).2 = true) : p.2 = true ∧ (withF p rd r1 r2 im).1 = ⟨p.1.kind, p.1.fn, rd, r1, r2, im, p.1.size, p.1.sg⟩ := by
  unfold withF at *
  by_cases q : p.2 = true
  · rw [if_pos q]; exact ⟨q, rfl⟩
  · rw [if_neg q] at h; cases h
theorem eight {n : Int} (h : 0 ≤ n ∧ n < 8) : n = 0 ∨ n = 1 ∨ n = 2 ∨ n = 3 ∨ n = 4 ∨ n = 5 ∨ n = 6 ∨ n = 7 := by omega
def szOK (z : Int) : Prop := z = 0 ∨ z = 1 ∨ z = 2 ∨ z = 4 ∨ z = 8
theorem tLoad_sz (a : Int) : szOK (tLoad (fF3 a)) := by
  rcases eight (fF3_b a) with h | h | h | h | h | h | h | h <;> rw [h] <;> unfold szOK <;> decide
theorem tStore_sz (a : Int) : szOK (tStore (fF3 a)) := by
  rcases eight (fF3_b a) with h | h | h | h | h | h | h | h <;> rw [h] <;> unfold szOK <;> decide
theorem tWid_sz (a : Int) : szOK (tWid (fF3 a)) := by
  rcases eight (fF3_b a) with h | h | h | h | h | h | h | h <;> rw [h] <;> unfold szOK <;> decide
/-- what the fields are -/
structure FOK (i : I) : Prop where
  rd : 0 ≤ i.rd ∧ i.rd ≤ 31
  rs1 : 0 ≤ i.rs1 ∧ i.rs1 ≤ 31
  rs2 : 0 ≤ i.rs2 ∧ i.rs2 ≤ 31
  kind : 1 ≤ i.kind ∧ i.kind ≤ 20
  size : szOK i.size
  sz0 : (i.kind = 1 ∨ i.kind = 2 ∨ i.kind = 3 ∨ i.kind = 5) → i.size = 0
  immU : (i.kind = 1 ∨ i.kind = 2) → i.imm % 4096 = 0 ∧ -2147483648 ≤ i.imm ∧ i.imm < 2147483648
  immJ : i.kind = 3 → i.imm % 2 = 0 ∧ -1048576 ≤ i.imm ∧ i.imm < 1048576
  immB : i.kind = 5 → i.imm % 2 = 0 ∧ -4096 ≤ i.imm ∧ i.imm < 4096
  imm : (i.kind ≠ 1 ∧ i.kind ≠ 2 ∧ i.kind ≠ 3 ∧ i.kind ≠ 5) → -2048 ≤ i.imm ∧ i.imm < 4096
theorem rd_b (a : Int) : 0 ≤ fRd a ∧ fRd a ≤ 31 := by have := fRd_b a; omega
theorem rs1_b (a : Int) : 0 ≤ fRs1 a ∧ fRs1 a ≤ 31 := by have := fRs1_b a; omega
theorem rs2_b (a : Int) : 0 ≤ fRs2 a ∧ fRs2 a ≤ 31 := by have := fRs2_b a; omega
theorem sp_b (a : Int) : 0 ≤ rSpace a ∧ rSpace a ≤ 31 := by unfold rSpace; have := rs2_b a; split <;> omega
theorem z_b : (0 : Int) ≤ 0 ∧ (0 : Int) ≤ 31 := by omega
theorem iI_b (a : Int) (h0 : 0 ≤ a) (h1 : a < 4294967296) : -2048 ≤ iI a ∧ iI a < 2048 := by unfold iI; have := s32_b a h0 h1; omega
theorem iS_b (a : Int) (h0 : 0 ≤ a) (h1 : a < 4294967296) : -2048 ≤ iS a ∧ iS a < 2048 := by unfold iS; have := s32_b a h0 h1; omega
theorem iU_b (a : Int) (h0 : 0 ≤ a) (h1 : a < 4294967296) : iU a % 4096 = 0 ∧ -2147483648 ≤ iU a ∧ iU a < 2147483648 := by unfold iU; have := s32_b a h0 h1; omega
theorem iJ_b (a : Int) (h0 : 0 ≤ a) (h1 : a < 4294967296) : iJ a % 2 = 0 ∧ -1048576 ≤ iJ a ∧ iJ a < 1048576 := by unfold iJ; have := s32_b a h0 h1; omega
theorem iB_b (a : Int) (h0 : 0 ≤ a) (h1 : a < 4294967296) : iB a % 2 = 0 ∧ -4096 ≤ iB a ∧ iB a < 4096 := by unfold iB; have := s32_b a h0 h1; omega
theorem iOp_b (a : Int) (h0 : 0 ≤ a) (h1 : a < 4294967296) : -2048 ≤ iOpnd a ∧ iOpnd a < 4096 := by unfold iOpnd; have := iI_b a h0 h1; have := fSh_b a; split <;> omega
theorem iOpW_b (a : Int) (h0 : 0 ≤ a) (h1 : a < 4294967296) : -2048 ≤ iOpndW a ∧ iOpndW a < 4096 := by unfold iOpndW; have := iI_b a h0 h1; have := fRs2_b a; split <;> omega
theorem iCsr_b (a : Int) : -2048 ≤ iCsr a ∧ iCsr a < 4096 := by unfold iCsr; have := fCs_b a; split <;> omega
/-- a kind that has a small immediate -/
def small (k : Int) : Prop := k = 4 ∨ k = 6 ∨ k = 7 ∨ k = 8 ∨ k = 9 ∨ k = 10 ∨ k = 11 ∨ k = 12 ∨ k = 13 ∨ k = 14 ∨ k = 15 ∨ k = 16 ∨ k = 17 ∨ k = 18 ∨ k = 19 ∨ k = 20
theorem fok_small {i : I} (hk : small i.kind) (hz : szOK i.size) {rd r1 r2 im : Int} (h1 : 0 ≤ rd ∧ rd ≤ 31) (h2 : 0 ≤ r1 ∧ r1 ≤ 31) (h3 : 0 ≤ r2 ∧ r2 ≤ 31) (h4 : -2048 ≤ im ∧ im < 4096) :
    FOK ⟨i.kind, i.fn, rd, r1, r2, im, i.size, i.sg⟩ := by
  unfold small at hk
  exact ⟨h1, h2, h3, by show 1 ≤ i.kind ∧ i.kind ≤ 20; omega, hz, fun h => absurd h (by show ¬ (i.kind = 1 ∨ i.kind = 2 ∨ i.kind = 3 ∨ i.kind = 5); omega), fun h => absurd h (by show ¬ (i.kind = 1 ∨ i.kind = 2); omega), fun h => absurd h (by show ¬ i.kind = 3; omega), fun h => absurd h (by show ¬ i.kind = 5; omega), fun _ => h4⟩
theorem nPriv_k (a : Int) (h : (nPriv a).2 = true) : small (nPriv a).1.kind ∧ (nPriv a).1.size = 0 := by
  unfold nPriv at *
  unfold small
  repeat' split at h
  all_goals first | (cases h; done) | skip
  all_goals simp_all [named0]
theorem nSys_k (a : Int) (h : (nSys a).2 = true) : small (nSys a).1.kind ∧ (nSys a).1.size = 0 := by
  unfold nSys at *
  by_cases h3 : fF3 a = 0
  · rw [if_pos h3] at *; exact nPriv_k a h
  · rw [if_neg h3] at *
    by_cases h4 : fF3 a < 4
    · rw [if_pos h4]; exact ⟨by unfold small; simp, rfl⟩
    · rw [if_neg h4] at *
      by_cases h5 : 4 < fF3 a
      · rw [if_pos h5]; exact ⟨by unfold small; simp, rfl⟩
      · rw [if_neg h5] at h; cases h
theorem nAto_k (a : Int) (h : (nAto a).2 = true) : small (nAto a).1.kind ∧ szOK (nAto a).1.size := by
  have hz := tWid_sz a
  unfold nAto at *
  by_cases h3 : tAto (fF5 a) = 0
  · rw [if_pos h3] at *
    by_cases h4 : fF5 a = 2 ∧ fRs2 a = 0
    · rw [if_pos h4] at *; rw [(onl_ok h).2]; exact ⟨by unfold small; simp, hz⟩
    · rw [if_neg h4] at *
      by_cases h5 : fF5 a = 3
      · rw [if_pos h5] at *; rw [(onl_ok h).2]; exact ⟨by unfold small; simp, hz⟩
      · rw [if_neg h5] at h; cases h
  · rw [if_neg h3] at *; rw [(onl_ok h).2]; exact ⟨by unfold small; simp, hz⟩
theorem D_fok (a : Int) (h0 : 0 ≤ a) (h1 : a < 4294967296) (h : (D a).2 = true) : FOK (D a).1 := by
  unfold D at *
  by_cases q55 : fOp a = 55
  · rw [if_pos q55] at *; rw [(withF_ok h).2]
    exact ⟨rd_b a, z_b, z_b, by show (1 : Int) ≤ 1 ∧ (1 : Int) ≤ 20; omega, Or.inl rfl, fun _ => rfl, fun _ => iU_b a h0 h1, fun e => absurd e (by show ¬ (1 : Int) = 3; omega), fun e => absurd e (by show ¬ (1 : Int) = 5; omega), fun e => absurd rfl e.1⟩
  rw [if_neg q55] at *
  by_cases q23 : fOp a = 23
  · rw [if_pos q23] at *; rw [(withF_ok h).2]
    exact ⟨rd_b a, z_b, z_b, by show (1 : Int) ≤ 2 ∧ (2 : Int) ≤ 20; omega, Or.inl rfl, fun _ => rfl, fun _ => iU_b a h0 h1, fun e => absurd e (by show ¬ (2 : Int) = 3; omega), fun e => absurd e (by show ¬ (2 : Int) = 5; omega), fun e => absurd rfl e.2.1⟩
  rw [if_neg q23] at *
  by_cases q19 : fOp a = 19
  · rw [if_pos q19] at *; obtain ⟨e1, e2⟩ := withF_ok h; rw [e2]
    have e3 := (onl_ok e1).2
    exact fok_small (by show small (nImm a).1.kind; rw [show (nImm a).1 = _ from e3]; unfold small; simp) (by show szOK (nImm a).1.size; rw [show (nImm a).1 = _ from e3]; exact Or.inl rfl) (rd_b a) (rs1_b a) z_b (iOp_b a h0 h1)
  rw [if_neg q19] at *
  by_cases q27 : fOp a = 27
  · rw [if_pos q27] at *; obtain ⟨e1, e2⟩ := withF_ok h; rw [e2]
    have e3 := (onl_ok e1).2
    exact fok_small (by show small (nImmW a).1.kind; rw [show (nImmW a).1 = _ from e3]; unfold small; simp) (by show szOK (nImmW a).1.size; rw [show (nImmW a).1 = _ from e3]; exact Or.inl rfl) (rd_b a) (rs1_b a) z_b (iOpW_b a h0 h1)
  rw [if_neg q27] at *
  by_cases q51 : fOp a = 51
  · rw [if_pos q51] at *; obtain ⟨e1, e2⟩ := withF_ok h; rw [e2]
    have e3 := (onl_ok e1).2
    exact fok_small (by show small (nAlu a).1.kind; rw [show (nAlu a).1 = _ from e3]; unfold small; simp) (by show szOK (nAlu a).1.size; rw [show (nAlu a).1 = _ from e3]; exact Or.inl rfl) (rd_b a) (rs1_b a) (rs2_b a) (by omega)
  rw [if_neg q51] at *
  by_cases q59 : fOp a = 59
  · rw [if_pos q59] at *; obtain ⟨e1, e2⟩ := withF_ok h; rw [e2]
    have e3 := (onl_ok e1).2
    exact fok_small (by show small (nAluW a).1.kind; rw [show (nAluW a).1 = _ from e3]; unfold small; simp) (by show szOK (nAluW a).1.size; rw [show (nAluW a).1 = _ from e3]; exact Or.inl rfl) (rd_b a) (rs1_b a) (rs2_b a) (by omega)
  rw [if_neg q59] at *
  by_cases q115 : fOp a = 115
  · rw [if_pos q115] at *; obtain ⟨e1, e2⟩ := withF_ok h; rw [e2]
    obtain ⟨k1, k2⟩ := nSys_k a e1
    exact fok_small k1 (Or.inl k2) (rd_b a) (rs1_b a) (sp_b a) (iCsr_b a)
  rw [if_neg q115] at *
  by_cases q111 : fOp a = 111
  · rw [if_pos q111] at *; rw [(withF_ok h).2]
    exact ⟨rd_b a, z_b, z_b, by show (1 : Int) ≤ 3 ∧ (3 : Int) ≤ 20; omega, Or.inl rfl, fun _ => rfl, fun e => absurd e (by show ¬ ((3 : Int) = 1 ∨ (3 : Int) = 2); omega), fun _ => iJ_b a h0 h1, fun e => absurd e (by show ¬ (3 : Int) = 5; omega), fun e => absurd rfl e.2.2.1⟩
  rw [if_neg q111] at *
  by_cases q103 : fOp a = 103
  · rw [if_pos q103] at *; obtain ⟨e1, e2⟩ := withF_ok h; rw [e2]
    have e3 : nJalr a = named0 4 := by
      unfold nJalr at *
      by_cases q : fF3 a = 0
      · rw [if_pos q]
      · rw [if_neg q] at e1; cases e1
    have := iI_b a h0 h1
    exact fok_small (by rw [e3]; unfold small; simp [named0]) (by rw [e3]; exact Or.inl rfl) (rd_b a) (rs1_b a) z_b (by omega)
  rw [if_neg q103] at *
  by_cases q99 : fOp a = 99
  · rw [if_pos q99] at *; obtain ⟨e1, e2⟩ := withF_ok h; rw [e2]
    have e3 : (nBranch a).1 = _ := (onl_ok e1).2
    rw [e3]
    exact ⟨z_b, rs1_b a, rs2_b a, by show (1 : Int) ≤ 5 ∧ (5 : Int) ≤ 20; omega, Or.inl rfl, fun _ => rfl, fun e => absurd e (by show ¬ ((5 : Int) = 1 ∨ (5 : Int) = 2); omega), fun e => absurd e (by show ¬ (5 : Int) = 3; omega), fun _ => iB_b a h0 h1, fun e => absurd rfl e.2.2.2⟩
  rw [if_neg q99] at *
  by_cases q3 : fOp a = 3
  · rw [if_pos q3] at *; obtain ⟨e1, e2⟩ := withF_ok h; rw [e2]
    have e3 : (nLoad a).1 = _ := (onl_ok e1).2
    have := iI_b a h0 h1
    exact fok_small (by rw [e3]; unfold small; simp) (by rw [e3]; exact tLoad_sz a) (rd_b a) (rs1_b a) z_b (by omega)
  rw [if_neg q3] at *
  by_cases q35 : fOp a = 35
  · rw [if_pos q35] at *; obtain ⟨e1, e2⟩ := withF_ok h; rw [e2]
    have e3 : (nStore a).1 = _ := (onl_ok e1).2
    have := iS_b a h0 h1
    exact fok_small (by rw [e3]; unfold small; simp) (by rw [e3]; exact tStore_sz a) z_b (rs1_b a) (rs2_b a) (by omega)
  rw [if_neg q35] at *
  by_cases q15 : fOp a = 15
  · rw [if_pos q15] at *; obtain ⟨e1, e2⟩ := withF_ok h; rw [e2]
    have e3 : nFence a = named0 10 := by
      unfold nFence at *
      by_cases q : fF3 a ≤ 1
      · rw [if_pos q]
      · rw [if_neg q] at e1; cases e1
    exact fok_small (by rw [e3]; unfold small; simp [named0]) (by rw [e3]; exact Or.inl rfl) z_b z_b z_b (by omega)
  rw [if_neg q15] at *
  by_cases q47 : fOp a = 47
  · rw [if_pos q47] at *; obtain ⟨e1, e2⟩ := withF_ok h; rw [e2]
    obtain ⟨k1, k2⟩ := nAto_k a e1
    exact fok_small k1 k2 (rd_b a) (rs1_b a) (rs2_b a) (by omega)
  rw [if_neg q47] at h
  cases h
end Go.Proofs.YtlfdokkopgmfjaaGreatDoor.B
namespace Go.Proofs.YtlfdokkopgmfjaaGreatDoor.B
open Go.RowKit
set_option linter.unusedVariables false
set_option maxRecDepth 100000
/-! bases, by their numbers -/
theorem b_branch (f : Int) (h : 0 ≤ f ∧ f < 8) (hn : tCond f ≠ 0) (rd r1 r2 im : Int) : baseF ⟨5, tCond f, rd, r1, r2, im, 0, false⟩ = 99 + f * 4096 := by
  rcases eight h with q | q | q | q | q | q | q | q <;> subst q <;> first | exact absurd rfl hn | kernel_rfl
theorem b_load (f : Int) (h : 0 ≤ f ∧ f < 8) (hn : tLoad f ≠ 0) (rd r1 r2 im : Int) : baseF ⟨6, 0, rd, r1, r2, im, tLoad f, lt4 f⟩ = 3 + f * 4096 := by
  rcases eight h with q | q | q | q | q | q | q | q <;> subst q <;> first | exact absurd rfl hn | kernel_rfl
theorem b_store (f : Int) (h : 0 ≤ f ∧ f < 8) (hn : tStore f ≠ 0) (rd r1 r2 im : Int) : baseF ⟨7, 0, rd, r1, r2, im, tStore f, false⟩ = 35 + f * 4096 := by
  rcases eight h with q | q | q | q | q | q | q | q <;> subst q <;> first | exact absurd rfl hn | kernel_rfl
theorem b_imm (f : Int) (h : 0 ≤ f ∧ f < 8) (h1 : f ≠ 1) (h5 : f ≠ 5) (rd r1 r2 im : Int) : baseF ⟨9, tBas f, rd, r1, r2, im, 0, false⟩ = 19 + f * 4096 := by
  rcases eight h with q | q | q | q | q | q | q | q <;> subst q <;> first | exact absurd rfl h1 | exact absurd rfl h5 | kernel_rfl
theorem b_immW (f : Int) (h : 0 ≤ f ∧ f < 8) (h1 : f ≠ 1) (h5 : f ≠ 5) (hn : tBasW f ≠ 0) (rd r1 r2 im : Int) : baseF ⟨9, tBasW f, rd, r1, r2, im, 0, false⟩ = 27 + f * 4096 := by
  rcases eight h with q | q | q | q | q | q | q | q <;> subst q <;> first | exact absurd rfl hn | exact absurd rfl h1 | exact absurd rfl h5 | kernel_rfl
theorem chos_n {f p o t : Int} (h : chos f p o t ≠ 0) : f = 0 ∧ p ≠ 0 ∨ f = 32 ∧ o ≠ 0 ∨ f = 1 ∧ t ≠ 0 := by
  unfold chos at h
  by_cases h1 : f = 0
  · rw [if_pos h1] at h; exact Or.inl ⟨h1, h⟩
  · rw [if_neg h1] at h
    by_cases h2 : f = 32
    · rw [if_pos h2] at h; exact Or.inr (Or.inl ⟨h2, h⟩)
    · rw [if_neg h2] at h
      by_cases h3 : f = 1
      · rw [if_pos h3] at h; exact Or.inr (Or.inr ⟨h3, h⟩)
      · rw [if_neg h3] at h; exact absurd rfl h
theorem b_sh (f s : Int) (h : f = 1 ∨ f = 5) (hn : chos (s * 2) (tBas f) (tAlt f) 0 ≠ 0) (rd r1 r2 im : Int) : baseF ⟨9, chos (s * 2) (tBas f) (tAlt f) 0, rd, r1, r2, im, 0, false⟩ = 19 + f * 4096 + s * 67108864 := by
  rcases chos_n hn with ⟨q, n⟩ | ⟨q, n⟩ | ⟨q, n⟩
  · obtain rfl : s = 0 := by omega
    rcases h with q | q <;> subst q <;> kernel_rfl
  · obtain rfl : s = 16 := by omega
    rcases h with q | q <;> subst q <;> first | exact absurd rfl n | kernel_rfl
  · exact absurd rfl n
theorem b_shW (f s : Int) (h : f = 1 ∨ f = 5) (hn : chos s (tBasW f) (tAltW f) 0 ≠ 0) (rd r1 r2 im : Int) : baseF ⟨9, chos s (tBasW f) (tAltW f) 0, rd, r1, r2, im, 0, false⟩ = 27 + f * 4096 + s * 33554432 := by
  rcases chos_n hn with ⟨q, n⟩ | ⟨q, n⟩ | ⟨q, n⟩
  · subst q; rcases h with q | q <;> subst q <;> kernel_rfl
  · subst q; rcases h with q | q <;> subst q <;> first | exact absurd rfl n | kernel_rfl
  · exact absurd rfl n
theorem b_alu (f s : Int) (h : 0 ≤ f ∧ f < 8) (hn : chos s (tBas f) (tAlt f) (tPro f) ≠ 0) (rd r1 r2 im : Int) : baseF ⟨8, chos s (tBas f) (tAlt f) (tPro f), rd, r1, r2, im, 0, false⟩ = 51 + f * 4096 + s * 33554432 := by
  rcases chos_n hn with ⟨q, n⟩ | ⟨q, n⟩ | ⟨q, n⟩ <;> subst q <;> rcases eight h with q | q | q | q | q | q | q | q <;> subst q <;> first | exact absurd rfl n | kernel_rfl
theorem b_aluW (f s : Int) (h : 0 ≤ f ∧ f < 8) (hn : chos s (tBasW f) (tAltW f) (tProW f) ≠ 0) (rd r1 r2 im : Int) : baseF ⟨8, chos s (tBasW f) (tAltW f) (tProW f), rd, r1, r2, im, 0, false⟩ = 59 + f * 4096 + s * 33554432 := by
  rcases chos_n hn with ⟨q, n⟩ | ⟨q, n⟩ | ⟨q, n⟩ <;> subst q <;> rcases eight h with q | q | q | q | q | q | q | q <;> subst q <;> first | exact absurd rfl n | kernel_rfl
theorem b_csr (f : Int) (h : f = 1 ∨ f = 2 ∨ f = 3) (rd r1 r2 im : Int) : baseF ⟨13, f, rd, r1, r2, im, 0, false⟩ = 115 + f * 4096 := by
  rcases h with q | q | q <;> subst q <;> kernel_rfl
theorem b_csrI (f : Int) (h : f = 5 ∨ f = 6 ∨ f = 7) (rd r1 r2 im : Int) : baseF ⟨14, f - 4, rd, r1, r2, im, 0, false⟩ = 115 + f * 4096 := by
  rcases h with q | q | q <;> subst q <;> kernel_rfl
theorem b_lr (f : Int) (h : 0 ≤ f ∧ f < 8) (hn : tWid f ≠ 0) (rd r1 r2 im : Int) : baseF ⟨15, 0, rd, r1, r2, im, tWid f, false⟩ = 47 + f * 4096 + 2 * 134217728 := by
  rcases eight h with q | q | q | q | q | q | q | q <;> subst q <;> first | exact absurd rfl hn | kernel_rfl
theorem b_sc (f : Int) (h : 0 ≤ f ∧ f < 8) (hn : tWid f ≠ 0) (rd r1 r2 im : Int) : baseF ⟨16, 0, rd, r1, r2, im, tWid f, false⟩ = 47 + f * 4096 + 3 * 134217728 := by
  rcases eight h with q | q | q | q | q | q | q | q <;> subst q <;> first | exact absurd rfl hn | kernel_rfl
theorem wid2 {f : Int} (h : 0 ≤ f ∧ f < 8) (hn : tWid f ≠ 0) : f = 2 ∨ f = 3 := by
  rcases eight h with q | q | q | q | q | q | q | q <;> subst q <;> first | exact absurd rfl hn | simp
theorem ato_n {s : Int} (h : 0 ≤ s ∧ s < 32) (hn : tAto s ≠ 0) : s = 0 ∨ s = 1 ∨ s = 4 ∨ s = 8 ∨ s = 12 ∨ s = 16 ∨ s = 20 ∨ s = 24 ∨ s = 28 := by
  obtain ⟨n, rfl⟩ := Int.eq_ofNat_of_zero_le h.1
  have h2 : n < 32 := by omega
  have : ∀ m : Nat, m < 32 → tAto (m : Int) ≠ 0 → m = 0 ∨ m = 1 ∨ m = 4 ∨ m = 8 ∨ m = 12 ∨ m = 16 ∨ m = 20 ∨ m = 24 ∨ m = 28 := by decide
  have := this n h2 hn
  omega
theorem b_amo (f s : Int) (h : 0 ≤ f ∧ f < 8) (hf : tWid f ≠ 0) (hs : 0 ≤ s ∧ s < 32) (hn : tAto s ≠ 0) (rd r1 r2 im : Int) : baseF ⟨17, tAto s, rd, r1, r2, im, tWid f, false⟩ = 47 + f * 4096 + s * 134217728 := by
  rcases wid2 h hf with q | q <;> subst q <;> rcases ato_n hs hn with q | q | q | q | q | q | q | q | q <;> subst q <;> kernel_rfl
/-! the sum -/
theorem draft_sum (i : I) {m0 m1 m2 m3 m4 : Nat} (h0 : In (baseF i) m0) (h1 : In (reg i.rd * 128) m1) (h2 : In (reg i.rs1 * 32768) m2) (h3 : In (reg i.rs2 * 1048576) m3) (h4 : In (imm i.kind i.imm) m4)
    (d : (m0 &&& m1 == 0 && (m0 ||| m1) &&& m2 == 0 && (m0 ||| m1 ||| m2) &&& m3 == 0 && (m0 ||| m1 ||| m2 ||| m3) &&& m4 == 0 && decide (m0 ||| m1 ||| m2 ||| m3 < 4294967296) && decide (m0 < 4294967296) && decide (m1 < 4294967296) && decide (m2 < 4294967296) && decide (m3 < 4294967296) && decide (m4 < 4294967296) && decide (m0 ||| m1 < 4294967296) && decide (m0 ||| m1 ||| m2 < 4294967296)) = true) :
    draftF i = baseF i + reg i.rd * 128 + reg i.rs1 * 32768 + reg i.rs2 * 1048576 + imm i.kind i.imm := by
  simp only [Bool.and_eq_true, beq_iff_eq, decide_eq_true_eq] at d
  obtain ⟨⟨⟨⟨⟨⟨⟨⟨⟨⟨⟨d1, d2⟩, d3⟩, d4⟩, e5⟩, e0⟩, e1⟩, e2⟩, e3⟩, e4⟩, e6⟩, e7⟩ := d
  have c1 := h0.or h1 d1 e0 e1
  have c2 := c1.2.or h2 d2 e6 e2
  have c3 := c2.2.or h3 d3 e7 e3
  have c4 := c3.2.or h4 d4 e5 e4
  unfold draftF
  rw [c1.1, c2.1, c3.1, c4.1]
theorem in_rd (n : Int) : In (reg n * 128) ((2 ^ 5 - 1) * 2 ^ 7) := In.mk' 5 7 (reg n) _ (by unfold reg; omega) (by unfold reg; omega) rfl
theorem in_rs1 (n : Int) : In (reg n * 32768) ((2 ^ 5 - 1) * 2 ^ 15) := In.mk' 5 15 (reg n) _ (by unfold reg; omega) (by unfold reg; omega) rfl
theorem in_rs2 (n : Int) : In (reg n * 1048576) ((2 ^ 5 - 1) * 2 ^ 20) := In.mk' 5 20 (reg n) _ (by unfold reg; omega) (by unfold reg; omega) rfl
theorem in_imU (n : Int) : In (imU n) ((2 ^ 20 - 1) * 2 ^ 12) := In.mk' 20 12 (n / 4096 % 1048576) _ (by omega) (by omega) rfl
theorem in_imI (n : Int) : In (imI n) ((2 ^ 12 - 1) * 2 ^ 20) := In.mk' 12 20 (n % 4096) _ (by omega) (by omega) rfl
theorem in_imS (n : Int) : In (imS n) ((2 ^ 7 - 1) * 2 ^ 25 ||| (2 ^ 5 - 1) * 2 ^ 7) := by
  have a1 := In.mk' 7 25 (n / 32 % 128) _ (by omega) (by omega) rfl
  have a2 := In.mk' 5 7 (n % 32) _ (by omega) (by omega) rfl
  exact (a1.or a2 (by decide) (by decide) (by decide)).2
theorem in_imB (n : Int) : In (imB n) (((2 ^ 1 - 1) * 2 ^ 31 ||| (2 ^ 1 - 1) * 2 ^ 7) ||| (2 ^ 6 - 1) * 2 ^ 25 ||| (2 ^ 4 - 1) * 2 ^ 8) := by
  have a1 := In.mk' 1 31 (n / 4096 % 2) _ (by omega) (by omega) rfl
  have a2 := In.mk' 1 7 (n / 2048 % 2) _ (by omega) (by omega) rfl
  have a3 := In.mk' 6 25 (n / 32 % 64) _ (by omega) (by omega) rfl
  have a4 := In.mk' 4 8 (n / 2 % 16) _ (by omega) (by omega) rfl
  have b1 := a1.or a2 (by decide) (by decide) (by decide)
  have b2 := b1.2.or a3 (by decide) (by decide) (by decide)
  exact (b2.2.or a4 (by decide) (by decide) (by decide)).2
theorem in_imJ (n : Int) : In (imJ n) (((2 ^ 1 - 1) * 2 ^ 31 ||| (2 ^ 8 - 1) * 2 ^ 12) ||| (2 ^ 1 - 1) * 2 ^ 20 ||| (2 ^ 10 - 1) * 2 ^ 21) := by
  have a1 := In.mk' 1 31 (n / 1048576 % 2) _ (by omega) (by omega) rfl
  have a2 := In.mk' 8 12 (n / 4096 % 256) _ (by omega) (by omega) rfl
  have a3 := In.mk' 1 20 (n / 2048 % 2) _ (by omega) (by omega) rfl
  have a4 := In.mk' 10 21 (n / 2 % 1024) _ (by omega) (by omega) rfl
  have b1 := a1.or a2 (by decide) (by decide) (by decide)
  have b2 := b1.2.or a3 (by decide) (by decide) (by decide)
  exact (b2.2.or a4 (by decide) (by decide) (by decide)).2
theorem in_f3 (c : Nat) (hc : c < 4096) (f : Int) (h : 0 ≤ f ∧ f < 8) : In (c + f * 4096) (c ||| (2 ^ 3 - 1) * 2 ^ 12) := by
  have a1 := In.mk' 3 12 f (f * 4096) h.1 (by have := h.2; omega) rfl
  have hd : c &&& ((2 ^ 3 - 1) * 2 ^ 12) = 0 := by
    apply Nat.eq_of_testBit_eq
    intro j
    rw [Nat.testBit_and, Nat.zero_testBit]
    by_cases q : j < 12
    · have : ((2 ^ 3 - 1) * 2 ^ 12 : Nat).testBit j = false := by rw [Nat.testBit_mul_two_pow]; simp; omega
      rw [this]; simp
    · have : c.testBit j = false := Nat.testBit_lt_two_pow (Nat.lt_of_lt_of_le hc (by rw [show (4096 : Nat) = 2 ^ 12 from rfl]; exact Nat.pow_le_pow_right (by omega) (by omega)))
      rw [this]; simp
  exact ((In.lit c).or a1 hd (by omega) (by decide)).2
theorem in_f3f (c : Nat) (hc : c < 4096) (f : Int) (h : 0 ≤ f ∧ f < 8) (k j : Nat) (s : Int) (h0 : 0 ≤ s) (h1 : s < 2 ^ k) (hm : (c ||| (2 ^ 3 - 1) * 2 ^ 12) &&& ((2 ^ k - 1) * 2 ^ j) = 0) (hl : (2 ^ k - 1) * 2 ^ j < 4294967296) (hk : c ||| (2 ^ 3 - 1) * 2 ^ 12 < 4294967296) :
    In (c + f * 4096 + s * 2 ^ j) (c ||| (2 ^ 3 - 1) * 2 ^ 12 ||| (2 ^ k - 1) * 2 ^ j) :=
  ((in_f3 c hc f h).or (In.mk' k j s (s * 2 ^ j) h0 h1 rfl) hm hk hl).2
end Go.Proofs.YtlfdokkopgmfjaaGreatDoor.B
namespace Go.Proofs.YtlfdokkopgmfjaaGreatDoor.B
open Go.RowKit
set_option linter.unusedVariables false
set_option maxRecDepth 100000
theorem reg_id {n : Int} (h : 0 ≤ n ∧ n < 32) : reg n = n := by unfold reg; omega
theorem in_z (m c : Int) : In (reg 0 * c) 0 := by
  have : reg 0 * c = 0 := by unfold reg; simp
  rw [this]; exact In.zero 0
theorem rz (c : Int) : reg 0 * c = 0 := by unfold reg; simp
theorem im_I (k n : Int) (h : k ≠ 1 ∧ k ≠ 2 ∧ k ≠ 3 ∧ k ≠ 5 ∧ k ≠ 7) : imm k n = imI n := by
  unfold imm; rw [if_neg (by omega), if_neg (by omega), if_neg (by omega), if_neg (by omega)]
theorem imm0 (k : Int) (h : k ≠ 1 ∧ k ≠ 2 ∧ k ≠ 3 ∧ k ≠ 5 ∧ k ≠ 7) : imm k 0 = 0 := by rw [im_I k 0 h]; rfl
theorem in_0 (k : Int) (h : k ≠ 1 ∧ k ≠ 2 ∧ k ≠ 3 ∧ k ≠ 5 ∧ k ≠ 7) : In (imm k 0) 0 := by rw [imm0 k h]; exact In.zero 0
theorem imU_iU (a : Int) (h0 : 0 ≤ a) (h1 : a < 4294967296) : imU (iU a) = a / 4096 * 4096 := by unfold imU iU s32; split <;> omega
theorem imI_iI (a : Int) (h0 : 0 ≤ a) (h1 : a < 4294967296) : imI (iI a) = a / 1048576 * 1048576 := by unfold imI iI s32; split <;> omega
theorem imS_iS (a : Int) (h0 : 0 ≤ a) (h1 : a < 4294967296) : imS (iS a) = a / 33554432 * 33554432 + a / 128 % 32 * 128 := by unfold imS iS s32; split <;> omega
theorem imB_iB (a : Int) (h0 : 0 ≤ a) (h1 : a < 4294967296) : imB (iB a) = a / 33554432 * 33554432 + a / 128 % 32 * 128 := by
  have key : ∀ s x y z : Int, (s = 0 ∨ s = -1) → 0 ≤ x → x < 2 → 0 ≤ y → y < 64 → 0 ≤ z → z < 16 → imB (s * 4096 + x * 2048 + y * 32 + z * 2) = (-s) * 2147483648 + x * 128 + y * 33554432 + z * 256 := by
    intro s x y z hs x0 x1 y0 y1 z0 z1
    unfold imB; rcases hs with q | q <;> subst q <;> omega
  unfold iB
  rw [key _ _ _ _ (by unfold s32; split <;> omega) (by omega) (by omega) (by omega) (by omega) (by omega) (by omega)]
  unfold s32; split <;> omega
theorem imJ_iJ (a : Int) (h0 : 0 ≤ a) (h1 : a < 4294967296) : imJ (iJ a) = a / 4096 * 4096 := by
  have key : ∀ s x y z : Int, (s = 0 ∨ s = -1) → 0 ≤ x → x < 256 → 0 ≤ y → y < 2 → 0 ≤ z → z < 1024 → imJ (s * 1048576 + x * 4096 + y * 2048 + z * 2) = (-s) * 2147483648 + x * 4096 + y * 1048576 + z * 2097152 := by
    intro s x y z hs x0 x1 y0 y1 z0 z1
    unfold imJ; rcases hs with q | q <;> subst q <;> omega
  unfold iJ
  rw [key _ _ _ _ (by unfold s32; split <;> omega) (by omega) (by omega) (by omega) (by omega) (by omega) (by omega)]
  unfold s32; split <;> omega
theorem dr_lui (a : Int) (h0 : 0 ≤ a) (h1 : a < 4294967296) (ho : fOp a = 55) : draftF ⟨1, 0, fRd a, 0, 0, iU a, 0, false⟩ = a := by
  have hr := fRd_b a
  have hs := fRs1_b a
  have ht := fRs2_b a
  have h3 := fF3_b a
  have h7 := fF7_b a
  have h6 := fF6_b a
  have h5 := fF5_b a
  have hb : baseF ⟨1, 0, fRd a, 0, 0, iU a, 0, false⟩ = 55 := rfl
  have hi : imm 1 (iU a) = a / 4096 * 4096 := imU_iU a h0 h1
  rw [draft_sum ⟨1, 0, fRd a, 0, 0, iU a, 0, false⟩ (m0 := 55) (m1 := (2 ^ 5 - 1) * 2 ^ 7) (m2 := 0) (m3 := 0) (m4 := (2 ^ 20 - 1) * 2 ^ 12) (by rw [hb]; exact In.lit 55) (in_rd _) (in_z 0 32768) (in_z 0 1048576) (in_imU (iU a)) (by decide)]
  show baseF ⟨1, 0, fRd a, 0, 0, iU a, 0, false⟩ + reg (fRd a) * 128 + reg 0 * 32768 + reg 0 * 1048576 + imm 1 (iU a) = a
  rw [hb, hi, reg_id hr, rz, rz]
  clear hb hi
  try unfold fOp at *
  try unfold fRd at *
  try unfold fF3 at *
  try unfold fRs1 at *
  try unfold fRs2 at *
  try unfold fF7 at *
  try unfold fF6 at *
  try unfold fF5 at *
  try unfold fSh at *
  try unfold fCs at *
  omega
theorem dr_auipc (a : Int) (h0 : 0 ≤ a) (h1 : a < 4294967296) (ho : fOp a = 23) : draftF ⟨2, 0, fRd a, 0, 0, iU a, 0, false⟩ = a := by
  have hr := fRd_b a
  have hs := fRs1_b a
  have ht := fRs2_b a
  have h3 := fF3_b a
  have h7 := fF7_b a
  have h6 := fF6_b a
  have h5 := fF5_b a
  have hb : baseF ⟨2, 0, fRd a, 0, 0, iU a, 0, false⟩ = 23 := rfl
  have hi : imm 2 (iU a) = a / 4096 * 4096 := imU_iU a h0 h1
  rw [draft_sum ⟨2, 0, fRd a, 0, 0, iU a, 0, false⟩ (m0 := 23) (m1 := (2 ^ 5 - 1) * 2 ^ 7) (m2 := 0) (m3 := 0) (m4 := (2 ^ 20 - 1) * 2 ^ 12) (by rw [hb]; exact In.lit 23) (in_rd _) (in_z 0 32768) (in_z 0 1048576) (in_imU (iU a)) (by decide)]
  show baseF ⟨2, 0, fRd a, 0, 0, iU a, 0, false⟩ + reg (fRd a) * 128 + reg 0 * 32768 + reg 0 * 1048576 + imm 2 (iU a) = a
  rw [hb, hi, reg_id hr, rz, rz]
  clear hb hi
  try unfold fOp at *
  try unfold fRd at *
  try unfold fF3 at *
  try unfold fRs1 at *
  try unfold fRs2 at *
  try unfold fF7 at *
  try unfold fF6 at *
  try unfold fF5 at *
  try unfold fSh at *
  try unfold fCs at *
  omega
theorem dr_jal (a : Int) (h0 : 0 ≤ a) (h1 : a < 4294967296) (ho : fOp a = 111) : draftF ⟨3, 0, fRd a, 0, 0, iJ a, 0, false⟩ = a := by
  have hr := fRd_b a
  have hs := fRs1_b a
  have ht := fRs2_b a
  have h3 := fF3_b a
  have h7 := fF7_b a
  have h6 := fF6_b a
  have h5 := fF5_b a
  have hb : baseF ⟨3, 0, fRd a, 0, 0, iJ a, 0, false⟩ = 111 := rfl
  have hi : imm 3 (iJ a) = a / 4096 * 4096 := imJ_iJ a h0 h1
  rw [draft_sum ⟨3, 0, fRd a, 0, 0, iJ a, 0, false⟩ (m0 := 111) (m1 := (2 ^ 5 - 1) * 2 ^ 7) (m2 := 0) (m3 := 0) (m4 := ((2 ^ 1 - 1) * 2 ^ 31 ||| (2 ^ 8 - 1) * 2 ^ 12) ||| (2 ^ 1 - 1) * 2 ^ 20 ||| (2 ^ 10 - 1) * 2 ^ 21) (by rw [hb]; exact In.lit 111) (in_rd _) (in_z 0 32768) (in_z 0 1048576) (in_imJ (iJ a)) (by decide)]
  show baseF ⟨3, 0, fRd a, 0, 0, iJ a, 0, false⟩ + reg (fRd a) * 128 + reg 0 * 32768 + reg 0 * 1048576 + imm 3 (iJ a) = a
  rw [hb, hi, reg_id hr, rz, rz]
  clear hb hi
  try unfold fOp at *
  try unfold fRd at *
  try unfold fF3 at *
  try unfold fRs1 at *
  try unfold fRs2 at *
  try unfold fF7 at *
  try unfold fF6 at *
  try unfold fF5 at *
  try unfold fSh at *
  try unfold fCs at *
  omega
theorem dr_jalr (a : Int) (h0 : 0 ≤ a) (h1 : a < 4294967296) (ho : fOp a = 103) (hf : fF3 a = 0) : draftF ⟨4, 0, fRd a, fRs1 a, 0, iI a, 0, false⟩ = a := by
  have hr := fRd_b a
  have hs := fRs1_b a
  have ht := fRs2_b a
  have h3 := fF3_b a
  have h7 := fF7_b a
  have h6 := fF6_b a
  have h5 := fF5_b a
  have hb : baseF ⟨4, 0, fRd a, fRs1 a, 0, iI a, 0, false⟩ = 103 := rfl
  have hi : imm 4 (iI a) = a / 1048576 * 1048576 := imI_iI a h0 h1
  rw [draft_sum ⟨4, 0, fRd a, fRs1 a, 0, iI a, 0, false⟩ (m0 := 103) (m1 := (2 ^ 5 - 1) * 2 ^ 7) (m2 := (2 ^ 5 - 1) * 2 ^ 15) (m3 := 0) (m4 := (2 ^ 12 - 1) * 2 ^ 20) (by rw [hb]; exact In.lit 103) (in_rd _) (in_rs1 _) (in_z 0 1048576) (in_imI (iI a)) (by decide)]
  show baseF ⟨4, 0, fRd a, fRs1 a, 0, iI a, 0, false⟩ + reg (fRd a) * 128 + reg (fRs1 a) * 32768 + reg 0 * 1048576 + imm 4 (iI a) = a
  rw [hb, hi, reg_id hr, reg_id hs, rz]
  clear hb hi
  try unfold fOp at *
  try unfold fRd at *
  try unfold fF3 at *
  try unfold fRs1 at *
  try unfold fRs2 at *
  try unfold fF7 at *
  try unfold fF6 at *
  try unfold fF5 at *
  try unfold fSh at *
  try unfold fCs at *
  omega
theorem dr_branch (a : Int) (h0 : 0 ≤ a) (h1 : a < 4294967296) (ho : fOp a = 99) (hn : tCond (fF3 a) ≠ 0) : draftF ⟨5, tCond (fF3 a), 0, fRs1 a, fRs2 a, iB a, 0, false⟩ = a := by
  have hr := fRd_b a
  have hs := fRs1_b a
  have ht := fRs2_b a
  have h3 := fF3_b a
  have h7 := fF7_b a
  have h6 := fF6_b a
  have h5 := fF5_b a
  have hb : baseF ⟨5, tCond (fF3 a), 0, fRs1 a, fRs2 a, iB a, 0, false⟩ = 99 + fF3 a * 4096 := b_branch _ h3 hn _ _ _ _
  have hi : imm 5 (iB a) = a / 33554432 * 33554432 + a / 128 % 32 * 128 := imB_iB a h0 h1
  rw [draft_sum ⟨5, tCond (fF3 a), 0, fRs1 a, fRs2 a, iB a, 0, false⟩ (m0 := 99 ||| (2 ^ 3 - 1) * 2 ^ 12) (m1 := 0) (m2 := (2 ^ 5 - 1) * 2 ^ 15) (m3 := (2 ^ 5 - 1) * 2 ^ 20) (m4 := ((2 ^ 1 - 1) * 2 ^ 31 ||| (2 ^ 1 - 1) * 2 ^ 7) ||| (2 ^ 6 - 1) * 2 ^ 25 ||| (2 ^ 4 - 1) * 2 ^ 8) (by rw [hb]; exact in_f3 99 (by decide) _ h3) (in_z 0 128) (in_rs1 _) (in_rs2 _) (in_imB (iB a)) (by decide)]
  show baseF ⟨5, tCond (fF3 a), 0, fRs1 a, fRs2 a, iB a, 0, false⟩ + reg 0 * 128 + reg (fRs1 a) * 32768 + reg (fRs2 a) * 1048576 + imm 5 (iB a) = a
  rw [hb, hi, rz, reg_id hs, reg_id ht]
  clear hb hi
  try unfold fOp at *
  try unfold fRd at *
  try unfold fF3 at *
  try unfold fRs1 at *
  try unfold fRs2 at *
  try unfold fF7 at *
  try unfold fF6 at *
  try unfold fF5 at *
  try unfold fSh at *
  try unfold fCs at *
  omega
theorem dr_load (a : Int) (h0 : 0 ≤ a) (h1 : a < 4294967296) (ho : fOp a = 3) (hn : tLoad (fF3 a) ≠ 0) : draftF ⟨6, 0, fRd a, fRs1 a, 0, iI a, tLoad (fF3 a), lt4 (fF3 a)⟩ = a := by
  have hr := fRd_b a
  have hs := fRs1_b a
  have ht := fRs2_b a
  have h3 := fF3_b a
  have h7 := fF7_b a
  have h6 := fF6_b a
  have h5 := fF5_b a
  have hb : baseF ⟨6, 0, fRd a, fRs1 a, 0, iI a, tLoad (fF3 a), lt4 (fF3 a)⟩ = 3 + fF3 a * 4096 := b_load _ h3 hn _ _ _ _
  have hi : imm 6 (iI a) = a / 1048576 * 1048576 := imI_iI a h0 h1
  rw [draft_sum ⟨6, 0, fRd a, fRs1 a, 0, iI a, tLoad (fF3 a), lt4 (fF3 a)⟩ (m0 := 3 ||| (2 ^ 3 - 1) * 2 ^ 12) (m1 := (2 ^ 5 - 1) * 2 ^ 7) (m2 := (2 ^ 5 - 1) * 2 ^ 15) (m3 := 0) (m4 := (2 ^ 12 - 1) * 2 ^ 20) (by rw [hb]; exact in_f3 3 (by decide) _ h3) (in_rd _) (in_rs1 _) (in_z 0 1048576) (in_imI (iI a)) (by decide)]
  show baseF ⟨6, 0, fRd a, fRs1 a, 0, iI a, tLoad (fF3 a), lt4 (fF3 a)⟩ + reg (fRd a) * 128 + reg (fRs1 a) * 32768 + reg 0 * 1048576 + imm 6 (iI a) = a
  rw [hb, hi, reg_id hr, reg_id hs, rz]
  clear hb hi
  try unfold fOp at *
  try unfold fRd at *
  try unfold fF3 at *
  try unfold fRs1 at *
  try unfold fRs2 at *
  try unfold fF7 at *
  try unfold fF6 at *
  try unfold fF5 at *
  try unfold fSh at *
  try unfold fCs at *
  omega
theorem dr_store (a : Int) (h0 : 0 ≤ a) (h1 : a < 4294967296) (ho : fOp a = 35) (hn : tStore (fF3 a) ≠ 0) : draftF ⟨7, 0, 0, fRs1 a, fRs2 a, iS a, tStore (fF3 a), false⟩ = a := by
  have hr := fRd_b a
  have hs := fRs1_b a
  have ht := fRs2_b a
  have h3 := fF3_b a
  have h7 := fF7_b a
  have h6 := fF6_b a
  have h5 := fF5_b a
  have hb : baseF ⟨7, 0, 0, fRs1 a, fRs2 a, iS a, tStore (fF3 a), false⟩ = 35 + fF3 a * 4096 := b_store _ h3 hn _ _ _ _
  have hi : imm 7 (iS a) = a / 33554432 * 33554432 + a / 128 % 32 * 128 := imS_iS a h0 h1
  rw [draft_sum ⟨7, 0, 0, fRs1 a, fRs2 a, iS a, tStore (fF3 a), false⟩ (m0 := 35 ||| (2 ^ 3 - 1) * 2 ^ 12) (m1 := 0) (m2 := (2 ^ 5 - 1) * 2 ^ 15) (m3 := (2 ^ 5 - 1) * 2 ^ 20) (m4 := (2 ^ 7 - 1) * 2 ^ 25 ||| (2 ^ 5 - 1) * 2 ^ 7) (by rw [hb]; exact in_f3 35 (by decide) _ h3) (in_z 0 128) (in_rs1 _) (in_rs2 _) (in_imS (iS a)) (by decide)]
  show baseF ⟨7, 0, 0, fRs1 a, fRs2 a, iS a, tStore (fF3 a), false⟩ + reg 0 * 128 + reg (fRs1 a) * 32768 + reg (fRs2 a) * 1048576 + imm 7 (iS a) = a
  rw [hb, hi, rz, reg_id hs, reg_id ht]
  clear hb hi
  try unfold fOp at *
  try unfold fRd at *
  try unfold fF3 at *
  try unfold fRs1 at *
  try unfold fRs2 at *
  try unfold fF7 at *
  try unfold fF6 at *
  try unfold fF5 at *
  try unfold fSh at *
  try unfold fCs at *
  omega
theorem dr_imm (a : Int) (h0 : 0 ≤ a) (h1 : a < 4294967296) (ho : fOp a = 19) (n1 : fF3 a ≠ 1) (n5 : fF3 a ≠ 5) : draftF ⟨9, tBas (fF3 a), fRd a, fRs1 a, 0, iI a, 0, false⟩ = a := by
  have hr := fRd_b a
  have hs := fRs1_b a
  have ht := fRs2_b a
  have h3 := fF3_b a
  have h7 := fF7_b a
  have h6 := fF6_b a
  have h5 := fF5_b a
  have hb : baseF ⟨9, tBas (fF3 a), fRd a, fRs1 a, 0, iI a, 0, false⟩ = 19 + fF3 a * 4096 := b_imm _ h3 n1 n5 _ _ _ _
  have hi : imm 9 (iI a) = a / 1048576 * 1048576 := imI_iI a h0 h1
  rw [draft_sum ⟨9, tBas (fF3 a), fRd a, fRs1 a, 0, iI a, 0, false⟩ (m0 := 19 ||| (2 ^ 3 - 1) * 2 ^ 12) (m1 := (2 ^ 5 - 1) * 2 ^ 7) (m2 := (2 ^ 5 - 1) * 2 ^ 15) (m3 := 0) (m4 := (2 ^ 12 - 1) * 2 ^ 20) (by rw [hb]; exact in_f3 19 (by decide) _ h3) (in_rd _) (in_rs1 _) (in_z 0 1048576) (in_imI (iI a)) (by decide)]
  show baseF ⟨9, tBas (fF3 a), fRd a, fRs1 a, 0, iI a, 0, false⟩ + reg (fRd a) * 128 + reg (fRs1 a) * 32768 + reg 0 * 1048576 + imm 9 (iI a) = a
  rw [hb, hi, reg_id hr, reg_id hs, rz]
  clear hb hi
  try unfold fOp at *
  try unfold fRd at *
  try unfold fF3 at *
  try unfold fRs1 at *
  try unfold fRs2 at *
  try unfold fF7 at *
  try unfold fF6 at *
  try unfold fF5 at *
  try unfold fSh at *
  try unfold fCs at *
  omega
theorem dr_immW (a : Int) (h0 : 0 ≤ a) (h1 : a < 4294967296) (ho : fOp a = 27) (n1 : fF3 a ≠ 1) (n5 : fF3 a ≠ 5) (hn : tBasW (fF3 a) ≠ 0) : draftF ⟨9, tBasW (fF3 a), fRd a, fRs1 a, 0, iI a, 0, false⟩ = a := by
  have hr := fRd_b a
  have hs := fRs1_b a
  have ht := fRs2_b a
  have h3 := fF3_b a
  have h7 := fF7_b a
  have h6 := fF6_b a
  have h5 := fF5_b a
  have hb : baseF ⟨9, tBasW (fF3 a), fRd a, fRs1 a, 0, iI a, 0, false⟩ = 27 + fF3 a * 4096 := b_immW _ h3 n1 n5 hn _ _ _ _
  have hi : imm 9 (iI a) = a / 1048576 * 1048576 := imI_iI a h0 h1
  rw [draft_sum ⟨9, tBasW (fF3 a), fRd a, fRs1 a, 0, iI a, 0, false⟩ (m0 := 27 ||| (2 ^ 3 - 1) * 2 ^ 12) (m1 := (2 ^ 5 - 1) * 2 ^ 7) (m2 := (2 ^ 5 - 1) * 2 ^ 15) (m3 := 0) (m4 := (2 ^ 12 - 1) * 2 ^ 20) (by rw [hb]; exact in_f3 27 (by decide) _ h3) (in_rd _) (in_rs1 _) (in_z 0 1048576) (in_imI (iI a)) (by decide)]
  show baseF ⟨9, tBasW (fF3 a), fRd a, fRs1 a, 0, iI a, 0, false⟩ + reg (fRd a) * 128 + reg (fRs1 a) * 32768 + reg 0 * 1048576 + imm 9 (iI a) = a
  rw [hb, hi, reg_id hr, reg_id hs, rz]
  clear hb hi
  try unfold fOp at *
  try unfold fRd at *
  try unfold fF3 at *
  try unfold fRs1 at *
  try unfold fRs2 at *
  try unfold fF7 at *
  try unfold fF6 at *
  try unfold fF5 at *
  try unfold fSh at *
  try unfold fCs at *
  omega
theorem dr_sh (a : Int) (h0 : 0 ≤ a) (h1 : a < 4294967296) (ho : fOp a = 19) (hf : fF3 a = 1 ∨ fF3 a = 5) (hn : chos (fF6 a * 2) (tBas (fF3 a)) (tAlt (fF3 a)) 0 ≠ 0) : draftF ⟨9, chos (fF6 a * 2) (tBas (fF3 a)) (tAlt (fF3 a)) 0, fRd a, fRs1 a, 0, fSh a, 0, false⟩ = a := by
  have hr := fRd_b a
  have hs := fRs1_b a
  have ht := fRs2_b a
  have h3 := fF3_b a
  have h7 := fF7_b a
  have h6 := fF6_b a
  have h5 := fF5_b a
  have hb : baseF ⟨9, chos (fF6 a * 2) (tBas (fF3 a)) (tAlt (fF3 a)) 0, fRd a, fRs1 a, 0, fSh a, 0, false⟩ = 19 + fF3 a * 4096 + fF6 a * 67108864 := b_sh _ _ hf hn _ _ _ _
  have hi : imm 9 (fSh a) = fSh a * 1048576 := by show imI (fSh a) = _; have := fSh_b a; unfold imI; omega
  rw [draft_sum ⟨9, chos (fF6 a * 2) (tBas (fF3 a)) (tAlt (fF3 a)) 0, fRd a, fRs1 a, 0, fSh a, 0, false⟩ (m0 := 19 ||| (2 ^ 3 - 1) * 2 ^ 12 ||| (2 ^ 6 - 1) * 2 ^ 26) (m1 := (2 ^ 5 - 1) * 2 ^ 7) (m2 := (2 ^ 5 - 1) * 2 ^ 15) (m3 := 0) (m4 := (2 ^ 6 - 1) * 2 ^ 20) (by rw [hb]; exact in_f3f 19 (by decide) _ h3 6 26 _ h6.1 (by have := h6.2; omega) (by decide) (by decide) (by decide)) (in_rd _) (in_rs1 _) (in_z 0 1048576) (In.mk' 6 20 (fSh a) _ (fSh_b a).1 (by have := (fSh_b a).2; omega) (by show imI (fSh a) = _; have := fSh_b a; unfold imI; omega)) (by decide)]
  show baseF ⟨9, chos (fF6 a * 2) (tBas (fF3 a)) (tAlt (fF3 a)) 0, fRd a, fRs1 a, 0, fSh a, 0, false⟩ + reg (fRd a) * 128 + reg (fRs1 a) * 32768 + reg 0 * 1048576 + imm 9 (fSh a) = a
  rw [hb, hi, reg_id hr, reg_id hs, rz]
  clear hb hi
  try unfold fOp at *
  try unfold fRd at *
  try unfold fF3 at *
  try unfold fRs1 at *
  try unfold fRs2 at *
  try unfold fF7 at *
  try unfold fF6 at *
  try unfold fF5 at *
  try unfold fSh at *
  try unfold fCs at *
  omega
theorem dr_shW (a : Int) (h0 : 0 ≤ a) (h1 : a < 4294967296) (ho : fOp a = 27) (hf : fF3 a = 1 ∨ fF3 a = 5) (hn : chos (fF7 a) (tBasW (fF3 a)) (tAltW (fF3 a)) 0 ≠ 0) : draftF ⟨9, chos (fF7 a) (tBasW (fF3 a)) (tAltW (fF3 a)) 0, fRd a, fRs1 a, 0, fRs2 a, 0, false⟩ = a := by
  have hr := fRd_b a
  have hs := fRs1_b a
  have ht := fRs2_b a
  have h3 := fF3_b a
  have h7 := fF7_b a
  have h6 := fF6_b a
  have h5 := fF5_b a
  have hb : baseF ⟨9, chos (fF7 a) (tBasW (fF3 a)) (tAltW (fF3 a)) 0, fRd a, fRs1 a, 0, fRs2 a, 0, false⟩ = 27 + fF3 a * 4096 + fF7 a * 33554432 := b_shW _ _ hf hn _ _ _ _
  have hi : imm 9 (fRs2 a) = fRs2 a * 1048576 := by show imI (fRs2 a) = _; unfold imI; omega
  rw [draft_sum ⟨9, chos (fF7 a) (tBasW (fF3 a)) (tAltW (fF3 a)) 0, fRd a, fRs1 a, 0, fRs2 a, 0, false⟩ (m0 := 27 ||| (2 ^ 3 - 1) * 2 ^ 12 ||| (2 ^ 7 - 1) * 2 ^ 25) (m1 := (2 ^ 5 - 1) * 2 ^ 7) (m2 := (2 ^ 5 - 1) * 2 ^ 15) (m3 := 0) (m4 := (2 ^ 5 - 1) * 2 ^ 20) (by rw [hb]; exact in_f3f 27 (by decide) _ h3 7 25 _ h7.1 (by have := h7.2; omega) (by decide) (by decide) (by decide)) (in_rd _) (in_rs1 _) (in_z 0 1048576) (In.mk' 5 20 (fRs2 a) _ ht.1 (by have := ht.2; omega) (by show imI (fRs2 a) = _; unfold imI; omega)) (by decide)]
  show baseF ⟨9, chos (fF7 a) (tBasW (fF3 a)) (tAltW (fF3 a)) 0, fRd a, fRs1 a, 0, fRs2 a, 0, false⟩ + reg (fRd a) * 128 + reg (fRs1 a) * 32768 + reg 0 * 1048576 + imm 9 (fRs2 a) = a
  rw [hb, hi, reg_id hr, reg_id hs, rz]
  clear hb hi
  try unfold fOp at *
  try unfold fRd at *
  try unfold fF3 at *
  try unfold fRs1 at *
  try unfold fRs2 at *
  try unfold fF7 at *
  try unfold fF6 at *
  try unfold fF5 at *
  try unfold fSh at *
  try unfold fCs at *
  omega
theorem dr_alu (a : Int) (h0 : 0 ≤ a) (h1 : a < 4294967296) (ho : fOp a = 51) (hn : chos (fF7 a) (tBas (fF3 a)) (tAlt (fF3 a)) (tPro (fF3 a)) ≠ 0) : draftF ⟨8, chos (fF7 a) (tBas (fF3 a)) (tAlt (fF3 a)) (tPro (fF3 a)), fRd a, fRs1 a, fRs2 a, 0, 0, false⟩ = a := by
  have hr := fRd_b a
  have hs := fRs1_b a
  have ht := fRs2_b a
  have h3 := fF3_b a
  have h7 := fF7_b a
  have h6 := fF6_b a
  have h5 := fF5_b a
  have hb : baseF ⟨8, chos (fF7 a) (tBas (fF3 a)) (tAlt (fF3 a)) (tPro (fF3 a)), fRd a, fRs1 a, fRs2 a, 0, 0, false⟩ = 51 + fF3 a * 4096 + fF7 a * 33554432 := b_alu _ _ h3 hn _ _ _ _
  have hi : imm 8 0 = 0 := imm0 8 (by decide)
  rw [draft_sum ⟨8, chos (fF7 a) (tBas (fF3 a)) (tAlt (fF3 a)) (tPro (fF3 a)), fRd a, fRs1 a, fRs2 a, 0, 0, false⟩ (m0 := 51 ||| (2 ^ 3 - 1) * 2 ^ 12 ||| (2 ^ 7 - 1) * 2 ^ 25) (m1 := (2 ^ 5 - 1) * 2 ^ 7) (m2 := (2 ^ 5 - 1) * 2 ^ 15) (m3 := (2 ^ 5 - 1) * 2 ^ 20) (m4 := 0) (by rw [hb]; exact in_f3f 51 (by decide) _ h3 7 25 _ h7.1 (by have := h7.2; omega) (by decide) (by decide) (by decide)) (in_rd _) (in_rs1 _) (in_rs2 _) (in_0 8 (by decide)) (by decide)]
  show baseF ⟨8, chos (fF7 a) (tBas (fF3 a)) (tAlt (fF3 a)) (tPro (fF3 a)), fRd a, fRs1 a, fRs2 a, 0, 0, false⟩ + reg (fRd a) * 128 + reg (fRs1 a) * 32768 + reg (fRs2 a) * 1048576 + imm 8 0 = a
  rw [hb, hi, reg_id hr, reg_id hs, reg_id ht]
  clear hb hi
  try unfold fOp at *
  try unfold fRd at *
  try unfold fF3 at *
  try unfold fRs1 at *
  try unfold fRs2 at *
  try unfold fF7 at *
  try unfold fF6 at *
  try unfold fF5 at *
  try unfold fSh at *
  try unfold fCs at *
  omega
theorem dr_aluW (a : Int) (h0 : 0 ≤ a) (h1 : a < 4294967296) (ho : fOp a = 59) (hn : chos (fF7 a) (tBasW (fF3 a)) (tAltW (fF3 a)) (tProW (fF3 a)) ≠ 0) : draftF ⟨8, chos (fF7 a) (tBasW (fF3 a)) (tAltW (fF3 a)) (tProW (fF3 a)), fRd a, fRs1 a, fRs2 a, 0, 0, false⟩ = a := by
  have hr := fRd_b a
  have hs := fRs1_b a
  have ht := fRs2_b a
  have h3 := fF3_b a
  have h7 := fF7_b a
  have h6 := fF6_b a
  have h5 := fF5_b a
  have hb : baseF ⟨8, chos (fF7 a) (tBasW (fF3 a)) (tAltW (fF3 a)) (tProW (fF3 a)), fRd a, fRs1 a, fRs2 a, 0, 0, false⟩ = 59 + fF3 a * 4096 + fF7 a * 33554432 := b_aluW _ _ h3 hn _ _ _ _
  have hi : imm 8 0 = 0 := imm0 8 (by decide)
  rw [draft_sum ⟨8, chos (fF7 a) (tBasW (fF3 a)) (tAltW (fF3 a)) (tProW (fF3 a)), fRd a, fRs1 a, fRs2 a, 0, 0, false⟩ (m0 := 59 ||| (2 ^ 3 - 1) * 2 ^ 12 ||| (2 ^ 7 - 1) * 2 ^ 25) (m1 := (2 ^ 5 - 1) * 2 ^ 7) (m2 := (2 ^ 5 - 1) * 2 ^ 15) (m3 := (2 ^ 5 - 1) * 2 ^ 20) (m4 := 0) (by rw [hb]; exact in_f3f 59 (by decide) _ h3 7 25 _ h7.1 (by have := h7.2; omega) (by decide) (by decide) (by decide)) (in_rd _) (in_rs1 _) (in_rs2 _) (in_0 8 (by decide)) (by decide)]
  show baseF ⟨8, chos (fF7 a) (tBasW (fF3 a)) (tAltW (fF3 a)) (tProW (fF3 a)), fRd a, fRs1 a, fRs2 a, 0, 0, false⟩ + reg (fRd a) * 128 + reg (fRs1 a) * 32768 + reg (fRs2 a) * 1048576 + imm 8 0 = a
  rw [hb, hi, reg_id hr, reg_id hs, reg_id ht]
  clear hb hi
  try unfold fOp at *
  try unfold fRd at *
  try unfold fF3 at *
  try unfold fRs1 at *
  try unfold fRs2 at *
  try unfold fF7 at *
  try unfold fF6 at *
  try unfold fF5 at *
  try unfold fSh at *
  try unfold fCs at *
  omega
theorem dr_csr (a : Int) (h0 : 0 ≤ a) (h1 : a < 4294967296) (ho : fOp a = 115) (hf : fF3 a = 1 ∨ fF3 a = 2 ∨ fF3 a = 3) : draftF ⟨13, fF3 a, fRd a, fRs1 a, 0, fCs a, 0, false⟩ = a := by
  have hr := fRd_b a
  have hs := fRs1_b a
  have ht := fRs2_b a
  have h3 := fF3_b a
  have h7 := fF7_b a
  have h6 := fF6_b a
  have h5 := fF5_b a
  have hb : baseF ⟨13, fF3 a, fRd a, fRs1 a, 0, fCs a, 0, false⟩ = 115 + fF3 a * 4096 := b_csr _ hf _ _ _ _
  have hi : imm 13 (fCs a) = a / 1048576 * 1048576 := by show imI (fCs a) = _; unfold imI fCs; omega
  rw [draft_sum ⟨13, fF3 a, fRd a, fRs1 a, 0, fCs a, 0, false⟩ (m0 := 115 ||| (2 ^ 3 - 1) * 2 ^ 12) (m1 := (2 ^ 5 - 1) * 2 ^ 7) (m2 := (2 ^ 5 - 1) * 2 ^ 15) (m3 := 0) (m4 := (2 ^ 12 - 1) * 2 ^ 20) (by rw [hb]; exact in_f3 115 (by decide) _ h3) (in_rd _) (in_rs1 _) (in_z 0 1048576) (in_imI (fCs a)) (by decide)]
  show baseF ⟨13, fF3 a, fRd a, fRs1 a, 0, fCs a, 0, false⟩ + reg (fRd a) * 128 + reg (fRs1 a) * 32768 + reg 0 * 1048576 + imm 13 (fCs a) = a
  rw [hb, hi, reg_id hr, reg_id hs, rz]
  clear hb hi
  try unfold fOp at *
  try unfold fRd at *
  try unfold fF3 at *
  try unfold fRs1 at *
  try unfold fRs2 at *
  try unfold fF7 at *
  try unfold fF6 at *
  try unfold fF5 at *
  try unfold fSh at *
  try unfold fCs at *
  omega
theorem dr_csrI (a : Int) (h0 : 0 ≤ a) (h1 : a < 4294967296) (ho : fOp a = 115) (hf : fF3 a = 5 ∨ fF3 a = 6 ∨ fF3 a = 7) : draftF ⟨14, fF3 a - 4, fRd a, fRs1 a, 0, fCs a, 0, false⟩ = a := by
  have hr := fRd_b a
  have hs := fRs1_b a
  have ht := fRs2_b a
  have h3 := fF3_b a
  have h7 := fF7_b a
  have h6 := fF6_b a
  have h5 := fF5_b a
  have hb : baseF ⟨14, fF3 a - 4, fRd a, fRs1 a, 0, fCs a, 0, false⟩ = 115 + fF3 a * 4096 := b_csrI _ hf _ _ _ _
  have hi : imm 14 (fCs a) = a / 1048576 * 1048576 := by show imI (fCs a) = _; unfold imI fCs; omega
  rw [draft_sum ⟨14, fF3 a - 4, fRd a, fRs1 a, 0, fCs a, 0, false⟩ (m0 := 115 ||| (2 ^ 3 - 1) * 2 ^ 12) (m1 := (2 ^ 5 - 1) * 2 ^ 7) (m2 := (2 ^ 5 - 1) * 2 ^ 15) (m3 := 0) (m4 := (2 ^ 12 - 1) * 2 ^ 20) (by rw [hb]; exact in_f3 115 (by decide) _ h3) (in_rd _) (in_rs1 _) (in_z 0 1048576) (in_imI (fCs a)) (by decide)]
  show baseF ⟨14, fF3 a - 4, fRd a, fRs1 a, 0, fCs a, 0, false⟩ + reg (fRd a) * 128 + reg (fRs1 a) * 32768 + reg 0 * 1048576 + imm 14 (fCs a) = a
  rw [hb, hi, reg_id hr, reg_id hs, rz]
  clear hb hi
  try unfold fOp at *
  try unfold fRd at *
  try unfold fF3 at *
  try unfold fRs1 at *
  try unfold fRs2 at *
  try unfold fF7 at *
  try unfold fF6 at *
  try unfold fF5 at *
  try unfold fSh at *
  try unfold fCs at *
  omega
theorem dr_sfence (a : Int) (h0 : 0 ≤ a) (h1 : a < 4294967296) (ho : fOp a = 115) (hf : fF3 a = 0) (hz : fF7 a = 9) (hd : fRd a = 0) : draftF ⟨20, 0, 0, fRs1 a, fRs2 a, 0, 0, false⟩ = a := by
  have hr := fRd_b a
  have hs := fRs1_b a
  have ht := fRs2_b a
  have h3 := fF3_b a
  have h7 := fF7_b a
  have h6 := fF6_b a
  have h5 := fF5_b a
  have hb : baseF ⟨20, 0, 0, fRs1 a, fRs2 a, 0, 0, false⟩ = 301990003 := rfl
  have hi : imm 20 0 = 0 := imm0 20 (by decide)
  rw [draft_sum ⟨20, 0, 0, fRs1 a, fRs2 a, 0, 0, false⟩ (m0 := 301990003) (m1 := 0) (m2 := (2 ^ 5 - 1) * 2 ^ 15) (m3 := (2 ^ 5 - 1) * 2 ^ 20) (m4 := 0) (by rw [hb]; exact In.lit 301990003) (in_z 0 128) (in_rs1 _) (in_rs2 _) (in_0 20 (by decide)) (by decide)]
  show baseF ⟨20, 0, 0, fRs1 a, fRs2 a, 0, 0, false⟩ + reg 0 * 128 + reg (fRs1 a) * 32768 + reg (fRs2 a) * 1048576 + imm 20 0 = a
  rw [hb, hi, rz, reg_id hs, reg_id ht]
  clear hb hi
  try unfold fOp at *
  try unfold fRd at *
  try unfold fF3 at *
  try unfold fRs1 at *
  try unfold fRs2 at *
  try unfold fF7 at *
  try unfold fF6 at *
  try unfold fF5 at *
  try unfold fSh at *
  try unfold fCs at *
  omega
end Go.Proofs.YtlfdokkopgmfjaaGreatDoor.B
