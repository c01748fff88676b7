/- The plain arithmetic of writing a word: fields put in their places, or of what does not meet. Nothing here speaks of the program. -/
import Derived.Test.YtioodijiejipiaaGreatDoorIM
namespace Go.Proofs.YtioodijiejipiaaGreatDoor
open Go.RowKit
set_option linter.unusedVariables false

/-- a number whose bits lie in a mask -/
def In (x : Int) (m : Nat) : Prop := 0 ≤ x ∧ x.toNat &&& m = x.toNat
theorem In.mk' (k j : Nat) (X x : Int) (h0 : 0 ≤ X) (h1 : X < 2 ^ k) (e : x = X * 2 ^ j) : In x ((2 ^ k - 1) * 2 ^ j) := by
  subst e
  refine ⟨Int.mul_nonneg h0 (by exact_mod_cast Nat.zero_le (2 ^ j)), ?_⟩
  obtain ⟨n, rfl⟩ := Int.eq_ofNat_of_zero_le h0
  have hn : n < 2 ^ k := by exact_mod_cast h1
  have : ((n : Int) * 2 ^ j).toNat = n * 2 ^ j := by
    have : ((n : Int) * 2 ^ j) = ((n * 2 ^ j : Nat) : Int) := by simp
    rw [this]; rfl
  rw [this, in_mask k j n hn]
theorem In.lit (c : Nat) : In (c : Int) c := ⟨Int.natCast_nonneg c, by simp⟩
theorem In.zero (m : Nat) : In 0 m := ⟨Int.le_refl 0, by simp⟩
theorem In.le {x : Int} {m : Nat} (h : In x m) : x ≤ m := by
  have := h.2
  have h2 : x.toNat ≤ m := by rw [← this]; exact Nat.and_le_right
  have := h.1
  omega
theorem In.or {x y : Int} {m n : Nat} (hx : In x m) (hy : In y n) (h : m &&& n = 0) (hm : m < 4294967296) (hn : n < 4294967296) : bits .or .u32 x y = x + y ∧ In (x + y) (m ||| n) := by
  have lx := hx.le
  have ly := hy.le
  have x0 := hx.1
  have y0 := hy.1
  have ha := or_apart hx.2 hy.2 h
  rw [u32_or x y hx.1 (by omega) hy.1 (by omega)]
  have e : ((x.toNat ||| y.toNat : Nat) : Int) = x + y := by rw [ha.1]; omega
  refine ⟨e, by omega, ?_⟩
  have e2 : (x + y).toNat = x.toNat ||| y.toNat := by rw [ha.1]; omega
  rw [e2]; exact ha.2
theorem or32_b (x y : Int) : 0 ≤ bits .or .u32 x y ∧ bits .or .u32 x y < 4294967296 := by
  unfold bits
  rw [IntKind.wrap_u32']
  omega
theorem and31 (a : Int) : bits .and .u32 (a % 4294967296) 31 = a % 32 := by
  have := u32_and (a % 4294967296) 31 (by omega) (by omega) (by omega) (by omega)
  rw [this]
  have : (31 : Int).toNat = 31 := rfl
  rw [this, nat_mask5]
  omega

def reg (n : Int) : Int := n % 32
def imU (n : Int) : Int := n / 4096 % 1048576 * 4096
def imJ (n : Int) : Int := n / 1048576 % 2 * 2147483648 + n / 4096 % 256 * 4096 + n / 2048 % 2 * 1048576 + n / 2 % 1024 * 2097152
def imB (n : Int) : Int := n / 4096 % 2 * 2147483648 + n / 2048 % 2 * 128 + n / 32 % 64 * 33554432 + n / 2 % 16 * 256
def imS (n : Int) : Int := n / 32 % 128 * 33554432 + n % 32 * 128
def imI (n : Int) : Int := n % 4096 * 1048576
def imm (k n : Int) : Int := if k = 1 ∨ k = 2 then imU n else if k = 3 then imJ n else if k = 5 then imB n else if k = 7 then imS n else imI n
theorem or_imJ (n : Int) : bits .or .u32 (bits .or .u32 (bits .or .u32 (n / 1048576 % 2 * 2147483648) (n / 4096 % 256 * 4096)) (n / 2048 % 2 * 1048576)) (n / 2 % 1024 * 2097152) = imJ n := by
  have a1 := In.mk' 1 31 (n / 1048576 % 2) _ (by omega) (by omega) rfl
  have a2 := In.mk' 8 12 (n / 4096 % 256) _ (by omega) (by omega) rfl
  have a3 := In.mk' 1 20 (n / 2048 % 2) _ (by omega) (by omega) rfl
  have a4 := In.mk' 10 21 (n / 2 % 1024) _ (by omega) (by omega) rfl
  have b1 := a1.or a2 (by decide) (by decide) (by decide)
  have b2 := b1.2.or a3 (by decide) (by decide) (by decide)
  have b3 := b2.2.or a4 (by decide) (by decide) (by decide)
  have c1 := b1.1; have c2 := b2.1; have c3 := b3.1
  simp only [Int.reducePow] at c1 c2 c3
  rw [c1, c2, c3]; rfl
theorem or_imB (n : Int) : bits .or .u32 (bits .or .u32 (bits .or .u32 (n / 4096 % 2 * 2147483648) (n / 2048 % 2 * 128)) (n / 32 % 64 * 33554432)) (n / 2 % 16 * 256) = imB n := by
  have a1 := In.mk' 1 31 (n / 4096 % 2) _ (by omega) (by omega) rfl
  have a2 := In.mk' 1 7 (n / 2048 % 2) _ (by omega) (by omega) rfl
  have a3 := In.mk' 6 25 (n / 32 % 64) _ (by omega) (by omega) rfl
  have a4 := In.mk' 4 8 (n / 2 % 16) _ (by omega) (by omega) rfl
  have b1 := a1.or a2 (by decide) (by decide) (by decide)
  have b2 := b1.2.or a3 (by decide) (by decide) (by decide)
  have b3 := b2.2.or a4 (by decide) (by decide) (by decide)
  have c1 := b1.1; have c2 := b2.1; have c3 := b3.1
  simp only [Int.reducePow] at c1 c2 c3
  rw [c1, c2, c3]; rfl
theorem or_imS (n : Int) : bits .or .u32 (n / 32 % 128 * 33554432) (n % 32 * 128) = imS n := by
  have a1 := In.mk' 7 25 (n / 32 % 128) _ (by omega) (by omega) rfl
  have a2 := In.mk' 5 7 (n % 32) _ (by omega) (by omega) rfl
  have c1 := (a1.or a2 (by decide) (by decide) (by decide)).1
  simp only [Int.reducePow] at c1
  rw [c1]; rfl
/-- two instructions are the same -/
def eqI (a b : I) : Bool := a.kind == b.kind && a.fn == b.fn && a.rd == b.rd && a.rs1 == b.rs1 && a.rs2 == b.rs2 && a.imm == b.imm && a.size == b.size && a.sg == b.sg
theorem eqI_iff (a b : I) : eqI a b = true ↔ a = b := by
  cases a; cases b
  simp [eqI, and_assoc]
theorem eqI_self (a : I) : eqI a a = true := (eqI_iff a a).2 rfl
/-- an instruction's name alone -/
def want (i : I) : I := ⟨i.kind, i.fn, 0, 0, 0, 0, i.size, i.sg⟩
def hit (p : I × Bool) (i : I) : Bool := p.2 && eqI p.1 (want i)
/-- the f3 by which a word has an instruction's name: from k on, so many tries -/
def namedL (nm : Int → I × Bool) (start : Int) (i : I) : Nat → Nat → Int
  | _, 0 => 0
  | k, f + 1 => if hit (nm (bits .or .u32 start ((k : Int) * 4096))) i = true then bits .or .u32 start ((k : Int) * 4096) else namedL nm start i (k + 1) f
def namedF (nm : Int → I × Bool) (start : Int) (i : I) : Int := namedL nm start i 0 8
def orE (x y : Int) : Int := if x = 0 then y else x
def aluF (i : I) : Int :=
  orE (namedF nAlu 51 i) (orE (namedF nAluW 59 i) (orE (namedF nAlu 1073741875 i) (orE (namedF nAluW 1073741883 i) (orE (namedF nAlu 33554483 i) (orE (namedF nAluW 33554491 i) 0)))))
def aluImmF (i : I) : Int :=
  orE (namedF nImm 19 i) (orE (namedF nImmW 27 i) (orE (namedF nImm 1073741843 i) (orE (namedF nImmW 1073741851 i) 0)))
def amoL (fn : Int) : Nat → Nat → Int
  | _, 0 => 0
  | k, f + 1 => if tAto k = fn then (k : Int) * 134217728 else amoL fn (k + 1) f
def amoF (fn : Int) : Int := amoL fn 0 32
def sysF (i : I) : Int :=
  if i.kind = 10 then 15 else if i.kind = 11 then 115 else if i.kind = 12 then 1048691 else if i.kind = 18 then 270532723 else if i.kind = 19 then 273678451
  else if i.kind = 20 then 301990003 else if i.kind = 13 ∨ i.kind = 14 then namedF nSys 115 i else 0
def baseF (i : I) : Int :=
  if i.kind = 1 then 55 else if i.kind = 2 then 23 else if i.kind = 3 then 111 else if i.kind = 4 then 103
  else if i.kind = 5 then namedF nBranch 99 i else if i.kind = 6 then namedF nLoad 3 i else if i.kind = 7 then namedF nStore 35 i
  else if i.kind = 8 then aluF i else if i.kind = 9 then aluImmF i
  else if i.kind = 15 then namedF nAto 268435503 i else if i.kind = 16 then namedF nAto 402653231 i else if i.kind = 17 then namedF nAto (bits .or .u32 47 (amoF i.fn)) i
  else sysF i
def draftF (i : I) : Int := bits .or .u32 (bits .or .u32 (bits .or .u32 (bits .or .u32 (baseF i) (reg i.rd * 128)) (reg i.rs1 * 32768)) (reg i.rs2 * 1048576)) (imm i.kind i.imm)
theorem draftF_b (i : I) : 0 ≤ draftF i ∧ draftF i < 4294967296 := or32_b _ _
/-- what Encode answers -/
def encF (i : I) : Int × Bool := if (D (draftF i)).2 = true ∧ eqI (D (draftF i)).1 i = true then (draftF i, true) else (0, false)
end Go.Proofs.YtioodijiejipiaaGreatDoor
