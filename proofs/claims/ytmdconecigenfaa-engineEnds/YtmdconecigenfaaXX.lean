/- A copy over a plain memory, step by step. -/
import Derived.Test.YtmdconecigenfaaXWR
namespace Go.Proofs.Ytmdconecigenfaa
open Go.RowKit
open C (Only hid Mem Still ret_int ret_bool put byt nu hasB RMem TB Cl fcl Tw c_Place c_Same)
set_option linter.unusedVariables false
set_option maxRecDepth 100000

/-- the registers: src, dst, len, what was copied, status; no message -/
def rS (a b k c q : Int) : Nat → Int
  | 0 => a
  | 1 => b
  | 2 => k
  | 3 => q
  | 6 => c
  | _ => 0
theorem rS_eu6 (a b k c q x : Int) : eu (rS a b k c q) 6 x = rS a b k x q := by
  funext j; unfold eu; split
  · rename_i h; subst h; rfl
  · unfold rS; split <;> first | rfl | omega
theorem rS_eu3 (a b k c q x : Int) : eu (rS a b k c q) 3 x = rS a b k c x := by
  funext j; unfold eu; split
  · rename_i h; subst h; rfl
  · unfold rS; split <;> first | rfl | omega
theorem rB_S (a b k : Int) : rB a b k = rS a b k 0 (bif okB a b k then 1 else 3) := by
  funext j
  match j with
  | 0 => rfl
  | 1 => rfl
  | 2 => rfl
  | 3 => exact rB_3 a b k
  | 4 => rfl
  | 5 => rfl
  | 6 => rfl
  | n + 7 => unfold rB bgE eu; simp [rS]
/-- what a step copies -/
def cpF (bs : Int) (f : Nat → Int) (x y : Int) : Nat → Int := put f (y - bs).toNat 8 (byt (nu (fun j => f ((x - bs).toNat + j)) 8))
theorem fl_ok (p : Nat) (bs : Int) (n : Nat) (f : Nat → Int) (a b k c : Int) (h1 : hasB bs n (w64 (a + c)) 8 = true) (h2 : hasB bs n (w64 (b + c)) 8 = true) (c0 : 0 ≤ c) (c1 : c + 8 < 18446744073709551616) :
    stN (FlG p bs n) (rS a b k c 1) f = ((0, 0, false), rS a b k (c + 8) (bif c + 8 == k then 2 else 1), cpF bs f (w64 (a + c)) (w64 (b + c))) := by
  have e8 : w64 (c + 8) = c + 8 := by unfold w64; omega
  have hc : cpN (FlG p bs n) (rS a b k c 1) f = (bif c + 8 == k then 2 else 1, rS a b k (c + 8) 1, cpF bs f (w64 (a + c)) (w64 (b + c))) := by
    show (bif hasB bs n (w64 (a + c)) 8 then (bif hasB bs n (w64 (b + c)) 8 then (bif w64 (c + 8) == k then 2 else 1, eu (rS a b k c 1) 6 (w64 (c + 8)), put f ((bif hasB bs n (w64 (b + c)) 8 then w64 (b + c) else 0) - bs).toNat 8 (byt (nu (fun j => f (((bif hasB bs n (w64 (a + c)) 8 then w64 (a + c) else 0) - bs).toNat + j)) 8))) else (3, rS a b k c 1, f)) else (3, rS a b k c 1, f)) = _
    rw [h1, h2, e8, rS_eu6]
    rfl
  have hm : msB (FlG p bs n) (rS a b k c 1) f = false := by
    unfold msB
    rw [show (rS a b k c 1 4 == 0) = true from rfl]
    cases (!(cpN (FlG p bs n) (rS a b k c 1) f).1 == 1) <;> rfl
  unfold stN
  rw [hm, hc]
  show ((0, 0, false), eu (rS a b k (c + 8) 1) 3 (bif c + 8 == k then 2 else 1), cpF bs f (w64 (a + c)) (w64 (b + c))) = _
  rw [rS_eu3]
theorem fl_no (p : Nat) (bs : Int) (n : Nat) (f : Nat → Int) (a b k c : Int) (h1 : (hasB bs n (w64 (a + c)) 8 && hasB bs n (w64 (b + c)) 8) = false) :
    stN (FlG p bs n) (rS a b k c 1) f = ((0, 0, false), rS a b k c 3, f) := by
  have hc : cpN (FlG p bs n) (rS a b k c 1) f = (3, rS a b k c 1, f) := by
    show (bif hasB bs n (w64 (a + c)) 8 then (bif hasB bs n (w64 (b + c)) 8 then (bif w64 (c + 8) == k then 2 else 1, eu (rS a b k c 1) 6 (w64 (c + 8)), put f ((bif hasB bs n (w64 (b + c)) 8 then w64 (b + c) else 0) - bs).toNat 8 (byt (nu (fun j => f (((bif hasB bs n (w64 (a + c)) 8 then w64 (a + c) else 0) - bs).toNat + j)) 8))) else (3, rS a b k c 1, f)) else (3, rS a b k c 1, f)) = _
    cases hx : hasB bs n (w64 (a + c)) 8
    · rfl
    · rw [hx] at h1
      cases hy : hasB bs n (w64 (b + c)) 8
      · rfl
      · rw [hy] at h1; cases h1
  have hm : msB (FlG p bs n) (rS a b k c 1) f = false := by
    unfold msB
    rw [show (rS a b k c 1 4 == 0) = true from rfl]
    cases (!(cpN (FlG p bs n) (rS a b k c 1) f).1 == 1) <;> rfl
  unfold stN
  rw [hm, hc]
  show ((0, 0, false), eu (rS a b k c 1) 3 3, f) = _
  rw [rS_eu3]
theorem has_in {bs : Int} {n : Nat} {x : Int} (h1 : bs ≤ x) (h2 : x - bs + 8 ≤ 4096 * n) : hasB bs n x 8 = true := by simp [hasB]; omega
theorem w64_id {x : Int} (h0 : 0 ≤ x) (h1 : x < 18446744073709551616) : w64 x = x := by unfold w64; omega
end Go.Proofs.Ytmdconecigenfaa
